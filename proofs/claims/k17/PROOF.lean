import PyProof.Rows.All
import Wide.All
import OpenK.AllK
import Wide.FinOn
import Lean
import PyProof.EqAt
import PyProof.EqKinds
import PyProof.TupleCall
import PySem.Challenge.RW_againbook_k17_deeds_of_cuts
set_option Elab.async false
set_option linter.all false
set_option maxRecDepth 100000
set_option genSizeOf false
section
variable {a b c d e f g h i j:Nat}{p q r s t u v w x y z:Int}
theorem om23(_:a<b):(a:Int)<(b:Int):=Int.ofNat_lt.mpr ‹_›
theorem om131(_:b+c≤e)(_:(a:Int)≤(d:Int)):(min a b)+c+(b-d)≤e:=by omega
theorem om12(_:d+e≤c)(_:d=a)(_:e=b):a+b≤c:=by subst_vars; assumption
theorem om130(_:c=b)(_:(a:Int)≤(c:Int)):a≤b:=by simp_all
theorem om129(_:(a:Int)≤(b:Int)):a≤b:=by subst_vars; lia
theorem om128(_:b+c≤e)(_:(Int.toNat (max (a:Int) (d:Int)))=d):(min a b)-0+c+((min b b)-d)≤e+1:=by grind
theorem om127(_:a≤b):(Int.toNat (max (a:Int) (b:Int)))=b:=by grind
theorem om126(_:a≤b):(max 0 (min (a:Int) (b:Int)))=(a:Int):=by lia
theorem om125(_:a≤c)(_:c≤b):(max 0 (min (a:Int) (b:Int)))=(a:Int):=by lia
theorem om11:¬((a:Int)<0):=by simp_all
theorem om1(_:c≤b)(_:c=a):a≤b:=by subst_vars; assumption
theorem om24(_:a+b≤c):a+b≤c:=by omega
theorem om124(_:a≤b):a-1≤b:=by omega
theorem om45(_:a+b≤c):a+b≤c+1:=Nat.le_succ_of_le ‹_›
theorem om123(_:a<b):a+1≤b:=by assumption
theorem om122(_:c<b)(_:c=a):a≤b:=by subst_vars; lia
theorem om121(_:a≤b):¬(a>b):=Nat.not_lt.mpr ‹_›
theorem om120(_:a=c+2)(_:b=c+1):a-1=b-1+1:=by subst_vars; rfl
theorem om44:(max 0 (min p (a:Int)))=((min (Int.toNat p) a:Nat):Int):=by lia
theorem om43(_:p<0):(max 0 (min (p+(a:Int)) (a:Int)))=((Int.toNat (p+(a:Int)):Nat):Int):=by grind
theorem om9(_:¬(0≤p)):p<0:=Int.not_le.mp ‹_›
theorem om119(_:(-(b:Int))≤p)(_:b=a):(-(a:Int))≤p:=by subst_vars; assumption
theorem om22:0≤(a:Int):=Int.natCast_nonneg _
theorem om118(_:¬(0≤p)):p<(a:Int):=by lia
theorem om117(_:¬(0≤p))(_:(-(b:Int))≤p)(_:(Int.toNat (p+(b:Int)))=a):a<b:=by subst_vars; lia
theorem om116(_:0≤p):(-(a:Int))≤p:=by lia
theorem om115(_:0≤p)(_:p<(b:Int))(_:(Int.toNat p)=a):a<b:=by subst_vars; lia
theorem om42:(min (a-b) (c-b))≤c:=by lia
theorem om114(_:(c:Int)=0)(_:a-c=b):a=b:=by simp_all
theorem om113(_:(a:Int)=0):a=0:=by simp_all
theorem om112(_:c≤d):(min (a-b) (c-b))≤d:=by lia
theorem om111:(Int.toNat ((a:Int)+(b:Int)*1))=a+b:=by lia
theorem om110:(1:Int)>(0:Int):=Int.natCast_nonneg _
theorem om109:¬((1:Int)<(0:Int)):=by decide
theorem om108(_:¬(p<0)):(min p (a:Int))=((min (Int.toNat p) a:Nat):Int):=by grind
theorem om107:(max (p+(a:Int)) 0)=((Int.toNat (p+(a:Int)):Nat):Int):=by simp_all
theorem om106(_:p<0):(Int.toNat (p+(a:Int)))≤a:=by lia
theorem om105(_:a=c)(_:c≤b):a+(b-a)=b:=by simp_all
theorem om21(_:c=b)(_:a<c):a<b:=by subst_vars; assumption
theorem om104(_:(min a b)=a):a≤b:=by lia
theorem om103(_:a+16*c+200<b):a+64<b:=by lia
theorem om102(_:a+3*c+5<b):a<b:=by lia
theorem om101(_:a+16*(b+1)+200<c):a+1+16*b+200<c:=by lia
theorem om41(_:a+3*(b+1)+5<c):a+1+3*b+5<c:=by lia
theorem om100(_:a+16*(b+1)+200<c):a+3+16*b+200<c:=by lia
theorem om99(_:b≤d)(_:a+16*d+200<c):a+16*b+200<c:=by lia
theorem om98(_:b≤d)(_:a+3*d+5<c):a+3*b+5<c:=by lia
theorem om97(_:b<1000)(_:a≤b+1):a≤1000:=Nat.le_trans ‹_› ‹_›
theorem om96(_:a<1000):a≤16777216:=by lia
theorem om95(_:a≤b+1):a+1≤b+1+1:=Nat.succ_le_succ ‹_›
theorem om94:a+1≤a+1+1:=Nat.le_add_right _ _
theorem om20(_:a≤b):a+1≤b+1:=Nat.succ_le_succ ‹_›
theorem om19(_:0<p):0≤p:=Int.le_of_lt ‹_›
theorem om8(_:0<p):p≠0:=Int.ne_of_gt ‹_›
theorem om93(_:b=16777216)(_:a≤b):a≤1099511627776:=by subst_vars; lia
theorem om3(_:a≤b)(_:¬(a<b)):a=b:=Nat.le_antisymm ‹_› (Nat.not_lt.mp ‹_›)
theorem om2(_:b<a):a-(b+1)<a-b:=by grind
theorem om92(_:a≤b):(a:Int)-(b:Int)≤0:=by lia
theorem om40(_:c≤b)(_:a=c):a≤b:=by subst_vars; assumption
theorem om48(_:a=b):a≤b:=by simp_all
theorem om132(_:a<60):a<9000:=by lia
theorem om25(_:b=c)(_:a<c):a<b:=by subst_vars; assumption
theorem om137:a-0=a-0:=rfl
theorem om46(_:a≤b):a≤b+1:=Nat.le_succ_of_le ‹_›
theorem om136(_:a-b=c+1):a-(b+1)=c:=by omega
theorem om135(_:c+1<b)(_:a≤d)(_:d<c):a+1<b:=by lia
theorem om134(_:b-a=c+1):a<b:=by omega
theorem om133(_:b-a=0)(_:a≤b):a=b:=by grind
theorem om144(_:a=1):a≤1:=by simp_all
theorem om143(_:a≤1)(_:¬(a=0)):a=1:=by lia
theorem om142(_:a=0):a≤b:=by simp_all
theorem om141(_:0+1=0):a+1=0:=by simp_all
theorem om13(_:0<a):0<a:=by omega
theorem om140(_:a≤1)(_:0<a):a=1:=by lia
theorem om139(_:b≤1)(_:a<b):a=0:=by lia
theorem om47(_:a<c)(_:b=c):a<b:=by subst_vars; assumption
theorem om138(_:a=b+1):0<a:=by simp_all
theorem om146(_:a=b+1)(_:a≤b):False:=by subst_vars; lia
theorem om145(_:a=0):a≤1:=by simp_all
theorem om49(_:b=a+1):a≤b:=by subst_vars; lia
theorem om147(_:a<64)(_:(b=1000000000)∨(64≤b)):a≤b:=by lia
theorem om148(_:(b:Int)<p)(_:a<b):(a:Int)<p:=by lia
theorem om57(_:¬(b<a)):a≤b:=Nat.not_lt.mp ‹_›
theorem om176(_:(a:Int)=q)(_:p<q):p<(a:Int):=by subst_vars; assumption
theorem om175(_:p≤20):p≤1000000000000000000:=by lia
theorem om55(_:1≤p):0<p:=by assumption
theorem om174(_:1≤p)(_:a=(Int.toNat p)):(a:Int)=p:=by subst_vars; lia
theorem om173(_:a≤14):a≤20:=by lia
theorem om172(_:p≤20)(_:1000000≤b)(_:c<(Int.toNat p))(_:a=c):a<b:=by grind
theorem om54(_:a≤14):a≤14:=by omega
theorem om171(_:a=1):7+a≤14:=by simp_all
theorem om170(_:1000000≤b)(_:a=1):7+a≤b:=by subst_vars; lia
theorem om169(_:b=1)(_:p<8)(_:c=(Int.toNat p))(_:a≤c):a+b≤14:=by subst_vars; lia
theorem om168(_:1000000≤c)(_:b=1)(_:p<8)(_:d=(Int.toNat p))(_:a≤d):a+b≤c:=by subst_vars; lia
theorem om167(_:p<8)(_:b=(Int.toNat p))(_:a≤b):a+b≤1048576:=by subst_vars; lia
theorem om166(_:p<8):(Int.toNat p)≤20:=by lia
theorem om53(_:a≤13):a≤14:=Nat.le_succ_of_le ‹_›
theorem om165(_:a≤13):a+1≤14:=Nat.succ_le_succ ‹_›
theorem om164(_:1000000≤b)(_:a≤13):a+1≤b:=by lia
theorem om163(_:p<6)(_:d=(Int.toNat (1+p)))(_:b=1)(_:e≤d)(_:a≤e)(_:f≤d)(_:c≤f):a+b+c≤13:=by subst_vars; lia
theorem om162(_:p<6)(_:e=(Int.toNat (1+p)))(_:1000000≤d)(_:b=1)(_:f≤e)(_:a≤f)(_:g≤e)(_:c≤g):a+b+c≤d:=by subst_vars; lia
theorem om52(_:p<6)(_:c=(Int.toNat (1+p)))(_:a≤b)(_:b≤c):a+b≤1048576:=by subst_vars; lia
theorem om161(_:p<6)(_:d=(Int.toNat (1+p)))(_:1000000≤c)(_:b=1)(_:e≤d)(_:a≤e):a+b≤c:=by subst_vars; lia
theorem om160(_:p<6):(Int.toNat (1+p))≤20:=by lia
theorem om159(_:p<6):1+p≤1000000000000000000:=by lia
theorem om158(_:0≤p):0<1+p:=by lia
theorem om157(_:a≤1)(_:b≤c):a+b≤c+1:=by lia
theorem om6(_:0≤p):p=((Int.toNat p:Nat):Int):=by lia
theorem om14(_:0≤p)(_:p<(a:Int)):(Int.toNat p)<a:=by subst_vars; lia
theorem om156(_:0≤p)(_:p<(b:Int))(_:a=b):(Int.toNat p)<a:=by subst_vars; lia
theorem om155(_:0<(a:Int)):(a:Int)≠0:=Int.ne_of_gt ‹_›
theorem om51:(p%2147483629*48271+40692*q)%2147483646+1≤2147483646:=by grind
theorem om50:1≤(p%2147483629*48271+40692*q)%2147483646+1:=by grind
theorem om154:0≤p*0:=by simp_all
theorem om153(_:1000000000000000000≤p):0≤p*1:=by lia
theorem om152(_:p<2147483646):p+1≤2147483646:=by assumption
theorem om151(_:0≤p):1≤p+1:=by lia
theorem om150(_:p<2147483647)(_:q<2147483646):(p*2147483647+(q+1))/8191<18446744073709551616:=by lia
theorem om149(_:0≤p)(_:0≤q):0≤(p*2147483647+(q+1))/8191:=by lia
theorem om26(_:a+c<b):a<b:=by lia
theorem om56(_:a+d<c)(_:b<d):a+1+b<c:=by lia
theorem om179(_:a+(max d b)<c):a+b<c:=by lia
theorem om178(_:a+(max b d)<c):a+b<c:=by lia
theorem om177(_:a+(b+1)<c):a+1+b<c:=by lia
theorem om182(_:b=a):(a:Int)-1-(b:Int)=(-1):=by subst_vars; lia
theorem om181(_:(a:Int)-1-(b:Int)=((c-1-b:Nat):Int)):(a:Int)-1-((b+1:Nat):Int)=((c-1-b:Nat):Int)-1:=by lia
theorem om180(_:c=a)(_:b<c):(a:Int)-1-(b:Int)=((c-1-b:Nat):Int):=by grind
theorem om186(_:b=a):0+a≤b:=by simp_all
theorem om185:a+(b+1)=a+1+b:=by lia
theorem om184(_:a+(b+1)≤c):a+1+b≤c:=by lia
theorem om183(_:a+(c+1)≤b):a<b:=by lia
theorem om198(_:0≤p)(_:p<((0:Nat):Int)):False:=by lia
theorem om197(_:(a:Int)≤p-1)(_:(b:Int)≤p-1):(((max a b)+1:Nat):Int)≤p:=by lia
theorem om196(_:p<6):(Int.toNat p)<6:=by simp_all
theorem om62(_:p<((a+1:Nat):Int)):p-1<(a:Int):=by lia
theorem om195(_:(a:Int)≤p-1):0≤p-1:=by lia
theorem om194(_:1000000≤a):6≤a:=by lia
theorem om193(_:0≤p)(_:p≠0):0≤p-1:=by lia
theorem om192(_:¬(p<4)):¬(p≤3):=by omega
theorem om59(_:0≤p):((0:Nat):Int)≤p:=by omega
theorem om61(_:a≤20):(a:Int)≤1000000000000000000:=by lia
theorem om60(_:1≤a):0<(a:Int):=Int.ofNat_lt.mpr ‹_›
theorem om191(_:¬(3<p)):p≤3:=Int.not_lt.mp ‹_›
theorem om27:1≤a+2:=Nat.le_add_left _ _
theorem om190:2≤a+2:=Nat.le_add_left _ _
theorem om189(_:p<9):p<1000000000000000000:=by lia
theorem om188(_:p<q)(_:q=1000000000000000000):p<1000000000000000000:=by simp_all
theorem om187(_:p<6)(_:a=6):(Int.toNat p)<a:=by subst_vars; lia
theorem om58(_:c≤b)(_:a≤d)(_:d<c):a<b:=by lia
theorem om202(_:b=c+d):a+b+1=a+c+1+d:=by subst_vars; lia
theorem om201(_:c=d+e):a+b+c+1=a+b+d+1+e:=by subst_vars; lia
theorem om200(_:a=b+c):a+1=b+1+c:=by subst_vars; lia
theorem om63:a=0+a:=by simp_all
theorem om199(_:a≤b-1)(_:0<b):a+1≤b:=by lia
theorem om208:(min 2 (a+1+1))-1=1:=rfl
theorem om207:(min 1 (a+1+1))=1:=rfl
theorem om206(_:b≤20)(_:c≤20)(_:a≤b+c):a<64:=by lia
theorem om205(_:a≤20)(_:b≤20):a+b+1<4096:=by lia
theorem om64(_:a≤20)(_:b≤20)(_:1000000≤c):a+b≤c:=by lia
theorem om204(_:(max c a)+1<b+1):a<b:=by grind
theorem om203(_:(max a c)+1<b+1):a<b:=by grind
theorem om215(_:b≤20)(_:a≤20):a+b≤40:=by lia
theorem om214(_:b≤20)(_:a≤20)(_:1000000≤c):a+b≤c:=by lia
theorem om213(_:a+0+1≤10000000):a≤10000000:=Nat.le_of_lt ‹_›
theorem om67(_:(max (a+1) 0)<b+1):a<b:=by simp_all
theorem om212(_:a≤20)(_:b≤20):a+b≤40:=by lia
theorem om211(_:b+a+0+1≤10000000):a≤10000000:=by lia
theorem om66(_:(max ((max c a)+1) 0)<b+1):a<b:=by grind
theorem om210(_:a+b+0+1≤10000000):a≤10000000:=by lia
theorem om65(_:(max ((max a c)+1) 0)<b+1):a<b:=by grind
theorem om15(_:a≤20):a≤40:=by lia
theorem om29(_:a≤20):a≤1000:=by lia
theorem om28:a≤a:=Nat.le_refl _
theorem om209(_:c≤1000)(_:1000000≤b)(_:a≤(min d c)):a<b:=by grind
theorem om226:3*a+11=3*(a+1)+8:=rfl
theorem om225(_:b≤10000000)(_:a≤b):a≤10000000:=Nat.le_trans ‹_› ‹_›
theorem om71(_:c<b+1)(_:a≤c):a<b+1:=Nat.lt_of_le_of_lt ‹_› ‹_›
theorem om224:a≤b+a+c:=by lia
theorem om70:a-(b+1)=a-1-b:=by lia
theorem om69(_:b<a):a-b=a-1-b+1:=by grind
theorem om68(_:a≤20):a<64:=by lia
theorem om223:a+10≤a+10:=Nat.le_refl _
theorem om222(_:b≤100)(_:a≤40+20*b):a+1<4096:=by lia
theorem om221(_:a≤40+20*c)(_:b≤20):a+b≤40+20*(c+1):=by lia
theorem om220(_:d≤100)(_:1000000≤c)(_:a≤40+20*e)(_:e<d)(_:b≤20):a+b≤c:=by lia
theorem om219(_:a≤40):a≤40+20*0:=by omega
theorem om4:6≤a+9:=Nat.le_add_left _ _
theorem om16:1≤a+9:=Nat.le_add_left _ _
theorem om218:a+9≤a+9:=Nat.le_refl _
theorem om217:2≤100:=Nat.le_add_left _ _
theorem om216:1≤100:=Nat.le_add_left _ _
theorem om243(_:a+e=d)(_:e=b+f)(_:f=1+c):a+1+b+c=d:=by subst_vars; lia
theorem om242(_:a+e=d)(_:e=b+f)(_:f=0+c):a+b+c=d:=by subst_vars; lia
theorem om241(_:c≤10000000)(_:c=a+d)(_:b<d):a+b≤10000000:=by subst_vars; lia
theorem om240(_:a+b+c=d):a+(b+c)=d:=by subst_vars; lia
theorem om239(_:c=a+d)(_:b<d):a+b<c:=by simp_all
theorem om238(_:c=16777216)(_:d≤10000000)(_:d=e+f)(_:g<f)(_:a≤e)(_:b≤g):a+b≤c:=by subst_vars; lia
theorem om237(_:b≤10000000)(_:b=c+a):a≤10000000:=by subst_vars; lia
theorem om236(_:a+0=b):a=b:=by omega
theorem om235:0+a=a:=by simp_all
theorem om234:1+a+0=1+a:=rfl
theorem om233:a<a+0+1:=Nat.le_refl _
theorem om232:1+a+b+0=1+(a+b):=by lia
theorem om231:a+b<a+b+0+1:=Nat.le_refl _
theorem om230(_:c=16777216)(_:d+e+0+1≤10000000)(_:a≤d)(_:b≤e):a+b≤c:=by subst_vars; lia
theorem om229(_:b=c+d):1+a+b=1+a+c+d:=by subst_vars; lia
theorem om228(_:c=d+e):1+a+b+c=1+a+b+d+e:=by subst_vars; lia
theorem om227(_:b=c+d):a+b=a+c+d:=by subst_vars; lia
theorem om244(_:c≤10000000)(_:b=16777216)(_:a=c):1+a≤b:=by subst_vars; lia
theorem om248(_:b≤c)(_:a≤1):a+b≤c+1:=by lia
theorem om247(_:d≤b+c)(_:a≤d+1):a≤b+(c+1):=by lia
theorem om246:a+b+c+1=a+(1+c+b):=by lia
theorem om245:a+b+c+d+1=a+(1+d+c+b):=by lia
theorem om72(_:a=b+c):a=b+(0+c):=by simp_all
theorem om30:a+b+1=a+(1+b):=by lia
theorem om251(_:a+c+(b+0+1)≤10000000):a+0+b≤10000000:=by lia
theorem om250(_:d+b+(c+e+0+1)≤10000000)(_:a=d+f)(_:f≤e):a+b+c≤10000000:=by subst_vars; lia
theorem om249(_:a+b+(d+c+0+1)≤10000000):a+b+c≤10000000:=by lia
theorem om31:4*a+31≤4*a+31:=Nat.le_refl _
theorem om257(_:b=16777216)(_:c+d+e≤10000000)(_:a=f)(_:f+1=c+g)(_:g≤e):a<b:=by subst_vars; lia
theorem om73(_:b+c+a≤10000000):a≤10000000:=by lia
theorem om256(_:b≤7)(_:a<b+1):a<7+1:=by lia
theorem om255:1≤4*a+32:=Nat.le_add_left _ _
theorem om254:4*a+32≤4*a+32:=Nat.le_refl _
theorem om253:31≤4*a+32:=Nat.le_add_left _ _
theorem om252:2≤4*a+32:=Nat.le_add_left _ _
theorem om271:4*a+35=4*(a+1)+31:=rfl
theorem om270(_:a+1≤8):a≤7:=by simp_all
theorem om269(_:a+1≤8):a≤8:=Nat.le_of_lt ‹_›
theorem om268(_:b+a+c≤10000000):a+b+c≤10000000:=by lia
theorem om267(_:d+e+f≤10000000)(_:f=g+c+h)(_:b+a≤d+e+h):a+b+c≤10000000:=by lia
theorem om266:4*a+34≤4*a+34:=Nat.le_refl _
theorem om265(_:b+a+c≤10000000):a≤10000000:=by lia
theorem om264:4*a+33≤4*a+33:=Nat.le_refl _
theorem om263:11≤4*a+33:=Nat.le_add_left _ _
theorem om262:7≤4*a+33:=Nat.le_add_left _ _
theorem om261(_:a+g≤c+d+f)(_:b≤e):a+b+1+0≤c+d+(e+f+1):=by lia
theorem om260(_:a+i≤d+e+h)(_:c≤f)(_:b≤g):a+b+c+1+0≤d+e+(f+g+h+1):=by lia
theorem om32(_:a+e≤b+c+d):a+1+0≤b+c+(d+1):=by lia
theorem om259(_:a+e≤b+c+d):a+0≤b+c+(d+1):=by lia
theorem om258(_:a+f≤c+d+e)(_:b≤f+1):a+b≤c+d+(e+1):=by lia
theorem om278:64≤64:=Nat.le_refl _
theorem om277(_:a≤5000000):0+0+a≤10000000:=by lia
theorem om74(_:a≤5000000):a≤10000000:=by lia
theorem om276:7≤63:=Nat.le_add_left _ _
theorem om275:63≤63:=Nat.le_refl _
theorem om274:3+1≤63:=Nat.le_add_left _ _
theorem om273:2≤2:=Nat.le_refl _
theorem om272(_:c≤1000)(_:b=16777216)(_:a≤d)(_:d<c):a<b:=by subst_vars; lia
theorem om299:a+a+2+9=a+1+(a+1)+9:=by lia
theorem om298:a+a+10=a+1+(a+1)+8:=by lia
theorem om297(_:a≤(Int.toNat p)*b)(_:(Int.toNat p)*b≤5*b):a≤5*b:=Nat.le_trans ‹_› ‹_›
theorem om296(_:p<6):(Int.toNat p)≤5:=by lia
theorem om295(_:a≤b*c):a≤b*c+c:=by lia
theorem om294(_:a≤c*d)(_:b≤d):a+b≤c*d+d:=Nat.add_le_add ‹_› ‹_›
theorem om293(_:b=16777216)(_:p<6)(_:c<(Int.toNat p))(_:a≤c):a<b:=by subst_vars; lia
theorem om292:1≤a+8:=Nat.le_add_left _ _
theorem om291(_:(a:Int)≤3):a<5:=by omega
theorem om17(_:(a:Int)≤2):a<5:=by omega
theorem om290(_:a≤5*b):a+0+1≤1+2*(5*b):=by lia
theorem om33(_:a+1<b+1):a<b:=by simp_all
theorem om78:((a+1:Nat):Int)-1=(a:Int):=by simp_all
theorem om289(_:a≤5*c)(_:b≤5*c):a+b+0+1≤1+2*(5*c):=by lia
theorem om288(_:0<(a:Int)):a=a-1+1:=by lia
theorem om287(_:a=b)(_:b≤20):(a:Int)≤1000000000000000000:=by subst_vars; lia
theorem om286(_:a=b)(_:1≤b):0<(a:Int):=by subst_vars; lia
theorem om285(_:b≤100)(_:a=b):a≤100:=by subst_vars; assumption
theorem om75(_:(a:Int)≤1):a<5:=by omega
theorem om77(_:b=16777216)(_:a≤100):a≤b:=by subst_vars; lia
theorem om284(_:1≤a):0+1≤a:=by omega
theorem om76:7≤a+9:=Nat.le_add_left _ _
theorem om283(_:p<12):p<1000000000000000000:=by lia
theorem om282(_:0≤p):1000000000000000000-1-p<1000000000000000000:=by lia
theorem om281(_:p<4):0≤1000000000000000000-1-p:=by lia
theorem om280:1≤1+2*(5*a):=Nat.le_add_right _ _
theorem om279(_:a≤b):(max (a+1) 0)≤b+1:=Nat.succ_le_succ ‹_›
theorem om325(_:1≤p)(_:b=(Int.toNat p))(_:c=b)(_:a=c):(a:Int)=p:=by subst_vars; lia
theorem om324(_:a<6):a<8:=by lia
theorem om323(_:p≤8)(_:b=16777216)(_:c=(Int.toNat p))(_:d=c)(_:e=f)(_:f<d)(_:a=e):a<b:=by subst_vars; lia
theorem om322(_:d≤111111)(_:a≤c*555555)(_:b≤5*d):a+b≤c*555555+555555:=by lia
theorem om321(_:c=16777216)(_:d≤111111)(_:e≤f*555555)(_:g≤5*d)(_:a≤e)(_:b≤g)(_:f≤2):a+b≤c:=by subst_vars; lia
theorem om320(_:a<(Int.toNat 3)):a≤2:=by lia
theorem om319(_:p≤8)(_:a=(Int.toNat p)):a≤20:=by subst_vars; lia
theorem om318(_:b=a)(_:c<b):1≤a:=by subst_vars; lia
theorem om317(_:p<7):14+p≤20:=by lia
theorem om316(_:0≤p):14≤14+p:=by lia
theorem om315(_:b≤40)(_:a≤b):a≤100:=by lia
theorem om314(_:p≤8)(_:b=16777216)(_:c<(Int.toNat p))(_:d=c)(_:a=d):a<b:=by subst_vars; lia
theorem om313(_:p≤7):p≤1000000000000000000:=by lia
theorem om312(_:4≤p):0<p:=by lia
theorem om311(_:p≤8)(_:b=20)(_:a<(Int.toNat p)):(a:Int)<(b:Int):=by subst_vars; lia
theorem om310(_:c=20)(_:a≤c)(_:b≤c):a+b≤40:=by subst_vars; lia
theorem om309(_:c=16777216)(_:d=20)(_:a≤d)(_:b≤d):a+b≤c:=by subst_vars; lia
theorem om308(_:(a:Int)=20):(min 8 a)+(min 2 a)+(a-10)=20:=by grind
theorem om307(_:(a:Int)=20):2≤a:=by lia
theorem om306(_:c=16777216)(_:(a:Int)=20)(_:b≤a):a+b≤c:=by subst_vars; lia
theorem om305(_:(a:Int)=20):10≤(a:Int):=by simp_all
theorem om304(_:(a:Int)=20):a=20:=by lia
theorem om303(_:a=20)(_:14≤p):1≤(min ((min (Int.toNat p) a)-(min 8 a)) (a-(min 8 a))):=by subst_vars; lia
theorem om302(_:14≤p):p=((Int.toNat p:Nat):Int):=by grind
theorem om301(_:b=20)(_:a≤b):a≤20:=by simp_all
theorem om34(_:0≤p)(_:p<4):(p=0)∨((p=1)∨((p=2)∨(p=3))):=by lia
theorem om300(_:a≤b):(min a b)=a:=by simp_all
theorem om352(_:b=16777216):(min 5 a)≤b:=by subst_vars; lia
theorem om351(_:a=6):5≤a:=by simp_all
theorem om350(_:a+b≤100)(_:c=16777216):a+b+2≤c:=by subst_vars; lia
theorem om349(_:a≤(1+20*0)*b):a≤(1+20*1)*b:=by lia
theorem om348(_:a≤0):a≤1:=Nat.le_succ_of_le ‹_›
theorem om347(_:b≤100)(_:a≤b):a≤100:=Nat.le_trans ‹_› ‹_›
theorem om346(_:a≤c)(_:b≤d):a+b≤c+d:=Nat.add_le_add ‹_› ‹_›
theorem om345(_:c+d≤100)(_:a≤c)(_:b≤d):a+b≤100:=by lia
theorem om344(_:b≤20)(_:a≤b):a≤20:=Nat.le_trans ‹_› ‹_›
theorem om343(_:c+d≤20)(_:a≤c)(_:b≤d):a+b≤20:=by lia
theorem om342(_:q<r):p+q<p+r:=by simp_all
theorem om341(_:0≤p)(_:0≤q):0≤p+q:=by lia
theorem om340(_:q≤1000000000000000000)(_:p<q):p<1000000000000000000:=by lia
theorem om339(_:p≤1000):p≤1000000000000000000:=by lia
theorem om338:1<((a+2:Nat):Int):=by lia
theorem om337:0<((a+1:Nat):Int):=by simp_all
theorem om336(_:b≤100)(_:a≤(1+20*1)*b):a≤5000000:=by lia
theorem om335(_:a≤1):a<8:=by lia
theorem om334(_:b≤20)(_:a≤(1+20*0)*b):a+0+1≤21:=by lia
theorem om333(_:a≤0):(max (a+1) 0)≤1:=Nat.succ_le_succ ‹_›
theorem om332(_:c+d≤20)(_:a≤(1+20*0)*c)(_:b≤(1+20*0)*d):a+b+0+1≤21:=by lia
theorem om331(_:a≤0)(_:b≤0):(max ((max a b)+1) 0)≤1:=by simp_all
theorem om330(_:a≤1+20*b):a≤(1+20*b)*1:=by simp_all
theorem om329(_:a≤(1+20*c)*d)(_:b≤(1+20*c)*e):a+b≤(1+20*c)*d+(1+20*c)*e:=Nat.add_le_add ‹_› ‹_›
theorem om80(_:a≤c)(_:b≤c):(max a b)≤c:=by lia
theorem om328(_:a≤1+20*0):a≤1+20*b:=by lia
theorem om327(_:a≤0):a≤b:=by simp_all
theorem om35(_:0≤p)(_:p<3):(p=0)∨((p=1)∨(p=2)):=by lia
theorem om79(_:0≤p)(_:p<2):(p=0)∨(p=1):=by lia
theorem om326(_:d<c)(_:e<c)(_:a≤d)(_:b≤e):(max a b)+1≤c:=by lia
theorem om36(_:a=6):a≤20:=by simp_all
theorem om10(_:a=6):1<(a:Int):=by simp_all
theorem om5(_:a=6):0<(a:Int):=by simp_all
theorem om7(_:a=6):2<(a:Int):=by simp_all
theorem om354(_:a≤4):a≤100:=by lia
theorem om83(_:a≤2):a+1+1≤4:=by simp_all
theorem om353(_:a≤1):a+1+1≤100:=by lia
theorem om82(_:a=6):4<(a:Int):=by simp_all
theorem om81(_:a=6):3<(a:Int):=by simp_all
theorem om37(_:a=6):5<(a:Int):=by simp_all
theorem om356(_:b≤4)(_:c≤2)(_:a≤b+c+2):a≤8:=by lia
theorem om355(_:a≤4)(_:b≤2):a+b≤100:=by lia
theorem om18(_:a=14):1<(a:Int):=by simp_all
theorem om88(_:a=14):0<(a:Int):=by simp_all
theorem om38(_:a=14):2<(a:Int):=by simp_all
theorem om360(_:a=14):a≤20:=by simp_all
theorem om86(_:a=14):7<(a:Int):=by simp_all
theorem om87(_:a=14):6<(a:Int):=by simp_all
theorem om85(_:a=14):8<(a:Int):=by simp_all
theorem om84(_:(a:Int)=14):a=14:=by lia
theorem om359(_:(a:Int)=14):8<a:=by lia
theorem om358(_:(a:Int)=14):1<(a:Int):=by simp_all
theorem om357(_:b=14)(_:a≤8):(min ((min (a+6) b)-(min a b)) (b-(min a b)))=6:=by grind
theorem om370(_:p≤8)(_:q<p)(_:(a:Int)=1+q):a≤8:=by lia
theorem om369(_:0≤p)(_:(a:Int)=1+p):1≤a:=by lia
theorem om368(_:p≤8)(_:q<p)(_:(b:Int)=1+q)(_:a=b):(a:Int)≤1000000000000000000:=by subst_vars; lia
theorem om367(_:0≤p)(_:(b:Int)=1+p)(_:a=b):0<(a:Int):=by subst_vars; lia
theorem om366(_:q≤8)(_:p<q):1+p≤8:=by lia
theorem om89(_:0≤p):1≤1+p:=by lia
theorem om365(_:p≤8):p≤1000000000000000000:=by lia
theorem om364(_:3≤p):0<p:=by lia
theorem om363(_:a=3):a≤8:=by simp_all
theorem om362(_:a=3):1≤a:=by simp_all
theorem om361(_:b=3)(_:a=b):0<(a:Int):=by simp_all
theorem om386(_:a<0):False:=by omega
theorem om385(_:b≤10000000)(_:a+0+1+c≤b):a≤10000000:=by lia
theorem om384(_:c<b+1)(_:(max (max (a+1) 0) d)≤c):a<b:=by grind
theorem om90(_:b=16777216)(_:a=c)(_:c+d+e+1≤10000000):a+1≤b:=by subst_vars; lia
theorem om383(_:b≤10000000)(_:c+a+0+1+d≤b):a≤10000000:=by lia
theorem om382(_:c<b+1)(_:(max (max ((max d a)+1) 0) e)≤c):a<b:=by grind
theorem om381(_:b≤10000000)(_:a+c+0+1+d≤b):a≤10000000:=by lia
theorem om380(_:c<b+1)(_:(max (max ((max a d)+1) 0) e)≤c):a<b:=by grind
theorem om39(_:b=16777216)(_:a<16777216):a<b:=by subst_vars; assumption
theorem om379(_:b≤10000000)(_:c≤b)(_:a=d)(_:d+(e+f)=c):a<16777216:=by subst_vars; lia
theorem om378(_:c+a≤b):a≤b:=by lia
theorem om377(_:(max c a)≤b):a≤b:=by grind
theorem om376(_:a+(b+1+c)=d)(_:d≤e)(_:e≤10000000):a+b+0+1≤10000000:=by subst_vars; lia
theorem om375(_:a+(b+c+1+d)=e)(_:e≤f)(_:f≤10000000):a+b+c+1≤10000000:=by subst_vars; lia
theorem om374(_:a+b+c+1≤10000000):a+1+b+c≤10000000:=by lia
theorem om373(_:a+b+c+1≤10000000):a+1+b≤10000000:=by lia
theorem om372(_:a≤b):0+a≤b+1:=by lia
theorem om371(_:a≤b):1+a≤b+1:=by lia
theorem om388(_:a=c)(_:d=e)(_:d=c)(_:b=e):a=b:=by subst_vars; lia
theorem om387(_:a<8):a<9:=Nat.le_succ_of_le ‹_›
theorem om91(_:a≤8):a≤1000:=by lia
theorem om391(_:b=c)(_:a=c):a=b:=by subst_vars; lia
theorem om390(_:p<6)(_:(a:Int)=1+p):a≤8:=by lia
theorem om389(_:p<6):1+p≤8:=by lia
end
theorem sz0:0≤PySem.sizeLine:=by decide
theorem sz1:1≤PySem.sizeLine:=by decide
theorem sz2:2≤PySem.sizeLine:=by decide
theorem sz3:3≤PySem.sizeLine:=by decide
theorem sz4:4≤PySem.sizeLine:=by decide
namespace L2
open PySem PySem.Spec PyProof.Rows
noncomputable abbrev Key := Sum Int Str
noncomputable def keyIs : Key → Value → Bool
  | .inl k, v => Value.isInt k v
  | .inr x, v => Value.isStrOf x v
noncomputable def keyH (w : World) : Key → Int
  | .inl k => hashInt k
  | .inr x => hashStr w x
theorem keyIs_shape : ∀ {k : Key} {v : Value}, keyIs k v = true → (∃ i t, k = Sum.inl i ∧ v = Value.int i t) ∨ (∃ x t, k = Sum.inr x ∧ v = Value.str x t)
  | .inl i, v, h => by
    obtain ⟨t, e⟩ := Value.isInt_shape (k := i) (v := v) h
    exact .inl ⟨i, t, rfl, e⟩
  | .inr x, v, h => by
    obtain ⟨t, e⟩ := Value.isStrOf_shape (x := x) (v := v) h
    exact .inr ⟨x, t, rfl, e⟩
theorem key_ll (a b : Int) : decide ((Sum.inl a : Key) = Sum.inl b) = (a == b) := by
  by_cases e : a = b
  · subst e; simp
  · have h : ¬ (Sum.inl a : Key) = Sum.inl b := fun q => e (Sum.inl.inj q)
    rw [decide_eq_false h]
    exact (beq_eq_false_iff_ne.mpr e).symm
theorem key_rr (a b : Str) : decide ((Sum.inr a : Key) = Sum.inr b) = decide (a = b) := by
  by_cases e : a = b
  · subst e; simp
  · have h : ¬ (Sum.inr a : Key) = Sum.inr b := fun q => e (Sum.inr.inj q)
    rw [decide_eq_false h, decide_eq_false e]
theorem key_lr (a : Int) (b : Str) : decide ((Sum.inl a : Key) = Sum.inr b) = false := decide_eq_false (fun q => nomatch q)
theorem key_rl (a : Str) (b : Int) : decide ((Sum.inr a : Key) = Sum.inl b) = false := decide_eq_false (fun q => nomatch q)
noncomputable def mixKind (prog : Program) (w : World) : PySem.KeyKind prog w Key where
  is := keyIs
  hash := keyH w
  inj := fun v a b ha hb => by
    rcases keyIs_shape ha with ⟨i, t, rfl, rfl⟩ | ⟨x, t, rfl, rfl⟩
    · rcases keyIs_shape hb with ⟨j, u, rfl, e⟩ | ⟨y, u, rfl, e⟩
      · injection e with e1 _; rw [e1]
      · exact nomatch e
    · rcases keyIs_shape hb with ⟨j, u, rfl, e⟩ | ⟨y, u, rfl, e⟩
      · exact nomatch e
      · injection e with e1 _; rw [e1]
  byValue := fun k v h => by
    rcases keyIs_shape h with ⟨i, t, rfl, rfl⟩ | ⟨x, t, rfl, rfl⟩ <;> rfl
  pyHash := fun hv h => by
    rcases keyIs_shape hv with ⟨i, t, rfl, rfl⟩ | ⟨x, t, rfl, rfl⟩
    · exact wpAny_pyHash_int h
    · exact wpAny_pyHash_str h
  eqBool := fun hu hv h => by
    rcases keyIs_shape hu with ⟨i, t, rfl, rfl⟩ | ⟨x, t, rfl, rfl⟩
    · rcases keyIs_shape hv with ⟨j, u, rfl, rfl⟩ | ⟨y, u, rfl, rfl⟩
      · rw [key_ll] at h; exact wpAny_eqBool_int h
      · rw [key_lr] at h; exact SeqAt.EqAt.int_str i t y u _ _ _ _ h
    · rcases keyIs_shape hv with ⟨j, u, rfl, rfl⟩ | ⟨y, u, rfl, rfl⟩
      · rw [key_rl] at h; exact SeqAt.EqAt.str_int x t j u _ _ _ _ h
      · rw [key_rr] at h; exact wpAny_eqBool_str h
  «strs» := fun k x t v h => by
    rcases keyIs_shape h with ⟨i, u, rfl, e⟩ | ⟨y, u, rfl, e⟩
    · exact nomatch e
    · injection e with e1 _
      subst e1
      cases v <;> rfl
end L2
namespace L2
open PySem PySem.Spec PyProof.Rows
inductive V where
  | non | bl (b : Bool) | int (i : Int) | str (x : Str) | byt (b : Array UInt8) | flt (b : UInt64) | ref (a : Addr) | ty (n : String)
  deriving DecidableEq
set_option genInjectivity false
noncomputable def RelV : V → Value → Prop
  | .non, u => u = Value.none
  | .bl b, u => u = Value.bool b
  | .int i, u => ∃ t, u = Value.int i t
  | .str x, u => ∃ t, u = Value.str x t
  | .byt b, u => ∃ t, u = Value.bytes b t
  | .flt b, u => ∃ t, u = Value.float b t
  | .ref a, u => u = Value.ref a
  | .ty n, u => u = Value.type n
noncomputable abbrev Vals : List V → List Value → Prop := Paired RelV
theorem Vals.length {xs : List V} {us : List Value} (r : Vals xs us) : xs.length = us.length := Paired.length r
theorem Vals.get : ∀ {xs : List V} {us : List Value} {i : Nat} {x : V}, Vals xs us → xs[i]? = some x → ∃ u, us[i]? = some u ∧ RelV x u
  | _, _, _, _, .nil, e => by simp at e
  | _, _, 0, _, .cons r _, e => by simp at e; subst e; exact ⟨_, rfl, r⟩
  | _, _, i + 1, x, .cons _ t, e => by
    obtain ⟨u, h1, h2⟩ := Vals.get (i := i) (x := x) t (by simpa using e)
    exact ⟨u, by simpa using h1, h2⟩
theorem Vals.set {x : V} {u : Value} (r : RelV x u) : ∀ {xs : List V} {us : List Value} (i : Nat), Vals xs us → Vals (xs.set i x) (us.set i u)
  | _, _, _, .nil => .nil
  | _, _, 0, .cons _ t => .cons r t
  | _, _, i + 1, .cons q t => .cons q (Vals.set r i t)
theorem Vals.append : ∀ {xs ys : List V} {us ws : List Value}, Vals xs us → Vals ys ws → Vals (xs ++ ys) (us ++ ws)
  | _, _, _, _, .nil, s => s
  | _, _, _, _, .cons r t, s => .cons r (Vals.append t s)
theorem Vals.take : ∀ {xs : List V} {us : List Value} (n : Nat), Vals xs us → Vals (xs.take n) (us.take n)
  | _, _, 0, _ => .nil
  | _, _, _ + 1, .nil => .nil
  | _, _, n + 1, .cons r t => .cons r (Vals.take n t)
theorem Vals.drop : ∀ {xs : List V} {us : List Value} (n : Nat), Vals xs us → Vals (xs.drop n) (us.drop n)
  | _, _, 0, r => r
  | _, _, _ + 1, .nil => .nil
  | _, _, n + 1, .cons _ t => Vals.drop n t
noncomputable def RelO : Option V → Option Value → Prop
  | some v, some u => RelV v u
  | none, none => True
  | _, _ => False
noncomputable def KV {κ : Type} : List (κ × V) → List (κ × Value) → Prop := Paired fun (p : κ × V) (q : κ × Value) => p.1 = q.1 ∧ RelV p.2 q.2
noncomputable def kV : Key → V
  | .inl i => .int i
  | .inr x => .str x
inductive HO where
  | lst (xs : List V)
  | tup (xs : List V)
  | dK (kvs : List (Key × V)) | dT (kvs : List (List Key × V))
  | set (S : Int → Bool) (n : Nat)
  | ins (C dx : Addr) (fs : List (Str × V))
  | own (x : Addr)
  | xd (fs : List (Str × V))
  | met (f x : Addr)
  | rng (lo hi : Int)
  | frz (o : Obj) (u : HO)
  | tbl (ps : Array Value)
  | ext (φ : Heap → Prop)
noncomputable abbrev Hp := Addr → Option HO
noncomputable def upd (H : Hp) (a : Addr) (o : HO) : Hp := fun b => if b = a then some o else H b
theorem upd_same {H : Hp} {a : Addr} {o : HO} : upd H a o a = some o := by unfold upd; rw [if_pos rfl]
theorem upd_ne {H : Hp} {a b : Addr} {o : HO} (h : b ≠ a) : upd H a o b = H b := by unfold upd; rw [if_neg h]
theorem ne_of {H : Hp} {a b : Addr} {o u : HO} (h : H a = some o) (h' : H b = some u) (d : o ≠ u) : a ≠ b := by
  intro e; subst e; rw [h] at h'; exact d (Option.some.inj h')
theorem ne_of_none {H : Hp} {a b : Addr} {o : HO} (h : H a = some o) (h' : H b = none) : a ≠ b := by
  intro e; subst e; rw [h] at h'; cases h'
section
variable (P : Program) (w : World)
noncomputable def ObjOk (H : Hp) (h : Heap) (a : Addr) : HO → Prop
  | .lst xs => xs.length ≤ sizeLine ∧ ∃ (its : List Value) (n : Nat), Vals xs its ∧ h.get? a = some { cls := .type "list", data := .seq its.toArray n }
  | .tup xs => xs.length ≤ sizeLine ∧ ∃ its : List Value, Vals xs its ∧ IsTup h a its.toArray
  | .dK kvs => kvs.length ≤ sizeLine ∧ (a == sysModules) = false ∧ ∃ vs, KV kvs vs ∧ h.DictOf (mixKind P w) a vs
  | .dT kvs => kvs.length ≤ sizeLine ∧ (a == sysModules) = false ∧ ∃ xs : List (List Key × Addr × Value),
      Paired (fun (p : List Key × V) (q : List Key × Addr × Value) => p.1 = q.1 ∧ H q.2.1 = some (.tup (p.1.map kV)) ∧ RelV p.2 q.2.2) kvs xs ∧
      ∃ o es ep, h.get? a = some o ∧ o.ExactDict ∧ o.data = .dict es ep ∧ es.toList = xs.map (entryOfKey (tupleKind (mixKind P w))) ∧ (xs.map (·.1)).Nodup
  | .set S n => h.SetOf (intKind P w) a S n
  | .ins C dx fs => H dx = some (.own a) ∧ fs.length ≤ 1000 ∧ dx ≠ a ∧ h.get? a = some (PySem.W.instObj C dx) ∧
      ∃ mA, h.Ns1 dx mA ∧ (∀ f, RelO (fs.lookup f) (mA f)) ∧ PySem.Within mA (fs.map (·.1))
  | .own _ => ∃ o, h.get? a = some o
  | .xd fs => ∃ mA, h.Ns1 a mA ∧ ∀ f, RelO (fs.lookup f) (mA f)
  | .rng lo hi => ∃ t u v, h.get? a = some { cls := .type "range", data := .fields #[.int lo t, .int hi u, .int 1 v] }
  | .frz o u => h.get? a = some o ∧ ObjOk H h a u
  | .tbl ps => h.get? a = some { cls := .none, data := .fields ps }
  | .met f x => h.get? a = some (PySem.W.methodObj (.ref f) (.ref x))
  | .ext φ => φ h ∧ (∃ o, h.get? a = some o) ∧ ∀ h1 h2 : Heap, φ h1 → (∀ o, h1.get? a = some o → h2.get? a = some o) → φ h2
noncomputable def HOk (H : Hp) (h : Heap) : Prop := ∀ a o, H a = some o → ObjOk P w H h a o
end
section
variable {P : Program} {w : World} {H H' : Hp} {h h' : Heap} {a : Addr} {o : HO}
theorem ObjOk.lt (x : ObjOk P w H h a o) : a < h.objs.size := by
  cases o with
  | lst xs => obtain ⟨_, _, _, _, e⟩ := x; exact Heap.lt_size e
  | tup xs => obtain ⟨_, _, _, p⟩ := x; exact p.lt
  | dK kvs => obtain ⟨_, _, _, _, o, _, _, e, _⟩ := x; exact Heap.lt_size e
  | dT kvs => obtain ⟨_, _, _, _, o, _, _, e, _⟩ := x; exact Heap.lt_size e
  | set S n => obtain ⟨o, _, _, _, e, _⟩ := x; exact Heap.lt_size e
  | ins C dx fs => obtain ⟨_, _, _, e, _⟩ := x; exact Heap.lt_size e
  | own y => obtain ⟨_, e⟩ := x; exact Heap.lt_size e
  | xd fs => obtain ⟨_, ⟨_, _, _, e, _⟩, _⟩ := x; exact Heap.lt_size e
  | rng lo hi => obtain ⟨_, _, _, e⟩ := x; exact Heap.lt_size e
  | frz ob u => obtain ⟨e, _⟩ := x; exact Heap.lt_size e
  | tbl ps => exact Heap.lt_size (show h.get? a = some _ from x)
  | met f y => exact Heap.lt_size (show h.get? a = some _ from x)
  | ext φ => obtain ⟨_, ⟨_, e⟩, _⟩ := x; exact Heap.lt_size e
theorem Paired.mapP {α β : Type} {F G : α → β → Prop} : ∀ {l₁ : List α} {l₂ : List β}, Paired F l₁ l₂ → (∀ a b, F a b → G a b) → Paired G l₁ l₂
  | _, _, .nil, _ => .nil
  | _, _, .cons r t, f => .cons (f _ _ r) (Paired.mapP t f)
theorem ObjOk.stay (x : ObjOk P w H h a o) (k : ∀ b u, (b = a ∨ H b = some (.own a)) → h.get? b = some u → h'.get? b = some u)
    (ho : ∀ b, H b = some (.own a) → H' b = some (.own a)) (ht : ∀ b xs, H b = some (.tup xs) → H' b = some (.tup xs)) : ObjOk P w H' h' a o := by
  induction o with
  | lst xs => obtain ⟨z, its, n, r, e⟩ := x; exact ⟨z, its, n, r, k _ _ (.inl rfl) e⟩
  | tup xs => obtain ⟨z, its, r, ob, e, c⟩ := x; exact ⟨z, its, r, ob, k _ _ (.inl rfl) e, c⟩
  | dK kvs => obtain ⟨z, y, vs, r, ob, es, ep, e, c⟩ := x; exact ⟨z, y, vs, r, ob, es, ep, k _ _ (.inl rfl) e, c⟩
  | dT kvs =>
    obtain ⟨z, y, xs, r, ob, es, ep, e, c⟩ := x
    exact ⟨z, y, xs, Paired.mapP r fun p q z => ⟨z.1, ht _ _ z.2.1, z.2.2⟩, ob, es, ep, k _ _ (.inl rfl) e, c⟩
  | set S n => obtain ⟨ob, es, ep, t, e, c⟩ := x; exact ⟨ob, es, ep, t, k _ _ (.inl rfl) e, c⟩
  | ins C dx fs =>
    obtain ⟨d, z, ne, e, mA, ⟨od, es, ep, e2, c⟩, r⟩ := x
    exact ⟨ho _ d, z, ne, k _ _ (.inl rfl) e, mA, ⟨od, es, ep, k _ _ (.inr d) e2, c⟩, r⟩
  | own y => obtain ⟨ob, e⟩ := x; exact ⟨ob, k _ _ (.inl rfl) e⟩
  | xd fs => obtain ⟨mA, ⟨od, es, ep, e, c⟩, r⟩ := x; exact ⟨mA, ⟨od, es, ep, k _ _ (.inl rfl) e, c⟩, r⟩
  | rng lo hi => obtain ⟨t, u, v, e⟩ := x; exact ⟨t, u, v, k _ _ (.inl rfl) e⟩
  | frz ob u ih => obtain ⟨e, q⟩ := x; exact ⟨k _ _ (.inl rfl) e, ih q⟩
  | tbl ps =>
    have e : h.get? a = some { cls := .none, data := .fields ps } := x
    show h'.get? a = some { cls := .none, data := .fields ps }
    exact k a _ (.inl rfl) e
  | met f y =>
    have e : h.get? a = some (PySem.W.methodObj (.ref f) (.ref y)) := x
    show h'.get? a = some (PySem.W.methodObj (.ref f) (.ref y))
    exact k a _ (.inl rfl) e
  | ext φ => obtain ⟨p, ⟨o, e⟩, st⟩ := x; exact ⟨st _ _ p fun o q => k _ _ (.inl rfl) q, ⟨o, k _ _ (.inl rfl) e⟩, st⟩
theorem HOk.lt (x : HOk P w H h) (e : H a = some o) : a < h.objs.size := (x a o e).lt
theorem HOk.fresh (x : HOk P w H h) (e : h.objs.size ≤ a) : H a = none := by
  cases q : H a with
  | none => rfl
  | some u => exact absurd (Nat.lt_of_lt_of_le (x.lt q) e) (Nat.lt_irrefl _)
theorem HOk.kept (x : HOk P w H h) (k : ∀ b u, h.get? b = some u → h'.get? b = some u) : HOk P w H h' := fun a o e =>
  (x a o e).stay (fun b u _ q => k b u q) (fun _ q => q) fun _ _ q => q
theorem HOk.laid (x : HOk P w H h) (k : ∀ b u, h.get? b = some u → h'.get? b = some u) (hp : h.objs.size ≤ a) (new : ObjOk P w (upd H a o) h' a o) : HOk P w (upd H a o) h' := fun b u e => by
  have hn := x.fresh hp
  by_cases hb : b = a
  · subst hb; rw [upd_same] at e; cases e; exact new
  · rw [upd_ne hb] at e
    exact (x b u e).stay (fun c v _ q => k c v q) (fun c q => by rw [upd_ne (ne_of_none q hn)]; exact q) fun c xs q => by rw [upd_ne (ne_of_none q hn)]; exact q
end
noncomputable def Rd (H : Hp) (a : Addr) (u : HO) : Prop := H a = some u ∨ ∃ o, H a = some (.frz o u)
theorem Rd.ok {P : Program} {w : World} {H : Hp} {h : Heap} {a : Addr} {u : HO} (r : Rd H a u) (x : HOk P w H h) : ObjOk P w H h a u := by
  rcases r with r | ⟨o, r⟩
  · exact x a u r
  · obtain ⟨_, q⟩ := x a _ r
    exact q
noncomputable def Mut : Option HO → Prop
  | some (.lst _) => True
  | some (.dK _) => True
  | some (.dT _) => True
  | some (.set _ _) => True
  | some (.ins _ _ _) => True
  | some (.ext _) => True
  | _ => False
section
variable {P : Program} {w : World} {H : Hp} {h h' : Heap} {x e : Addr} {o' : HO}
theorem HOk.write (ok : HOk P w H h) (mu : Mut (H x)) (he : e = x ∨ H e = some (.own x)) (k : ∀ b u, b ≠ e → h.get? b = some u → h'.get? b = some u) (heo : ∃ u, h'.get? e = some u)
    (new : ObjOk P w (upd H x o') h' x o') : HOk P w (upd H x o') h' := fun b u q => by
  have nown : ∀ c y, H c = some (.own y) → c ≠ x := fun c y r z => by subst z; rw [r] at mu; exact mu
  have ntup : ∀ c xs, H c = some (.tup xs) → c ≠ x := fun c xs r z => by subst z; rw [r] at mu; exact mu
  by_cases hb : b = x
  · subst hb; rw [upd_same] at q; cases q; exact new
  · rw [upd_ne hb] at q
    by_cases hbe : b = e
    · have q' : H b = some (.own x) := by
        rcases he with z | z
        · exact absurd (hbe.trans z) hb
        · rw [hbe]; exact z
      rw [q] at q'; cases q'
      obtain ⟨v, hv⟩ := heo
      exact ⟨v, by rw [hbe]; exact hv⟩
    · refine (ok b u q).stay (fun c v hc r => k c v ?_ r) (fun c r => by rw [upd_ne (nown c b r)]; exact r) fun c xs r => by rw [upd_ne (ntup c xs r)]; exact r
      rcases hc with rfl | hc
      · exact hbe
      · rintro rfl
        rcases he with z | z
        · exact nown c b hc z
        · rw [hc] at z; cases z; exact hb rfl
end
structure Un (fs ex : List Addr) (H H' : Hp) (h h' : Heap) : Prop where
  keep : ∀ b o, h.get? b = some o → H b = none → b ∉ fs → b ∉ ex → h'.get? b = some o
  slot : ∀ b o, h.get? b = some o → H b = none → b ∈ fs → b ∉ ex → ∃ sl, h'.get? b = some { o with slots := sl }
  free : ∀ b o, h.get? b = some o → H b = none → b ∉ ex → H' b = none
  there : ∀ b o, h.get? b = some o → b ∉ ex → ∃ o', h'.get? b = some o'
  tups : ∀ b xs, H b = some (.tup xs) → H' b = some (.tup xs)
  frzs : ∀ b o u, H b = some (.frz o u) → H' b = some (.frz o u)
  tbls : ∀ b ps, H b = some (.tbl ps) → ∃ more, H' b = some (.tbl (ps ++ more))
section
variable {fs fs' ex ex' : List Addr} {H H1 H2 : Hp} {h h1 h2 h' : Heap} {a x e : Addr} {o : HO}
theorem Un.any (u : Un fs ex H H1 h h1) {b : Addr} {ob : Obj} (q : h.get? b = some ob) (n : H b = none) (hx : b ∉ ex) : ∃ sl, h1.get? b = some { ob with slots := sl } := by
  by_cases hb : b ∈ fs
  · exact u.slot b ob q n hb hx
  · exact ⟨ob.slots, u.keep b ob q n hb hx⟩
theorem Un.kept (k : ∀ b u, h.get? b = some u → h'.get? b = some u) : Un fs ex H H h h' :=
  ⟨fun b ob q _ _ _ => k b ob q, fun b ob q _ _ _ => ⟨ob.slots, k b ob q⟩, fun _ _ _ n _ => n, fun b ob q _ => ⟨ob, k b ob q⟩, fun _ _ q => q, fun _ _ _ q => q, fun _ ps q => ⟨#[], by rw [q]; simp⟩⟩
theorem Un.refl : Un fs ex H H h h := Un.kept fun _ _ q => q
theorem Un.laid (k : ∀ b u, h.get? b = some u → h'.get? b = some u) (hp : h.objs.size ≤ a) (hn : H a = none) : Un fs ex H (upd H a o) h h' where
  keep := fun b u q _ _ _ => k b u q
  slot := fun b u q _ _ _ => ⟨u.slots, k b u q⟩
  free := fun b u q n _ => by rw [upd_ne (Nat.ne_of_lt (Nat.lt_of_lt_of_le (Heap.lt_size q) hp))]; exact n
  there := fun b u q _ => ⟨u, k b u q⟩
  tups := fun b xs q => by rw [upd_ne (ne_of_none q hn)]; exact q
  frzs := fun b u xs q => by rw [upd_ne (ne_of_none q hn)]; exact q
  tbls := fun b ps q => ⟨#[], by rw [upd_ne (ne_of_none q hn), q]; simp⟩
theorem Un.write (mu : Mut (H x)) (he : e = x ∨ H e = some (.own x)) (k : ∀ b u, b ≠ e → h.get? b = some u → h'.get? b = some u) (heo : ∃ u, h'.get? e = some u) : Un fs ex H (upd H x o) h h' := by
  have hx : ∀ b, H b = none → b ≠ x := fun b n z => by subst z; rw [n] at mu; exact mu
  have hb : ∀ b, H b = none → b ≠ e := fun b n z => by
    subst z
    rcases he with r | r
    · exact hx b n r
    · rw [n] at r; cases r
  have hm : ∀ b u, H b = some u → ¬ Mut (some u) → b ≠ x := fun b u q nm z => by subst z; rw [q] at mu; exact nm mu
  refine ⟨fun b u q n _ _ => k b u (hb b n) q, fun b u q n _ _ => ⟨u.slots, k b u (hb b n) q⟩, fun b u q n _ => by rw [upd_ne (hx b n)]; exact n, fun b u q _ => ?_,
    fun b xs q => by rw [upd_ne (hm b _ q fun z => z)]; exact q, fun b u xs q => by rw [upd_ne (hm b _ q fun z => z)]; exact q, fun b ps q => ⟨#[], by rw [upd_ne (hm b _ q fun z => z), q]; simp⟩⟩
  by_cases hbe : b = e
  · subst hbe; exact heo
  · exact ⟨u, k b u hbe q⟩
end
noncomputable def trk (h : Heap) (H : Hp) : List Addr := (List.range h.objs.size).filter fun a => (H a).isSome
noncomputable def hidT (h : Heap) (H : Hp) : Heap := PySem.W.hideAll h (trk h H)
theorem hidT_size (h : Heap) (H : Hp) : (hidT h H).objs.size = h.objs.size := PySem.W.hideAll_size _ _
theorem hidT_get {h : Heap} {H : Hp} {b : Addr} {o : Obj} (e : h.get? b = some o) (n : H b = none) : (hidT h H).get? b = some o :=
  PySem.W.hideAll_get _ e fun hm => by
    have q : (H b).isSome = true := (List.mem_filter.mp hm).2
    rw [n] at q; simp at q
theorem of_hidT {h : Heap} {H : Hp} {b : Addr} {o : Obj} (e : (hidT h H).get? b = some o) : h.get? b = some o ∧ H b = none := by
  have e' : h.get? b = some o := PySem.W.of_hideAll (trk h H) e
  refine ⟨e', ?_⟩
  cases q : H b with
  | none => rfl
  | some x =>
    have hm : b ∈ trk h H := List.mem_filter.mpr ⟨List.mem_range.mpr (Heap.lt_size e'), by simp [q]⟩
    have z : (hidT h H).get? b = none := PySem.W.hideAll_none (trk h H) hm
    rw [z] at e; cases e
end L2
namespace L2
open PySem PySem.Spec PyProof.Rows
structure Mod (K : PySem.W.Frag) (mg : Str → Option Value) (base : Heap) : Prop where
  kin : K.In base
  glob : base.Ns mainGlobals mg
  blt : ∃ mb, base.Ns builtinsNs mb ∧ ∀ x : Str, x ≠ "__name__" → mb x = bootBuiltins x
  nolimit : base.NoLimit
structure Cx where
  prog : Program
  w : World
  K : PySem.W.Frag
  mg : Str → Option Value
  base : Heap
  A : Around
  N : List Str
  s₀ : Shared
  H₀ : Hp
  env : Env
  outer : List Env
  stack : List Env
  ex : List Addr
  fn : Str → Bool
  calm : Bool
  pn : List (Addr × Obj)
  xe : Value → Shared → Prop
noncomputable def frs (l : List Env) : List Addr := l.filterMap (·.frame)
noncomputable abbrev Cx.fs (X : Cx) : List Addr := frs X.outer
noncomputable def Vis (sc : Scope) (x : Str) : Prop := sc.names.lookup x = some .local ∨ sc.names.lookup x = some .cell ∨ sc.names.lookup x = some .free
noncomputable def Loc (sc : Scope) (x : Str) : Prop := sc.names.lookup x = some .local ∨ sc.names.lookup x = some .cell
noncomputable def Look (env : Env) (h : Heap) (m : Str → Option Value) (x : Str) (u : Value) : Prop :=
  (env.kindOf x = some .local ∧ m x = some u) ∨ ((env.kindOf x = some .cell ∨ env.kindOf x = some .free) ∧ ∃ c, env.cells.lookup x = some c ∧ h.IsCell c (some u))
structure Cx.Ok (X : Cx) : Prop where
  mod : Mod X.K X.mg X.base
  kind : X.env.scope.kind = .function
  glob : X.env.globals = mainGlobals
  blt : X.env.builtins = builtinsNs
  above : X.s₀.heap.objs.size ≤ X.env.locals
  inj : ∀ x y c, X.env.cells.lookup x = some c → X.env.cells.lookup y = some c → x = y
  has : ∀ x, (X.env.kindOf x = some .cell ∨ X.env.kindOf x = some .free) → ∃ c, X.env.cells.lookup x = some c
  cab : ∀ x c, X.fn x = true → X.env.cells.lookup x = some c → X.s₀.heap.objs.size ≤ c
  hd : X.calm = true → X.A.handled = none
  frames : X.A.frames = some X.stack
  stk : X.stack = X.outer ∨ (X.stack = X.env :: X.outer ∧ X.env.frame = some X.env.locals)
  exf : ∀ b ∈ X.ex, b ≠ X.env.locals ∧ ∀ x c, X.env.cells.lookup x = some c → c ≠ b
  bs : ∀ b o, X.base.get? b = some o → X.s₀.heap.get? b = some o ∧ X.H₀ b = none
  bsz : X.base.objs.size ≤ X.s₀.heap.objs.size
  noex : ∀ b o, X.base.get? b = some o → b ∉ X.ex
  exfs : ∀ b ∈ X.ex, b ∉ X.fs
  funs : X.s₀.heap.FunFrames X.base X.outer
  frf : ∀ b ∈ X.fs, X.H₀ b = none
structure Inv (X : Cx) (pins : List (Addr × Obj)) (σ : List (Option V)) (H : Hp) (s : Shared) : Prop where
  ok : X.Ok
  os : s.os = X.s₀.os
  bare : AllBare s.gens
  base : Un X.fs X.ex X.H₀ H X.s₀.heap s.heap
  loc : ∃ m, s.heap.Ns X.env.locals m ∧ ∀ (i : Nat) (x : Str) (v : V), X.N[i]? = some x → σ[i]? = some (some v) → Vis X.env.scope x → ∃ u, RelV v u ∧ Look X.env s.heap m x u
  cell : ∀ x c, X.env.cells.lookup x = some c → ∃ v, s.heap.IsCell c v
  free : H X.env.locals = none
  freeC : ∀ x c, X.env.cells.lookup x = some c → H c = none
  pin : ∀ p ∈ X.pn ++ pins, s.heap.get? p.1 = some p.2 ∧ H p.1 = none ∧ p.1 ≠ X.env.locals ∧ p.1 ∉ X.fs ∧ ∀ v, p.2.data ≠ .cell v
  hok : HOk X.prog X.w H s.heap
  len : σ.length = X.N.length
section
variable {X : Cx} {pins : List (Addr × Obj)} {σ : List (Option V)} {H H' : Hp} {s : Shared} {h' : Heap}
theorem Cx.Ok.nofr (ok : X.Ok) {b : Addr} {o : Obj} (e : X.base.get? b = some o) : b ∉ X.fs := fun hb => by
  have := (ok.funs.mem hb).1
  rw [e] at this; cases this
theorem Inv.bs (I : Inv X pins σ H s) : ∀ b o, X.base.get? b = some o → s.heap.get? b = some o ∧ H b = none := fun b o e =>
  ⟨I.base.keep b o (I.ok.bs b o e).1 (I.ok.bs b o e).2 (I.ok.nofr e) (I.ok.noex b o e), I.base.free b o (I.ok.bs b o e).1 (I.ok.bs b o e).2 (I.ok.noex b o e)⟩
theorem Inv.bk (I : Inv X pins σ H s) : ∀ b o, X.base.get? b = some o → s.heap.get? b = some o := fun b o e => (I.bs b o e).1
theorem Inv.mod (I : Inv X pins σ H s) : Mod X.K X.mg X.base := I.ok.mod
theorem Inv.kIn (I : Inv X pins σ H s) : X.K.In s.heap := I.ok.mod.kin.keeps I.bk
theorem Inv.lt (I : Inv X pins σ H s) : X.env.locals < s.heap.objs.size := let ⟨_, hn, _⟩ := I.loc; hn.lt
theorem Inv.sz (I : Inv X pins σ H s) : X.s₀.heap.objs.size ≤ s.heap.objs.size := Nat.le_trans I.ok.above (Nat.le_of_lt I.lt)
theorem Inv.nofs (I : Inv X pins σ H s) {a : Addr} (h : s.heap.objs.size ≤ a) : a ∉ X.fs := fun hb => by
  obtain ⟨_, o, ho, _⟩ := I.ok.funs.mem hb
  exact absurd (Nat.lt_of_lt_of_le (Heap.lt_size ho) (Nat.le_trans I.sz h)) (Nat.lt_irrefl _)
theorem Inv.cne (I : Inv X pins σ H s) : ∀ x c, X.env.cells.lookup x = some c → c ≠ X.env.locals := fun x c e z => by
  obtain ⟨v, o, ho, hd⟩ := I.cell x c e
  obtain ⟨m, ⟨o', es, ep, ho', hd', _⟩, _⟩ := I.loc
  rw [z, ho'] at ho; cases ho; rw [hd'] at hd; cases hd
theorem Inv.funs (I : Inv X pins σ H s) : s.heap.FunFrames X.base X.outer := by
  have all : ∀ (l : List Env), (∀ b ∈ frs l, b ∈ X.fs) → X.s₀.heap.FunFrames X.base l → s.heap.FunFrames X.base l := by
    intro l
    induction l with
    | nil => intro _ _; trivial
    | cons env r ih =>
      intro hs hl
      obtain ⟨hk, ⟨L, o, hf, hn, ho, hd⟩, hr⟩ := hl
      have hL : L ∈ X.fs := hs L (by unfold frs; rw [List.filterMap_cons, hf]; exact List.mem_cons_self)
      obtain ⟨sl, e⟩ := I.base.slot L o ho (I.ok.frf L hL) hL fun z => I.ok.exfs L z hL
      exact ⟨hk, ⟨L, _, hf, hn, e, hd⟩, ih (fun b hb => hs b (by unfold frs; rw [List.filterMap_cons, hf]; exact List.mem_cons_of_mem _ hb)) hr⟩
  exact all X.outer (fun _ hb => hb) I.ok.funs
theorem Inv.stack (I : Inv X pins σ H s) : s.heap.FunFrames X.base X.stack := by
  rcases I.ok.stk with e | ⟨e, hf⟩
  · rw [e]; exact I.funs
  · rw [e]
    obtain ⟨m, hn, _⟩ := I.loc
    refine .cons (by rw [I.ok.kind]; decide) hf hn ?_ I.funs
    exact Heap.get?_none_of_le (Nat.le_trans I.ok.bsz I.ok.above)
theorem Inv.stkSub (I : Inv X pins σ H s) : ∀ b ∈ frs X.stack, b ∈ X.env.locals :: X.fs := fun b hb => by
  rcases I.ok.stk with e | ⟨e, hf⟩
  · rw [e] at hb; exact List.mem_cons_of_mem _ hb
  · rw [e] at hb
    unfold frs at hb
    rw [List.filterMap_cons, hf] at hb
    exact hb
theorem Inv.stkFree (I : Inv X pins σ H s) : ∀ b ∈ frs X.stack, H b = none := fun b hb => by
  rcases List.mem_cons.mp (I.stkSub b hb) with e | hb
  · rw [e]; exact I.free
  · obtain ⟨_, o, ho, _⟩ := I.ok.funs.mem hb
    exact I.base.free b o ho (I.ok.frf b hb) fun z => I.ok.exfs b z hb
theorem Inv.step {g' : Array GenState} {t' : Nat} {d' : Drawn} {ch : List Addr} (I : Inv X pins σ H s)
    (hch : ∀ b ∈ ch, (b ∈ X.ex ∨ X.s₀.heap.objs.size ≤ b) ∧ b ≠ X.env.locals ∧ (∀ x c, X.env.cells.lookup x = some c → c ≠ b) ∧ ∀ p ∈ X.pn ++ pins, p.1 ≠ b)
    (keep : ∀ b o, b ≠ X.env.locals → b ∉ X.fs → b ∉ ch → s.heap.get? b = some o → H b = none → h'.get? b = some o)
    (slot : ∀ b o, b ≠ X.env.locals → b ∈ X.fs → b ∉ ch → s.heap.get? b = some o → H b = none → ∃ sl, h'.get? b = some { o with slots := sl }) (free : ∀ b o, b ∉ ch → s.heap.get? b = some o → H b = none → H' b = none)
    (there : ∀ b o, b ∉ ch → s.heap.get? b = some o → ∃ o', h'.get? b = some o')
    (tups : ∀ b xs, H b = some (.tup xs) → H' b = some (.tup xs)) (frzs : ∀ b o u, H b = some (.frz o u) → H' b = some (.frz o u)) (tbls : ∀ b ps, H b = some (.tbl ps) → ∃ more, H' b = some (.tbl (ps ++ more)))
    (ns : ∀ m, s.heap.Ns X.env.locals m → h'.Ns X.env.locals m) (hok : HOk X.prog X.w H' h') (hg : AllBare g') :
    Inv X pins σ H' { s with heap := h', gens := g', drawn := d', toks := t' } := by
  have neL : ∀ b o, X.s₀.heap.get? b = some o → b ≠ X.env.locals := fun b o e => Nat.ne_of_lt (Nat.lt_of_lt_of_le (Heap.lt_size e) I.ok.above)
  have neC : ∀ b o, X.s₀.heap.get? b = some o → b ∉ X.ex → b ∉ ch := fun b o e hx hb => by
    rcases (hch b hb).1 with z | z
    · exact hx z
    · exact absurd (Nat.lt_of_lt_of_le (Heap.lt_size e) z) (Nat.lt_irrefl _)
  have cellK : ∀ x c, X.env.cells.lookup x = some c → ∀ v, s.heap.IsCell c v → h'.IsCell c v := fun x c e v ⟨o, ho, hd⟩ => by
    have nch : c ∉ ch := fun z => (hch c z).2.2.1 x c e rfl
    by_cases hc : c ∈ X.fs
    · obtain ⟨sl, q⟩ := slot c o (I.cne x c e) hc nch ho (I.freeC x c e)
      exact ⟨_, q, hd⟩
    · exact ⟨o, keep c o (I.cne x c e) hc nch ho (I.freeC x c e), hd⟩
  refine ⟨I.ok, I.os, hg, ⟨fun b o e n hb hx => ?_, fun b o e n hb hx => ?_, fun b o e n hx => ?_, fun b o e hx => ?_, fun b xs e => tups b xs (I.base.tups b xs e), fun b o xs e => frzs b o xs (I.base.frzs b o xs e), fun b ps e => ?_⟩, ?_, fun x c e => ?_, ?_, fun x c e => ?_, fun p hp => ?_, hok, I.len⟩
  · exact keep b o (neL b o e) hb (neC b o e hx) (I.base.keep b o e n hb hx) (I.base.free b o e n hx)
  · obtain ⟨sl, e1⟩ := I.base.slot b o e n hb hx
    obtain ⟨sl', e2⟩ := slot b _ (neL b o e) hb (neC b o e hx) e1 (I.base.free b o e n hx)
    exact ⟨sl', e2⟩
  · obtain ⟨o', e1⟩ := I.base.there b o e hx
    exact free b o' (neC b o e hx) e1 (I.base.free b o e n hx)
  · obtain ⟨o', e1⟩ := I.base.there b o e hx
    exact there b o' (neC b o e hx) e1
  · obtain ⟨m1, e1⟩ := I.base.tbls b ps e
    obtain ⟨m2, e2⟩ := tbls b _ e1
    exact ⟨m1 ++ m2, by rw [e2, Array.append_assoc]⟩
  · obtain ⟨m, hn, hl⟩ := I.loc
    refine ⟨m, ns m hn, fun i x v e1 e2 e3 => ?_⟩
    obtain ⟨u, r, l⟩ := hl i x v e1 e2 e3
    refine ⟨u, r, ?_⟩
    rcases l with l | ⟨k, c, e, z⟩
    · exact .inl l
    · exact .inr ⟨k, c, e, cellK x c e _ z⟩
  · obtain ⟨v, z⟩ := I.cell x c e
    exact ⟨v, cellK x c e v z⟩
  · obtain ⟨m, ⟨o, _, _, ho, _⟩, _⟩ := I.loc
    exact free _ o (fun z => (hch _ z).2.1 rfl) ho I.free
  · obtain ⟨v, o, ho, hd⟩ := I.cell x c e
    exact free c o (fun z => (hch c z).2.2.1 x c e rfl) ho (I.freeC x c e)
  · obtain ⟨e, n, ne, nf, d⟩ := I.pin p hp
    have nch : p.1 ∉ ch := fun z => (hch p.1 z).2.2.2 p hp rfl
    exact ⟨keep p.1 p.2 ne nf nch e n, free p.1 p.2 nch e n, ne, nf, d⟩
theorem Inv.un {t' : Nat} (I : Inv X pins σ H s) (u : Un X.fs [] H H' s.heap h') (hok : HOk X.prog X.w H' h') : Inv X pins σ H' { s with heap := h', toks := t' } := by
  obtain ⟨m, ⟨o, es, ep, ho, r⟩, _⟩ := id I.loc
  obtain ⟨sl, hL⟩ := u.any ho I.free (by simp)
  exact I.step (g' := s.gens) (d' := s.drawn) (ch := []) (fun _ z => nomatch z) (fun b o _ hb _ e n => u.keep b o e n hb (by simp)) (fun b o _ hb _ e n => u.slot b o e n hb (by simp)) (fun b o _ e n => u.free b o e n (by simp)) (fun b o _ e => u.there b o e (by simp)) u.tups u.frzs u.tbls (fun m' hm => by
    obtain ⟨o', es', ep', ho', r'⟩ := hm
    rw [ho] at ho'; cases ho'
    exact ⟨_, es', ep', hL, r'⟩) hok I.bare
theorem Inv.call {g' : Array GenState} {t' : Nat} {d' : Drawn} {ch : List Addr} (I : Inv X pins σ H s) (u : Un (frs X.stack) ch H H' s.heap h') (hok : HOk X.prog X.w H' h') (hg : AllBare g')
    (hch : ∀ b ∈ ch, (b ∈ X.ex ∨ X.s₀.heap.objs.size ≤ b) ∧ b ≠ X.env.locals ∧ (∀ x c, X.env.cells.lookup x = some c → c ≠ b) ∧ ∀ p ∈ X.pn ++ pins, p.1 ≠ b) :
    Inv X pins σ H' { s with heap := h', gens := g', drawn := d', toks := t' } := by
  obtain ⟨m, ⟨o, es, ep, ho, r⟩, _⟩ := id I.loc
  obtain ⟨sl, hL⟩ := u.any ho I.free fun z => (hch _ z).2.1 rfl
  exact I.step (ch := ch) hch (fun b o hL hb hc e n => u.keep b o e n (fun z => (List.mem_cons.mp (I.stkSub b z)).elim hL hb) hc) (fun b o _ _ hc e n => u.any e n hc) (fun b o hc e n => u.free b o e n hc) (fun b o hc e => u.there b o e hc) u.tups u.frzs u.tbls (fun m' hm => by
    obtain ⟨o', es', ep', ho', r'⟩ := hm
    rw [ho] at ho'; cases ho'
    exact ⟨_, es', ep', hL, r'⟩) hok hg
theorem Inv.turned {t' : Nat} {it : Addr} (I : Inv X pins σ H s) (k : ∀ b o, b ≠ it → s.heap.get? b = some o → h'.get? b = some o) (hn : H it = none) (hL : it ≠ X.env.locals)
    (h1 : it ∈ X.ex ∨ X.s₀.heap.objs.size ≤ it) (h2 : ∀ x c, X.env.cells.lookup x = some c → c ≠ it) (h3 : ∀ p ∈ X.pn ++ pins, p.1 ≠ it) : Inv X pins σ H { s with heap := h', toks := t' } := by
  have nit : ∀ b u, H b = some u → b ≠ it := fun b u e z => by rw [z, hn] at e; cases e
  refine I.step (g' := s.gens) (d' := s.drawn) (ch := [it]) (fun b hb => ?_) (fun b o _ _ hc e _ => k b o (fun z => hc (by simp [z])) e) (fun b o _ _ hc e _ => ⟨o.slots, k b o (fun z => hc (by simp [z])) e⟩) (fun _ _ _ _ n => n)
    (fun b o hc e => ⟨o, k b o (fun z => hc (by simp [z])) e⟩) (fun _ _ e => e) (fun _ _ _ e => e) (fun b ps e => ⟨#[], by rw [e]; simp⟩) (fun m hm => ?_) (fun b u e => ?_) I.bare
  · have e : b = it := by simpa using hb
    subst e
    exact ⟨h1, hL, h2, h3⟩
  · obtain ⟨o, es, ep, ho, r⟩ := hm
    exact ⟨o, es, ep, k _ o (Ne.symm hL) ho, r⟩
  · refine (I.hok b u e).stay (fun c v hc q => k c v ?_ q) (fun _ q => q) fun _ _ q => q
    rcases hc with z | z
    · rw [z]; exact nit b u e
    · exact nit c _ z
theorem Inv.tok (I : Inv X pins σ H s) (t : Nat) : Inv X pins σ H { s with toks := t } := I.un (h' := s.heap) (t' := t) Un.refl I.hok
theorem Inv.kept {t' : Nat} (I : Inv X pins σ H s) (k : ∀ b u, s.heap.get? b = some u → h'.get? b = some u) : Inv X pins σ H { s with heap := h', toks := t' } := I.un (Un.kept k) (I.hok.kept k)
theorem Inv.laid {a : Addr} {o : HO} {t' : Nat} (I : Inv X pins σ H s) (k : ∀ b u, s.heap.get? b = some u → h'.get? b = some u) (hp : s.heap.objs.size ≤ a) (new : ObjOk X.prog X.w (upd H a o) h' a o) :
    Inv X pins σ (upd H a o) { s with heap := h', toks := t' } := I.un (Un.laid k hp (I.hok.fresh hp)) (I.hok.laid k hp new)
theorem Inv.write {x e : Addr} {o : HO} {t' : Nat} (I : Inv X pins σ H s) (mu : Mut (H x)) (he : e = x ∨ H e = some (.own x)) (k : ∀ b u, b ≠ e → s.heap.get? b = some u → h'.get? b = some u) (heo : ∃ u, h'.get? e = some u)
    (new : ObjOk X.prog X.w (upd H x o) h' x o) : Inv X pins σ (upd H x o) { s with heap := h', toks := t' } := I.un (Un.write mu he k heo) (I.hok.write mu he k heo new)
theorem Inv.pins_of {pins' : List (Addr × Obj)} (I : Inv X pins σ H s) (h : ∀ p ∈ pins', s.heap.get? p.1 = some p.2 ∧ H p.1 = none ∧ p.1 ≠ X.env.locals ∧ p.1 ∉ X.fs ∧ ∀ v, p.2.data ≠ .cell v) : Inv X pins' σ H s :=
  ⟨I.ok, I.os, I.bare, I.base, I.loc, I.cell, I.free, I.freeC, fun p hp => (List.mem_append.mp hp).elim (fun z => I.pin p (List.mem_append_left _ z)) (h p), I.hok, I.len⟩
theorem nodup_ix {N : List Str} (hN : N.Nodup) {i j : Nat} {x : Str} (a : N[i]? = some x) (b : N[j]? = some x) : i = j := by
  obtain ⟨h1, e1⟩ := List.getElem?_eq_some_iff.mp a
  obtain ⟨h2, e2⟩ := List.getElem?_eq_some_iff.mp b
  exact (List.getElem_inj hN).mp (e1.trans e2.symm)
theorem store_ok2 {M : Model} {A : Around} {E : Value → Shared → Prop} {i : Nat} {x : Str} {v : V} {u : Value} {Q : Unit → Shared → Prop} (I : Inv X pins σ H s) (hN : X.N.Nodup) (hi : X.N[i]? = some x) (hx : Loc X.env.scope x) (r : RelV v u)
    (h : ∀ s', Inv X pins (σ.set i (some v)) H s' → (∃ a, Heap.SameBut a s.heap s'.heap ∧ (a = X.env.locals ∨ X.env.cells.lookup x = some a)) → Q () s') (hf : X.fn x = true ∨ X.env.scope.names.lookup x = some .local := by first | exact .inl rfl | exact .inr rfl | assumption) : wpAny M A (storeName X.env x u) Q E s := by
  obtain ⟨m, hn, hl⟩ := id I.loc
  have hcls : (X.env.scope.kind == .class || (X.env.scope.kind == .module && X.env.locals != X.env.globals)) = false := by rw [I.ok.kind]; rfl
  have hiσ : i < σ.length := by rw [I.len]; exact (List.getElem?_eq_some_iff.mp hi).1
  have cne := I.cne
  have tracked : ∀ {a : Addr} {h' : Heap}, (∃ o, s.heap.get? a = some o ∧ H a = none) → Heap.SameBut a s.heap h' → HOk X.prog X.w H h' := fun {a h'} ha hs b ob e => by
    obtain ⟨_, _, hfree⟩ := ha
    refine (I.hok b ob e).stay (fun c w' hc q => (hs.2 c ?_).trans q) (fun _ q => q) fun _ _ q => q
    rintro rfl
    rcases hc with rfl | hc
    · rw [hfree] at e; cases e
    · rw [hfree] at hc; cases hc
  rcases hx with hk | hk
  · refine wpAny_storeName_local hk hn (fun h' hn' hs => ?_) hcls
    obtain ⟨oL, _, _, hoL, _⟩ := id hn
    refine h _ ⟨I.ok, I.os, I.bare, ⟨fun b o e n hb hx => ?_, fun b o e n hb hx => ?_, I.base.free, fun b o e hx => ?_, I.base.tups, I.base.frzs, I.base.tbls⟩, ⟨_, hn', fun j y v' e1 e2 e3 => ?_⟩, fun y c e => ?_, I.free, I.freeC, fun p hp => ?_, tracked ⟨oL, hoL, I.free⟩ hs, by simpa using I.len⟩ ⟨_, hs, .inl rfl⟩
    · exact (hs.2 b (Nat.ne_of_lt (Nat.lt_of_lt_of_le (Heap.lt_size e) I.ok.above))).trans (I.base.keep b o e n hb hx)
    · obtain ⟨sl, e1⟩ := I.base.slot b o e n hb hx
      exact ⟨sl, (hs.2 b (Nat.ne_of_lt (Nat.lt_of_lt_of_le (Heap.lt_size e) I.ok.above))).trans e1⟩
    · obtain ⟨o', e1⟩ := I.base.there b o e hx
      exact ⟨o', (hs.2 b (Nat.ne_of_lt (Nat.lt_of_lt_of_le (Heap.lt_size e) I.ok.above))).trans e1⟩
    · by_cases hj : j = i
      · subst hj
        rw [hi] at e1; cases e1
        rw [List.getElem?_set_self hiσ] at e2
        cases e2
        exact ⟨u, r, .inl ⟨hk, by simp⟩⟩
      · rw [List.getElem?_set_ne (Ne.symm hj)] at e2
        obtain ⟨u', r', q⟩ := hl j y v' e1 e2 e3
        refine ⟨u', r', ?_⟩
        rcases q with ⟨k, e⟩ | ⟨k, c, e, z⟩
        · refine .inl ⟨k, ?_⟩
          have : y ≠ x := fun e => hj (nodup_ix hN e1 (e ▸ hi))
          simp [this, e]
        · exact .inr ⟨k, c, e, z.sameBut hs (cne y c e)⟩
    · obtain ⟨w', z⟩ := I.cell y c e
      exact ⟨w', z.sameBut hs (cne y c e)⟩
    · obtain ⟨e, n, ne, nf, d⟩ := I.pin p hp
      exact ⟨(hs.2 p.1 ne).trans e, n, ne, nf, d⟩
  · have hfn : X.fn x = true := by
      rcases hf with z | z
      · exact z
      · rw [z] at hk; cases hk
    obtain ⟨c, hc⟩ := I.ok.has x (.inl hk)
    obtain ⟨w', z⟩ := I.cell x c hc
    refine wpAny_storeName_cell I.ok.kind hk hc z (fun h' hc' hs => ?_)
    obtain ⟨oc, hoc, hocd⟩ := id z
    refine h { s with heap := h' } ⟨I.ok, I.os, I.bare, ⟨fun b o e n hb hx => ?_, fun b o e n hb hx => ?_, I.base.free, fun b o e hx => ?_, I.base.tups, I.base.frzs, I.base.tbls⟩, ⟨m, hn.sameBut hs (Ne.symm (cne x c hc)), fun j y v' e1 e2 e3 => ?_⟩, fun y c' e => ?_, I.free, I.freeC, fun p hp => ?_, tracked ⟨oc, hoc, I.freeC x c hc⟩ hs, by simpa using I.len⟩ ⟨c, hs, .inr hc⟩
    · exact (hs.2 b (Nat.ne_of_lt (Nat.lt_of_lt_of_le (Heap.lt_size e) (I.ok.cab x c hfn hc)))).trans (I.base.keep b o e n hb hx)
    · obtain ⟨sl, e1⟩ := I.base.slot b o e n hb hx
      exact ⟨sl, (hs.2 b (Nat.ne_of_lt (Nat.lt_of_lt_of_le (Heap.lt_size e) (I.ok.cab x c hfn hc)))).trans e1⟩
    · obtain ⟨o', e1⟩ := I.base.there b o e hx
      exact ⟨o', (hs.2 b (Nat.ne_of_lt (Nat.lt_of_lt_of_le (Heap.lt_size e) (I.ok.cab x c hfn hc)))).trans e1⟩
    · by_cases hj : j = i
      · subst hj
        rw [hi] at e1; cases e1
        rw [List.getElem?_set_self hiσ] at e2
        cases e2
        exact ⟨u, r, .inr ⟨.inl hk, c, hc, hc'⟩⟩
      · rw [List.getElem?_set_ne (Ne.symm hj)] at e2
        obtain ⟨u', r', q⟩ := hl j y v' e1 e2 e3
        refine ⟨u', r', ?_⟩
        rcases q with q | ⟨k, c', e, z'⟩
        · exact .inl q
        · refine .inr ⟨k, c', e, z'.sameBut hs ?_⟩
          rintro rfl
          exact hj (nodup_ix hN e1 (I.ok.inj _ _ _ e hc ▸ hi))
    · by_cases hcc : c' = c
      · subst hcc; exact ⟨_, hc'⟩
      · obtain ⟨w2, z2⟩ := I.cell y c' e
        exact ⟨w2, z2.sameBut hs hcc⟩
    · obtain ⟨e, n, ne, nf, d⟩ := I.pin p hp
      refine ⟨(hs.2 p.1 ?_).trans e, n, ne, nf, d⟩
      intro q
      rw [q, hoc] at e
      have q' : oc = p.2 := Option.some.inj e
      exact d w' (by rw [← q']; exact hocd)
theorem store_ok {M : Model} {A : Around} {E : Value → Shared → Prop} {i : Nat} {x : Str} {v : V} {u : Value} {Q : Unit → Shared → Prop} (I : Inv X pins σ H s) (hN : X.N.Nodup) (hi : X.N[i]? = some x) (hx : Loc X.env.scope x) (r : RelV v u)
    (h : ∀ s', Inv X pins (σ.set i (some v)) H s' → Q () s') (hf : X.fn x = true ∨ X.env.scope.names.lookup x = some .local := by first | exact .inl rfl | exact .inr rfl | assumption) : wpAny M A (storeName X.env x u) Q E s :=
  store_ok2 I hN hi hx r (fun s' I' _ => h s' I') hf
theorem Inv.call' {s' : Shared} {ch : List Addr} (I : Inv X pins σ H s) (ho : s'.os = s.os) (u : Un (frs X.stack) ch H H' s.heap s'.heap) (hok : HOk X.prog X.w H' s'.heap) (hg : AllBare s'.gens)
    (hch : ∀ b ∈ ch, (b ∈ X.ex ∨ X.s₀.heap.objs.size ≤ b) ∧ b ≠ X.env.locals ∧ (∀ x c, X.env.cells.lookup x = some c → c ≠ b) ∧ ∀ p ∈ X.pn ++ pins, p.1 ≠ b) : Inv X pins σ H' s' := by
  obtain ⟨h', g', d', t', o'⟩ := s'
  have e : o' = s.os := ho
  subst e
  exact I.call (g' := g') (t' := t') (d' := d') u hok hg hch
end
noncomputable abbrev XK := Value → Option Addr → Hp → Prop
noncomputable abbrev St := List (Option V)
noncomputable abbrev VK := V → Hp → Prop
noncomputable abbrev TE := St → Hp → VK → Prop
noncomputable abbrev TT := St → Hp → (Bool → Hp → Prop) → Prop
noncomputable abbrev TA := St → Hp → (List V → Hp → Prop) → Prop
structure Ends where
  nx : St → Hp → Prop
  rt : VK
  bk : St → Hp → Prop := fun _ _ => False
  ct : St → Hp → Prop := fun _ _ => False
noncomputable abbrev TS := Ends → St → Hp → Prop
noncomputable def EP (X : Cx) (pins : List (Addr × Obj)) (σ : St) (Q : VK) (u : Value) (s' : Shared) : Prop := ∃ v H', Inv X pins σ H' s' ∧ RelV v u ∧ Q v H'
noncomputable def TP (X : Cx) (pins : List (Addr × Obj)) (σ : St) (Q : Bool → Hp → Prop) (b : Bool) (s' : Shared) : Prop := ∃ H', Inv X pins σ H' s' ∧ Q b H'
noncomputable def AP (X : Cx) (pins : List (Addr × Obj)) (σ : St) (Q : List V → Hp → Prop) (us : List Value) (s' : Shared) : Prop := ∃ vs H', Inv X pins σ H' s' ∧ Vals vs us ∧ Q vs H'
noncomputable def SP (X : Cx) (pins : List (Addr × Obj)) (D : Ends) (f : Flow) (s' : Shared) : Prop :=
  match f with
  | .next => ∃ σ' H', Inv X pins σ' H' s' ∧ D.nx σ' H'
  | .brk => ∃ σ' H', Inv X pins σ' H' s' ∧ D.bk σ' H'
  | .cont => ∃ σ' H', Inv X pins σ' H' s' ∧ D.ct σ' H'
  | .ret u => ∃ v σ' H', Inv X pins σ' H' s' ∧ RelV v u ∧ D.rt v H'
noncomputable def PE (X : Cx) (e : Expr) (t : TE) : Prop :=
  ∀ (pins : List (Addr × Obj)) (s : Shared) (σ : St) (H : Hp) (Q : VK), Inv X pins σ H s → t σ H Q → wpAny (model X.prog X.w) X.A (eval e X.env) (EP X pins σ Q) X.xe s
noncomputable def PT (X : Cx) (e : Expr) (t : TT) : Prop :=
  ∀ (pins : List (Addr × Obj)) (s : Shared) (σ : St) (H : Hp) (Q : Bool → Hp → Prop), Inv X pins σ H s → t σ H Q → wpAny (model X.prog X.w) X.A (isTrue e X.env (eval e X.env)) (TP X pins σ Q) X.xe s
noncomputable def PW (X : Cx) (e : Expr) (t : TT) : Prop :=
  ∀ (whole : Sem Value) (pins : List (Addr × Obj)) (s : Shared) (σ : St) (H : Hp) (Q : Bool → Hp → Prop), Inv X pins σ H s → t σ H Q → wpAny (model X.prog X.w) X.A (isTrue e X.env whole) (TP X pins σ Q) X.xe s
theorem PW.pt {X : Cx} {e : Expr} {t : TT} (h : PW X e t) : PT X e t := h _
noncomputable def PA (X : Cx) (es : List Expr) (t : TA) : Prop :=
  ∀ (pos : Pos) (pins : List (Addr × Obj)) (s : Shared) (σ : St) (H : Hp) (Q : List V → Hp → Prop), Inv X pins σ H s → t σ H Q → wpAny (model X.prog X.w) X.A (spliced (backTo pos (starEach es X.env))) (AP X pins σ Q) X.xe s
noncomputable def PS (X : Cx) (st : Stmt) (t : TS) : Prop :=
  ∀ (pins : List (Addr × Obj)) (s : Shared) (σ : St) (H : Hp) (D : Ends), Inv X pins σ H s → t D σ H → wpAny (model X.prog X.w) X.A (exec st X.env) (SP X pins D) X.xe s
noncomputable def PSs (X : Cx) (st : List Stmt) (t : TS) : Prop :=
  ∀ (pins : List (Addr × Obj)) (s : Shared) (σ : St) (H : Hp) (D : Ends), Inv X pins σ H s → t D σ H → wpAny (model X.prog X.w) X.A (execs st X.env) (SP X pins D) X.xe s
theorem thn {α : Type} {t : Sem α} {Q Q' : α → Shared → Prop} {M : Model} {A : Around} {E : Value → Shared → Prop} {s : Shared} (h : wpAny M A t Q E s) (hQ : ∀ a s, Q a s → Q' a s) : wpAny M A t Q' E s := wpAny_mono h hQ fun _ _ x => x
end L2
namespace L2
open PySem PySem.Spec PyProof.Rows
section
variable {X : Cx}
noncomputable def tVar (i : Nat) : TE := fun σ H Q => ∃ v, σ[i]? = some (some v) ∧ Q v H
noncomputable def tC (v : V) : TE := fun _ H Q => Q v H
theorem pe_var {i : Nat} {x : Str} {pos : Pos} (hN : X.N[i]? = some x) (hv : Vis X.env.scope x) (hd : (x == ("__debug__" : Str)) = false := by decide) (hcd : (x == ("__classdict__" : Str)) = false := by decide) : PE X (.Name x pos) (tVar i) := by
  intro pins s σ H Q I h
  obtain ⟨v, e, h⟩ := h
  obtain ⟨m, hn, hl⟩ := I.loc
  obtain ⟨u, r, l⟩ := hl i x v hN e hv
  have fin : EP X pins σ Q u s := ⟨v, H, I, r, h⟩
  rcases l with ⟨hk, hm⟩ | ⟨hk, c, hc, hcell⟩
  · exact wpAny_Name (wpAny_loadName_local I.ok.kind hk hn hm fin) hd
  · rcases hk with hk | hk
    · exact wpAny_Name (wpAny_loadName_cell I.ok.kind hk hc hcell fin) hd
    · exact wpAny_Name (wpAny_loadName_free I.ok.kind hk hc hcell fin hcd) hd
theorem pe_int {i j pos} : PE X (.Constant (.int i) j pos) (tC (.int i)) := fun _ _ _ H _ I h => wpAny_Constant_int ⟨.int i, H, I.tok _, ⟨_, rfl⟩, h⟩
theorem pe_bl {b j pos} : PE X (.Constant (.bool b) j pos) (tC (.bl b)) := fun _ _ _ H _ I h => Constant_bool ⟨.bl b, H, I, rfl, h⟩
theorem pe_str {x j pos} : PE X (.Constant (.str x) j pos) (tC (.str x)) := fun _ _ _ H _ I h => Calls.Constant_str ⟨.str x, H, I.tok _, ⟨_, rfl⟩, h⟩
noncomputable def Gl (X : Cx) (x : Str) : Prop := X.env.kindOf x = some .globalImplicit
theorem ld_glob {E : Value → Shared → Prop} {pins : List (Addr × Obj)} {s : Shared} {σ : St} {H : Hp} {x : Str} {u : Value} {pos : Pos} {Q : Value → Shared → Prop} (I : Inv X pins σ H s) (hg : Gl X x) (hm : X.mg x = some u) (h : Q u s)
    (hd : (x == ("__debug__" : Str)) = false := by decide) : wpAny (model X.prog X.w) X.A (eval (.Name x pos) X.env) Q E s :=
  Calls.Name_function_global I.ok.kind hg (Calls.loadGlobal_global (by rw [I.ok.glob]; exact I.mod.glob.keeps I.bk) hm h) hd
theorem ld_blt {E : Value → Shared → Prop} {pins : List (Addr × Obj)} {s : Shared} {σ : St} {H : Hp} {x : Str} {u : Value} {pos : Pos} {Q : Value → Shared → Prop} (I : Inv X pins σ H s) (hg : Gl X x) (hm : X.mg x = none) (hv : bootBuiltins x = some u) (h : Q u s)
    (hn : x ≠ "__name__" := by decide) (hd : (x == ("__debug__" : Str)) = false := by decide) : wpAny (model X.prog X.w) X.A (eval (.Name x pos) X.env) Q E s := by
  obtain ⟨mb, h1, h2⟩ := I.mod.blt
  exact Calls.Name_function_global I.ok.kind hg (Calls.loadGlobal_builtin (by rw [I.ok.glob]; exact I.mod.glob.keeps I.bk) hm (by rw [I.ok.blt]; exact h1.keeps I.bk) ((h2 x hn).trans hv) h) hd
theorem pe_glob {x : Str} {v : V} {u : Value} {pos : Pos} (hg : Gl X x) (hm : X.mg x = some u) (r : RelV v u) (hd : (x == ("__debug__" : Str)) = false := by decide) : PE X (.Name x pos) (tC v) :=
  fun _ _ _ H _ I h => ld_glob I hg hm ⟨v, H, I, r, h⟩ hd
theorem pe_bltn {x : Str} {v : V} {u : Value} {pos : Pos} (hg : Gl X x) (hm : X.mg x = none) (hv : bootBuiltins x = some u) (r : RelV v u) (hn : x ≠ "__name__" := by decide) (hd : (x == ("__debug__" : Str)) = false := by decide) : PE X (.Name x pos) (tC v) :=
  fun _ _ _ H _ I h => ld_blt I hg hm hv ⟨v, H, I, r, h⟩ hn hd
variable {a b : Expr} {ta tb : TE} {pos : Pos}
noncomputable def tB (t : TE) : TT := fun σ H Q => t σ H fun x H1 => ∃ c, x = .bl c ∧ Q c H1
theorem pt_val {e : Expr} {t : TE} (h : PE X e t) (he : ∀ whole, isTrue e X.env whole = (do let v ← whole; standAt e.pos; holding [v] (truthy v)) := by intro _; rfl) : PT X e (tB t) := by
  intro pins s σ H Q I hw
  refine isTrue_plain (thn (h pins s σ H _ I hw) fun v s1 hq_ => ?_) (he _); obtain ⟨x, H1, I1, r1, q1⟩ := hq_
  obtain ⟨d, rfl, q⟩ := q1
  cases r1
  exact wpAny_truthy_bool ⟨H1, I1, q⟩
variable {tA tB' : TT} {rest : List Expr}
noncomputable def tAnd (t u : TT) : TT := fun σ H Q => t σ H fun c H1 => if c = true then u σ H1 Q else Q false H1
noncomputable def tOr (t u : TT) : TT := fun σ H Q => t σ H fun c H1 => if c = true then Q true H1 else u σ H1 Q
noncomputable def tNot (t : TT) : TT := fun σ H Q => t σ H fun c H1 => Q (!c) H1
theorem pw_and1 (ha : PT X a tA) : PW X (.BoolOp .And [a] pos) tA := by
  intro wh pins s σ H Q I h
  refine isTrue_and (thn (ha pins s σ H Q I h) fun c s1 e => ?_)
  cases c with
  | true => exact isTrue_and_nil e
  | false => exact e
theorem pw_or1 (ha : PT X a tA) : PW X (.BoolOp .Or [a] pos) tA := by
  intro wh pins s σ H Q I h
  refine isTrue_or (thn (ha pins s σ H Q I h) fun c s1 e => ?_)
  cases c with
  | false => exact isTrue_or_nil e
  | true => exact e
theorem pw_and (ha : PT X a tA) (hb : PW X (.BoolOp .And (b :: rest) pos) tB') : PW X (.BoolOp .And (a :: b :: rest) pos) (tAnd tA tB') := by
  intro wh pins s σ H Q I h
  refine isTrue_and (thn (ha pins s σ H _ I h) fun c s1 hq_ => ?_); obtain ⟨H1, I1, q1⟩ := hq_
  cases c with
  | true => exact hb wh pins s1 σ H1 Q I1 q1
  | false => exact ⟨H1, I1, q1⟩
theorem pw_or (ha : PT X a tA) (hb : PW X (.BoolOp .Or (b :: rest) pos) tB') : PW X (.BoolOp .Or (a :: b :: rest) pos) (tOr tA tB') := by
  intro wh pins s σ H Q I h
  refine isTrue_or (thn (ha pins s σ H _ I h) fun c s1 hq_ => ?_); obtain ⟨H1, I1, q1⟩ := hq_
  cases c with
  | true => exact ⟨H1, I1, q1⟩
  | false => exact hb wh pins s1 σ H1 Q I1 q1
theorem pt_not (ha : PT X a tA) : PT X (.UnaryOp .Not a pos) (tNot tA) := by
  intro pins s σ H Q I h
  exact isTrue_not (ha pins s σ H (fun c H1 => Q (!c) H1) I h)
noncomputable def tAndV (ta tb : TE) : TE := fun σ H Q => ta σ H fun x H1 => ∃ c, x = .bl c ∧ if c = true then tb σ H1 Q else Q (.bl false) H1
theorem pe_one {op} {t : TE} (h : PE X a t) : PE X (.BoolOp op [a] pos) t := fun pins s σ H Q I hw => BoolOp_one (h pins s σ H Q I hw)
theorem pe_and (ha : PE X a ta) (hb : PE X (.BoolOp .And (b :: rest) pos) tb) : PE X (.BoolOp .And (a :: b :: rest) pos) (tAndV ta tb) := by
  intro pins s σ H Q I h
  refine BoolOp_and (thn (ha pins s σ H _ I h) fun v s1 hq_ => ?_); obtain ⟨x, H1, I1, r1, q1⟩ := hq_
  obtain ⟨c, rfl, q1⟩ := q1
  cases r1
  refine wpAny_truthy_bool ?_
  cases c with
  | true => exact hb pins s1 σ H1 Q I1 q1
  | false => exact ⟨.bl false, H1, I1, rfl, q1⟩
end
end L2
namespace L2
open PySem PySem.Spec PyProof.Rows
noncomputable def SqL (K : PySem.W.Frag) (H : Hp) (a : Addr) (xs : List V) : Prop :=
  Rd H a (.lst xs) ∨
    ∃ (o : Obj) (its : Array Value) (n : Nat), K.lookup a = some o ∧ o.cls = .type "list" ∧ o.dict = none ∧ o.data = .seq its n ∧ its.size ≤ sizeLine ∧ Vals xs its.toList
noncomputable def SqT (K : PySem.W.Frag) (H : Hp) (a : Addr) (xs : List V) : Prop :=
  Rd H a (.tup xs) ∨
    ∃ (o : Obj) (its : Array Value) (n : Nat), K.lookup a = some o ∧ o.cls = .type "tuple" ∧ o.data = .seq its n ∧ its.size ≤ sizeLine ∧ Vals xs its.toList
noncomputable def absV : Value → Option V
  | .none => some .non
  | .bool b => some (.bl b)
  | .int i _ => some (.int i)
  | .str x _ => some (.str x)
  | .bytes b _ => some (.byt b)
  | .float b _ => some (.flt b)
  | .ref a => some (.ref a)
  | .type n => some (.ty n)
  | _ => none
theorem RelV.abs {x : V} {u : Value} (r : RelV x u) : absV u = some x := by
  cases x with
  | non => cases r; rfl
  | bl _ => cases r; rfl
  | int _ => obtain ⟨t, rfl⟩ := r; rfl
  | str _ => obtain ⟨t, rfl⟩ := r; rfl
  | byt _ => obtain ⟨t, rfl⟩ := r; rfl
  | flt _ => obtain ⟨t, rfl⟩ := r; rfl
  | ref _ => cases r; rfl
  | ty _ => cases r; rfl
theorem RelV.inj {x y : V} {u : Value} (r : RelV x u) (q : RelV y u) : x = y := Option.some.inj (r.abs.symm.trans q.abs)
theorem Vals.inj : ∀ {xs ys : List V} {us : List Value}, Vals xs us → Vals ys us → xs = ys
  | _, _, _, .nil, .nil => rfl
  | _, _, _, .cons r t, .cons r' t' => by rw [r.inj r', Vals.inj t t']
section
variable {X : Cx} {pins : List (Addr × Obj)} {σ : St} {H : Hp} {s : Shared} {a : Addr} {xs ys : List V}
theorem SqL.of {K : PySem.W.Frag} (h : H a = some (.lst xs)) : SqL K H a xs := .inl (.inl h)
theorem SqT.of {K : PySem.W.Frag} (h : H a = some (.tup xs)) : SqT K H a xs := .inl (.inl h)
theorem Inv.list (I : Inv X pins σ H s) (h : SqL X.K H a xs) : ∃ its : List Value, Vals xs its ∧ PlainL s.heap a its.toArray ∧ xs.length ≤ sizeLine := by
  rcases h with h | ⟨o, its, n, hk, hc, hd, hs, hz, r⟩
  · obtain ⟨z, its, n, r, e⟩ := h.ok I.hok
    exact ⟨its, r, ⟨_, n, e, rfl, rfl, rfl⟩, z⟩
  · refine ⟨its.toList, r, ⟨o, n, I.kIn a o hk, hc, hd, by simpa using hs⟩, ?_⟩
    have e := r.length
    simp only [Array.length_toList] at e
    exact om40 hz e
theorem Inv.tuple (I : Inv X pins σ H s) (h : SqT X.K H a xs) : ∃ its : List Value, Vals xs its ∧ IsTup s.heap a its.toArray ∧ xs.length ≤ sizeLine := by
  rcases h with h | ⟨o, its, n, hk, hc, hs, hz, r⟩
  · obtain ⟨z, its, r, p⟩ := h.ok I.hok
    exact ⟨its, r, p, z⟩
  · refine ⟨its.toList, r, ⟨o, I.kIn a o hk, hc, n, by simpa using hs⟩, ?_⟩
    have e := r.length
    simp only [Array.length_toList] at e
    exact om40 hz e
theorem Inv.list_inj (I : Inv X pins σ H s) (h : SqL X.K H a xs) (h' : SqL X.K H a ys) : xs = ys := by
  obtain ⟨its, r, ⟨o, n, e, _, _, d⟩, _⟩ := I.list h
  obtain ⟨its', r', ⟨o', n', e', _, _, d'⟩, _⟩ := I.list h'
  rw [e] at e'; cases e'
  rw [d] at d'
  injection d' with d1 _
  have : its = its' := by simpa using congrArg Array.toList d1
  subst this
  exact r.inj r'
theorem Inv.tuple_inj (I : Inv X pins σ H s) (h : SqT X.K H a xs) (h' : SqT X.K H a ys) : xs = ys := by
  obtain ⟨its, r, ⟨o, e, _, n, d⟩, _⟩ := I.tuple h
  obtain ⟨its', r', ⟨o', e', _, n', d'⟩, _⟩ := I.tuple h'
  rw [e] at e'; cases e'
  rw [d] at d'
  injection d' with d1 _
  have : its = its' := by simpa using congrArg Array.toList d1
  subst this
  exact r.inj r'
end
noncomputable abbrev Cx.wish (X : Cx) (E : Value → Shared → Prop) : Cx := { X with xe := E }
noncomputable abbrev Cx.nox (X : Cx) : Cx := X.wish fun _ _ => False
theorem Cx.Ok.wish {X : Cx} (ok : X.Ok) (E : Value → Shared → Prop) : (X.wish E).Ok :=
  ⟨ok.mod, ok.kind, ok.glob, ok.blt, ok.above, ok.inj, ok.has, ok.cab, ok.hd, ok.frames, ok.stk, ok.exf, ok.bs, ok.bsz, ok.noex, ok.exfs, ok.funs, ok.frf⟩
theorem Cx.Ok.unwish {X : Cx} {E : Value → Shared → Prop} (ok : (X.wish E).Ok) : X.Ok :=
  ⟨ok.mod, ok.kind, ok.glob, ok.blt, ok.above, ok.inj, ok.has, ok.cab, ok.hd, ok.frames, ok.stk, ok.exf, ok.bs, ok.bsz, ok.noex, ok.exfs, ok.funs, ok.frf⟩
section
variable {X : Cx} {pins : List (Addr × Obj)} {σ : St} {H : Hp} {s : Shared} {E : Value → Shared → Prop}
theorem Inv.wish (I : Inv X pins σ H s) (E : Value → Shared → Prop) : Inv (X.wish E) pins σ H s := ⟨I.ok.wish E, I.os, I.bare, I.base, I.loc, I.cell, I.free, I.freeC, I.pin, I.hok, I.len⟩
theorem Inv.unwish (I : Inv (X.wish E) pins σ H s) : Inv X pins σ H s := ⟨I.ok.unwish, I.os, I.bare, I.base, I.loc, I.cell, I.free, I.freeC, I.pin, I.hok, I.len⟩
theorem SP.unwish {D : Ends} {f : Flow} {s' : Shared} (h : SP (X.wish E) pins D f s') : SP X pins D f s' := by
  cases f with
  | next => obtain ⟨σ', H', I, q⟩ := h; exact ⟨σ', H', I.unwish, q⟩
  | brk => obtain ⟨σ', H', I, q⟩ := h; exact ⟨σ', H', I.unwish, q⟩
  | cont => obtain ⟨σ', H', I, q⟩ := h; exact ⟨σ', H', I.unwish, q⟩
  | ret u => obtain ⟨v, σ', H', I, r, q⟩ := h; exact ⟨v, σ', H', I.unwish, r, q⟩
theorem PSs.nox {st : List Stmt} {t : TS} (h : PSs X.nox st t) : PSs X st t := fun pins s σ H D I hw =>
  wpAny_mono (h pins s σ H D (I.wish _) hw) (fun _ _ q => q.unwish) fun _ _ z => False.elim z
end
section
variable {X : Cx} {st : Stmt} {rest : List Stmt} {t u : TS} {e : Expr} {te : TE} {pos : Pos}
noncomputable def tNext : TS := fun D σ H => D.nx σ H
noncomputable def tSeq (t u : TS) : TS := fun D σ H => t { D with nx := u D } σ H
theorem pss_nil : PSs X [] tNext := fun _ _ σ H _ I h => wpAny_execs_nil ⟨σ, H, I, h⟩
theorem pss_cons (h1 : PS X st t) (h2 : PSs X rest u) : PSs X (st :: rest) (tSeq t u) := by
  intro pins s σ H D I h
  refine wpAny_execs_cons (thn (h1 pins s σ H { D with nx := u D } I h) fun f s1 q => ?_)
  cases f with
  | next =>
    obtain ⟨σ', H', I', q⟩ := q
    exact h2 pins s1 σ' H' D I' q
  | ret v => exact q
  | brk => exact q
  | cont => exact q
theorem pss_one (h1 : PS X st t) : PSs X [st] t := by
  intro pins s σ H D I h
  refine wpAny_execs_cons (thn (h1 pins s σ H D I h) fun f s1 q => ?_)
  cases f with
  | next => exact wpAny_execs_nil q
  | ret v => exact q
  | brk => exact q
  | cont => exact q
theorem Inv.quiet {pins : List (Addr × Obj)} {σ : St} {H : Hp} {s : Shared} (I : Inv X pins σ H s) : interactive X.env = false := by simp [interactive, I.ok.kind]
noncomputable def tDrop (te : TE) : TS := fun D σ H => te σ H fun _ H1 => D.nx σ H1
theorem ps_expr (he : PE X e te) (hs : swapsWith e none pos.line X.env = pure false := by rfl) : PS X (.Expr e pos) (tDrop te) := by
  intro pins s σ H D I h
  exact wpAny_Expr_any (thn (he pins s σ H _ I h) fun v s1 ⟨x, H1, I1, r1, q1⟩ => ⟨σ, H1, I1, q1⟩) I.quiet hs
noncomputable def tRet (te : TE) : TS := fun D σ H => te σ H D.rt
theorem ps_ret (he : PE X e te) : PS X (.Return (some e) pos) (tRet te) := by
  intro pins s σ H D I h
  exact wpAny_Return_some (thn (he pins s σ H _ I h) fun v s1 ⟨x, H1, I1, r1, q1⟩ => ⟨x, σ, H1, I1, r1, q1⟩)
noncomputable def tIfS (c : TT) (t u : TS) : TS := fun D σ H => c σ H fun b H1 => if b = true then t D σ H1 else u D σ H1
theorem ps_if {c : Expr} {a b : List Stmt} {tc : TT} (hc : PT X c tc) (ha : PSs X a t) (hb : PSs X b u) : PS X (.If c a b pos) (tIfS tc t u) := by
  intro pins s σ H D I h
  refine wpAny_If (thn (hc pins s σ H _ I h) fun d s1 hq_ => ?_); obtain ⟨H1, I1, q1⟩ := hq_
  cases d with
  | true => exact ha pins s1 σ H1 D I1 q1
  | false => exact hb pins s1 σ H1 D I1 q1
end
noncomputable abbrev TG := V → St → Hp → (St → Hp → Prop) → Prop
noncomputable abbrev TGs := List V → St → Hp → (St → Hp → Prop) → Prop
noncomputable def PG (X : Cx) (target : Expr) (t : TG) : Prop :=
  ∀ (pins : List (Addr × Obj)) (s : Shared) (σ : St) (H : Hp) (v : V) (u : Value) (Q : St → Hp → Prop), Inv X pins σ H s → RelV v u → t v σ H Q →
    wpAny (model X.prog X.w) X.A (assign target X.env u) (fun _ s' => ∃ σ' H', Inv X pins σ' H' s' ∧ Q σ' H') X.xe s
noncomputable def PGs (X : Cx) (ts : List Expr) (t : TGs) : Prop :=
  ∀ (pins : List (Addr × Obj)) (s : Shared) (σ : St) (H : Hp) (vs : List V) (us : List Value) (Q : St → Hp → Prop), Inv X pins σ H s → Vals vs us → t vs σ H Q →
    wpAny (model X.prog X.w) X.A (assignInOrder ((assignEach ts X.env).map (·.2)) us) (fun _ s' => ∃ σ' H', Inv X pins σ' H' s' ∧ Q σ' H') X.xe s
noncomputable abbrev TSet := V → V → V → Hp → (Hp → Prop) → Prop
noncomputable def PSet (X : Cx) (t : TSet) : Prop :=
  ∀ (pins : List (Addr × Obj)) (s : Shared) (σ : St) (H : Hp) (o i v : V) (ov iv u : Value) (Q : Hp → Prop), Inv X pins σ H s → RelV o ov → RelV i iv → RelV v u → t o i v H Q →
    wpAny (model X.prog X.w) X.A (setItem ov iv u) (fun _ s' => ∃ H', Inv X pins σ H' s' ∧ Q H') X.xe s
noncomputable abbrev TIp := V → V → Hp → VK → Prop
noncomputable def PIp (X : Cx) (op : Operator) (t : TIp) : Prop :=
  ∀ (pins : List (Addr × Obj)) (s : Shared) (σ : St) (H : Hp) (x y : V) (v u : Value) (Q : VK), Inv X pins σ H s → RelV x v → RelV y u → t x y H Q →
    wpAny (model X.prog X.w) X.A (inplaceOp op v u) (EP X pins σ Q) X.xe s
section
variable {X : Cx} {pos : Pos}
noncomputable def gName (i : Nat) : TG := fun v σ H Q => Q (σ.set i (some v)) H
theorem pg_name {i : Nat} {x : Str} (hN : X.N.Nodup) (hi : X.N[i]? = some x) (hx : Loc X.env.scope x) (hf : X.fn x = true ∨ X.env.scope.names.lookup x = some .local := by first | exact .inl rfl | exact .inr rfl | assumption) : PG X (.Name x pos) (gName i) := by
  intro pins s σ H v u Q I r h
  exact wpAny_assign_Name (store_ok I hN hi hx r (fun s' I' => ⟨_, H, I', h⟩) hf)
noncomputable def gNil : TGs := fun vs σ H Q => vs = [] ∧ Q σ H
noncomputable def gCons (t : TG) (u : TGs) : TGs := fun vs σ H Q => ∃ v r, vs = v :: r ∧ t v σ H fun σ' H' => u r σ' H' Q
theorem pgs_nil : PGs X [] gNil := by
  intro pins s σ H vs us Q I r h
  obtain ⟨e, h⟩ := h
  subst e
  cases r
  exact assignInOrder_nil ⟨σ, H, I, h⟩
theorem pgs_cons {e : Expr} {es : List Expr} {t : TG} {u : TGs} (h1 : PG X e t) (h2 : PGs X es u)
    (hs : (assignEach (e :: es) X.env).map (·.2) = assign e X.env :: (assignEach es X.env).map (·.2) := by rfl) : PGs X (e :: es) (gCons t u) := by
  intro pins s σ H vs us Q I r h
  obtain ⟨v, vr, e1, h⟩ := h
  subst e1
  cases r with
  | cons r rr =>
    rw [hs]
    refine assignInOrder_cons (thn (h1 pins s σ H _ _ _ I r h) fun _ s1 hq_ => ?_); obtain ⟨σ1, H1, I1, q1⟩ := hq_
    exact h2 pins s1 σ1 H1 _ _ Q I1 rr q1
noncomputable def gTup (K : PySem.W.Frag) (n : Nat) (t : TGs) : TG := fun v σ H Q => ∃ a xs, v = .ref a ∧ SqT K H a xs ∧ xs.length = n ∧ t xs σ H Q
theorem pg_tup {es : List Expr} {k : Nat} {t : TGs} {n : Nat} (hc : X.calm = true) (h : PGs X es t)
    (hn : (assignEach es X.env).length = n := by rfl) (hst : (assignEach es X.env).findIdx? (·.1) = none := by rfl) : PG X (.Tuple es k pos) (gTup X.K n t) := by
  intro pins s σ H v u Q I r hw
  obtain ⟨a, xs, e1, hq, hl, hw⟩ := hw
  subst e1
  cases r
  obtain ⟨its, rv, ht, hz⟩ := I.tuple hq
  refine assign_Tuple_tuple (I.ok.hd hc) ht (by simp [hn, ← hl, rv.length]) hst fun h' hx => ?_
  have I1 : Inv X pins σ H { s with heap := h' } := I.kept (t' := s.toks) fun b o e => hx b o (Nat.ne_of_lt (Heap.lt_size e)) e
  exact h pins _ σ H xs _ Q I1 (by simpa using rv) hw
noncomputable def gSub (to ti : TE) (t : TSet) : TG := fun v σ H Q => to σ H fun o H1 => ti σ H1 fun i H2 => t o i v H2 fun H3 => Q σ H3
theorem pg_sub {o i : Expr} {to ti : TE} {t : TSet} (ho : PE X o to) (hi : PE X i ti) (hs : PSet X t)
    (ha : ∀ v, assign (.Subscript o i pos) X.env v = (do
      let ov ← holding [v] (eval o X.env)
      let iv ← holding [v, ov] (eval i X.env)
      standAt pos
      holding [v, ov, iv] (setItem ov iv v)
      release [v, ov, iv] []) := by intro _; rfl) : PG X (.Subscript o i pos) (gSub to ti t) := by
  intro pins s σ H v u Q I r h
  rw [ha]
  refine wpAny_bind (wpAny_holding (thn (ho pins s σ H _ I h) fun ov s1 hq_ => ?_)); obtain ⟨x, H1, I1, r1, q1⟩ := hq_
  refine wpAny_bind (wpAny_holding (thn (hi pins s1 σ H1 _ I1 q1) fun iv s2 hq_ => ?_)); obtain ⟨y, H2, I2, r2, q2⟩ := hq_
  refine wpAny_bind (wpAny_standAt (wpAny_bind (wpAny_holding (thn (hs pins s2 σ H2 x y v ov iv u _ I2 r1 r2 r q2) fun _ s3 hq_ => ?_)))); obtain ⟨H3, I3, q3⟩ := hq_
  exact wpAny_release ⟨σ, H3, I3, q3⟩
noncomputable def tAsg (te : TE) (g : TG) : TS := fun D σ H => te σ H fun x H1 => g x σ H1 D.nx
theorem ps_asg {tg e : Expr} {te : TE} {g : TG} (he : PE X e te) (hg : PG X tg g) (hs : swapsWithSole [tg] e pos.line X.env = pure false := by rfl) (hw : swappedStores [tg] e X.env = pure none := by rfl)
    (h1 : (assignEach [tg] X.env).map (·.2) = [assign tg X.env] := by rfl) : PS X (.Assign [tg] e pos) (tAsg te g) := by
  intro pins s σ H D I h
  refine wpAny_Assign_stores (thn (he pins s σ H _ I h) fun v s1 hq_ => ?_) hs hw; obtain ⟨x, H1, I1, r1, q1⟩ := hq_
  rw [h1]
  exact thn (hg pins s1 σ H1 x v _ I1 r1 q1) fun _ s2 q => q
theorem ps_set {i : Nat} {x : Str} {e : Expr} {te : TE} {pos' : Pos} (hN : X.N.Nodup) (hi : X.N[i]? = some x) (hx : Loc X.env.scope x) (he : PE X e te) (hs : swapsWith e (some (.Name x pos')) pos.line X.env = pure false := by rfl) (hf : X.fn x = true ∨ X.env.scope.names.lookup x = some .local := by first | exact .inl rfl | exact .inr rfl | assumption) :
    PS X (.Assign [.Name x pos'] e pos) (tAsg te (gName i)) := by
  intro pins s σ H D I h
  refine wpAny_Assign_Name (thn (he pins s σ H _ I h) fun v s1 hq_ => ?_) hs; obtain ⟨y, H1, I1, r1, q1⟩ := hq_
  exact store_ok I1 hN hi hx r1 (fun s2 I2 => ⟨_, H1, I2, q1⟩) hf
noncomputable def tAug (i : Nat) (te : TE) (ti : TIp) : TS := fun D σ H => ∃ x, σ[i]? = some (some x) ∧ te σ H fun y H1 => ti x y H1 fun z H2 => D.nx (σ.set i (some z)) H2
theorem ps_aug {i : Nat} {x : Str} {e : Expr} {te : TE} {op : Operator} {ti : TIp} {pos' : Pos} (hN : X.N.Nodup) (hi : X.N[i]? = some x) (hx : Loc X.env.scope x) (he : PE X e te) (ho : PIp X op ti) (hf : X.fn x = true ∨ X.env.scope.names.lookup x = some .local := by first | exact .inl rfl | exact .inr rfl | assumption) :
    PS X (.AugAssign (.Name x pos') op e pos) (tAug i te ti) := by
  intro pins s σ H D I h
  obtain ⟨v, e1, h⟩ := h
  obtain ⟨m, hn, hl⟩ := I.loc
  have vis : Vis X.env.scope x := by rcases hx with k | k; exact .inl k; exact .inr (.inl k)
  obtain ⟨u, r, l⟩ := hl i x v hi e1 vis
  refine wpAny_AugAssign_Name ?_
  have go : wpAny (model X.prog X.w) X.A (eval e X.env) (fun w s₂ => wpAny (model X.prog X.w) X.A (inplaceOp op u w) (fun r s₃ => wpAny (model X.prog X.w) X.A (storeName X.env x r) (fun _ => SP X pins D .next) X.xe s₃) X.xe s₂) X.xe s := by
    refine thn (he pins s σ H _ I h) fun w s1 hq_ => ?_; obtain ⟨y, H1, I1, r1, q1⟩ := hq_
    refine thn (ho pins s1 σ H1 v y u w _ I1 r r1 q1) fun z s2 hq_ => ?_; obtain ⟨zv, H2, I2, r2, q2⟩ := hq_
    exact store_ok I2 hN hi hx r2 (fun s3 I3 => ⟨_, H2, I3, q2⟩) hf
  rcases l with ⟨hk, hm⟩ | ⟨hk, c, hc, hcell⟩
  · exact wpAny_loadName_local I.ok.kind hk hn hm go
  · rcases hk with hk | hk
    · exact wpAny_loadName_cell I.ok.kind hk hc hcell go
    · rcases hx with k | k
      · have : X.env.scope.names.lookup x = some .free := hk
        rw [k] at this; cases this
      · have : X.env.scope.names.lookup x = some .free := hk
        rw [k] at this; cases this
noncomputable def ipI (f : Int → Int → Int) : TIp := fun x y H Q => ∃ i j, x = .int i ∧ y = .int j ∧ Q (.int (f i j)) H
theorem ip_add : PIp X .Add (ipI fun i j => i + j) := by
  intro pins s σ H x y v u Q I r1 r2 h
  obtain ⟨i, j, e1, e2, q⟩ := h
  subst e1; subst e2
  obtain ⟨t, rfl⟩ := r1
  obtain ⟨t', rfl⟩ := r2
  exact iadd_int ⟨.int _, H, I.tok _, ⟨_, rfl⟩, q⟩
end
section
variable {X : Cx} {pos : Pos}
noncomputable def tWhile (c : TT) (tb : TS) : TS := fun D σ H => ∃ W : Nat → St → Hp → Prop, (∃ m, W m σ H) ∧ ∀ m σ H, W m σ H →
  c σ H fun b H1 => if b = true then ∃ N : St → Hp → Prop, (∀ σ' H', N σ' H' → ∃ m', m' < m ∧ W m' σ' H') ∧ tb { D with nx := N, ct := N, bk := D.nx } σ H1 else D.nx σ H1
theorem ps_while {c : Expr} {body : List Stmt} {tc : TT} {tb : TS} (hp : PassesOwn (model X.prog X.w) X.A X.env X.xe) (hc : PT X c tc) (hb : PSs X body tb) : PS X (.While c body [] pos) (tWhile tc tb) := by
  intro pins s σ H D I h
  obtain ⟨W, ⟨m0, w0⟩, turn⟩ := h
  refine wpAny_While (codeAny_whileLoop (fun n s' => ∃ σ' H', Inv X pins σ' H' s' ∧ W n σ' H') ?_ m0 ⟨σ, H, I, w0⟩)
  rintro n s1 ⟨σ1, H1, I1, w1⟩
  refine wpAny_passesOwn hp (thn (hc pins s1 σ1 H1 _ I1 (turn n σ1 H1 w1)) fun b s2 hq_ => ?_); obtain ⟨H2, I2, q2⟩ := hq_
  cases b with
  | true =>
    obtain ⟨N, hN, q2⟩ := q2
    rw [if_pos rfl]
    refine wpAny_passesOwn hp (thn (hb pins s2 σ1 H2 _ I2 q2) fun f s3 q3 => ?_)
    cases f with
    | next =>
      obtain ⟨σ3, H3, I3, n3⟩ := q3
      obtain ⟨m', hm, w3⟩ := hN σ3 H3 n3
      exact ⟨m', hm, σ3, H3, I3, w3⟩
    | cont =>
      obtain ⟨σ3, H3, I3, n3⟩ := q3
      obtain ⟨m', hm, w3⟩ := hN σ3 H3 n3
      exact ⟨m', hm, σ3, H3, I3, w3⟩
    | brk => exact q3
    | ret v => exact q3
  | false =>
    rw [if_neg Bool.false_ne_true]
    exact wpAny_execs_nil ⟨σ1, H2, I2, q2⟩
end
structure It where
  go : Nat → Hp → Prop
  yld : Nat → Hp → V → Hp → Prop
  stop : Nat → Hp → Prop
noncomputable def FpOk (X : Cx) (pins : List (Addr × Obj)) (H : Hp) (b : Addr) : Prop :=
  H b = none ∧ b ≠ X.env.locals ∧ b ∉ X.fs ∧ (b ∈ X.ex ∨ X.s₀.heap.objs.size ≤ b) ∧ (∀ x c, X.env.cells.lookup x = some c → c ≠ b) ∧ ∀ p ∈ X.pn ++ pins, p.1 ≠ b
theorem Inv.fpOk {X : Cx} {pins : List (Addr × Obj)} {σ : St} {H H' : Hp} {s : Shared} {b : Addr} (I : Inv X pins σ H s) (hb : s.heap.objs.size ≤ b) (hn : H' b = none) : FpOk X pins H' b := by
  refine ⟨hn, Nat.ne_of_gt (Nat.lt_of_lt_of_le I.lt hb), I.nofs hb, .inr (Nat.le_trans I.sz hb), fun x c e z => ?_, fun p hp z => ?_⟩
  · obtain ⟨v, q⟩ := I.cell x c e
    exact absurd (Nat.lt_of_lt_of_le q.lt (by rw [z]; exact hb)) (Nat.lt_irrefl _)
  · exact absurd (Nat.lt_of_lt_of_le (Heap.lt_size (I.pin p hp).1) (by rw [z]; exact hb)) (Nat.lt_irrefl _)
structure Turn (P : Program) (w : World) (K : PySem.W.Frag) (tg : Expr) (J : It) (fp : List Addr) (it : Addr) (tn : Nat → Heap → Prop) : Prop where
  mem : it ∈ fp
  obj : ∀ i h, tn i h → ∀ b ∈ fp, ∃ o, h.get? b = some o ∧ ∀ v, o.data ≠ .cell v
  keep : ∀ i h h', tn i h → (∀ b ∈ fp, ∀ o, h.get? b = some o → h'.get? b = some o) → tn i h'
  item : ∀ (X : Cx), X.prog = P → X.w = w → X.K = K → X.calm = true → ∀ (i : Nat) (pins : List (Addr × Obj)) (s : Shared) (σ : St) (H : Hp) (E : Value → Shared → Prop), Inv X pins σ H s → (∀ b ∈ fp, FpOk X pins H b) → tn i s.heap → J.go i H →
    wpAny (model P w) X.A (pyNext (.ref it)) (fun r s1 => ∃ u, r = some u ∧
      wpAny (model P w) X.A (letOwnedTupleGo tg (.ref it) u) (fun _ s2 => ∃ x H', Inv X pins σ H' s2 ∧ RelV x u ∧ J.yld i H x H' ∧ tn (i + 1) s2.heap ∧ ∀ b ∈ fp, H' b = none) E s1) E s
  done : ∀ (X : Cx), X.prog = P → X.w = w → X.K = K → X.calm = true → ∀ (i : Nat) (pins : List (Addr × Obj)) (s : Shared) (σ : St) (H : Hp) (E : Value → Shared → Prop), Inv X pins σ H s → (∀ b ∈ fp, FpOk X pins H b) → tn i s.heap → J.stop i H →
    wpAny (model P w) X.A (pyNext (.ref it)) (fun r s1 => r = none ∧ Inv X pins σ H s1) E s
  self : ∀ (A : Around) (i : Nat) (s : Shared) (Q : Value → Shared → Prop) (E : Value → Shared → Prop), tn i s.heap → Q (.ref it) s → wpAny (model P w) A (pyIter (.ref it)) Q E s
noncomputable abbrev TI := St → Hp → (It → Hp → Prop) → Prop
noncomputable def PIE (X : Cx) (pins : List (Addr × Obj)) (σ : St) (tg : Expr) (R : It → Hp → Prop) (itv : Value) (s2 : Shared) : Prop :=
  ∃ (it : Addr) (fp : List Addr) (tn : Nat → Heap → Prop) (J : It) (H' : Hp), itv = .ref it ∧ Inv X pins σ H' s2 ∧ Turn X.prog X.w X.K tg J fp it tn ∧ tn 0 s2.heap ∧ (∀ b ∈ fp, FpOk X pins H' b) ∧ R J H'
noncomputable def PI (X : Cx) (tg iter : Expr) (wi : TI) : Prop :=
  ∀ (pins : List (Addr × Obj)) (s : Shared) (σ : St) (H : Hp) (R : It → Hp → Prop), Inv X pins σ H s → wi σ H R →
    wpAny (model X.prog X.w) X.A (eval iter X.env) (fun v s1 => wpAny (model X.prog X.w) X.A (pyIter v) (PIE X pins σ tg R) X.xe s1) X.xe s
theorem go_of {M : Model} {A : Around} {E : Value → Shared → Prop} {s : Shared} {tg : Expr} {it : Addr} {u : Value} {o : Obj} {n : String} {vs : Array Value} {Q : Unit → Shared → Prop} (ho : s.heap.get? it = some o) (hc : o.cls = .type n) (hd : o.data = .fields vs)
    (hn : ["enumerate", "zip", "dict_itemiterator", "dict_reverseitemiterator", "odict_iterator", "itertools.zip_longest", "itertools.pairwise"].contains n = false) (hQ : Q () s) : wpAny M A (letOwnedTupleGo tg (.ref it) u) Q E s := by
  unfold letOwnedTupleGo
  cases tg <;> first
    | exact wpAny_pure hQ
    | (cases u <;> first
        | exact wpAny_pure hQ
        | (refine wpAny_bind (wpAny_load ho ?_)
           rw [hc, hd]
           show wpAny M A (if (["enumerate", "zip", "dict_itemiterator", "dict_reverseitemiterator", "odict_iterator", "itertools.zip_longest", "itertools.pairwise"].contains n && vs[0]? == some (rawInt _)) = true then _ else _) Q E s
           rw [if_neg (by intro h; rw [hn, Bool.false_and] at h; cases h)]
           exact wpAny_pure hQ))
noncomputable def Itl (K : PySem.W.Frag) (a : Addr) : It :=
  ⟨fun i H => ∃ xs x, SqL K H a xs ∧ xs[i]? = some x, fun i H x H' => H' = H ∧ ∀ xs, SqL K H a xs → xs[i]? = some x, fun i H => ∃ xs, SqL K H a xs ∧ xs.length ≤ i⟩
noncomputable def Itt (K : PySem.W.Frag) (a : Addr) : It :=
  ⟨fun i H => ∃ xs x, SqT K H a xs ∧ xs[i]? = some x, fun i H x H' => H' = H ∧ ∀ xs, SqT K H a xs → xs[i]? = some x, fun i H => ∃ xs, SqT K H a xs ∧ xs.length ≤ i⟩
noncomputable def Itr (lo : Int) (n : Nat) : It := ⟨fun i _ => i < n, fun i H x H' => H' = H ∧ x = .int (lo + i), fun i _ => n ≤ i⟩
theorem turn_list {P : Program} {w : World} {K : PySem.W.Frag} {tg : Expr} (a it : Addr) : Turn P w K tg (Itl K a) [it] it (fun i h => h.IsListIter it a i) where
  mem := by simp
  obj := fun i h st b hb => by
    have e : b = it := by simpa using hb
    subst e
    obtain ⟨o, e, c, d⟩ := st
    exact ⟨o, e, fun v z => by rw [d] at z; cases z⟩
  keep := fun i h h' st k => st.at fun o e => k it (by simp) o e
  item := by
    intro X hP hw hK hc i pins s σ H E I hf st hg
    subst hP hw hK
    obtain ⟨xs, x, hq, hx⟩ := hg
    obtain ⟨its, rv, p, hz⟩ := I.list hq
    obtain ⟨u, hu, ru⟩ := rv.get hx
    obtain ⟨f0, f1, f2, f3, f4, f5⟩ := hf it (by simp)
    refine wpAny_pyNext_list_item st p.isList (x := u) (by simpa using hu) fun h' st' sb => ?_
    have I1 : Inv X pins σ H { s with heap := h' } := I.turned (t' := s.toks) (fun b o hb e => (sb.2 b hb).trans e) f0 f1 f3 f4 f5
    obtain ⟨o, e, c, d⟩ := id st'
    exact ⟨u, rfl, go_of (s := { s with heap := h' }) e c d (by decide) ⟨x, H, I1, ru, ⟨rfl, fun ys hy => by rw [I.list_inj hy hq]; exact hx⟩, st', fun b hb => (hf b hb).1⟩⟩
  done := by
    intro X hP hw hK hc i pins s σ H E I hf st hg
    subst hP hw hK
    obtain ⟨xs, hq, hx⟩ := hg
    obtain ⟨its, rv, p, hz⟩ := I.list hq
    obtain ⟨f0, f1, f2, f3, f4, f5⟩ := hf it (by simp)
    have hl := rv.length
    exact wpAny_pyNext_list_end (I.ok.hd hc) st p.isList (by simp; exact om1 hx hl) fun h' eb => ⟨rfl, I.turned (t' := s.toks) (fun b o hb e => eb b o hb e) f0 f1 f3 f4 f5⟩
  self := fun _ _ _ _ _ st h => wpAny_pyIter_listiter st h
theorem turn_tuple {P : Program} {w : World} {K : PySem.W.Frag} {tg : Expr} (a it : Addr) : Turn P w K tg (Itt K a) [it] it (fun i h => h.IsTupleIter it a i) where
  mem := by simp
  obj := fun i h st b hb => by
    have e : b = it := by simpa using hb
    subst e
    obtain ⟨o, e, c, d⟩ := st
    exact ⟨o, e, fun v z => by rw [d] at z; cases z⟩
  keep := fun i h h' st k => st.at fun o e => k it (by simp) o e
  item := by
    intro X hP hw hK hc i pins s σ H E I hf st hg
    subst hP hw hK
    obtain ⟨xs, x, hq, hx⟩ := hg
    obtain ⟨its, rv, p, hz⟩ := I.tuple hq
    obtain ⟨u, hu, ru⟩ := rv.get hx
    obtain ⟨f0, f1, f2, f3, f4, f5⟩ := hf it (by simp)
    refine wpAny_pyNext_tuple_item st (show s.heap.IsTuple a its.toArray from p) (x := u) (by simpa using hu) fun h' st' sb => ?_
    have I1 : Inv X pins σ H { s with heap := h' } := I.turned (t' := s.toks) (fun b o hb e => (sb.2 b hb).trans e) f0 f1 f3 f4 f5
    obtain ⟨o, e, c, d⟩ := id st'
    exact ⟨u, rfl, go_of (s := { s with heap := h' }) e c d (by decide) ⟨x, H, I1, ru, ⟨rfl, fun ys hy => by rw [I.tuple_inj hy hq]; exact hx⟩, st', fun b hb => (hf b hb).1⟩⟩
  done := by
    intro X hP hw hK hc i pins s σ H E I hf st hg
    subst hP hw hK
    obtain ⟨xs, hq, hx⟩ := hg
    obtain ⟨its, rv, p, hz⟩ := I.tuple hq
    obtain ⟨f0, f1, f2, f3, f4, f5⟩ := hf it (by simp)
    have hl := rv.length
    exact wpAny_pyNext_tuple_end (I.ok.hd hc) st (show s.heap.IsTuple a its.toArray from p) (by simp; exact om1 hx hl) fun h' eb => ⟨rfl, I.turned (t' := s.toks) (fun b o hb e => eb b o hb e) f0 f1 f3 f4 f5⟩
  self := fun _ _ _ _ _ st h => wpAny_pyIter_tupleiter st h
theorem turn_range {P : Program} {w : World} {K : PySem.W.Frag} {tg : Expr} (it : Addr) (lo : Int) (n : Nat) : Turn P w K tg (Itr lo n) [it] it (fun i h => IsRangeIter h it (lo + (i : Nat) * 1) ((n : Int) - (i : Nat)) 1) where
  mem := by simp
  obj := fun i h st b hb => by
    have e : b = it := by simpa using hb
    subst e
    exact ⟨_, st, fun v z => by
      have z' : Data.fields _ = Data.cell v := z
      cases z'⟩
  keep := fun i h h' st k => k it (by simp) _ st
  item := by
    intro X hP hw hK hc i pins s σ H E I hf st hg
    subst hP hw hK
    obtain ⟨f0, f1, f2, f3, f4, f5⟩ := hf it (by simp)
    have W := Walks.range (prog := X.prog) (w := X.w) (I.ok.hd hc) it lo 1 n
    refine W.item i s _ _ hg st fun v h' tk hv st' kk => ?_
    obtain ⟨t, rfl⟩ := hv
    have I1 : Inv X pins σ H { s with heap := h', toks := tk } := I.turned (fun b o hb e => kk b o (by simpa using hb) e) f0 f1 f3 f4 f5
    refine ⟨_, rfl, go_of (s := { s with heap := h', toks := tk }) (n := "range_iterator") st' rfl rfl (by decide) ⟨.int (lo + i), H, I1, ⟨t, ?_⟩, ⟨rfl, rfl⟩, st', fun b hb => (hf b hb).1⟩⟩
    rw [Int.mul_one]
  done := by
    intro X hP hw hK hc i pins s σ H E I hf st hg
    subst hP hw hK
    obtain ⟨f0, f1, f2, f3, f4, f5⟩ := hf it (by simp)
    exact wpAny_pyNext_range_end (I.ok.hd hc) st (by have : n ≤ i := hg; exact om92 this) fun h' eb => ⟨rfl, I.turned (t' := s.toks) (fun b o hb e => eb b o hb e) f0 f1 f3 f4 f5⟩
  self := fun _ _ _ _ _ st h => wpAny_pyIter_rangeiter st h
end L2
namespace L2
open PySem PySem.Spec PyProof.Rows
section
variable {X : Cx} {tg : Expr}
noncomputable def iList (K : PySem.W.Frag) (tl : TE) : TI := fun σ H R => tl σ H fun x H1 => ∃ a, x = .ref a ∧ (∃ xs, SqL K H1 a xs) ∧ R (Itl K a) H1
noncomputable def iTup (K : PySem.W.Frag) (tl : TE) : TI := fun σ H R => tl σ H fun x H1 => ∃ a, x = .ref a ∧ (∃ xs, SqT K H1 a xs) ∧ R (Itt K a) H1
theorem pi_list {l : Expr} {tl : TE} (hl : PE X l tl) : PI X tg l (iList X.K tl) := by
  intro pins s σ H R I h
  refine thn (hl pins s σ H _ I h) fun v s1 hq_ => ?_; obtain ⟨x, H1, I1, r1, q1⟩ := hq_
  obtain ⟨a, e, ⟨xs, hq⟩, q⟩ := q1
  subst e
  cases r1
  obtain ⟨its, rv, p, hz⟩ := I1.list hq
  refine wpAny_pyIter_list p.isList ?_
  refine ⟨s1.heap.objs.size, [s1.heap.objs.size], _, _, H1, rfl, I1.kept (t' := s1.toks) fun b o e => Heap.get?_push_of_some _ e, turn_list a _, ⟨_, Heap.get?_push_size _ rfl, rfl, rfl⟩, fun b hb => ?_, q⟩
  have e : b = s1.heap.objs.size := by simpa using hb
  subst e
  exact I1.fpOk (Nat.le_refl _) (I1.hok.fresh (Nat.le_refl _))
theorem pi_tup {l : Expr} {tl : TE} (hl : PE X l tl) : PI X tg l (iTup X.K tl) := by
  intro pins s σ H R I h
  refine thn (hl pins s σ H _ I h) fun v s1 hq_ => ?_; obtain ⟨x, H1, I1, r1, q1⟩ := hq_
  obtain ⟨a, e, ⟨xs, hq⟩, q⟩ := q1
  subst e
  cases r1
  obtain ⟨its, rv, p, hz⟩ := I1.tuple hq
  refine wpAny_pyIter_tuple (show s1.heap.IsTuple a its.toArray from p) ?_
  refine ⟨s1.heap.objs.size, [s1.heap.objs.size], _, _, H1, rfl, I1.kept (t' := s1.toks) fun b o e => Heap.get?_push_of_some _ e, turn_tuple a _, ⟨_, Heap.get?_push_size _ rfl, rfl, rfl⟩, fun b hb => ?_, q⟩
  have e : b = s1.heap.objs.size := by simpa using hb
  subst e
  exact I1.fpOk (Nat.le_refl _) (I1.hok.fresh (Nat.le_refl _))
theorem range_it {pins : List (Addr × Obj)} {σ : St} {H : Hp} {s : Shared} {R : It → Hp → Prop} {E : Value → Shared → Prop} {lo hi : Int} {t u v : Tok} {tk : Nat} (I : Inv X pins σ H s) (h1 : -(2 ^ 62) ≤ lo) (h2 : lo < 2 ^ 62) (h3 : -(2 ^ 62) ≤ hi) (h4 : hi < 2 ^ 62)
    (q : R (Itr lo (hi - lo).toNat) H) : wpAny (model X.prog X.w) X.A (pyIter (.ref s.heap.objs.size)) (PIE X pins σ tg R) E { s with heap := s.heap.push { cls := .type "range", data := .fields #[.int lo t, .int hi u, .int 1 v] }, toks := tk } := by
  refine wpAny_pyIter_range (IsRange.new ..) (small_one h1 h2 h3 h4) ?_
  have I1 : Inv X pins σ H { s with heap := s.heap.push { cls := .type "range", data := .fields #[.int lo t, .int hi u, .int 1 v] }, toks := tk } := I.kept fun b o e => Heap.get?_push_of_some _ e
  refine ⟨(s.heap.push { cls := .type "range", data := .fields #[.int lo t, .int hi u, .int 1 v] }).objs.size, [(s.heap.push { cls := .type "range", data := .fields #[.int lo t, .int hi u, .int 1 v] }).objs.size], _, _, H, rfl,
    I1.kept (t' := tk) fun b o e => Heap.get?_push_of_some _ e, turn_range _ lo (hi - lo).toNat, ?_, fun b hb => ?_, q⟩
  · have e1 : lo + ((0 : Nat) : Int) * 1 = lo := by simp
    have e2 : (((hi - lo).toNat : Nat) : Int) - ((0 : Nat) : Int) = Builtin.Range.rangeSize lo hi 1 := by rw [rangeSize_one]; split <;> omega
    show IsRangeIter _ _ (lo + ((0 : Nat) : Int) * 1) ((((hi - lo).toNat : Nat) : Int) - ((0 : Nat) : Int)) 1
    rw [e1, e2]
    exact Heap.get?_push_size _ rfl
  · have e : b = (s.heap.push { cls := .type "range", data := .fields #[.int lo t, .int hi u, .int 1 v] }).objs.size := by simpa using hb
    subst e
    exact I1.fpOk (Nat.le_refl _) (I1.hok.fresh (Nat.le_refl _))
noncomputable def iRng1 (ta : TA) : TI := fun σ H R => ta σ H fun vs H1 => ∃ j : Int, vs = [.int j] ∧ -(2 ^ 62) ≤ j ∧ j < 2 ^ 62 ∧ R (Itr 0 j.toNat) H1
theorem pi_range1 {a : Expr} {ta : TA} {p pos : Pos} (hg : Gl X "range") (hm : X.mg "range" = none) (ha : PA X [a] ta) (hs : starEach [a] X.env = [(false, eval a X.env)] := by rfl) : PI X tg (.Call (.Name "range" p) [a] [] pos) (iRng1 ta) := by
  intro pins s σ H R I h
  refine Call_ (ld_blt I hg hm boot_range (PyProof.Rows.callWith_type1 (thn (ha pos pins s σ H _ I h) fun us s1 hq_ => ?_) hs rfl)); obtain ⟨vs, H1, I1, r1, q1⟩ := hq_
  obtain ⟨j, e, q1, q2, q⟩ := q1
  subst e
  cases r1 with
  | cons r rr =>
    cases rr
    obtain ⟨t, rfl⟩ := r
    exact call_range_1 (range_it I1 (by omega) (by omega) q1 q2 (by simpa using q))
noncomputable def tFor (wi : TI) (g : TG) (tb : TS) : TS := fun D σ H => wi σ H fun J H1 => ∃ W : Nat → Nat → St → Hp → Prop, (∃ m, W 0 m σ H1) ∧ ∀ i m σ H, W i m σ H →
  (J.stop i H ∧ D.nx σ H) ∨ (J.go i H ∧ ∃ N : St → Hp → Prop, (∀ σ' H', N σ' H' → ∃ m', m' < m ∧ W (i + 1) m' σ' H') ∧ ∀ x H', J.yld i H x H' → g x σ H' fun σ2 H2 => tb { D with nx := N, ct := N, bk := D.nx } σ2 H2)
noncomputable def pinsAt (fp : List Addr) (h : Heap) : List (Addr × Obj) := fp.filterMap fun b => (h.get? b).map fun o => (b, o)
theorem mem_pinsAt {fp : List Addr} {h : Heap} {b : Addr} {o : Obj} (hb : b ∈ fp) (e : h.get? b = some o) : (b, o) ∈ pinsAt fp h := List.mem_filterMap.mpr ⟨b, hb, by rw [e]; rfl⟩
theorem of_pinsAt {fp : List Addr} {h : Heap} {p : Addr × Obj} (hp : p ∈ pinsAt fp h) : p.1 ∈ fp ∧ h.get? p.1 = some p.2 := by
  obtain ⟨b, hb, e⟩ := List.mem_filterMap.mp hp
  cases q : h.get? b with
  | none => rw [q] at e; cases e
  | some o =>
    rw [q] at e
    have e' : (b, o) = p := Option.some.inj e
    subst e'
    exact ⟨hb, q⟩
theorem Inv.pinned {pins : List (Addr × Obj)} {σ : St} {H : Hp} {s : Shared} {fp : List Addr} (I : Inv X pins σ H s) (hf : ∀ b ∈ fp, FpOk X pins H b) (ho : ∀ b ∈ fp, ∃ o, s.heap.get? b = some o ∧ ∀ v, o.data ≠ .cell v) : Inv X (pins ++ pinsAt fp s.heap) σ H s :=
  I.pins_of fun p hp => (List.mem_append.mp hp).elim (fun z => I.pin p (List.mem_append_right _ z)) fun z => by
    obtain ⟨hb, e⟩ := of_pinsAt z
    obtain ⟨f0, f1, f2, _⟩ := hf p.1 hb
    obtain ⟨o, e', d⟩ := ho p.1 hb
    rw [e] at e'; cases e'
    exact ⟨e, f0, f1, f2, d⟩
theorem Inv.unpinned {pins pl : List (Addr × Obj)} {σ : St} {H : Hp} {s : Shared} (I : Inv X (pins ++ pl) σ H s) : Inv X pins σ H s := I.pins_of fun p hp => I.pin p (List.mem_append_right _ (List.mem_append_left _ hp))
theorem ps_for {iter : Expr} {body : List Stmt} {wi : TI} {g : TG} {tb : TS} {pos : Pos} (hp : PassesOwn (model X.prog X.w) X.A X.env X.xe) (hc : X.calm = true) (hi : PI X tg iter wi) (hg : PG X tg g) (hb : PSs X body tb)
    (hs : ∀ x, foldedSetIterable iter X.env x = pure x := by intro _; rfl) : PS X (.For tg iter body [] pos) (tFor wi g tb) := by
  intro pins s σ H D I h
  refine wpAny_For (thn (hi pins s σ H _ I h) fun v s1 h1 => thn h1 fun itv s2 h2 => ?_) hs
  obtain ⟨it, fp, tn, J, H2, e, I2, T, st2, f2, W, ⟨m0, w0⟩, turn⟩ := h2
  subst e
  have stat : ∀ {H' : Hp}, (∀ b ∈ fp, H' b = none) → ∀ b ∈ fp, FpOk X pins H' b := fun hn b hb => ⟨hn b hb, (f2 b hb).2⟩
  refine codeAny_forLoop_any (fun n s' => ∃ i σ' H', Inv X pins σ' H' s' ∧ tn i s'.heap ∧ (∀ b ∈ fp, H' b = none) ∧ W i n σ' H') ?_ m0 ⟨0, σ, H2, I2, st2, fun b hb => (f2 b hb).1, w0⟩
  rintro n s3 ⟨i, σ3, H3, I3, st3, fr3, w3⟩
  rcases turn i n σ3 H3 w3 with ⟨stop, qn⟩ | ⟨go, N, hN, step⟩
  · refine wpAny_passesOwn hp (thn (T.done X rfl rfl rfl hc i pins s3 σ3 H3 X.xe I3 (stat fr3) st3 stop) fun r s4 hq_ => ?_); obtain ⟨hr, I4⟩ := hq_
    subst hr
    exact wpAny_execs_nil ⟨σ3, H3, I4, qn⟩
  · refine wpAny_passesOwn hp (thn (T.item X rfl rfl rfl hc i pins s3 σ3 H3 X.xe I3 (stat fr3) st3 go) fun r s4 hq_ => ?_); obtain ⟨u, hr, h4⟩ := hq_
    subst hr
    refine wpAny_passesOwn hp (thn h4 fun _ s5 hq_ => ?_); obtain ⟨x, H5, I5, r5, y5, st5, fr5⟩ := hq_
    have I5' := I5.pinned (stat fr5) (T.obj _ _ st5)
    refine wpAny_passesOwn hp (thn (hg _ s5 σ3 H5 x u _ I5' r5 (step x H5 y5)) fun _ s6 hq_ => ?_); obtain ⟨σ6, H6, I6, q6⟩ := hq_
    refine wpAny_passesOwn hp (thn (hb _ s6 σ6 H6 _ I6 q6) fun f s7 q7 => ?_)
    have again : ∀ {σ7 : St} {H7 : Hp}, Inv X (pins ++ pinsAt fp s5.heap) σ7 H7 s7 → N σ7 H7 → ∃ m, m < n ∧ ∃ i σ' H', Inv X pins σ' H' s7 ∧ tn i s7.heap ∧ (∀ b ∈ fp, H' b = none) ∧ W i m σ' H' := fun {σ7 H7} I7 n7 => by
      obtain ⟨m', hm, w7⟩ := hN σ7 H7 n7
      refine ⟨m', hm, i + 1, σ7, H7, I7.unpinned, T.keep _ _ _ st5 fun b hb o e => (I7.pin (b, o) (List.mem_append_right _ (List.mem_append_right _ (mem_pinsAt hb e)))).1, fun b hb => ?_, w7⟩
      obtain ⟨o, e, d⟩ := T.obj _ _ st5 b hb
      exact (I7.pin (b, o) (List.mem_append_right _ (List.mem_append_right _ (mem_pinsAt hb e)))).2.1
    cases f with
    | next => obtain ⟨σ7, H7, I7, n7⟩ := q7; exact again I7 n7
    | cont => obtain ⟨σ7, H7, I7, n7⟩ := q7; exact again I7 n7
    | brk => obtain ⟨σ7, H7, I7, q7⟩ := q7; exact ⟨σ7, H7, I7.unpinned, q7⟩
    | ret v => obtain ⟨x7, σ7, H7, I7, r7, q7⟩ := q7; exact ⟨x7, σ7, H7, I7.unpinned, r7, q7⟩
end
theorem for_list {K : PySem.W.Frag} {a : Addr} {xs : List V} {g : TG} {tb : TS} {D : Ends} {σ : St} {H : Hp} (Pv : Nat → St → Hp → Prop) (h0 : Pv 0 σ H) (hl : ∀ i σ H, i ≤ xs.length → Pv i σ H → SqL K H a xs)
    (hs : ∀ i x σ H, xs[i]? = some x → Pv i σ H → g x σ H fun σ2 H2 => tb { D with nx := Pv (i + 1), ct := Pv (i + 1), bk := D.nx } σ2 H2) (hd : ∀ σ H, Pv xs.length σ H → D.nx σ H) :
    ∃ W : Nat → Nat → St → Hp → Prop, (∃ m, W 0 m σ H) ∧ ∀ i m σ H, W i m σ H →
      ((Itl K a).stop i H ∧ D.nx σ H) ∨ ((Itl K a).go i H ∧ ∃ N : St → Hp → Prop, (∀ σ' H', N σ' H' → ∃ m', m' < m ∧ W (i + 1) m' σ' H') ∧ ∀ x H', (Itl K a).yld i H x H' → g x σ H' fun σ2 H2 => tb { D with nx := N, ct := N, bk := D.nx } σ2 H2) := by
  refine ⟨fun i m σ H => m = xs.length - i ∧ i ≤ xs.length ∧ Pv i σ H, ⟨xs.length, by simp, Nat.zero_le _, h0⟩, ?_⟩
  rintro i m σ H ⟨rfl, hi, p⟩
  have q := hl i σ H hi p
  by_cases hlt : i < xs.length
  · refine .inr ⟨⟨xs, xs[i], q, by simp [hlt]⟩, Pv (i + 1), fun σ' H' p' => ⟨xs.length - (i + 1), om2 hlt, rfl, hlt, p'⟩, fun x H' y => ?_⟩
    obtain ⟨e, y⟩ := y
    subst e
    exact hs i x σ _ (y xs q) p
  · have e : i = xs.length := om3 hi hlt
    subst e
    exact .inl ⟨⟨xs, q, Nat.le_refl _⟩, hd σ H p⟩
theorem for_tup {K : PySem.W.Frag} {a : Addr} {xs : List V} {g : TG} {tb : TS} {D : Ends} {σ : St} {H : Hp} (Pv : Nat → St → Hp → Prop) (h0 : Pv 0 σ H) (hl : ∀ i σ H, i ≤ xs.length → Pv i σ H → SqT K H a xs)
    (hs : ∀ i x σ H, xs[i]? = some x → Pv i σ H → g x σ H fun σ2 H2 => tb { D with nx := Pv (i + 1), ct := Pv (i + 1), bk := D.nx } σ2 H2) (hd : ∀ σ H, Pv xs.length σ H → D.nx σ H) :
    ∃ W : Nat → Nat → St → Hp → Prop, (∃ m, W 0 m σ H) ∧ ∀ i m σ H, W i m σ H →
      ((Itt K a).stop i H ∧ D.nx σ H) ∨ ((Itt K a).go i H ∧ ∃ N : St → Hp → Prop, (∀ σ' H', N σ' H' → ∃ m', m' < m ∧ W (i + 1) m' σ' H') ∧ ∀ x H', (Itt K a).yld i H x H' → g x σ H' fun σ2 H2 => tb { D with nx := N, ct := N, bk := D.nx } σ2 H2) := by
  refine ⟨fun i m σ H => m = xs.length - i ∧ i ≤ xs.length ∧ Pv i σ H, ⟨xs.length, by simp, Nat.zero_le _, h0⟩, ?_⟩
  rintro i m σ H ⟨rfl, hi, p⟩
  have q := hl i σ H hi p
  by_cases hlt : i < xs.length
  · refine .inr ⟨⟨xs, xs[i], q, by simp [hlt]⟩, Pv (i + 1), fun σ' H' p' => ⟨xs.length - (i + 1), om2 hlt, rfl, hlt, p'⟩, fun x H' y => ?_⟩
    obtain ⟨e, y⟩ := y
    subst e
    exact hs i x σ _ (y xs q) p
  · have e : i = xs.length := om3 hi hlt
    subst e
    exact .inl ⟨⟨xs, q, Nat.le_refl _⟩, hd σ H p⟩
theorem for_range {lo : Int} {n : Nat} {g : TG} {tb : TS} {D : Ends} {σ : St} {H : Hp} (Pv : Nat → St → Hp → Prop) (h0 : Pv 0 σ H)
    (hs : ∀ i σ H, i < n → Pv i σ H → g (.int (lo + i)) σ H fun σ2 H2 => tb { D with nx := Pv (i + 1), ct := Pv (i + 1), bk := D.nx } σ2 H2) (hd : ∀ σ H, Pv n σ H → D.nx σ H) :
    ∃ W : Nat → Nat → St → Hp → Prop, (∃ m, W 0 m σ H) ∧ ∀ i m σ H, W i m σ H →
      ((Itr lo n).stop i H ∧ D.nx σ H) ∨ ((Itr lo n).go i H ∧ ∃ N : St → Hp → Prop, (∀ σ' H', N σ' H' → ∃ m', m' < m ∧ W (i + 1) m' σ' H') ∧ ∀ x H', (Itr lo n).yld i H x H' → g x σ H' fun σ2 H2 => tb { D with nx := N, ct := N, bk := D.nx } σ2 H2) := by
  refine ⟨fun i m σ H => m = n - i ∧ i ≤ n ∧ Pv i σ H, ⟨n, by simp, Nat.zero_le _, h0⟩, ?_⟩
  rintro i m σ H ⟨rfl, hi, p⟩
  by_cases hlt : i < n
  · refine .inr ⟨hlt, Pv (i + 1), fun σ' H' p' => ⟨n - (i + 1), om2 hlt, rfl, hlt, p'⟩, fun x H' y => ?_⟩
    obtain ⟨e, y⟩ := y
    subst e y
    exact hs i σ _ hlt p
  · have e : i = n := om3 hi hlt
    subst e
    exact .inl ⟨Nat.le_refl _, hd σ H p⟩
end L2
namespace L2
open PySem PySem.Spec PyProof.Rows
noncomputable abbrev R2 := V → V → Hp → VK → Prop
noncomputable def OpR (X : Cx) (f : Value → Value → Sem Value) (r : R2) : Prop :=
  ∀ (pins : List (Addr × Obj)) (s : Shared) (σ : St) (H : Hp) (x y : V) (v u : Value) (Q : VK), Inv X pins σ H s → RelV x v → RelV y u → r x y H Q →
    wpAny (model X.prog X.w) X.A (f v u) (EP X pins σ Q) X.xe s
noncomputable def CallR (X : Cx) (f : Value) (r : List V → Hp → VK → Prop) : Prop :=
  ∀ (pins : List (Addr × Obj)) (s : Shared) (σ : St) (H : Hp) (xs : List V) (us : List Value) (Q : VK), Inv X pins σ H s → Vals xs us → r xs H Q →
    wpAny (model X.prog X.w) X.A (call f us) (EP X pins σ Q) X.xe s
noncomputable def TruR (X : Cx) (r : V → Hp → (Bool → Hp → Prop) → Prop) : Prop :=
  ∀ (pins : List (Addr × Obj)) (s : Shared) (σ : St) (H : Hp) (x : V) (v : Value) (Q : Bool → Hp → Prop), Inv X pins σ H s → RelV x v → r x H Q →
    wpAny (model X.prog X.w) X.A (truthy v) (TP X pins σ Q) X.xe s
noncomputable def tOp (r : R2) (ta tb : TE) : TE := fun σ H Q => ta σ H fun x H1 => tb σ H1 fun y H2 => r x y H2 Q
noncomputable def rI (C : Int → Int → Prop) (g : Int → Int → V) : R2 := fun x y H Q => ∃ i j, x = .int i ∧ y = .int j ∧ C i j ∧ Q (g i j) H
noncomputable def rI0 (g : Int → Int → V) : R2 := fun x y H Q => ∃ i j, x = .int i ∧ y = .int j ∧ Q (g i j) H
section
variable {X : Cx} {a b c : Expr} {ta tb tc : TE} {pos : Pos}
theorem binT (ha : PE X a ta) (hb : PE X b tb) {pins : List (Addr × Obj)} {s : Shared} {σ : St} {H : Hp} {R : V → V → Hp → Prop} (I : Inv X pins σ H s)
    (h : ta σ H fun x H1 => tb σ H1 fun y H2 => R x y H2) {Q : Value → Shared → Prop} {f : Value → Value → Sem Value}
    (hf : ∀ v u s2 x y H2, Inv X pins σ H2 s2 → RelV x v → RelV y u → R x y H2 → wpAny (model X.prog X.w) X.A (f v u) Q X.xe s2) :
    wpAny (model X.prog X.w) X.A (eval a X.env) (fun v s₁ => wpAny (model X.prog X.w) X.A (eval b X.env) (fun u s₂ => wpAny (model X.prog X.w) X.A (f v u) Q X.xe s₂) X.xe s₁) X.xe s := by
  refine thn (ha pins s σ H _ I h) fun v s1 hq_ => ?_; obtain ⟨x, H1, I1, r1, q1⟩ := hq_
  refine thn (hb pins s1 σ H1 _ I1 q1) fun u s2 hq_ => ?_; obtain ⟨y, H2, I2, r2, q2⟩ := hq_
  exact hf v u s2 x y H2 I2 r1 r2 q2
theorem pe_op {op : Operator} {r : R2} (ho : OpR X (binaryOp op) r) (ha : PE X a ta) (hb : PE X b tb) : PE X (.BinOp a op b pos) (tOp r ta tb) := by
  intro pins s σ H Q I h
  exact wpAny_BinOp (binT ha hb I h fun v u s2 x y H2 I2 rx ry q => ho pins s2 σ H2 x y v u Q I2 rx ry q)
theorem opI {f : Value → Value → Sem Value} {C : Int → Int → Prop} {g : Int → Int → Int}
    (rule : ∀ (i j : Int) (t u : Tok) (s : Shared) (Q : Value → Shared → Prop) (E : Value → Shared → Prop), C i j → Q (.int (g i j) s.toks) { s with toks := s.toks + 1 } → wpAny (model X.prog X.w) X.A (f (.int i t) (.int j u)) Q E s) :
    OpR X f (rI C fun i j => .int (g i j)) := by
  intro pins s σ H x y v u Q I rx ry h
  obtain ⟨i, j, rfl, rfl, hc, q⟩ := h
  obtain ⟨t, rfl⟩ := rx
  obtain ⟨t', rfl⟩ := ry
  exact rule i j t t' s _ _ hc ⟨.int (g i j), H, I.tok _, ⟨_, rfl⟩, q⟩
theorem opI0 {f : Value → Value → Sem Value} {g : Int → Int → Int}
    (rule : ∀ (i j : Int) (t u : Tok) (s : Shared) (Q : Value → Shared → Prop) (E : Value → Shared → Prop), Q (.int (g i j) s.toks) { s with toks := s.toks + 1 } → wpAny (model X.prog X.w) X.A (f (.int i t) (.int j u)) Q E s) :
    OpR X f (rI0 fun i j => .int (g i j)) := by
  intro pins s σ H x y v u Q I rx ry h
  obtain ⟨i, j, rfl, rfl, q⟩ := h
  obtain ⟨t, rfl⟩ := rx
  obtain ⟨t', rfl⟩ := ry
  exact rule i j t t' s _ _ ⟨.int (g i j), H, I.tok _, ⟨_, rfl⟩, q⟩
theorem opB0 {f : Value → Value → Sem Value} {g : Int → Int → Bool}
    (rule : ∀ (i j : Int) (t u : Tok) (s : Shared) (Q : Value → Shared → Prop) (E : Value → Shared → Prop), Q (.bool (g i j)) s → wpAny (model X.prog X.w) X.A (f (.int i t) (.int j u)) Q E s) :
    OpR X f (rI0 fun i j => .bl (g i j)) := by
  intro pins s σ H x y v u Q I rx ry h
  obtain ⟨i, j, rfl, rfl, q⟩ := h
  obtain ⟨t, rfl⟩ := rx
  obtain ⟨t', rfl⟩ := ry
  exact rule i j t t' s _ _ ⟨.bl (g i j), H, I, rfl, q⟩
noncomputable def CPow (i j : Int) : Prop := 0 ≤ j ∧ j ≤ 1000000 ∧ i.natAbs < 2 ^ 64
noncomputable def CMul (i j : Int) : Prop := (-(2 ^ 64) < i ∧ i < 2 ^ 64) ∨ (-(2 ^ 64) < j ∧ j < 2 ^ 64)
theorem CMul.ok {i j : Int} (h : CMul i j) : IntMulOk i j := by
  rcases h with ⟨h1, h2⟩ | ⟨h1, h2⟩
  · exact .of_left (intBits_le_64 h1 h2)
  · exact .of_right (intBits_le_64 h1 h2)
theorem op_add : OpR X (binaryOp .Add) (rI0 fun i j => .int (i + j)) := opI0 fun _ _ _ _ _ _ _ q => add_int q
theorem op_sub : OpR X (binaryOp .Sub) (rI0 fun i j => .int (i - j)) := opI0 fun _ _ _ _ _ _ _ q => sub_int q
theorem op_mul : OpR X (binaryOp .Mult) (rI CMul fun i j => .int (i * j)) := opI fun _ _ _ _ _ _ _ hc q => mul_int q hc.ok
theorem op_mod : OpR X (binaryOp .Mod) (rI (fun _ j => 0 < j) fun i j => .int (i % j)) := opI fun i j _ _ _ _ _ hc q => by
  have h1 : (0 : Int) < j := hc
  exact mod_int' (om8 hc) (by rw [Int.fmod_eq_emod_of_nonneg i (om19 hc)]; exact q)
theorem op_pow : OpR X (binaryOp .Pow) (rI CPow fun i j => .int (i ^ j.toNat)) := opI fun _ _ _ _ _ _ _ hc q => pow_int_small hc.1 hc.2.1 hc.2.2 q
end
noncomputable def scal : V → V → Bool
  | .non, .non => true | .non, .int _ => true | .int _, .non => true | .non, .bl _ => true | .bl _, .non => true | .non, .str _ => true | .str _, .non => true
  | .int _, .int _ => true | .bl _, .bl _ => true | .str _, .str _ => true | .byt _, .byt _ => true
  | .int _, .str _ => true | .str _, .int _ => true | .bl _, .str _ => true | .str _, .bl _ => true
  | _, _ => false
noncomputable def rEq : R2 := fun x y H Q => scal x y = true ∧ Q (.bl (decide (x = y))) H
noncomputable def rNe : R2 := fun x y H Q => scal x y = true ∧ Q (.bl (!decide (x = y))) H
theorem dec_int {i j : Int} : decide (V.int i = V.int j) = (i == j) := by
  rw [Bool.eq_iff_iff]
  simp
theorem dec_bl {i j : Bool} : decide (V.bl i = V.bl j) = (i == j) := by
  rw [Bool.eq_iff_iff]
  simp
theorem dec_str {i j : Str} : decide (V.str i = V.str j) = (i == j) := by
  rw [Bool.eq_iff_iff]
  simp
theorem dec_byt {i j : Array UInt8} : decide (V.byt i = V.byt j) = (i.toList == j.toList) := by
  rw [Bool.eq_iff_iff]
  cases i
  cases j
  simp
section
variable {X : Cx} {a b c : Expr} {ta tb tc : TE} {pos : Pos}
theorem fin_bl {pins : List (Addr × Obj)} {σ : St} {H : Hp} {s : Shared} {Q : VK} {k k' : Bool} (I : Inv X pins σ H s) (q : Q (.bl k) H) (e : k = k') : EP X pins σ Q (.bool k') s := by
  subst e
  exact ⟨.bl k, H, I, rfl, q⟩
theorem op_eq : OpR X (compareOp .Eq) rEq := by
  intro pins s σ H x y v u Q I rx ry h
  obtain ⟨hs, q⟩ := h
  cases x with
  | non =>
    cases rx
    cases y with
    | non => cases ry; exact PySem.EqNone.eq_none_none (fin_bl I q (by simp))
    | bl j => cases ry; exact PySem.EqNone.eq_none_bool (fin_bl I q (by simp))
    | int j => obtain ⟨t', rfl⟩ := ry; exact PySem.EqNone.eq_none_int (fin_bl I q (by simp))
    | str j => obtain ⟨t', rfl⟩ := ry; exact PySem.EqNone.eq_none_str (fin_bl I q (by simp))
    | _ => exact absurd (show false = true from hs) Bool.false_ne_true
  | bl i =>
    cases rx
    cases y with
    | non => cases ry; exact PySem.EqNone.eq_bool_none (fin_bl I q (by simp))
    | bl j => cases ry; exact eq_bool (fin_bl I q dec_bl)
    | str j => obtain ⟨t', rfl⟩ := ry; exact PySem.EqMixed.eq_bool_str (fin_bl I q (by simp))
    | _ => exact absurd (show false = true from hs) Bool.false_ne_true
  | int i =>
    obtain ⟨t, rfl⟩ := rx
    cases y with
    | non => cases ry; exact PySem.EqNone.eq_int_none (fin_bl I q (by simp))
    | int j => obtain ⟨t', rfl⟩ := ry; exact eq_int (fin_bl I q dec_int)
    | str j => obtain ⟨t', rfl⟩ := ry; exact PySem.EqMixed.eq_int_str (fin_bl I q (by simp))
    | _ => exact absurd (show false = true from hs) Bool.false_ne_true
  | str i =>
    obtain ⟨t, rfl⟩ := rx
    cases y with
    | non => cases ry; exact PySem.EqNone.eq_str_none (fin_bl I q (by simp))
    | bl j => cases ry; exact PySem.EqMixed.eq_str_bool (fin_bl I q (by simp))
    | int j => obtain ⟨t', rfl⟩ := ry; exact PySem.EqMixed.eq_str_int (fin_bl I q (by simp))
    | str j => obtain ⟨t', rfl⟩ := ry; exact eq_str (fin_bl I q dec_str)
    | _ => exact absurd (show false = true from hs) Bool.false_ne_true
  | byt i =>
    obtain ⟨t, rfl⟩ := rx
    cases y with
    | byt j => obtain ⟨t', rfl⟩ := ry; exact PySem.W.eq_bytes (fin_bl I q dec_byt)
    | _ => exact absurd (show false = true from hs) Bool.false_ne_true
  | _ => cases y <;> exact absurd (show false = true from hs) Bool.false_ne_true
theorem op_ne : OpR X (compareOp .NotEq) rNe := by
  intro pins s σ H x y v u Q I rx ry h
  obtain ⟨hs, q⟩ := h
  cases x with
  | non =>
    cases rx
    cases y with
    | non => cases ry; exact PySem.EqNone.ne_none_none (fin_bl I q (by simp))
    | bl j => cases ry; exact PySem.EqNone.ne_none_bool (fin_bl I q (by simp))
    | int j => obtain ⟨t', rfl⟩ := ry; exact PySem.EqNone.ne_none_int (fin_bl I q (by simp))
    | str j => obtain ⟨t', rfl⟩ := ry; exact PySem.EqNone.ne_none_str (fin_bl I q (by simp))
    | _ => exact absurd (show false = true from hs) Bool.false_ne_true
  | bl i =>
    cases rx
    cases y with
    | non => cases ry; exact PySem.EqNone.ne_bool_none (fin_bl I q (by simp))
    | bl j => cases ry; exact ne_bool (fin_bl I q (congrArg not dec_bl))
    | str j => obtain ⟨t', rfl⟩ := ry; exact PySem.EqMixed.ne_bool_str (fin_bl I q (by simp))
    | _ => exact absurd (show false = true from hs) Bool.false_ne_true
  | int i =>
    obtain ⟨t, rfl⟩ := rx
    cases y with
    | non => cases ry; exact PySem.EqNone.ne_int_none (fin_bl I q (by simp))
    | int j => obtain ⟨t', rfl⟩ := ry; exact ne_int (fin_bl I q (congrArg not dec_int))
    | str j => obtain ⟨t', rfl⟩ := ry; exact PySem.EqMixed.ne_int_str (fin_bl I q (by simp))
    | _ => exact absurd (show false = true from hs) Bool.false_ne_true
  | str i =>
    obtain ⟨t, rfl⟩ := rx
    cases y with
    | non => cases ry; exact PySem.EqNone.ne_str_none (fin_bl I q (by simp))
    | bl j => cases ry; exact PySem.EqMixed.ne_str_bool (fin_bl I q (by simp))
    | int j => obtain ⟨t', rfl⟩ := ry; exact PySem.EqMixed.ne_str_int (fin_bl I q (by simp))
    | str j => obtain ⟨t', rfl⟩ := ry; exact ne_str (fin_bl I q (congrArg not dec_str))
    | _ => exact absurd (show false = true from hs) Bool.false_ne_true
  | byt i =>
    obtain ⟨t, rfl⟩ := rx
    cases y with
    | byt j => obtain ⟨t', rfl⟩ := ry; exact PySem.W.ne_bytes (fin_bl I q (congrArg not dec_byt))
    | _ => exact absurd (show false = true from hs) Bool.false_ne_true
  | _ => cases y <;> exact absurd (show false = true from hs) Bool.false_ne_true
theorem op_lt : OpR X (compareOp .Lt) (rI0 fun i j => .bl (decide (i < j))) := opB0 fun _ _ _ _ _ _ _ q => lt_int q
theorem op_gt : OpR X (compareOp .Gt) (rI0 fun i j => .bl (decide (j < i))) := opB0 fun _ _ _ _ _ _ _ q => gt_int q
theorem op_ge : OpR X (compareOp .GtE) (rI0 fun i j => .bl (decide (j ≤ i))) := opB0 fun _ _ _ _ _ _ _ q => ge_int q
theorem nomark (b : Expr) {op : CmpOp} (h : op ≠ .In := by decide) (h2 : op ≠ .NotIn := by decide) : behindInMarks op b = false := by
  have e1 : (op == CmpOp.In) = false := by cases op <;> first | rfl | exact absurd rfl h
  have e2 : (op == CmpOp.NotIn) = false := by cases op <;> first | rfl | exact absurd rfl h2
  cases b <;> simp [behindInMarks, e1, e2]
theorem pe_cmpR {op : CmpOp} {r : R2} (ho : OpR X (compareOp op) r) (ha : PE X a ta) (hb : PE X b tb) (hm : behindInMarks op b = false) : PE X (.Compare a [op] [b] pos) (tOp r ta tb) := by
  intro pins s σ H Q I h
  exact wpAny_Compare1 (binT ha hb I h fun v u s2 x y H2 I2 rx ry q => ho pins s2 σ H2 x y v u Q I2 rx ry q) hm
noncomputable def tTest (t : TE) : TT := fun σ H Q => t σ H fun x H' => ∃ k, x = .bl k ∧ Q k H'
theorem pt_cmpR {op : CmpOp} {r : R2} (ho : OpR X (compareOp op) r) (ha : PE X a ta) (hb : PE X b tb) (hm : behindInMarks op b = false) : PT X (.Compare a [op] [b] pos) (tTest (tOp r ta tb)) := by
  intro pins s σ H Q I h
  refine wpAny_isTrue_Compare1 (thn (ha pins s σ H _ I h) fun v s1 ⟨x, H1, I1, r1, q1⟩ => thn (hb pins s1 σ H1 _ I1 q1) fun u s2 ⟨y, H2, I2, r2, q2⟩ =>
    thn (ho pins s2 σ H2 x y v u _ I2 r1 r2 q2) fun c s3 ⟨z, H3, I3, r3, k, e, q3⟩ => ?_) hm
  subst e
  cases r3
  exact wpAny_truthy_bool ⟨H3, I3, q3⟩
noncomputable def TruV (K : PySem.W.Frag) (x : V) (H : Hp) (k : Bool) : Prop :=
  match x with
  | .non => k = false
  | .bl b => k = b
  | .int i => k = (i != 0)
  | .str y => y.length ≤ sizeLine ∧ k = ((y.length : Int) != 0)
  | .byt y => y.size ≤ sizeLine ∧ k = ((y.size : Int) != 0)
  | .ref p => (∃ xs, SqL K H p xs ∧ k = !xs.isEmpty) ∨ (∃ xs, SqT K H p xs ∧ k = !xs.isEmpty) ∨ ∃ kvs, H p = some (.dK kvs) ∧ k = !kvs.isEmpty
  | _ => False
theorem isEmpty_kv {κ : Type} {kvs : List (κ × V)} {vs : List (κ × Value)} (r : KV kvs vs) : (!vs.isEmpty) = !kvs.isEmpty := by
  cases r <;> rfl
theorem isEmpty_of {xs : List V} {its : List Value} (r : Vals xs its) : (!its.toArray.isEmpty) = !xs.isEmpty := by
  cases r <;> simp
theorem line63 : (sizeLine : Nat) < 2 ^ 63 := by rw [sizeLine_eq]; decide
theorem tru_ok : TruR X (fun x H Q => ∃ k, TruV X.K x H k ∧ Q k H) := by
  intro pins s σ H x v Q I rx h
  obtain ⟨k, e, q⟩ := h
  have hl := line63
  have hs : sizeLine = 16777216 := sizeLine_eq
  cases x with
  | non =>
    cases rx
    have e' : k = false := e
    subst e'
    exact truthy_none ⟨H, I, q⟩
  | bl b =>
    cases rx
    have e' : k = b := e
    subst e'
    exact wpAny_truthy_bool ⟨H, I, q⟩
  | int i =>
    obtain ⟨t, rfl⟩ := rx
    have e' : k = (i != 0) := e
    subst e'
    exact PySem.P.truthy_int ⟨H, I, q⟩
  | str y =>
    obtain ⟨t, rfl⟩ := rx
    obtain ⟨hy, e'⟩ : y.length ≤ sizeLine ∧ k = ((y.length : Int) != 0) := e
    subst e'
    exact PySem.P.truthy_str (by omega) ⟨H, I.tok _, q⟩
  | byt y =>
    obtain ⟨t, rfl⟩ := rx
    obtain ⟨hy, e'⟩ : y.size ≤ sizeLine ∧ k = ((y.size : Int) != 0) := e
    subst e'
    exact PySem.W.truthy_bytes (om93 hs hy) ⟨H, I.tok _, q⟩
  | ref p =>
    cases rx
    have e' : (∃ xs, SqL X.K H p xs ∧ k = !xs.isEmpty) ∨ (∃ xs, SqT X.K H p xs ∧ k = !xs.isEmpty) ∨ ∃ kvs, H p = some (.dK kvs) ∧ k = !kvs.isEmpty := e
    rcases e' with ⟨xs, hx, e'⟩ | ⟨xs, hx, e'⟩ | ⟨kvs, hx, e'⟩
    · subst e'
      obtain ⟨its, r, pl, hz⟩ := I.list hx
      have hlen := r.length
      exact wpAny_truthy_list pl.isList (by simp only [List.size_toArray]; omega) ⟨H, I.tok _, by rw [isEmpty_of r]; exact q⟩
    · subst e'
      obtain ⟨its, r, pl, hz⟩ := I.tuple hx
      have hlen := r.length
      exact truthy_tuple pl (by simp only [List.size_toArray]; omega) ⟨H, I.tok _, by rw [isEmpty_of r]; exact q⟩
    · subst e'
      obtain ⟨hz, hS, vs, r, m⟩ : kvs.length ≤ sizeLine ∧ (p == sysModules) = false ∧ ∃ vs, KV kvs vs ∧ s.heap.DictOf (mixKind X.prog X.w) p vs := I.hok p _ hx
      have hlen : kvs.length = vs.length := Paired.length r
      exact wpAny_truthy_dict hS m (by omega) ⟨H, I.tok _, by rw [isEmpty_kv r]; exact q⟩
  | _ => exact (show False from e).elim
theorem pt_truth (ha : PE X a ta) (he : ∀ whole, isTrue a X.env whole = (do let v ← whole; standAt a.pos; holding [v] (truthy v))) :
    PT X a (fun σ H Q => ta σ H fun x H' => ∃ k, TruV X.K x H' k ∧ Q k H') := by
  intro pins s σ H Q I h
  exact isTrue_plain (thn (ha pins s σ H _ I h) fun v s1 ⟨x, H1, I1, r1, q1⟩ => tru_ok pins s1 σ H1 x v Q I1 r1 q1) (he _)
theorem op_add_str : OpR X (binaryOp .Add) (fun x y H Q => ∃ i j, x = .str i ∧ y = .str j ∧ i.length + j.length ≤ sizeLine ∧ Q (.str (i ++ j)) H) := by
  intro pins s σ H x y v u Q I rx ry h
  obtain ⟨i, j, rfl, rfl, hz, q⟩ := h
  obtain ⟨t, rfl⟩ := rx
  obtain ⟨t', rfl⟩ := ry
  exact add_str (fun t' tk => ⟨.str (i ++ j), H, I.tok _, ⟨_, rfl⟩, q⟩) hz
theorem vals1 {x : V} {us : List Value} (r : Vals [x] us) : ∃ u, us = [u] ∧ RelV x u := by
  cases r with
  | cons r1 r2 => cases r2; exact ⟨_, rfl, r1⟩
theorem vals2 {x y : V} {us : List Value} (r : Vals [x, y] us) : ∃ u w', us = [u, w'] ∧ RelV x u ∧ RelV y w' := by
  cases r with
  | cons r1 r2 =>
    cases r2 with
    | cons r3 r4 => cases r4; exact ⟨_, _, rfl, r1, r3⟩
theorem call_int1 : CallR X (.type "int") (fun xs H Q => (∃ i, xs = [.int i] ∧ Q (.int i) H) ∨ ∃ k, xs = [.bl k] ∧ Q (.int (if k then 1 else 0)) H) := by
  intro pins s σ H xs us Q I r h
  rcases h with ⟨i, rfl, q⟩ | ⟨k, rfl, q⟩
  · obtain ⟨u, rfl, t, rfl⟩ := vals1 r
    exact call_int_int ⟨.int i, H, I, ⟨_, rfl⟩, q⟩
  · obtain ⟨u, rfl, r1⟩ := vals1 r
    cases r1
    exact call_int_bool ⟨.int (if k then 1 else 0), H, I.tok _, ⟨_, rfl⟩, q⟩
end
end L2
namespace L2
open PySem PySem.Spec PyProof.Rows
structure ObjM (h : Heap) (x dx C : Addr) (mA : Str → Option Value) : Prop where
  obj : h.get? x = some (PySem.W.instObj C dx)
  ns : h.Ns1 dx mA
  ne : dx ≠ x
theorem lookIn_ns {h : Heap} {dx : Addr} {mA : Str → Option Value} (n : h.Ns1 dx mA) : ∃ od, h.get? dx = some od ∧ ∀ name, PySem.W.lookIn name od = some (mA name) := by
  obtain ⟨o, es, ep, ho, hd, hk, _, hm⟩ := n
  refine ⟨o, ho, fun name => ?_⟩
  have e := hm name
  unfold nsFind findBy at e
  rw [← Array.find?_toList] at e
  unfold PySem.W.lookIn
  rw [hd]
  dsimp only
  split
  · rename_i y q
    rw [q] at e
    exact congrArg some e
  · rename_i q
    rw [q] at e
    have a : es.toList.any (·.refKey) = false := by
      rw [List.any_eq_false]
      intro y hy
      obtain ⟨z, t, hkey⟩ := hk y (Array.mem_toList_iff.mp hy)
      simp [DictEntry.refKey, hkey]
    have a' : ¬ es.toList.any (·.refKey) = true := by rw [a]; exact Bool.false_ne_true
    rw [if_neg a']
    exact congrArg some e
theorem ObjM.look {h : Heap} {x dx C : Addr} {mA : Str → Option Value} (I : ObjM h x dx C mA) : ∃ od, PySem.W.InstAt h x (PySem.W.instObj C dx) C (some od) ∧ ∀ name, PySem.W.lookIn name od = some (mA name) :=
  let ⟨od, ho, hl⟩ := lookIn_ns I.ns
  ⟨od, ⟨I.obj, rfl, rfl, ho⟩, hl⟩
section
variable {prog : Program} {w : World} {A : Around} {E : Value → Shared → Prop} {s : Shared} {K : PySem.W.Frag} {x dx C f : Addr} {mA : Str → Option Value} {name : Str} {v : Value}
theorem get_map {expr : Bool} {Q : Value → Shared → Prop} (X : K.In s.heap) (I : ObjM s.heap x dx C mA) (hg : PySem.W.plainGet K C name = true) (hh : PySem.W.hasDictIn K C = true)
    (ha : PySem.W.findIn K (.ref C) name = some none) (hv : mA name = some v) (hv' : PySem.W.handedIn v = true) (h : Q v { s with toks := s.toks + 1 }) :
    wpAny (model prog w) A (getAttr (.ref x) name expr) Q E s := by
  obtain ⟨od, J, hl⟩ := I.look
  exact PySem.W.get_value X J (PySem.W.plainGet_of hg).1 (PySem.W.findObj_own hh ha rfl (by rw [hl, hv])) hv' h
theorem get_meth {pl : Sem Bool} {Q : Value × List Value → Shared → Prop} (X : K.In s.heap) (I : ObjM s.heap x dx C mA) (hg : PySem.W.plainGet K C name = true)
    (hf : PySem.W.findIn K (.ref C) name = some (some (.ref f))) (ht : PySem.W.isFn K (.ref f) = true) (hv : mA name = none) (h : Q (.ref f, [.ref x]) s) :
    wpAny (model prog w) A (getMethod (.ref x) name pl) Q E s := by
  obtain ⟨od, J, hl⟩ := I.look
  exact PySem.W.method_fn X J (PySem.W.plainGet_of hg).1 (PySem.W.plainGet_of hg).2 hf (beq_iff_eq.mp ht) (by show (PySem.W.lookIn name od).map (·.isSome) = some false; rw [hl, hv]; rfl) h
theorem set_map {ns : List Str} {Q : Unit → Shared → Prop} (X : K.In s.heap) (I : ObjM s.heap x dx C mA)
    (hs : PySem.W.findIn K (.ref C) "__setattr__" = some (some (.builtin "object.__setattr__"))) (hp : PySem.W.plainOver K C = true) (ht : PySem.W.takerIn K C name = some none) (hh : PySem.W.hasDictIn K C = true)
    (hw : PySem.Within mA ns) (hsz : ns.length ≤ sizeLine)
    (h : ∀ h', ObjM h' x dx C (fun y => if y = name then some v else mA y) → Heap.SameBut dx s.heap h' → Q () { s with heap := h', toks := s.toks + 2 }) :
    wpAny (model prog w) A (setAttr (.ref x) name v) Q E s := by
  obtain ⟨od, J, hl⟩ := I.look
  refine PySem.W.set_plain X J hs (PySem.W.osa_open (s := { s with toks := s.toks + 1 }) (r := none) X J hp ht fun b => ?_)
  obtain ⟨cd, hc, hd'⟩ := PySem.W.any_some hh
  have hx : s.heap.get? x = some ⟨.ref C, some dx, .plain, #[]⟩ := I.obj
  refine wpAny_bind (wpAny_pure (wpAny_bind (wpAny_bind (wpAny_loadPart hx (wpAny_bind (PySem.W.Looks.here (s := { s with toks := s.toks + 1 }) (PySem.W.looks_clsIn X hc) ?_))))))
  rw [hd']
  refine wpAny_pure (a := some dx) (wpAny_bind (wpAny_pure (wpAny_bind ?_)))
  refine wpAny_nsSet1 (s := { s with toks := s.toks + 1 }) I.ns fun h' hn2 hs2 => ?_
  obtain ⟨oD, esD, epD, hoD, hdD, hcD⟩ := hn2.count (PySem.Within.cons name v hw)
  refine wpAny_bind (wpAny_lookBehind hoD (by rw [hdD]; exact pastItsLine_dict (Nat.le_trans hcD (by rw [List.length_cons]; exact om20 hsz))) ?_)
  exact wpAny_pure (h _ ⟨(hs2.2 _ (Ne.symm I.ne)).trans I.obj, hn2, I.ne⟩ hs2)
theorem make_map {R : Result → Shared → Prop} {vs : List Value} {kw : List (Str × Value)} (X : K.In s.heap) (hm : PySem.W.makesIn K C = true)
    (hi : PySem.W.findIn K (.ref C) "__init__" = some (some (.ref f))) (hf : PySem.W.typeIn K (.ref f) = some (.type "function"))
    (h : codeAny (model prog w) (A.under (.builtin "type.__call__" ⟨.ref C :: vs, kw⟩)) (.call (.ref f) ⟨.ref (s.heap.objs.size + 1) :: vs, kw⟩) (PySem.W.InitBack (s.heap.objs.size + 1) R)
      { s with heap := (s.heap.push PySem.W.emptyDict).push (PySem.W.instObj C s.heap.objs.size) }) :
    codeAny (model prog w) A (.call (.ref C) ⟨vs, kw⟩) R s := by
  obtain ⟨hh, g, d, t, os⟩ := s
  exact PySem.W.make_core (PySem.W.makes_of X hm) (PySem.W.looks_findIn X hi) (fun self => PySem.W.bind_fn X self hf) (.inl rfl) h
end
noncomputable def putF (f : Str) (v : V) : List (Str × V) → List (Str × V)
  | [] => [(f, v)]
  | (g, x) :: r => if g = f then (g, v) :: r else (g, x) :: putF f v r
theorem lookup_putF (f g : Str) (v : V) : ∀ fs : List (Str × V), (putF f v fs).lookup g = if g = f then some v else fs.lookup g
  | [] => by
    show List.lookup g [(f, v)] = _
    by_cases h : g = f
    · have hb : (g == f) = true := beq_iff_eq.mpr h
      simp only [List.lookup, hb, if_pos h]
    · have hb : (g == f) = false := beq_eq_false_iff_ne.mpr h
      simp only [List.lookup, hb, if_neg h]
  | (k, x) :: r => by
    have ih := lookup_putF f g v r
    rw [show putF f v ((k, x) :: r) = (if k = f then (k, v) :: r else (k, x) :: putF f v r) from rfl]
    by_cases hk : k = f
    · rw [if_pos hk]
      by_cases h : g = k
      · have hb : (g == k) = true := beq_iff_eq.mpr h
        simp only [List.lookup, hb, if_pos (h.trans hk)]
      · have hb : (g == k) = false := beq_eq_false_iff_ne.mpr h
        simp only [List.lookup, hb, if_neg (fun e : g = f => h (e.trans hk.symm))]
    · rw [if_neg hk]
      by_cases h : g = k
      · have hb : (g == k) = true := beq_iff_eq.mpr h
        simp only [List.lookup, hb, if_neg (fun e : g = f => hk (h.symm.trans e))]
      · have hb : (g == k) = false := beq_eq_false_iff_ne.mpr h
        simp only [List.lookup, hb]
        exact ih
theorem keys_putF (f : Str) (v : V) : ∀ fs : List (Str × V), f ∈ (putF f v fs).map (·.1) ∧ ∀ g, g ∈ fs.map (·.1) → g ∈ (putF f v fs).map (·.1)
  | [] => ⟨by simp [putF], fun g h => by simp at h⟩
  | (k, x) :: r => by
    obtain ⟨i1, i2⟩ := keys_putF f v r
    rw [show putF f v ((k, x) :: r) = (if k = f then (k, v) :: r else (k, x) :: putF f v r) from rfl]
    by_cases hk : k = f
    · rw [if_pos hk]
      subst hk
      exact ⟨by simp, fun g h => by simpa using h⟩
    · rw [if_neg hk]
      refine ⟨?_, fun g h => ?_⟩
      · rw [List.map_cons]
        exact List.mem_cons_of_mem _ i1
      · rw [List.map_cons] at h ⊢
        rcases List.mem_cons.mp h with e | e
        · exact List.mem_cons.mpr (.inl e)
        · exact List.mem_cons_of_mem _ (i2 g e)
theorem length_putF (f : Str) (v : V) : ∀ fs : List (Str × V), (putF f v fs).length ≤ fs.length + 1
  | [] => by simp [putF]
  | (k, x) :: r => by
    have ih := length_putF f v r
    rw [show putF f v ((k, x) :: r) = (if k = f then (k, v) :: r else (k, x) :: putF f v r) from rfl]
    by_cases hk : k = f
    · rw [if_pos hk, List.length_cons, List.length_cons]; exact om94
    · rw [if_neg hk, List.length_cons, List.length_cons]; exact om95 ih
theorem RelO.some_of {v : V} {o : Option Value} (r : RelO (some v) o) : ∃ u, o = some u ∧ RelV v u := by
  cases o with
  | none => exact (show False from r).elim
  | some u => exact ⟨u, rfl, r⟩
theorem RelO.none_of {o : Option Value} (r : RelO none o) : o = none := by
  cases o with
  | none => rfl
  | some u => exact (show False from r).elim
theorem handed_of {v : V} {u : Value} (r : RelV v u) : PySem.W.handedIn u = true := by
  cases v with
  | non => cases (show u = Value.none from r); rfl
  | bl b => cases (show u = Value.bool b from r); rfl
  | int i => obtain ⟨t, e⟩ := (show ∃ t, u = Value.int i t from r); cases e; rfl
  | str x => obtain ⟨t, e⟩ := (show ∃ t, u = Value.str x t from r); cases e; rfl
  | byt b => obtain ⟨t, e⟩ := (show ∃ t, u = Value.bytes b t from r); cases e; rfl
  | flt b => obtain ⟨t, e⟩ := (show ∃ t, u = Value.float b t from r); cases e; rfl
  | ref a => cases (show u = Value.ref a from r); rfl
  | ty n => cases (show u = Value.type n from r); rfl
section
variable {P : Program} {w : World} {H H' : Hp} {h h' : Heap} {a C dx : Addr} {fs fs' : List (Str × V)}
theorem ins_get (hok : HOk P w H h) (e : H a = some (.ins C dx fs)) : ∃ mA, ObjM h a dx C mA ∧ (∀ f, RelO (fs.lookup f) (mA f)) ∧ PySem.Within mA (fs.map (·.1)) ∧ fs.length ≤ 1000 ∧ H dx = some (.own a) := by
  obtain ⟨d, z, ne, ob, mA, n, r, q⟩ := (show ObjOk P w H h a (.ins C dx fs) from hok a _ e)
  exact ⟨mA, ⟨ob, n, ne⟩, r, q, z, d⟩
end
structure Cls (K : PySem.W.Frag) (C : Addr) : Prop where
  pg : PySem.W.plainGet K C Str.empty = true
  hd : PySem.W.hasDictIn K C = true
  po : PySem.W.plainOver K C = true
  sa : PySem.W.findIn K (.ref C) "__setattr__" = some (some (.builtin "object.__setattr__"))
theorem Cls.get {K : PySem.W.Frag} {C : Addr} (c : Cls K C) (f : Str) : PySem.W.plainGet K C f = true := c.pg
noncomputable def NoAttr (K : PySem.W.Frag) (C : Addr) (f : Str) : Prop := PySem.W.findIn K (.ref C) f = some none
theorem NoAttr.taker {K : PySem.W.Frag} {C : Addr} {f : Str} (n : NoAttr K C f) : PySem.W.takerIn K C f = some none := by
  unfold PySem.W.takerIn
  rw [show PySem.W.findIn K (.ref C) f = some none from n]
  rfl
structure Meth (K : PySem.W.Frag) (C : Addr) (m : Str) (f : Addr) : Prop where
  at_ : PySem.W.findIn K (.ref C) m = some (some (.ref f))
  fn : PySem.W.isFn K (.ref f) = true
  kp : PySem.W.keepIn K (.ref f) = true
section
variable {X : Cx} {pins : List (Addr × Obj)} {σ : St} {H : Hp} {s : Shared} {a C dx : Addr} {fs : List (Str × V)} {f : Str} {v : V} {A : Around} {E : Value → Shared → Prop}
theorem getattr_ok {b : Bool} {Q : Value → Shared → Prop} (I : Inv X pins σ H s) (e : H a = some (.ins C dx fs)) (c : Cls X.K C) (n : NoAttr X.K C f) (l : fs.lookup f = some v)
    (h : ∀ u s', Inv X pins σ H s' → RelV v u → Q u s') : wpAny (model X.prog X.w) A (getAttr (.ref a) f b) Q E s := by
  obtain ⟨mA, O, r, _, _, _⟩ := ins_get I.hok e
  obtain ⟨u, hu, ru⟩ := RelO.some_of (v := v) (o := mA f) (by rw [← l]; exact r f)
  exact get_map I.kIn O (c.get f) c.hd n hu (handed_of ru) (h u _ (I.tok _) ru)
theorem getmeth_ok {m : Str} {g : Addr} {pl : Sem Bool} {Q : Value × List Value → Shared → Prop} (I : Inv X pins σ H s) (e : H a = some (.ins C dx fs)) (c : Cls X.K C) (k : Meth X.K C m g) (l : fs.lookup m = none)
    (h : Q (.ref g, [.ref a]) s) : wpAny (model X.prog X.w) A (getMethod (.ref a) m pl) Q E s := by
  obtain ⟨mA, O, r, _, _, _⟩ := ins_get I.hok e
  have hn : mA m = none := RelO.none_of (by rw [← l]; exact r m)
  exact get_meth I.kIn O (c.get m) k.at_ k.fn hn h
theorem setattr_ok {y : V} {u : Value} {Q : Unit → Shared → Prop} (I : Inv X pins σ H s) (e : H a = some (.ins C dx fs)) (c : Cls X.K C) (n : NoAttr X.K C f) (hl : fs.length < 1000) (ry : RelV y u)
    (h : ∀ s', Inv X pins σ (upd H a (.ins C dx (putF f y fs))) s' → Q () s') : wpAny (model X.prog X.w) A (setAttr (.ref a) f u) Q E s := by
  obtain ⟨mA, O, r, wi, _, ho⟩ := ins_get I.hok e
  have hz : (fs.map (·.1)).length ≤ sizeLine := by rw [List.length_map, sizeLine_eq]; exact om96 hl
  refine set_map I.kIn O c.sa c.po n.taker c.hd wi hz fun h' O' sb => h _ ?_
  have hd : ∃ o, h'.get? dx = some o := let ⟨o, _, _, e', _⟩ := O'.ns; ⟨o, e'⟩
  refine I.write (x := a) (e := dx) (by rw [e]; exact True.intro) (.inr ho) (fun b q hb z => (sb.2 b hb).trans z) hd ?_
  refine ⟨by rw [upd_ne O.ne]; exact ho, ?_, O.ne, O'.obj, _, O'.ns, fun g => ?_, fun g hg => ?_⟩
  · have := length_putF f y fs; exact om97 hl this
  · show RelO ((putF f y fs).lookup g) (if g = f then some u else mA g)
    rw [lookup_putF]
    by_cases q : g = f
    · rw [if_pos q, if_pos q]; exact ry
    · rw [if_neg q, if_neg q]; exact r g
  · by_cases q : g = f
    · rw [q]; exact (keys_putF f y fs).1
    · refine (keys_putF f y fs).2 g (wi g fun z => hg ?_)
      show (if g = f then some u else mA g) = none
      rw [if_neg q]; exact z
theorem Inv.made (I : Inv X pins σ H s) : Inv X pins σ (upd (upd H s.heap.objs.size (.own (s.heap.objs.size + 1))) (s.heap.objs.size + 1) (.ins C s.heap.objs.size []))
    { s with heap := (s.heap.push PySem.W.emptyDict).push (PySem.W.instObj C s.heap.objs.size) } := by
  have e1 : (s.heap.push PySem.W.emptyDict).get? s.heap.objs.size = some PySem.W.emptyDict := Heap.get?_push_size s.heap rfl
  have e2 : ((s.heap.push PySem.W.emptyDict).push (PySem.W.instObj C s.heap.objs.size)).get? (s.heap.objs.size + 1) = some (PySem.W.instObj C s.heap.objs.size) := by
    have := Heap.get?_push_size (s.heap.push PySem.W.emptyDict) (o := PySem.W.instObj C s.heap.objs.size) rfl
    rwa [Heap.size_push] at this
  have e3 : (s.heap.push PySem.W.emptyDict).Ns s.heap.objs.size (fun _ => none) := ⟨PySem.W.emptyDict, #[], _, e1, rfl, (fun e he => absurd he (by simp)), fun _ => rfl⟩
  have I1 := I.laid (a := s.heap.objs.size) (o := .own (s.heap.objs.size + 1)) (h' := s.heap.push PySem.W.emptyDict) (t' := s.toks) (fun b u q => Heap.get?_push_of_some _ q) (Nat.le_refl _) ⟨_, e1⟩
  refine I1.laid (a := s.heap.objs.size + 1) (o := .ins C s.heap.objs.size []) (t' := s.toks) (fun b u q => Heap.get?_push_of_some _ q) (Nat.le_of_eq (Heap.size_push _ _)) ?_
  have ne : s.heap.objs.size ≠ s.heap.objs.size + 1 := Nat.ne_of_lt (Nat.lt_succ_self _)
  refine ⟨by rw [upd_ne ne, upd_same], Nat.zero_le _, ne, e2, fun _ => none, (Heap.Ns1.of_empty e3).at fun o q => Heap.get?_push_of_some _ q, fun _ => True.intro, fun y hy => absurd rfl hy⟩
theorem attr_of {prog : Program} {w : World} {env : Env} {e : Expr} {f : Str} {pos : Pos} {s : Shared} {Q : Value → Shared → Prop} (hb : attributeBase e f env (eval e env) = eval e env)
    (h : wpAny (model prog w) A (eval e env) (fun o s₁ => wpAny (model prog w) A (getAttr o f true) Q E s₁) E s) : wpAny (model prog w) A (eval (.Attribute e f pos) env) Q E s :=
  Attribute_any_ h (by rw [arm_eval_Attribute, hb])
end
noncomputable def tFld (K : PySem.W.Frag) (ta : TE) (f : Str) : TE := fun σ H Q => ta σ H fun x H1 => ∃ a C dx fs v, x = .ref a ∧ H1 a = some (.ins C dx fs) ∧ Cls K C ∧ NoAttr K C f ∧ fs.lookup f = some v ∧ Q v H1
noncomputable def sFld (K : PySem.W.Frag) (ta tv : TE) (f : Str) : TS := fun D σ H => tv σ H fun y H1 => ta σ H1 fun x H2 => ∃ a C dx fs, x = .ref a ∧ H2 a = some (.ins C dx fs) ∧ Cls K C ∧ NoAttr K C f ∧ fs.length < 1000 ∧
  D.nx σ (upd H2 a (.ins C dx (putF f y fs)))
section
variable {X : Cx} {o e value : Expr} {f : Str} {pos pos' tpos : Pos} {ta tv : TE}
theorem pe_fld (he : PE X e ta) (hb : attributeBase e f X.env (eval e X.env) = eval e X.env) : PE X (.Attribute e f pos) (tFld X.K ta f) := by
  intro pins s σ H Q I h
  refine attr_of hb (thn (he pins s σ H _ I h) fun u s1 hq_ => ?_); obtain ⟨x, H1, I1, rx, a, C, dx, fs, v, ex, ea, c, n, l, q⟩ := hq_
  subst ex
  obtain rfl : u = Value.ref a := rx
  exact getattr_ok I1 ea c n l fun u' s2 I2 ru => ⟨v, H1, I2, ru, q⟩
theorem ps_fld (ha : PE X o ta) (hv : PE X value tv) (hs : swapsWith value (some (.Attribute o f pos')) pos.line X.env = pure false) : PS X (.Assign [.Attribute o f pos'] value pos) (sFld X.K ta tv f) := by
  intro pins s σ H D I h
  refine plainObj_wpAny_Assign_Attribute (thn (hv pins s σ H _ I h) fun u s1 ⟨y, H1, I1, ry, q⟩ => thn (ha pins s1 σ H1 _ I1 q) fun ov s2 hq_ => ?_) hs; obtain ⟨x, H2, I2, rx, a, C, dx, fs, ex, ea, c, n, l, q2⟩ := hq_
  subst ex
  obtain rfl : ov = Value.ref a := rx
  exact setattr_ok I2 ea c n l ry fun s3 I3 => ⟨σ, _, I3, q2⟩
end
section
variable {X : Cx} {pins : List (Addr × Obj)} {σ : St} {H : Hp} {s : Shared} {A : Around} {E : Value → Shared → Prop} {Q : Value → Shared → Prop} {c : Value} {b : Bool}
inductive TyOf (K : PySem.W.Frag) (H : Hp) : V → Value → Prop where
  | non : TyOf K H .non (.type "NoneType")
  | bl (x : Bool) : TyOf K H (.bl x) (.type "bool")
  | int (i : Int) : TyOf K H (.int i) (.type "int")
  | str (x : Str) : TyOf K H (.str x) (.type "str")
  | flt (x : UInt64) : TyOf K H (.flt x) (.type "float")
  | lst {a : Addr} {xs : List V} (e : H a = some (.lst xs)) : TyOf K H (.ref a) (.type "list")
  | frz {a : Addr} {o : Obj} {xs : List V} (e : H a = some (.frz o (.lst xs))) : TyOf K H (.ref a) (.type "list")
  | tup {a : Addr} {xs : List V} (e : H a = some (.tup xs)) : TyOf K H (.ref a) (.type "tuple")
  | dK {a : Addr} {kvs : List (Key × V)} (e : H a = some (.dK kvs)) : TyOf K H (.ref a) (.type "dict")
  | dT {a : Addr} {kvs : List (List Key × V)} (e : H a = some (.dT kvs)) : TyOf K H (.ref a) (.type "dict")
  | ins {a C dx : Addr} {fs : List (Str × V)} (e : H a = some (.ins C dx fs)) (cl : Cls K C) (ha : PySem.W.findIn K (.ref C) "__class__" = some (some (.builtin "object.__class__")))
      (hn : PySem.W.specialIn K (.builtin "object.__class__") "__get__" = some (some (.builtin "getset_descriptor.__get__"))) (htk : PySem.W.takesIn K (.builtin "object.__class__") = some true)
      (hm : PySem.W.mroIn K C (.type "object") = some true) : TyOf K H (.ref a) (.ref C)
theorem isinst_ok {x : V} {u t : Value} (I : Inv X pins σ H s) (rx : RelV x u) (ty : TyOf X.K H x t) (e : PySem.W.kitOne X.K t c = some b) (h : ∀ tk, Q (.bool b) { s with toks := tk }) :
    wpAny (model X.prog X.w) A (call (.builtin "isinstance") [u, c]) Q E s := by
  cases ty with
  | non => cases (show u = Value.none from rx); exact PySem.W.kia_one PySem.W.kitx_none I.kIn True.intro e (fun z => nomatch z) h
  | bl y => cases (show u = Value.bool y from rx); exact PySem.W.kia_one PySem.W.kitx_bool I.kIn True.intro e (fun z => nomatch z) h
  | int i => obtain ⟨t, q⟩ := (show ∃ t, u = Value.int i t from rx); cases q; exact PySem.W.kia_one PySem.W.kitx_int I.kIn True.intro e (fun z => nomatch z) h
  | str y => obtain ⟨t, q⟩ := (show ∃ t, u = Value.str y t from rx); cases q; exact PySem.W.kia_one PySem.W.kitx_str I.kIn True.intro e (fun z => nomatch z) h
  | flt y => obtain ⟨t, q⟩ := (show ∃ t, u = Value.float y t from rx); cases q; exact PySem.W.kia_one PySem.W.kitx_float I.kIn True.intro e (fun z => nomatch z) h
  | @lst a xs ea =>
    cases (show u = Value.ref a from rx)
    obtain ⟨_, _, n, _, h1⟩ := (show ObjOk X.prog X.w H s.heap a (.lst xs) from I.hok a _ ea)
    exact PySem.W.kia_one PySem.W.kitx_list I.kIn ⟨_, h1, rfl⟩ e (fun z => nomatch z) h
  | @frz a ob xs ea =>
    cases (show u = Value.ref a from rx)
    obtain ⟨_, _, _, n, _, h1⟩ := (show ObjOk X.prog X.w H s.heap a (.frz ob (.lst xs)) from I.hok a _ ea)
    exact PySem.W.kia_one PySem.W.kitx_list I.kIn ⟨_, h1, rfl⟩ e (fun z => nomatch z) h
  | @tup a xs ea =>
    cases (show u = Value.ref a from rx)
    obtain ⟨_, _, _, p⟩ := (show ObjOk X.prog X.w H s.heap a (.tup xs) from I.hok a _ ea)
    obtain ⟨o, h1, h2, _⟩ := p
    exact PySem.W.kia_one PySem.W.kitx_tuple I.kIn ⟨o, h1, h2⟩ e (fun z => nomatch z) h
  | @dK a kvs ea =>
    cases (show u = Value.ref a from rx)
    obtain ⟨_, _, vs, _, p⟩ := (show ObjOk X.prog X.w H s.heap a (.dK kvs) from I.hok a _ ea)
    obtain ⟨o, es, ep, h1, h2, _⟩ := p
    exact PySem.W.kia_one PySem.W.kitx_dict I.kIn ⟨o, h1, h2.1⟩ e (fun z => nomatch z) h
  | @dT a kvs ea =>
    cases (show u = Value.ref a from rx)
    obtain ⟨_, _, xs, _, o, es, ep, h1, h2, _⟩ := (show ObjOk X.prog X.w H s.heap a (.dT kvs) from I.hok a _ ea)
    exact PySem.W.kia_one PySem.W.kitx_dict I.kIn ⟨o, h1, h2.1⟩ e (fun z => nomatch z) h
  | @ins a C dx fs ea cl ha hn htk hm =>
    cases (show u = Value.ref a from rx)
    obtain ⟨mA, O, _⟩ := ins_get I.hok ea
    obtain ⟨od, J, _⟩ := O.look
    exact PySem.W.kia_one (PySem.W.kitx_own (cl.get _) cl.hd ha hn htk hm) I.kIn J e (fun z => nomatch z) h
end
end L2
namespace L2
open PySem PySem.Spec PyProof.Rows
structure Room (k : Nat) (A : Around) : Prop where
  hd : A.handled = none
  dp : A.depth + 3 * k + 5 < recursionLimit
  un : A.units + 16 * k + 200 < cLine
theorem Room.mono {j k : Nat} {A : Around} (r : Room k A) (h : j ≤ k) : Room j A := ⟨r.hd, by have := r.dp; exact om98 h this, by have := r.un; exact om99 h this⟩
theorem Room.deeper {k : Nat} {A : Around} (r : Room (k + 1) A) (env : Env) : Room k (A.deeper env) :=
  ⟨r.hd, by have := r.dp; show A.depth + 1 + 3 * k + 5 < _; exact om41 this, by have := r.un; show A.units + 3 + 16 * k + 200 < _; exact om100 this⟩
theorem make_depth {A : Around} {C : Addr} {us : List Value} {kw : List (Str × Value)} : (A.under (.builtin "type.__call__" ⟨.ref C :: us, kw⟩)).depth = A.depth + 1 := by
  first | rfl | simp [Around.under, Code.weight, Code.isCreation, Code.isGuard, Code.isCaller, Code.frames, Code.isFrame, guardIds]
theorem make_units {A : Around} {C : Addr} {us : List Value} {kw : List (Str × Value)} : (A.under (.builtin "type.__call__" ⟨.ref C :: us, kw⟩)).units = A.units + 1 := by
  first | rfl | simp [Around.under, Code.cUnits, Code.frames, Code.isFrame]
theorem Room.make {k : Nat} {A : Around} (r : Room (k + 1) A) (C : Addr) (us : List Value) (kw : List (Str × Value)) : Room k (A.under (.builtin "type.__call__" ⟨.ref C :: us, kw⟩)) :=
  ⟨r.hd, by have := r.dp; rw [make_depth]; exact om41 this, by have := r.un; rw [make_units]; exact om101 this⟩
theorem Room.depth {k : Nat} {A : Around} (r : Room k A) : A.depth < recursionLimit := by have := r.dp; exact om102 this
theorem Room.units {k : Nat} {A : Around} (r : Room k A) : A.units + 64 < cLine := by have := r.un; exact om103 this
noncomputable def tNil : TA := fun _ H Q => Q [] H
noncomputable def tCons (ta : TE) (tr : TA) : TA := fun σ H Q => ta σ H fun x H1 => tr σ H1 fun xs H2 => Q (x :: xs) H2
section
variable {X : Cx} {e : Expr} {es : List Expr} {te : TE} {t : TA} {pos : Pos}
theorem pa_nil : PA X [] tNil := fun _ _ _ _ H Q I h => Calls.spliced_nil ⟨[], H, I, .nil, h⟩
theorem pa_cons (ha : PE X e te) (hr : PA X es t) (hs : starEach (e :: es) X.env = (false, eval e X.env) :: starEach es X.env := by rfl) : PA X (e :: es) (tCons te t) := by
  intro pos pins s σ H Q I h
  rw [hs]
  show wpAny _ _ (spliced ((false, eval e X.env) :: backTo pos (starEach es X.env))) _ _ s
  refine Calls.spliced_cons (thn (ha pins s σ H _ I h) fun u s1 hq_ => ?_); obtain ⟨x, H1, I1, r1, q1⟩ := hq_
  exact thn (hr pos pins s1 σ H1 _ I1 q1) fun us s2 ⟨xs, H2, I2, r2, q2⟩ => ⟨x :: xs, H2, I2, .cons r1 r2, q2⟩
noncomputable def tTup (t : TA) : TE := fun σ H Q => t σ H fun xs H1 => xs.length ≤ sizeLine ∧ ∀ p, H1 p = none → Q (.ref p) (upd H1 p (.tup xs))
noncomputable def tLst (t : TA) : TE := fun σ H Q => t σ H fun xs H1 => xs.length ≤ sizeLine ∧ ∀ p, H1 p = none → Q (.ref p) (upd H1 p (.lst xs))
theorem pe_tup {x1} (h : PA X es t) : PE X (.Tuple es x1 pos) (tTup t) := by
  intro pins s σ H Q I hq
  refine wpAny_Tuple_spliced (thn (h pos pins s σ H _ I hq) fun us s1 ⟨xs, H1, I1, r, z, q⟩ => ⟨by rw [← r.length]; exact z, ?_⟩)
  have hf : H1 s1.heap.objs.size = none := I1.hok.fresh (Nat.le_refl _)
  refine ⟨.ref s1.heap.objs.size, upd H1 s1.heap.objs.size (.tup xs), I1.laid (t' := s1.toks) (fun b u e => Heap.get?_push_of_some _ e) (Nat.le_refl _) ?_, rfl, q _ hf⟩
  exact ⟨z, us, r, ⟨_, Heap.get?_push_size _ rfl, rfl, _, rfl⟩⟩
theorem pe_lst (h : PA X es t) : PE X (.List es pos) (tLst t) := by
  intro pins s σ H Q I hq
  refine wpAny_List_spliced (thn (h pos pins s σ H _ I hq) fun us s1 ⟨xs, H1, I1, r, z, q⟩ => ⟨by rw [← r.length]; exact z, ?_⟩)
  have hf : H1 s1.heap.objs.size = none := I1.hok.fresh (Nat.le_refl _)
  refine ⟨.ref s1.heap.objs.size, upd H1 s1.heap.objs.size (.lst xs), I1.laid (t' := s1.toks) (fun b u e => Heap.get?_push_of_some _ e) (Nat.le_refl _) ?_, rfl, q _ hf⟩
  exact ⟨z, us, 0, r, Heap.get?_push_size _ rfl⟩
end
noncomputable abbrev Sp := List V → Hp → VK → XK → Prop
noncomputable abbrev CXT := List Env → Hp → Shared → XK → Value → Shared → Prop
structure Env0 (P : Program) (w : World) (K : PySem.W.Frag) (mg : Str → Option Value) (base : Heap) (A : Around) (outer : List Env) (s : Shared) (H : Hp) : Prop where
  frames : A.frames = some outer
  mod : Mod K mg base
  bs : ∀ b o, base.get? b = some o → s.heap.get? b = some o ∧ H b = none
  bsz : base.objs.size ≤ s.heap.objs.size
  funs : s.heap.FunFrames base outer
  frf : ∀ b ∈ frs outer, H b = none
  hok : HOk P w H s.heap
  bare : AllBare s.gens
noncomputable def CE (outer : List Env) (P : Program) (w : World) (H : Hp) (s : Shared) (Q : VK) (u : Value) (s' : Shared) : Prop :=
  ∃ v H', s'.os = s.os ∧ AllBare s'.gens ∧ Un (frs outer) [] H H' s.heap s'.heap ∧ HOk P w H' s'.heap ∧ RelV v u ∧ Q v H'
noncomputable def CR (CX : CXT) (outer : List Env) (P : Program) (w : World) (H : Hp) (s : Shared) (Q : VK) (E : XK) (r : Result) (s' : Shared) : Prop :=
  match r with
  | .ok (.ret u) => CE outer P w H s Q u s'
  | .ok _ => False
  | .error e => CX outer H s E e s'
structure FnOk (P : Program) (w : World) (K : PySem.W.Frag) (mg : Str → Option Value) (base : Heap) (CX : CXT) (k : Nat) (f : Addr) (fd : FuncData) (ps : List Str) (sp : Sp) : Prop where
  len : ∀ vs H Q E, sp vs H Q E → vs.length = ps.length
  run : ∀ (A : Around) (outer : List Env) (s : Shared) (H : Hp) (args : Args) (us : List Value) (vs : List V) (Q : VK) (E : XK), Room k A → Env0 P w K mg base A outer s H → BindsTo s fd args (ps.zip us) → Vals vs us → sp vs H Q E →
    codeAny (model P w) A (.call (.ref f) args) (CR CX outer P w H s Q E) s
theorem Env0.make {P : Program} {w : World} {K : PySem.W.Frag} {mg : Str → Option Value} {base : Heap} {A : Around} {outer : List Env} {s : Shared} {H : Hp} (e : Env0 P w K mg base A outer s H) (C : Addr) (us : List Value) (kw : List (Str × Value)) :
    Env0 P w K mg base (A.under (.builtin "type.__call__" ⟨.ref C :: us, kw⟩)) outer s H := ⟨by first | exact e.frames | (simpa [Around.under, Code.envs, Code.isFrame, pushEnvs] using e.frames), e.mod, e.bs, e.bsz, e.funs, e.frf, e.hok, e.bare⟩
section
variable {X : Cx} {pins : List (Addr × Obj)} {σ : St} {H : Hp} {s s' : Shared}
theorem Inv.env0 (I : Inv X pins σ H s) : Env0 X.prog X.w X.K X.mg X.base X.A X.stack s H :=
  ⟨I.ok.frames, I.ok.mod, I.bs, Nat.le_trans I.ok.bsz I.sz, I.stack, I.stkFree, I.hok, I.bare⟩
theorem Inv.after {Q : VK} {u : Value} (I : Inv X pins σ H s) (h : CE X.stack X.prog X.w H s Q u s') : EP X pins σ Q u s' := by
  obtain ⟨v, H', os, bare, un, hok, r, q⟩ := h
  obtain ⟨hh, g, d, t, os'⟩ := s'
  obtain rfl : os' = s.os := os
  exact ⟨v, H', I.call (h' := hh) (g' := g) (d' := d) (t' := t) (ch := []) un hok bare (fun b z => absurd z (by simp)), r, q⟩
end
noncomputable def tCall (sp : Sp) (dvs : List V) (E : XK) (t : TA) : TE := fun σ H Q => t σ H fun vs H1 => sp (vs ++ dvs) H1 Q E
noncomputable def tMeth (C : Addr) (m : Str) (sp : Sp) (dvs : List V) (E : XK) (ta : TE) (t : TA) : TE := fun σ H Q => ta σ H fun x H1 => ∃ a dx fs, x = .ref a ∧ H1 a = some (.ins C dx fs) ∧ fs.lookup m = none ∧
  t σ H1 fun vs H2 => sp (x :: (vs ++ dvs)) H2 Q E
noncomputable def tMake (C : Addr) (sp : Sp) (dvs : List V) (E : XK) (t : TA) : TE := fun σ H Q => t σ H fun vs H1 => ∀ x dx, H1 x = none → H1 dx = none → dx ≠ x →
  sp (.ref x :: (vs ++ dvs)) (upd (upd H1 dx (.own x)) x (.ins C dx [])) (fun v H2 => v = .non ∧ Q (.ref x) H2) E
noncomputable def Binds (K : PySem.W.Frag) (fd : FuncData) (ps : List Str) (ds : List Value) : Prop :=
  ∀ (s : Shared) (us : List Value), K.In s.heap → (us ++ ds).length = ps.length → BindsTo s fd ⟨us, []⟩ (ps.zip (us ++ ds))
theorem Binds.all {K : PySem.W.Frag} {fd : FuncData} {ps : List Str} (h : ∀ us : List Value, us.length = ps.length → bindArgs fd ⟨us, []⟩ = pure (ps.zip us)) : Binds K fd ps [] := fun s us _ hl => by
  rw [List.append_nil] at hl ⊢
  exact .of_eq (h us hl)
noncomputable def Passes (CX : CXT) (X : Cx) (E : XK) : Prop := ∀ (pins : List (Addr × Obj)) (σ : St) (H : Hp) (s : Shared) (e : Value) (s' : Shared), Inv X pins σ H s → CX X.stack H s E e s' → X.xe e s'
section
variable {X : Cx} {CX : CXT} {k : Nat} {f C : Addr} {fd : FuncData} {ps : List Str} {sp : Sp} {dvs : List V} {ds : List Value} {E : XK} {x m : Str} {p pos apos : Pos} {e o : Expr} {es : List Expr} {ta : TE} {t : TA}
theorem run_fn {pins : List (Addr × Obj)} {σ : St} {H : Hp} {s : Shared} {Q : VK} {us : List Value} {vs : List V} (F : FnOk X.prog X.w X.K X.mg X.base CX k f fd ps sp) (hr : Room k X.A) (hb : Binds X.K fd ps ds) (hd : Vals dvs ds) (hx : Passes CX X E)
    (I : Inv X pins σ H s) (r : Vals vs us) (h : sp (vs ++ dvs) H Q E) : wpAny (model X.prog X.w) X.A (call (.ref f) us) (EP X pins σ Q) X.xe s := by
  have r2 : Vals (vs ++ dvs) (us ++ ds) := r.append hd
  have hl : (us ++ ds).length = ps.length := by rw [← r2.length]; exact F.len _ _ _ _ h
  refine wpAny_call (codeAny_mono (F.run X.A X.stack s H ⟨us, []⟩ (us ++ ds) (vs ++ dvs) Q E hr I.env0 (hb s us I.kIn hl) r2 h) fun r s' hq => ?_)
  cases r with
  | error e => exact hx pins σ H s e s' I hq
  | ok fl =>
    cases fl with
    | ret u => exact I.after hq
    | next => exact False.elim hq
    | brk => exact False.elim hq
    | cont => exact False.elim hq
theorem pe_call (F : FnOk X.prog X.w X.K X.mg X.base CX k f fd ps sp) (hr : Room k X.A) (hg : Gl X x) (hm : X.mg x = some (.ref f)) (hk : PySem.W.keepIn X.K (.ref f) = true) (hb : Binds X.K fd ps ds) (hd : Vals dvs ds) (hx : Passes CX X E)
    (ha : PA X (e :: es) t) (hdb : (x == ("__debug__" : Str)) = false := by decide) (he : starEach (e :: es) X.env = (false, eval e X.env) :: starEach es X.env := by rfl) (hpl : (backTo pos (starEach es X.env)).any (·.1) = false := by rfl) :
    PE X (.Call (.Name x p) (e :: es) [] pos) (tCall sp dvs E t) := by
  intro pins s σ H Q I h
  refine wpAny_Call_Name_kw (ld_glob I hg hm ?_ hdb)
  refine PySem.W.callWith_K (h₀ := X.base) I.ok.mod.kin hk (thn (ha pos pins s σ H _ I h) fun us s1 ⟨vs, H1, I1, r, q⟩ => ⟨I1.kIn, ?_⟩) he hpl
  exact run_fn F hr hb hd hx I1 r q
theorem pe_meth {pl : Sem Bool} (he : PE X o ta) (c : Cls X.K C) (hm : Meth X.K C m f) (F : FnOk X.prog X.w X.K X.mg X.base CX k f fd ps sp) (hr : Room k X.A) (hb : Binds X.K fd ps ds) (hd : Vals dvs ds) (hx : Passes CX X E) (ha : PA X (e :: es) t)
    (hst : starEach (e :: es) X.env = (false, eval e X.env) :: starEach es X.env := by rfl) (hpl : (backTo pos (starEach es X.env)).any (·.1) = false := by rfl)
    (ht : eval (.Call (.Attribute o m apos) (e :: es) [] pos) X.env = (do
      let ov ← eval o X.env
      standAt apos.atName
      let (f, first) ← holding [ov] (getMethod ov m pl)
      callWith pos f first (backTo pos (starEach (e :: es) X.env)) (backToKw pos (keywordEach [] X.env))) := by rfl) :
    PE X (.Call (.Attribute o m apos) (e :: es) [] pos) (tMeth C m sp dvs E ta t) := by
  intro pins s σ H Q I h
  refine PySem.W.methodCall_KW (pl := pl) (thn (he pins s σ H _ I h) fun u s1 hq_ => ?_) ht; obtain ⟨x, H1, I1, rx, a, dx, fs, ex, ea, l, q⟩ := hq_
  subst ex
  obtain rfl : u = Value.ref a := rx
  refine getmeth_ok I1 ea c hm l ?_
  refine PySem.W.callWith_K (first := [.ref a]) (h₀ := X.base) I.ok.mod.kin hm.kp (thn (ha pos pins s1 σ H1 _ I1 q) fun us s2 ⟨vs, H2, I2, r, q2⟩ => ⟨I2.kIn, ?_⟩) hst hpl
  exact run_fn (us := .ref a :: us) (vs := .ref a :: vs) F hr hb hd hx I2 (.cons rfl r) q2
structure Mk (K : PySem.W.Frag) (C f : Addr) : Prop where
  makes : PySem.W.makesIn K C = true
  init : PySem.W.findIn K (.ref C) "__init__" = some (some (.ref f))
  fn : PySem.W.isFn K (.ref f) = true
  kp : PySem.W.keepIn K (.ref C) = true
theorem run_make {pins : List (Addr × Obj)} {σ : St} {H : Hp} {s : Shared} {Q : VK} {us : List Value} {vs : List V} (M : Mk X.K C f) (F : FnOk X.prog X.w X.K X.mg X.base CX k f fd ps sp) (hr : Room (k + 1) X.A) (hb : Binds X.K fd ps ds) (hd : Vals dvs ds)
    (hx : Passes CX X E) (I : Inv X pins σ H s) (r : Vals vs us)
    (h : ∀ x dx, H x = none → H dx = none → dx ≠ x → sp (.ref x :: (vs ++ dvs)) (upd (upd H dx (.own x)) x (.ins C dx [])) (fun v H2 => v = .non ∧ Q (.ref x) H2) E) :
    wpAny (model X.prog X.w) X.A (call (.ref C) us) (EP X pins σ Q) X.xe s := by
  have hq := h (s.heap.objs.size + 1) s.heap.objs.size (I.hok.fresh (Nat.le_succ _)) (I.hok.fresh (Nat.le_refl _)) (Nat.ne_of_lt (Nat.lt_succ_self _))
  have I2 := Inv.made (C := C) I
  have r2 : Vals (V.ref (s.heap.objs.size + 1) :: (vs ++ dvs)) (Value.ref (s.heap.objs.size + 1) :: (us ++ ds)) := .cons rfl (r.append hd)
  have hl : (Value.ref (s.heap.objs.size + 1) :: us ++ ds).length = ps.length := by
    have e := r2.length
    rw [F.len _ _ _ _ hq] at e
    exact e.symm
  refine wpAny_call (make_map (f := f) I.kIn M.makes M.init (beq_iff_eq.mp M.fn) (codeAny_mono (F.run _ X.stack _ _ ⟨Value.ref (s.heap.objs.size + 1) :: us, []⟩ (Value.ref (s.heap.objs.size + 1) :: (us ++ ds)) _ _ E (hr.make C us [])
    (I2.env0.make C us []) (hb _ (Value.ref (s.heap.objs.size + 1) :: us) I2.kIn hl) r2 hq) fun r s' hq' => ?_))
  cases r with
  | error e => exact hx pins σ _ _ e s' I2 hq'
  | ok fl =>
    cases fl with
    | ret u =>
      obtain ⟨v, H', I3, rv, ev, q3⟩ := I2.after hq'
      subst ev
      exact ⟨rv, ⟨V.ref (s.heap.objs.size + 1), H', I3, rfl, q3⟩⟩
    | next => exact False.elim hq'
    | brk => exact False.elim hq'
    | cont => exact False.elim hq'
theorem pe_make (M : Mk X.K C f) (F : FnOk X.prog X.w X.K X.mg X.base CX k f fd ps sp) (hr : Room (k + 1) X.A) (hg : Gl X x) (hm : X.mg x = some (.ref C)) (hb : Binds X.K fd ps ds) (hd : Vals dvs ds) (hx : Passes CX X E)
    (ha : PA X (e :: es) t) (hdb : (x == ("__debug__" : Str)) = false := by decide) (he : starEach (e :: es) X.env = (false, eval e X.env) :: starEach es X.env := by rfl) (hpl : (backTo pos (starEach es X.env)).any (·.1) = false := by rfl) :
    PE X (.Call (.Name x p) (e :: es) [] pos) (tMake C sp dvs E t) := by
  intro pins s σ H Q I h
  refine wpAny_Call_Name_kw (ld_glob I hg hm ?_ hdb)
  refine PySem.W.callWith_K (h₀ := X.base) I.ok.mod.kin M.kp (thn (ha pos pins s σ H _ I h) fun us s1 ⟨vs, H1, I1, r, q⟩ => ⟨I1.kIn, ?_⟩) he hpl
  exact run_make M F hr hb hd hx I1 r q
end
section
variable {X : Cx} {CX : CXT} {k : Nat} {f C : Addr} {fd : FuncData} {ps ks : List Str} {sp : Sp} {E : XK} {x m : Str} {p pos apos kpos : Pos} {e o : Expr} {es : List Expr} {kws : List Keyword} {te ta : TE} {t tk : TA} {nm : Option Str}
variable {g : List Value → List Value → List Value} {gV : List V → List V → List V}
end
structure FnScope (N P : List Str) (sc : Scope) : Prop where
  kind : sc.kind = .function
  co : sc.isCoroutine = false
  gen : sc.isGenerator = false
  nd : N.Nodup
  pre : N.take P.length = P
  par : ∀ x ∈ P, sc.names.lookup x = some .local ∨ sc.names.lookup x = some .cell
  nofree : ∀ y ∈ sc.names, y.2 ≠ .free
theorem bindL_out {kindOf : Str → Option NameKind} {x : Str} : ∀ {binds : List (Str × Value)} {m : Str → Option Value}, (∀ v, (x, v) ∉ binds) → bindL kindOf binds m x = m x
  | [], _, _ => rfl
  | (n, v) :: r, m, h => by
    unfold bindL
    rw [bindL_out fun w hw => h w (List.mem_cons_of_mem _ hw)]
    split
    · have : x ≠ n := by rintro rfl; exact h v List.mem_cons_self
      simp [this]
    · rfl
theorem bindC_out {kindOf : Str → Option NameKind} {x : Str} : ∀ {binds : List (Str × Value)} {m : Str → Option Value}, (∀ v, (x, v) ∉ binds) → bindC kindOf binds m x = m x
  | [], _, _ => rfl
  | (n, v) :: r, m, h => by
    unfold bindC
    rw [bindC_out fun w hw => h w (List.mem_cons_of_mem _ hw)]
    split
    · rfl
    · have : x ≠ n := by rintro rfl; exact h v List.mem_cons_self
      simp [this]
theorem bindL_get {kindOf : Str → Option NameKind} {x : Str} {v : Value} : ∀ {P : List Str} {vs : List Value} {i : Nat} {m : Str → Option Value}, P.Nodup → P[i]? = some x → vs[i]? = some v → kindOf x = some .local →
    bindL kindOf (P.zip vs) m x = some v
  | [], _, _, _, _, h, _, _ => by simp at h
  | _ :: _, [], _, _, _, _, h, _ => by simp at h
  | p :: P, w :: vs, 0, m, nd, h1, h2, hk => by
    simp at h1 h2; subst h1; subst h2
    show bindL kindOf ((p, w) :: P.zip vs) m p = _
    unfold bindL
    rw [bindL_out fun v hv => (List.nodup_cons.mp nd).1 (List.of_mem_zip hv).1, if_pos hk]
    simp
  | p :: P, w :: vs, i + 1, m, nd, h1, h2, hk => by
    show bindL kindOf ((p, w) :: P.zip vs) m x = _
    unfold bindL
    exact bindL_get (i := i) (List.nodup_cons.mp nd).2 (by simpa using h1) (by simpa using h2) hk
theorem bindC_get {kindOf : Str → Option NameKind} {x : Str} {v : Value} : ∀ {P : List Str} {vs : List Value} {i : Nat} {m : Str → Option Value}, P.Nodup → P[i]? = some x → vs[i]? = some v → kindOf x ≠ some .local →
    bindC kindOf (P.zip vs) m x = some v
  | [], _, _, _, _, h, _, _ => by simp at h
  | _ :: _, [], _, _, _, _, h, _ => by simp at h
  | p :: P, w :: vs, 0, m, nd, h1, h2, hk => by
    simp at h1 h2; subst h1; subst h2
    show bindC kindOf ((p, w) :: P.zip vs) m p = _
    unfold bindC
    rw [bindC_out fun v hv => (List.nodup_cons.mp nd).1 (List.of_mem_zip hv).1, if_neg hk]
    simp
  | p :: P, w :: vs, i + 1, m, nd, h1, h2, hk => by
    show bindC kindOf ((p, w) :: P.zip vs) m x = _
    unfold bindC
    exact bindC_get (i := i) (List.nodup_cons.mp nd).2 (by simpa using h1) (by simpa using h2) hk
noncomputable def start (N : List Str) (vs : List V) : St := vs.map some ++ List.replicate (N.length - vs.length) none
noncomputable def cxOf (CX : CXT) (P : Program) (w : World) (K : PySem.W.Frag) (mg : Str → Option Value) (base : Heap) (N : List Str) (qual : Str) (scope : Scope) (f : Addr) (cd : Value) (A : Around) (outer : List Env) (s : Shared) (H : Hp) (E : XK) : Cx where
  prog := P
  w := w
  K := K
  mg := mg
  base := base
  A := A.deeper (envOfC qual scope s.heap.objs.size f cd)
  N := N
  s₀ := s
  H₀ := H
  env := envOfC qual scope s.heap.objs.size f cd
  outer := outer
  stack := envOfC qual scope s.heap.objs.size f cd :: outer
  ex := []
  calm := true
  fn := fun _ => true
  pn := []
  xe := fun e s' => wpAny (model P w) (A.deeper (envOfC qual scope s.heap.objs.size f cd)) (leaving (envOfC qual scope s.heap.objs.size f cd) e) (fun _ s'' => CX outer H s E e s'') (fun e' s'' => CX outer H s E e' s'') s'
theorem cell_has {sc : Scope} {n : Nat} {x : Str} (h : sc.names.lookup x = some .cell) : ∃ c, (cellsFrom n sc.names []).lookup x = some c := by
  have q := PySem.W.cellsFrom_some sc.names n [] (.inl h)
  exact Option.isSome_iff_exists.mp q
theorem inv_start {CX : CXT} {P : Program} {w : World} {K : PySem.W.Frag} {mg : Str → Option Value} {base : Heap} {N ps : List Str} {qual : Str} {scope : Scope} {f : Addr} {cd : Value} {A : Around} {outer : List Env} {s s1 : Shared} {H : Hp} {E : XK} {us : List Value} {vs : List V}
    (S : FnScope N ps scope) (hd : A.handled = none) (e0 : Env0 P w K mg base A outer s H) (hl : vs.length = ps.length) (r : Vals vs us)
    (x : InCallC s s.heap.objs.size (bindL (envOfC qual scope s.heap.objs.size f cd).kindOf (ps.zip us) fun _ => none) (cellsFrom (s.heap.objs.size + 1) scope.names []) (bindC (envOfC qual scope s.heap.objs.size f cd).kindOf (ps.zip us) fun _ => none) s1) :
    Inv (cxOf CX P w K mg base N qual scope f cd A outer s H E) [] (start N vs) H s1 := by
  have hpl : ps.length ≤ N.length := by have := congrArg List.length S.pre; rw [List.length_take] at this; exact om104 this
  obtain ⟨h1, tk, rfl, hk⟩ := x.done
  have noA : ∀ b : Addr, b ∉ (cxOf CX P w K mg base N qual scope f cd A outer s H E).ex := fun b z => absurd (show b ∈ ([] : List Addr) from z) (by simp)
  refine ⟨⟨e0.mod, S.kind, rfl, rfl, Nat.le_refl _, fun y z c h1 h2 => ?_, fun y hy => ?_, fun y c _ h => ?_, fun _ => hd, Around.frames_deeper e0.frames, .inr ⟨rfl, rfl⟩, fun b z => absurd z (noA b), e0.bs, e0.bsz, fun b _ _ => noA b, fun b z => absurd z (noA b), e0.funs, e0.frf⟩,
    rfl, e0.bare, Un.kept hk, ⟨_, x.toInCall.ns, fun i y v h1 h2 h3 => ?_⟩, fun y c h => ⟨_, x.cell y c h⟩, e0.hok.fresh (Nat.le_refl _), fun y c h => ?_, fun p hp => absurd (show p ∈ ([] : List (Addr × Obj)) from hp) (by simp), e0.hok.kept hk, ?_⟩
  · exact name_of_addr x.apart (PySem.mem_of_lookup h1) (PySem.mem_of_lookup h2)
  · have hy : scope.names.lookup y = some .cell ∨ scope.names.lookup y = some .free := hy
    rcases hy with hy | hy
    · exact cell_has hy
    · exact absurd rfl (S.nofree _ (PySem.mem_of_lookup hy))
  · exact Nat.le_of_lt (x.above y c (PySem.mem_of_lookup h))
  · have hi : i < vs.length := by
      unfold start at h2
      by_cases hi : i < vs.length
      · exact hi
      · rw [List.getElem?_append_right (by simpa using hi)] at h2
        rw [List.getElem?_replicate] at h2
        split at h2 <;> cases h2
    have ha : vs[i]? = some v := by
      unfold start at h2
      rw [List.getElem?_append_left (by simpa using hi), List.getElem?_map] at h2
      cases e : vs[i]? with
      | none => rw [e] at h2; cases h2
      | some a => rw [e] at h2; cases h2; rfl
    obtain ⟨u, hu, rv⟩ := r.get ha
    have hp : ps[i]? = some y := by
      rw [← S.pre, List.getElem?_take_of_lt (om21 hl hi)]; exact h1
    have ndP : ps.Nodup := by rw [← S.pre]; exact S.nd.sublist (List.take_sublist _ _)
    refine ⟨u, rv, ?_⟩
    rcases S.par y (List.mem_of_getElem? hp) with k | k
    · exact .inl ⟨k, bindL_get ndP hp hu k⟩
    · obtain ⟨c, e⟩ := cell_has (n := s.heap.objs.size + 1) k
      refine .inr ⟨.inl k, c, e, ?_⟩
      have q := x.cell y c e
      rw [bindC_get ndP hp hu (by show scope.names.lookup y ≠ _; rw [k]; decide)] at q
      exact q
  · exact e0.hok.fresh (Nat.le_of_lt (x.above y c (PySem.mem_of_lookup h)))
  · unfold start
    show _ = N.length
    rw [List.length_append, List.length_map, List.length_replicate]
    exact om105 hl hpl
theorem fn_of {CX : CXT} {P : Program} {w : World} {K : PySem.W.Frag} {mg : Str → Option Value} {base : Heap} {k : Nat} {f : Addr} {name qual : Str} {params : Arguments} {body : List Stmt} {scope : Scope} {dV kV doc pm cdv ct oc : Value} {an od : Option Addr}
    {osl : Array (Option Value)} {N ps : List Str} {sp : Sp} (lk : K.lookup f = some ⟨oc, od, .func (PySem.W.fnOf name qual params body scope dV kV doc pm an cdv ct), osl⟩) (hcd : PySem.W.codeIn K cdv qual = true) (S : FnScope N ps scope)
    (len : ∀ vs H Q E, sp vs H Q E → vs.length = ps.length)
    (hbody : ∀ (A : Around) (outer : List Env) (s : Shared) (H : Hp) (vs : List V) (Q : VK) (E : XK), Room k (A.deeper (envOfC qual scope s.heap.objs.size f cdv)) → sp vs H Q E →
      ∃ t, PSs (cxOf CX P w K mg base N qual scope f cdv A outer s H E) body t ∧ t { nx := fun _ H' => Q .non H', rt := Q } (start N vs) H) :
    FnOk P w K mg base CX (k + 1) f (PySem.W.fnOf name qual params body scope dV kV doc pm an cdv ct) ps sp := by
  refine ⟨len, fun A outer s H args us vs Q E hr e0 hb r hsp => ?_⟩
  have hl := len _ _ _ _ hsp
  have KX : K.In s.heap := e0.mod.kin.keeps fun b o e => (e0.bs b o e).1
  have lim : s.heap.NoLimit := e0.mod.nolimit.keeps fun b o e => (e0.bs b o e).1
  have hkind : ∀ y ∈ ps.zip us, scope.names.lookup y.1 = some .local ∨ (scope.names.lookup y.1 = some .cell ∧ ((cellsFrom (s.heap.objs.size + 1) scope.names []).lookup y.1).isSome = true) := fun ⟨n, v⟩ hy => by
    rcases S.par n (List.of_mem_zip hy).1 with q | q
    · exact .inl q
    · exact .inr ⟨q, PySem.W.cellsFrom_some _ _ _ (.inl q)⟩
  refine codeAny_call_function hr.depth (KX _ _ lk) rfl S.co S.gen rfl (PySem.W.codeRec_of KX hcd) (hb _ _ _ _ ?_)
  refine wpAny_newFunctionEnv_cells S.kind hkind fun env he s1 x => ?_
  subst he
  refine ⟨lim.keeps x.toInCall.keep, codeAny_func ?_⟩
  obtain ⟨t, ht, hq⟩ := hbody A outer s H vs Q E (hr.deeper _) hsp
  have I : Inv (cxOf CX P w K mg base N qual scope f cdv A outer s H E) [] (start N vs) H s1 := inv_start S hr.hd e0 hl r x
  refine wpAny_mono (ht [] s1 (start N vs) H _ I hq) (fun fl s' hs => ?_) fun e s' hs => hs
  have fin : ∀ {σ' : St} {H' : Hp} {v : V} {u : Value}, Inv (cxOf CX P w K mg base N qual scope f cdv A outer s H E) [] σ' H' s' → RelV v u → Q v H' → CE outer P w H s Q u s' :=
    fun {σ' H' v u} J rv q => ⟨v, H', J.os, J.bare, J.base, J.hok, rv, q⟩
  cases fl with
  | ret u =>
    obtain ⟨v, σ', H', J, rv, q⟩ := hs
    exact fin J rv q
  | next =>
    obtain ⟨σ', H', J, q⟩ := hs
    exact fin (v := V.non) (u := Value.none) J rfl q
  | brk =>
    obtain ⟨_, _, _, q⟩ := hs
    exact False.elim q
  | cont =>
    obtain ⟨_, _, _, q⟩ := hs
    exact False.elim q
end L2
namespace L2
open PySem PySem.Spec PyProof.Rows
section
variable {X : Cx} {x : Str} {p pos : Pos} {e : Expr} {es : List Expr} {t : TA} {id T : String} {r : List V → Hp → VK → Prop}
noncomputable def tCB (r : List V → Hp → VK → Prop) (t : TA) : TE := fun σ H Q => t σ H fun vs H1 => r vs H1 Q
theorem pe_callB (hc : CallR X (.builtin id) r) (hg : Gl X x) (hm : X.mg x = none) (hv : bootBuiltins x = some (.builtin id)) (ha : PA X (e :: es) t) (hn : x ≠ "__name__" := by decide) (hdb : (x == ("__debug__" : Str)) = false := by decide)
    (he : starEach (e :: es) X.env = (false, eval e X.env) :: starEach es X.env := by rfl) (hpl : (backTo pos (starEach es X.env)).any (·.1) = false := by rfl) : PE X (.Call (.Name x p) (e :: es) [] pos) (tCB r t) := by
  intro pins s σ H Q I h
  refine wpAny_Call_Name_kw (ld_blt I hg hm hv ?_ hn hdb)
  exact PyProof.Rows.callWith_builtin1 (thn (ha pos pins s σ H _ I h) fun us s1 ⟨vs, H1, I1, r1, q1⟩ => hc pins s1 σ H1 vs us Q I1 r1 q1) he hpl
theorem pe_callTy (hc : CallR X (.type T) r) (hg : Gl X x) (hm : X.mg x = none) (hv : bootBuiltins x = some (.type T)) (ha : PA X (e :: es) t) (hn : x ≠ "__name__" := by decide) (hdb : (x == ("__debug__" : Str)) = false := by decide)
    (he : starEach (e :: es) X.env = (false, eval e X.env) :: starEach es X.env := by rfl) (hpl : (backTo pos (starEach es X.env)).any (·.1) = false := by rfl) : PE X (.Call (.Name x p) (e :: es) [] pos) (tCB r t) := by
  intro pins s σ H Q I h
  refine wpAny_Call_Name_kw (ld_blt I hg hm hv ?_ hn hdb)
  exact PyProof.Rows.callWith_type1 (thn (ha pos pins s σ H _ I h) fun us s1 ⟨vs, H1, I1, r1, q1⟩ => hc pins s1 σ H1 vs us Q I1 r1 q1) he hpl
end
end L2
namespace HT
open PySem PyProof.Rows
section
open PySem.SeqAt
open PySem.AutoSeq1 (wpAny_loadPart')
open PySem.MeetsSeq PySem.MeetsSeq2 PySem.MeetsSeq3
end
section
variable {prog : Program} {w : World} {A : Around} {E : Value → Shared → Prop} {s : Shared}
theorem cat_tup {t b : Addr} {vs ws : List Value} {Q : Value → Shared → Prop} (ht : IsTup s.heap t vs.toArray) (hb : IsTup s.heap b ws.toArray) (hv : vs ≠ [])
    (h1 : ws = [] → Q (.ref t) s) (h2 : ws ≠ [] → Q (.ref s.heap.objs.size) { s with heap := s.heap.push { cls := .type "tuple", data := .seq (vs ++ ws).toArray } })
    (hsz : vs.length + ws.length ≤ sizeLine) : wpAny (model prog w) A (binaryOp .Add (.ref t) (.ref b)) Q E s := by
  obtain ⟨⟨cls, dd, data, sl⟩, ho, hc, n, hd⟩ := id ht
  obtain ⟨⟨cls2, dd2, data2, sl2⟩, ho2, hc2, n2, hd2⟩ := id hb
  simp only at hc hd hc2 hd2
  subst hc hd hc2 hd2
  have e : vs.toArray ++ ws.toArray = (vs ++ ws).toArray := by simp
  by_cases hw : ws = []
  · exact concat_meets ⟨_, ho, rfl⟩ ⟨_, ho2, rfl⟩ noFill_tuple_add seq_tuple_add PySem.F.slot_tuple_add PySem.F.entry_tuple_add (PySem.F.args_tuple_add_2 _ _)
      (tuple_addW1 t b vs.toArray ws.toArray n n2 dd dd2 sl sl2 (by simpa using hv) (by simp [hw])) ⟨ho, ho2, h1 hw⟩
  · refine concat_meets ⟨_, ho, rfl⟩ ⟨_, ho2, rfl⟩ noFill_tuple_add seq_tuple_add PySem.F.slot_tuple_add PySem.F.entry_tuple_add (PySem.F.args_tuple_add_2 _ _)
      (tuple_addW2 t b vs.toArray ws.toArray n n2 dd dd2 sl sl2 (by simpa using hv) (by simpa using hw) (by rw [List.size_toArray, List.size_toArray]; exact hsz)) ⟨ho, ho2, ?_⟩
    rw [e]
    exact h2 hw
noncomputable def sIx (n d : Nat) : Option Int → Nat
  | none => d
  | some v => if v < 0 then (v + (n : Int)).toNat else min v.toNat n
theorem sIx_none (n d : Nat) : sIx n d none = d := rfl
theorem sIx_nat (n d k : Nat) : sIx n d (some (k : Int)) = min k n := by
  show (if (k : Int) < 0 then ((k : Int) + (n : Int)).toNat else min (k : Int).toNat n) = min k n
  rw [if_neg om11, Int.toNat_natCast]
theorem sIx_le (n d : Nat) (hd : d ≤ n) (o : Option Int) : sIx n d o ≤ n := by
  cases o with
  | none => exact hd
  | some v =>
    show (if v < 0 then (v + (n : Int)).toNat else min v.toNat n) ≤ n
    by_cases hv : v < 0
    · rw [if_pos hv]; exact om106 hv
    · rw [if_neg hv]; exact Nat.min_le_right _ _
theorem clip_eq (v : Int) (n d : Nat) : (if v < 0 then max (v + (n : Int)) 0 else min v (n : Int)) = ((sIx n d (some v) : Nat) : Int) := by
  show (if v < 0 then max (v + (n : Int)) 0 else min v (n : Int)) = (((if v < 0 then (v + (n : Int)).toNat else min v.toNat n) : Nat) : Int)
  by_cases hv : v < 0
  · simp only [if_pos hv]; exact om107
  · simp only [if_neg hv]; exact om108 hv
theorem adjust_gen (lo hi : Option Int) (n : Nat) : Builtin.Slice.sliceAdjust lo hi 1 (n : Int) = (((sIx n 0 lo : Nat) : Int), ((sIx n n hi : Nat) : Int)) := by
  have h1 : ¬ ((1 : Int) < 0) := om109
  unfold Builtin.Slice.sliceAdjust
  simp only [h1, if_false]
  refine Prod.ext ?_ ?_
  · cases lo with
    | none => rfl
    | some v => exact clip_eq v n 0
  · cases hi with
    | none => rfl
    | some v => exact clip_eq v n n
theorem places_gen (i j : Nat) : Builtin.Slice.slicePlaces (i : Int) (j : Int) 1 = j - i := by
  unfold Builtin.Slice.slicePlaces
  have h1 : (1 : Int) > 0 := om110
  simp only [h1, if_true, Int.ediv_one]
  split <;> omega
theorem slicePart_ {v : Value} {o : Option Int} {Q : Option Int → Shared → Prop} (p : IsPart v o) (h : Q o s) : wpAny (model prog w) A (Builtin.Slice.slicePartIndex v) Q E s := by
  cases p with
  | none => exact slicePart_none h
  | int i t => exact slicePart_int h
theorem sliceApplied_gen {sl : Addr} {vl vu : Value} {lo hi : Option Int} {n : Nat} {Q : Int × Int × Nat → Shared → Prop} (hs : s.heap.IsSliceOf sl vl vu .none) (pl : IsPart vl lo) (pu : IsPart vu hi)
    (h : Q (((sIx n 0 lo : Nat) : Int), 1, sIx n n hi - sIx n 0 lo) s) : wpAny (model prog w) A (Builtin.Slice.sliceApplied (.ref sl) (pure (n : Int))) Q E s := by
  obtain ⟨os, hos, hcs, hds⟩ := id hs
  unfold Builtin.Slice.sliceApplied Builtin.Slice.sliceFields
  refine wpAny_bind (wpAny_bind (wpAny_field hos hds (x := vl) rfl (wpAny_bind (wpAny_field hos hds (x := vu) rfl (wpAny_bind (wpAny_field hos hds (x := .none) rfl (wpAny_pure ?_)))))))
  refine wpAny_bind (slicePart_none ?_)
  show wpAny _ _ (if ((1 : Int) == 0) = true then _ else _) _ _ s
  rw [if_neg (by decide)]
  refine wpAny_bind (slicePart_ pl (wpAny_bind (slicePart_ pu (wpAny_bind (wpAny_pure ?_)))))
  show wpAny _ _ (match Builtin.Slice.sliceAdjust lo hi 1 (n : Int) with | (lo, hi) => pure (lo, (1 : Int), Builtin.Slice.slicePlaces lo hi 1)) _ _ s
  rw [adjust_gen lo hi n]
  show wpAny _ _ (pure (((sIx n 0 lo : Nat) : Int), (1 : Int), Builtin.Slice.slicePlaces ((sIx n 0 lo : Nat) : Int) ((sIx n n hi : Nat) : Int) 1)) _ _ s
  rw [places_gen]
  exact wpAny_pure h
theorem pick_gen (xs : Array Value) (i k : Nat) : ((List.range k).filterMap fun (m : Nat) => xs[((i : Int) + (m : Int) * 1).toNat]?).toArray = ((xs.toList.drop i).take k).toArray := by
  have e : (fun (m : Nat) => xs[((i : Int) + (m : Int) * 1).toNat]?) = fun m => xs[i + m]? := by
    funext m
    have : ((i : Int) + (m : Int) * 1).toNat = i + m := om111
    rw [this]
  rw [e]
  have := pick_run xs i k
  rw [List.filterMap_map] at this
  have e2 : ((fun x => xs[x]?) ∘ fun x => i + x) = fun m => xs[i + m]? := rfl
  rw [e2] at this
  rw [this]
theorem getItem_tuple_cut {t sl : Addr} {items : Array Value} {vl vu : Value} {lo hi : Option Int} {Q : Value → Shared → Prop} (ht : IsTup s.heap t items) (hs : s.heap.IsSliceOf sl vl vu .none) (pl : IsPart vl lo) (pu : IsPart vu hi)
    (hw : ¬ (sIx items.size 0 lo = 0 ∧ sIx items.size items.size hi = items.size))
    (h : Q (.ref s.heap.objs.size) { s with heap := s.heap.push { cls := .type "tuple", data := .seq ((items.toList.drop (sIx items.size 0 lo)).take (sIx items.size items.size hi - sIx items.size 0 lo)).toArray } })
    (hsz : items.size ≤ sizeLine) : wpAny (model prog w) A (getItem (.ref t) (.ref sl)) Q E s := by
  have htake : sizeOk (.seq ((items.toList.drop (sIx items.size 0 lo)).take (sIx items.size items.size hi - sIx items.size 0 lo)).toArray) := by
    show ((items.toList.drop (sIx items.size 0 lo)).take (sIx items.size items.size hi - sIx items.size 0 lo)).toArray.size ≤ sizeLine
    rw [List.size_toArray, List.length_take, List.length_drop, Array.length_toList]
    exact om112 hsz
  have hj : sIx items.size items.size hi ≤ items.size := sIx_le _ _ (Nat.le_refl _) hi
  obtain ⟨os, hos, hcs, hds⟩ := id hs
  have hTs : s.TypeIs (.ref sl) "slice" := ⟨os, hos, hcs⟩
  unfold getItem
  try with_reducible refine wpAny_holding ?_
  first | refine wpAny_bind (wpAny_pure ?_) | skip
  refine wpAny_bind (wpAny_sequenceKey ht.typeIs (by decide) ?_)
  refine wpAny_bind (wpAny_callSpecial?_slot (name := Str.ofString "__getitem__") ht.typeIs PyProof.Rows.slot_tuple_getitem
    (wpAny_call_entry PyProof.Rows.slot_tuple_getitem ht.typeIs entry_tuple_getitem ?_ (args_tuple_getitem _ _)))
  show wpAny _ _ (Builtin.Tuple.tupleItemsOf (.ref t) >>= _) _ _ s
  refine wpAny_bind (tupleItemsOf_ ht ?_)
  refine wpAny_bind (wpAny_typeOf hTs ?_)
  rw [if_pos (by decide)]
  refine wpAny_bind (sliceApplied_gen hs pl pu ?_)
  have hno : ¬ ((((sIx items.size 0 lo : Nat) : Int) == 0 && (1 : Int) == 1 && (sIx items.size items.size hi - sIx items.size 0 lo) == items.size) = true) := by
    intro q
    rw [Bool.and_eq_true, Bool.and_eq_true] at q
    have q1 : ((sIx items.size 0 lo : Nat) : Int) = 0 := eq_of_beq q.1.1
    have q2 : sIx items.size items.size hi - sIx items.size 0 lo = items.size := eq_of_beq q.2
    exact hw ⟨om113 q1, om114 q1 q2⟩
  show wpAny _ _ (if (((sIx items.size 0 lo : Nat) : Int) == 0 && (1 : Int) == 1 && (sIx items.size items.size hi - sIx items.size 0 lo) == items.size) = true then _ else _) _ _ s
  rw [if_neg hno, pick_gen]
  first
    | exact wpAny_bind (m := Builtin.Tuple.tupleExact _) (wpAny_newObj_type (wpAny_pure ⟨_, rfl, wpAny_pure h⟩) htake)
    | exact wpAny_bind (m := Builtin.Tuple.tupleExact _) (wpAny_newObj_type (wpAny_bind (wpAny_pure (wpAny_pure ⟨_, rfl, wpAny_pure h⟩))) htake)
    | exact wpAny_bind (wpAny_bind (m := Builtin.Tuple.tupleExact _) (wpAny_newObj_type (wpAny_pure (wpAny_pure ⟨_, rfl, wpAny_pure h⟩)) htake))
    | exact wpAny_bind (wpAny_bind (m := Builtin.Tuple.tupleExact _) (wpAny_newObj_type (wpAny_pure ⟨_, rfl, wpAny_pure h⟩) htake))
end
end HT
namespace L2
open PySem PySem.Spec PyProof.Rows
noncomputable abbrev TO := St → Hp → (Option Int → Hp → Prop) → Prop
noncomputable def PO (X : Cx) (e : Option Expr) (t : TO) : Prop :=
  ∀ (pins : List (Addr × Obj)) (s : Shared) (σ : St) (H : Hp) (Q : Option Int → Hp → Prop), Inv X pins σ H s → t σ H Q →
    wpAny (model X.prog X.w) X.A (evalPart e X.env) (fun u s' => ∃ o H', Inv X pins σ H' s' ∧ IsPart u o ∧ Q o H') X.xe s
noncomputable def tNoPart : TO := fun _ H Q => Q none H
noncomputable def tPart (t : TE) : TO := fun σ H Q => t σ H fun x H1 => ∃ i, x = .int i ∧ Q (some i) H1
section
variable {X : Cx} {e : Expr} {te : TE} {lo hi : Option Expr} {tl th : TO} {pos p2 : Pos}
theorem po_none : PO X none tNoPart := by
  intro pins s σ H Q I h
  rw [evalPart_none]
  exact wpAny_pure ⟨none, H, I, .none, h⟩
theorem po_some (h : PE X e te) : PO X (some e) (tPart te) := by
  intro pins s σ H Q I hw
  rw [evalPart_some]
  refine thn (h pins s σ H _ I hw) fun u s1 hq_ => ?_; obtain ⟨x, H1, I1, r1, q1⟩ := hq_
  obtain ⟨i, rfl, q⟩ := q1
  obtain ⟨t, rfl⟩ := r1
  exact ⟨some i, H1, I1, .int i t, q⟩
noncomputable def SlR (X : Cx) (r : V → Option Int → Option Int → Hp → VK → Prop) : Prop :=
  ∀ (pins : List (Addr × Obj)) (s : Shared) (σ : St) (H : Hp) (x : V) (v vl vu : Value) (lo hi : Option Int) (sl : Addr) (Q : VK), Inv X pins σ H s → RelV x v → s.heap.IsSliceOf sl vl vu .none → IsPart vl lo → IsPart vu hi → r x lo hi H Q →
    ∃ T id, typeLookup (.type T) "__getitem__" = pure (some (.builtin id)) ∧ s.TypeIs v T ∧ wpAny (model X.prog X.w) X.A (getItem v (.ref sl)) (EP X pins σ Q) X.xe s
noncomputable def tSl (r : V → Option Int → Option Int → Hp → VK → Prop) (te : TE) (tl th : TO) : TE := fun σ H Q => te σ H fun x H1 => tl σ H1 fun l H2 => th σ H2 fun u H3 => r x l u H3 Q
theorem pe_slice {r : V → Option Int → Option Int → Hp → VK → Prop} (hr : SlR X r) (he : PE X e te) (hl : PO X lo tl) (hu : PO X hi th) : PE X (.Subscript e (.Slice lo hi none p2) pos) (tSl r te tl th) := by
  intro pins s σ H Q I h
  refine Subscript_ (thn (he pins s σ H _ I h) fun v s1 hq_ => ?_); obtain ⟨x, H1, I1, r1, q1⟩ := hq_
  refine wpAny_Slice (thn (hl pins s1 σ H1 _ I1 q1) fun vl s2 ⟨l, H2, I2, pl, q2⟩ => thn (hu pins s2 σ H2 _ I2 q2) fun vu s3 hq_ => ?_); obtain ⟨u, H3, I3, pu, q3⟩ := hq_
  rw [evalPart_none]
  refine wpAny_pure ?_
  have I4 : Inv X pins σ H3 { s3 with heap := s3.heap.push { cls := .type "slice", data := .fields #[vl, vu, .none] } } := I3.kept (t' := s3.toks) fun b ob q => Heap.get?_push_of_some _ q
  obtain ⟨T, id, hT, ht, hg⟩ := hr pins { s3 with heap := s3.heap.push { cls := .type "slice", data := .fields #[vl, vu, .none] } } σ H3 x v vl vu l u s3.heap.objs.size Q I4 r1 (Heap.IsSliceOf.new ..) pl pu q3
  show wpAny (model X.prog X.w) X.A (subscriptTail e (.Slice lo hi none p2) v (.ref s3.heap.objs.size)) (EP X pins σ Q) X.xe { s3 with heap := s3.heap.push { cls := .type "slice", data := .fields #[vl, vu, .none] } }
  exact tail_any (ops := [.ref s3.heap.objs.size, v]) ht hT hg (by with_unfolding_all rfl)
noncomputable def cutV (xs : List V) (lo hi : Option Int) : List V := (xs.drop (HT.sIx xs.length 0 lo)).take (HT.sIx xs.length xs.length hi - HT.sIx xs.length 0 lo)
theorem cutV_length (xs : List V) (lo hi : Option Int) : (cutV xs lo hi).length ≤ xs.length := by
  unfold cutV
  rw [List.length_take, List.length_drop]
  exact om42
noncomputable def rSlT (K : PySem.W.Frag) : V → Option Int → Option Int → Hp → VK → Prop := fun x lo hi H Q => ∃ a xs, x = .ref a ∧ SqT K H a xs ∧
  ¬ (HT.sIx xs.length 0 lo = 0 ∧ HT.sIx xs.length xs.length hi = xs.length) ∧ ∀ p, H p = none → Q (.ref p) (upd H p (.tup (cutV xs lo hi)))
theorem sl_tup : SlR X (rSlT X.K) := by
  intro pins s σ H x v vl vu lo hi sl Q I rx hs pl pu h
  obtain ⟨a, xs, rfl, hx, hw, q⟩ := h
  cases rx
  obtain ⟨its, r, ht, hz⟩ := I.tuple hx
  have hlen : its.toArray.size = xs.length := by rw [List.size_toArray]; exact r.length.symm
  refine ⟨"tuple", _, PyProof.Rows.slot_tuple_getitem.lookup, ht.typeIs, ?_⟩
  refine HT.getItem_tuple_cut ht hs pl pu (by rw [hlen]; exact hw) ?_ (by rw [hlen]; exact hz)
  rw [hlen]
  refine ⟨.ref s.heap.objs.size, _, I.laid (t' := s.toks) (o := .tup (cutV xs lo hi)) (fun b ob q => Heap.get?_push_of_some _ q) (Nat.le_refl _) ?_, rfl, q _ (I.hok.fresh (Nat.le_refl _))⟩
  exact ⟨Nat.le_trans (cutV_length xs lo hi) hz, _, (r.drop (HT.sIx xs.length 0 lo)).take (HT.sIx xs.length xs.length hi - HT.sIx xs.length 0 lo), IsTup.new _ _⟩
noncomputable def rCatT (K : PySem.W.Frag) : R2 := fun x y H Q => ∃ a b xs ys, x = .ref a ∧ y = .ref b ∧ SqT K H a xs ∧ SqT K H b ys ∧ xs ≠ [] ∧ xs.length + ys.length ≤ sizeLine ∧
  (ys = [] → Q (.ref a) H) ∧ (ys ≠ [] → ∀ p, H p = none → Q (.ref p) (upd H p (.tup (xs ++ ys))))
theorem Vals.nil_iff {xs : List V} {us : List Value} (r : Vals xs us) : us = [] ↔ xs = [] := by
  cases r with
  | nil => simp
  | cons _ _ => simp
theorem op_catT : OpR X (binaryOp .Add) (rCatT X.K) := by
  intro pins s σ H x y v u Q I rx ry h
  obtain ⟨a, b, xs, ys, rfl, rfl, ha, hb, hx, hz, q1, q2⟩ := h
  cases rx
  cases ry
  obtain ⟨its, r1, p1, _⟩ := I.tuple ha
  obtain ⟨its2, r2, p2, _⟩ := I.tuple hb
  refine HT.cat_tup p1 p2 (fun z => hx (r1.nil_iff.mp z)) (fun z => ⟨.ref a, H, I, rfl, q1 (r2.nil_iff.mp z)⟩) (fun z => ?_) (by rw [← r1.length, ← r2.length]; exact hz)
  refine ⟨.ref s.heap.objs.size, _, I.laid (t' := s.toks) (o := .tup (xs ++ ys)) (fun b ob q => Heap.get?_push_of_some _ q) (Nat.le_refl _) ?_, rfl, q2 (fun w => z (r2.nil_iff.mpr w)) _ (I.hok.fresh (Nat.le_refl _))⟩
  exact ⟨by rw [List.length_append]; exact hz, _, r1.append r2, IsTup.new _ _⟩
end
end L2
namespace L2
open PySem PySem.Spec PyProof.Rows
noncomputable def ixN (n : Nat) (i : Int) : Option Nat := if 0 ≤ i then (if i < n then some i.toNat else none) else if -(n : Int) ≤ i then some (i + n).toNat else none
noncomputable def atI {α : Type} (xs : List α) (i : Int) : Option α := (ixN xs.length i).bind fun j => xs[j]?
theorem ixN_seq {n : Nat} {i : Int} {j : Nat} (h : ixN n i = some j) : seqIndex? i n = some j ∧ j < n ∧ -(n : Int) ≤ i ∧ i < n := by
  unfold ixN at h
  by_cases h0 : 0 ≤ i
  · rw [if_pos h0] at h
    by_cases h1 : i < n
    · rw [if_pos h1] at h
      have e : i.toNat = j := Option.some.inj h
      exact ⟨by rw [seqIndex_of h0 h1, e], om115 h0 h1 e, om116 h0, h1⟩
    · rw [if_neg h1] at h; cases h
  · rw [if_neg h0] at h
    by_cases h1 : -(n : Int) ≤ i
    · rw [if_pos h1] at h
      have e : (i + n).toNat = j := Option.some.inj h
      exact ⟨by rw [seqIndex_neg (om9 h0) h1, e], om117 h0 h1 e, h1, om118 h0⟩
    · rw [if_neg h1] at h; cases h
theorem atI_get {α : Type} {xs : List α} {i : Int} {v : α} (h : atI xs i = some v) : ∃ j, seqIndex? i xs.length = some j ∧ xs[j]? = some v ∧ j < xs.length ∧ -(xs.length : Int) ≤ i ∧ i < xs.length := by
  unfold atI at h
  cases e : ixN xs.length i with
  | none => rw [e] at h; cases h
  | some j =>
    rw [e] at h
    obtain ⟨h1, h2, h3, h4⟩ := ixN_seq e
    exact ⟨j, h1, h, h2, h3, h4⟩
theorem atI_nat {α : Type} {xs : List α} {j : Nat} {v : α} (h : xs[j]? = some v) : atI xs (j : Int) = some v := by
  have hj : j < xs.length := (List.getElem?_eq_some_iff.mp h).1
  have e : ixN xs.length (j : Int) = some j := by
    unfold ixN
    rw [if_pos om22, if_pos (om23 hj)]; simp
  unfold atI; rw [e]; exact h
noncomputable def PlainIx (b : Expr) : Prop := ∀ o i, subscripted b false o i = operate [o, i] (getItem o i)
noncomputable def IxR (X : Cx) (r : R2) : Prop :=
  ∀ (value slice : Expr) (pins : List (Addr × Obj)) (s : Shared) (σ : St) (H : Hp) (x y : V) (v u : Value) (Q : VK), Inv X pins σ H s → RelV x v → RelV y u → r x y H Q →
    subscripted slice false v u = operate [v, u] (getItem v u) → wpAny (model X.prog X.w) X.A (subscriptTail value slice v u) (EP X pins σ Q) X.xe s
noncomputable def MtR (X : Cx) (id : String) (r : V → List V → Hp → VK → Prop) : Prop :=
  ∀ (pins : List (Addr × Obj)) (s : Shared) (σ : St) (H : Hp) (x : V) (xs : List V) (v : Value) (us : List Value) (Q : VK), Inv X pins σ H s → RelV x v → Vals xs us → r x xs H Q →
    wpAny (model X.prog X.w) X.A (call (.builtin id) (v :: us)) (EP X pins σ Q) X.xe s
section
variable {X : Cx} {a b : Expr} {ta tb : TE} {pos : Pos}
theorem pe_ix {r : R2} (hr : IxR X r) (ha : PE X a ta) (hb : PE X b tb) (hs : PlainIx b) : PE X (.Subscript a b pos) (tOp r ta tb) := by
  intro pins s σ H Q I h
  exact Subscript_ (binT ha hb I h fun v u s2 x y H2 I2 rx ry q => hr a b pins s2 σ H2 x y v u Q I2 rx ry q (hs _ _))
noncomputable def rIxL (K : PySem.W.Frag) : R2 := fun x y H Q => ∃ p xs i v, x = .ref p ∧ y = .int i ∧ SqL K H p xs ∧ atI xs i = some v ∧ Q v H
noncomputable def rIxT (K : PySem.W.Frag) : R2 := fun x y H Q => ∃ p xs i v, x = .ref p ∧ y = .int i ∧ SqT K H p xs ∧ atI xs i = some v ∧ Q v H
noncomputable def rIxS : R2 := fun x y H Q => ∃ z i c, x = .str z ∧ y = .int i ∧ z.length ≤ sizeLine ∧ atI z.cps.toList i = some c ∧ Q (.str ⟨#[c]⟩) H
theorem ix_list : IxR X (rIxL X.K) := by
  intro value slice pins s σ H x y v u Q I rx ry h hs
  obtain ⟨p, xs, i, z, rfl, rfl, hq, he, q⟩ := h
  cases rx
  obtain ⟨t, rfl⟩ := ry
  obtain ⟨its, r, pl, hz⟩ := I.list hq
  obtain ⟨j, h1, h2, h3, h4, h5⟩ := atI_get he
  obtain ⟨w, ew, rw'⟩ := r.get h2
  have hl := r.length
  have hn := line63
  have fin : EP X pins σ Q w s := ⟨z, H, I, rw', q⟩
  by_cases h0 : 0 ≤ i
  · have hj : i.toNat = j := by
      rw [seqIndex_of h0 h5] at h1
      exact Option.some.inj h1
    exact item_listR pl.isList h0 (by omega) (by rw [hj]; simpa using ew) fin hs
  · have hj : (i + (its.toArray.size : Int)).toNat = j := by
      rw [seqIndex_neg (om9 h0) h4] at h1
      rw [List.size_toArray, ← hl]
      exact Option.some.inj h1
    exact subscriptTail_builtinR (x := w) pl.isList.typeIs slot_list_getitem.lookup
      (wpAny_getItem_list_neg (Q := fun r s' => r = w ∧ EP X pins σ Q r s') pl.isList (om9 h0) (by rw [List.size_toArray] <;> exact om119 h4 hl) (by omega) (by rw [hj]; simpa using ew) ⟨rfl, fin⟩) hs
theorem ix_tup : IxR X (rIxT X.K) := by
  intro value slice pins s σ H x y v u Q I rx ry h hs
  obtain ⟨p, xs, i, z, rfl, rfl, hq, he, q⟩ := h
  cases rx
  obtain ⟨t, rfl⟩ := ry
  obtain ⟨its, r, pl, hz⟩ := I.tuple hq
  obtain ⟨j, h1, h2, h3, h4, h5⟩ := atI_get he
  obtain ⟨w, ew, rw'⟩ := r.get h2
  have hl := r.length
  have hn := line63
  have fin : EP X pins σ Q w s := ⟨z, H, I, rw', q⟩
  exact subscriptTail_builtinR (x := w) pl.typeIs slot_tuple_getitem.lookup
    (getItem_tuple (j := j) (Q := fun r s' => r = w ∧ EP X pins σ Q r s') pl (by omega) (by omega) (by rw [List.size_toArray, ← hl]; exact h1) (by simpa using ew) ⟨rfl, fin⟩) hs
theorem ix_str : IxR X rIxS := by
  intro value slice pins s σ H x y v u Q I rx ry h hs
  obtain ⟨z, i, c, rfl, rfl, hz, he, q⟩ := h
  obtain ⟨t, rfl⟩ := rx
  obtain ⟨t', rfl⟩ := ry
  obtain ⟨j, h1, h2, h3, h4, h5⟩ := atI_get he
  have hl : z.cps.toList.length = z.length := by simp [Str.length]
  rw [hl] at h1 h4 h5
  have hn := line63
  exact tail_any (typeIs_str s z t) slot_str_getitem.lookup (getItem_str (c := c) (by
    have e1 : decide (i < -(2 ^ 63 : Int)) = false := decide_eq_false (by omega)
    have e2 : decide (i ≥ 2 ^ 63) = false := decide_eq_false (by omega)
    rw [e1, e2, Bool.or_false]) (by rw [h1]; simpa using h2) ⟨.str ⟨#[c]⟩, H, I.tok _, ⟨_, rfl⟩, q⟩) hs
theorem mapSeq_set (its : List Value) (n j : Nat) (u : Value) : Obj.mapSeq (·.setIfInBounds j u) { cls := .type "list", data := .seq its.toArray n } = { cls := .type "list", data := .seq (its.set j u).toArray n } := by
  simp [Obj.mapSeq]
theorem Inv.lst {pins : List (Addr × Obj)} {σ : St} {H : Hp} {s : Shared} {p : Addr} {xs : List V} (I : Inv X pins σ H s) (h : H p = some (.lst xs)) :
    ∃ (its : List Value) (n : Nat), Vals xs its ∧ s.heap.get? p = some { cls := .type "list", data := .seq its.toArray n } ∧ xs.length ≤ sizeLine := by
  obtain ⟨z, its, n, r, e⟩ := I.hok p _ h
  exact ⟨its, n, r, e, z⟩
theorem Inv.lstUpd {pins : List (Addr × Obj)} {σ : St} {H : Hp} {s : Shared} {p : Addr} {xs ys : List V} {its its' : List Value} {n n' : Nat} {f : Obj → Obj} (I : Inv X pins σ H s) (h : H p = some (.lst xs))
    (ho : s.heap.get? p = some { cls := .type "list", data := .seq its.toArray n }) (hf : f { cls := .type "list", data := .seq its.toArray n } = { cls := .type "list", data := .seq its'.toArray n' }) (r : Vals ys its') (hz : ys.length ≤ sizeLine) (t : Nat) :
    Inv X pins σ (upd H p (.lst ys)) { s with heap := s.heap.update p f, toks := t } := by
  have e : (s.heap.update p f).get? p = some { cls := .type "list", data := .seq its'.toArray n' } := by
    rw [Heap.get?_update_self f ho (by rw [hf] <;> rfl), hf]
  refine I.write (x := p) (e := p) (by rw [h]; trivial) (.inl rfl) (fun b u hb q => (Heap.get?_update_other _ _ (Ne.symm hb)).trans q) ⟨_, e⟩ ?_
  exact ⟨hz, its', n', r, e⟩
noncomputable def rSetL : V → V → V → Hp → (Hp → Prop) → Prop := fun o i v H Q => ∃ p xs k j, o = .ref p ∧ i = .int k ∧ H p = some (.lst xs) ∧ ixN xs.length k = some j ∧ Q (upd H p (.lst (xs.set j v)))
theorem set_list : PSet X rSetL := by
  intro pins s σ H o i v ov iv u Q I ro ri rv h
  obtain ⟨p, xs, k, j, rfl, rfl, hp, hj, q⟩ := h
  cases ro
  obtain ⟨t, rfl⟩ := ri
  obtain ⟨its, n, r, ho, hz⟩ := I.lst hp
  obtain ⟨h1, h2, h3, h4⟩ := ixN_seq hj
  have hl := r.length
  have hn := line63
  have I' : Inv X pins σ (upd H p (.lst (xs.set j v))) { s with heap := s.heap.update p (Obj.mapSeq (·.setIfInBounds j u)) } :=
    I.lstUpd hp ho (mapSeq_set its n j u) (r.set rv j) (by rw [List.length_set]; exact hz) s.toks
  by_cases h0 : 0 ≤ k
  · have hk : k.toNat = j := by
      rw [seqIndex_of h0 h4] at h1
      exact Option.some.inj h1
    exact PySem.W.ki_setAt ho h0 (by omega) (by rw [List.size_toArray, ← hl]; exact h4) (by rw [hk]; exact ⟨_, I', q⟩)
  · have hk : (k + (its.toArray.size : Int)).toNat = j := by
      rw [seqIndex_neg (om9 h0) h3] at h1
      rw [List.size_toArray, ← hl]
      exact Option.some.inj h1
    exact PySem.W.ki_setBack ho (om9 h0) (by rw [List.size_toArray, ← hl]; exact h3) (by omega) (by rw [hk]; exact ⟨_, I', q⟩)
theorem slice_bounds (lo hi : Option Int) (n : Nat) : (sliceBounds lo hi none n).1 = ((HT.sIx n 0 lo : Nat) : Int) ∧ (sliceBounds lo hi none n).2.1 = ((HT.sIx n n hi : Nat) : Int) ∧ (sliceBounds lo hi none n).2.2 = 1 := by
  refine ⟨?_, ?_, rfl⟩
  · cases lo with
    | none => simp [sliceBounds, HT.sIx]
    | some i =>
      simp only [sliceBounds, HT.sIx, Option.getD_none, show (1 : Int) > 0 by decide, if_true]
      by_cases h : i < 0
      · simp only [h, if_true] <;> exact om43 h
      · simp only [h, if_false] <;> exact om44
  · cases hi with
    | none => simp [sliceBounds, HT.sIx]
    | some i =>
      simp only [sliceBounds, HT.sIx, Option.getD_none, show (1 : Int) > 0 by decide, if_true]
      by_cases h : i < 0
      · simp only [h, if_true] <;> exact om43 h
      · simp only [h, if_false] <;> exact om44
theorem slicePick_cut (its : List Value) (lo hi : Option Int) : slicePick its.toArray lo hi none = ((its.drop (HT.sIx its.length 0 lo)).take (HT.sIx its.length its.length hi - HT.sIx its.length 0 lo)).toArray := by
  obtain ⟨h1, h2, h3⟩ := slice_bounds lo hi its.toArray.size
  unfold slicePick
  rw [h1, h2, h3]
  simp only [sliceRange_one, pick_run, List.size_toArray] <;> rfl
noncomputable def rSlL (K : PySem.W.Frag) : V → Option Int → Option Int → Hp → VK → Prop := fun x lo hi H Q => ∃ a xs, x = .ref a ∧ SqL K H a xs ∧ ∀ p, H p = none → Q (.ref p) (upd H p (.lst (cutV xs lo hi)))
theorem sl_list : SlR X (rSlL X.K) := by
  intro pins s σ H x v vl vu lo hi sl Q I rx hs pl pu h
  obtain ⟨a, xs, rfl, hx, q⟩ := h
  cases rx
  obtain ⟨its, r, ht, hz⟩ := I.list hx
  have hlen := r.length
  refine ⟨"list", _, slot_list_getitem.lookup, ht.isList.typeIs, ?_⟩
  refine wpAny_getItem_list_slice ht.isList hs pl pu .none (by simp) ?_ (by rw [List.size_toArray] <;> exact om1 hz hlen)
  rw [slicePick_cut, ← hlen]
  refine ⟨.ref s.heap.objs.size, _, I.laid (t' := s.toks) (o := .lst (cutV xs lo hi)) (fun b ob q => Heap.get?_push_of_some _ q) (Nat.le_refl _) ?_, rfl, q _ (I.hok.fresh (Nat.le_refl _))⟩
  exact ⟨Nat.le_trans (cutV_length xs lo hi) hz, _, 0, (r.drop (HT.sIx xs.length 0 lo)).take (HT.sIx xs.length xs.length hi - HT.sIx xs.length 0 lo), Heap.get?_push_size _ rfl⟩
noncomputable def flatV : V → Bool
  | .non => true
  | .bl _ => true
  | .int _ => true
  | .str _ => true
  | _ => false
noncomputable def eqV : V → V → Bool
  | .non, .non => true
  | .bl a, .bl b => a == b
  | .bl a, .int b => (if a then 1 else 0) == b
  | .int a, .bl b => a == (if b then 1 else 0)
  | .int a, .int b => a == b
  | .str a, .str b => a == b
  | _, _ => false
theorem eqAt_V {A : Around} {s : Shared} {y x : V} {u v : Value} (ry : RelV y u) (rx : RelV x v) (fy : flatV y = true) (fx : flatV x = true) : SeqAt.EqAt A s u v (eqV y x) := by
  cases y with
  | non =>
    cases ry
    cases x with
    | non => cases rx; exact SeqAt.EqAt.same _
    | bl b => cases rx; exact SeqAt.EqAt.none_bool b
    | int b => obtain ⟨t, rfl⟩ := rx; exact SeqAt.EqAt.none_int b t
    | str b => obtain ⟨t, rfl⟩ := rx; exact SeqAt.EqAt.none_str b t
    | _ => exact absurd (show false = true from fx) Bool.false_ne_true
  | bl a =>
    cases ry
    cases x with
    | non => cases rx; exact SeqAt.EqAt.bool_none a
    | bl b => cases rx; exact SeqAt.EqAt.bool_bool a b
    | int b => obtain ⟨t, rfl⟩ := rx; exact SeqAt.EqAt.bool_int a b t
    | str b => obtain ⟨t, rfl⟩ := rx; exact SeqAt.EqAt.bool_str a b t
    | _ => exact absurd (show false = true from fx) Bool.false_ne_true
  | int a =>
    obtain ⟨t', rfl⟩ := ry
    cases x with
    | non => cases rx; exact SeqAt.EqAt.int_none a t'
    | bl b => cases rx; exact SeqAt.EqAt.int_bool a t' b
    | int b => obtain ⟨t, rfl⟩ := rx; exact SeqAt.EqAt.int_int a t' b t
    | str b => obtain ⟨t, rfl⟩ := rx; exact SeqAt.EqAt.int_str a t' b t
    | _ => exact absurd (show false = true from fx) Bool.false_ne_true
  | str a =>
    obtain ⟨t', rfl⟩ := ry
    cases x with
    | non => cases rx; exact SeqAt.EqAt.str_none a t'
    | bl b => cases rx; exact SeqAt.EqAt.str_bool a t' b
    | int b => obtain ⟨t, rfl⟩ := rx; exact SeqAt.EqAt.str_int a t' b t
    | str b => obtain ⟨t, rfl⟩ := rx; exact SeqAt.EqAt.str_str a t' b t
    | _ => exact absurd (show false = true from fx) Bool.false_ne_true
  | _ => exact absurd (show false = true from fy) Bool.false_ne_true
noncomputable def eqU (x : V) (u : Value) : Bool := match u with
  | .none => eqV .non x
  | .bool b => eqV (.bl b) x
  | .int i _ => eqV (.int i) x
  | .str z _ => eqV (.str z) x
  | _ => false
theorem eqU_of {x y : V} {u : Value} (r : RelV y u) (f : flatV y = true) : eqU x u = eqV y x := by
  cases y with
  | non => cases r; rfl
  | bl b => cases r; rfl
  | int i => obtain ⟨t, rfl⟩ := r; rfl
  | str z => obtain ⟨t, rfl⟩ := r; rfl
  | _ => exact absurd (show false = true from f) Bool.false_ne_true
theorem any_eqU {x : V} : ∀ {xs : List V} {us : List Value}, Vals xs us → xs.all flatV = true → us.any (eqU x) = xs.any fun y => eqV y x
  | _, _, .nil, _ => rfl
  | y :: xs, u :: us, .cons r t, f => by
    rw [List.all_cons, Bool.and_eq_true] at f
    rw [List.any_cons, List.any_cons, eqU_of r f.1, any_eqU t f.2]
theorem mem_eqAt {A : Around} {s : Shared} {x : V} {v : Value} (rx : RelV x v) (fx : flatV x = true) : ∀ {xs : List V} {us : List Value}, Vals xs us → xs.all flatV = true → ∀ u ∈ us, SeqAt.EqAt A s u v (eqU x u)
  | _, _, .nil, _ => fun u hu => by cases hu
  | y :: xs, u :: us, .cons r t, f => fun u' hu => by
    rw [List.all_cons, Bool.and_eq_true] at f
    rcases List.mem_cons.mp hu with rfl | hu
    · rw [eqU_of r f.1]; exact eqAt_V r rx f.1 fx
    · exact mem_eqAt rx fx t f.2 u' hu
noncomputable def inV (x : V) (xs : List V) : Bool := xs.any fun y => eqV y x
noncomputable def rIn (K : PySem.W.Frag) (neg : Bool) : R2 := fun x y H Q => ∃ p xs, y = .ref p ∧ (SqL K H p xs ∨ SqT K H p xs) ∧ flatV x = true ∧ xs.all flatV = true ∧ Q (.bl (if neg then !inV x xs else inV x xs)) H
theorem op_in_seq : OpR X (compareOp .In) (rIn X.K false) := by
  intro pins s σ H x y v u Q I rx ry h
  obtain ⟨p, xs, rfl, hq, fx, fs, q⟩ := h
  cases ry
  rcases hq with hq | hq
  · obtain ⟨its, r, pl, hz⟩ := I.list hq
    refine SeqAt.in_listAt (eqU x) pl.isList (fun w hw => mem_eqAt rx fx r fs w (by simpa using hw)) ⟨.bl _, H, I, rfl, ?_⟩
    rw [show its.toArray.any (eqU x) = its.any (eqU x) by simp, any_eqU r fs]
    exact q
  · obtain ⟨its, r, pl, hz⟩ := I.tuple hq
    refine SeqAt.in_tupleAt (eqU x) pl (fun w hw => mem_eqAt rx fx r fs w (by simpa using hw)) ⟨.bl _, H, I, rfl, ?_⟩
    rw [show its.toArray.any (eqU x) = its.any (eqU x) by simp, any_eqU r fs]
    exact q
theorem op_notIn_seq : OpR X (compareOp .NotIn) (rIn X.K true) := by
  intro pins s σ H x y v u Q I rx ry h
  obtain ⟨p, xs, rfl, hq, fx, fs, q⟩ := h
  cases ry
  rcases hq with hq | hq
  · obtain ⟨its, r, pl, hz⟩ := I.list hq
    refine SeqAt.notIn_listAt (eqU x) pl.isList (fun w hw => mem_eqAt rx fx r fs w (by simpa using hw)) ⟨.bl _, H, I, rfl, ?_⟩
    rw [show its.toArray.any (eqU x) = its.any (eqU x) by simp, any_eqU r fs]
    exact q
  · obtain ⟨its, r, pl, hz⟩ := I.tuple hq
    refine SeqAt.notIn_tupleAt (eqU x) pl (fun w hw => mem_eqAt rx fx r fs w (by simpa using hw)) ⟨.bl _, H, I, rfl, ?_⟩
    rw [show its.toArray.any (eqU x) = its.any (eqU x) by simp, any_eqU r fs]
    exact q
theorem call_len_seq : CallR X (.builtin "len") (fun xs H Q => ∃ p ys, xs = [.ref p] ∧ (SqL X.K H p ys ∨ SqT X.K H p ys) ∧ Q (.int ys.length) H) := by
  intro pins s σ H xs us Q I r h
  obtain ⟨p, ys, rfl, hq, q⟩ := h
  obtain ⟨u, rfl, rx⟩ := vals1 r
  cases rx
  have hn := line63
  rcases hq with hq | hq
  · obtain ⟨its, r', pl, hz⟩ := I.list hq
    have hlen := r'.length
    exact Calls.call_len_list pl.isList (by simp only [List.size_toArray] <;> omega) ⟨.int ys.length, H, I.tok _, ⟨s.toks + 1, by rw [List.size_toArray, hlen]⟩, q⟩
  · obtain ⟨its, r', pl, hz⟩ := I.tuple hq
    have hlen := r'.length
    exact len_tuple pl (by simp only [List.size_toArray] <;> omega) ⟨.int ys.length, H, I.tok _, ⟨s.toks + 1, by rw [List.size_toArray, hlen]⟩, q⟩
theorem call_list_of : CallR X (.type "list") (fun xs H Q => ∃ p ys, xs = [.ref p] ∧ (SqL X.K H p ys ∨ SqT X.K H p ys) ∧ ∀ l, H l = none → Q (.ref l) (upd H l (.lst ys))) := by
  intro pins s σ H xs us Q I r h
  obtain ⟨p, ys, rfl, hq, q⟩ := h
  obtain ⟨u, rfl, rx⟩ := vals1 r
  cases rx
  have fin : ∀ (its : List Value), Vals ys its → ys.length ≤ sizeLine → ∀ (h' : Heap) (c' : Nat), (∀ b o', s.heap.get? b = some o' → h'.get? b = some o') →
      h'.get? s.heap.objs.size = some { cls := .type "list", dict := none, data := .seq its.toArray c', slots := #[] } → EP X pins σ Q (.ref s.heap.objs.size) { s with heap := h' } := fun its r' hz h' c' kp e =>
    ⟨.ref s.heap.objs.size, _, I.laid (t' := s.toks) kp (Nat.le_refl _) (show ObjOk X.prog X.w _ h' _ (.lst ys) from ⟨hz, its, c', r', e⟩), rfl, q _ (I.hok.fresh (Nat.le_refl _))⟩
  rcases hq with hq | hq
  · obtain ⟨its, r', pl, hz⟩ := I.list hq
    have hlen := r'.length
    obtain ⟨o, ho, hc, n, hd⟩ := pl.isList
    exact call_list_seq p (.inl rfl) ho hc hd (fun h' c' kp e => fin its r' hz h' c' kp e) (by simp only [List.size_toArray] <;> exact om1 hz hlen)
  · obtain ⟨its, r', pl, hz⟩ := I.tuple hq
    have hlen := r'.length
    obtain ⟨o, ho, hc, n, hd⟩ := pl
    exact call_list_seq p (.inr rfl) ho hc hd (fun h' c' kp e => fin its r' hz h' c' kp e) (by simp only [List.size_toArray] <;> exact om1 hz hlen)
theorem call_tuple_of : CallR X (.type "tuple") (fun xs H Q => ∃ p ys, xs = [.ref p] ∧ ((SqL X.K H p ys ∧ ∀ l, H l = none → Q (.ref l) (upd H l (.tup ys))) ∨ (SqT X.K H p ys ∧ Q (.ref p) H))) := by
  intro pins s σ H xs us Q I r h
  obtain ⟨p, ys, rfl, h⟩ := h
  obtain ⟨u, rfl, rx⟩ := vals1 r
  cases rx
  rcases h with ⟨hq, q⟩ | ⟨hq, q⟩
  · obtain ⟨its, r', pl, hz⟩ := I.list hq
    have hlen := r'.length
    refine call_tuple_list pl.isList (fun h' kp => ?_) (by simp only [List.size_toArray] <;> exact om1 hz hlen)
    have I1 : Inv X pins σ H { s with heap := h' } := I.kept (t' := s.toks) kp
    have I2 : Inv X pins σ (upd H h'.objs.size (.tup ys)) { s with heap := h'.push { cls := .type "tuple", data := .seq its.toArray } } :=
      I1.laid (t' := s.toks) (fun b o e => Heap.get?_push_of_some _ e) (Nat.le_refl _) (show ObjOk X.prog X.w _ _ _ (.tup ys) from ⟨hz, its, r', IsTup.new _ _⟩)
    exact ⟨.ref h'.objs.size, _, I2, rfl, q _ (I1.hok.fresh (Nat.le_refl _))⟩
  · obtain ⟨its, r', pl, hz⟩ := I.tuple hq
    exact call_tuple_same pl ⟨.ref p, H, I, rfl, q⟩
noncomputable def tyV (K : PySem.W.Frag) (T : String) (x : V) (H : Hp) : Prop := match x with
  | .str _ => T = "str"
  | .int _ => T = "int"
  | .ref p => (T = "list" ∧ ∃ xs, SqL K H p xs) ∨ (T = "tuple" ∧ ∃ o, K.lookup p = some o ∧ o.cls = .type "tuple" ∧ o.dict = none) ∨
      (T = "dict" ∧ ((∃ kvs, H p = some (.dK kvs)) ∨ ∃ kvs, H p = some (.dT kvs))) ∨ (T = "set" ∧ ∃ S n, H p = some (.set S n))
  | _ => False
theorem tyV_is {pins : List (Addr × Obj)} {σ : St} {H : Hp} {s : Shared} {T : String} {x : V} {v : Value} (I : Inv X pins σ H s) (r : RelV x v) (ty : tyV X.K T x H) :
    s.TypeIs v T ∧ ∀ a, v = .ref a → ∃ ob, s.heap.get? a = some ob ∧ ob.dict = none := by
  cases x with
  | str z =>
    obtain ⟨t, rfl⟩ := r
    cases (show T = "str" from ty)
    exact ⟨typeIs_str s z t, fun _ e => nomatch e⟩
  | int i =>
    obtain ⟨t, rfl⟩ := r
    cases (show T = "int" from ty)
    exact ⟨typeIs_int s i t, fun _ e => nomatch e⟩
  | ref p =>
    cases r
    rcases ty with ⟨rfl, xs, hq⟩ | ⟨rfl, o, hk, hc, hd⟩ | ⟨rfl, hk⟩ | ⟨rfl, S, n, hk⟩
    · obtain ⟨its, _, pl, _⟩ := I.list hq
      refine ⟨pl.isList.typeIs, fun a e => ?_⟩
      cases e
      obtain ⟨o, n, e, c, hd, _⟩ := pl
      exact ⟨o, e, hd⟩
    · refine ⟨⟨o, I.kIn p o hk, hc⟩, fun a e => ?_⟩
      cases e
      exact ⟨o, I.kIn _ o hk, hd⟩
    · have z : ∃ o, s.heap.get? p = some o ∧ o.ExactDict := by
        rcases hk with ⟨kvs, hk⟩ | ⟨kvs, hk⟩
        · obtain ⟨_, _, _, _, o, _, _, e, ex, _⟩ := I.hok p _ hk
          exact ⟨o, e, ex⟩
        · obtain ⟨_, _, _, _, o, _, _, e, ex, _⟩ := I.hok p _ hk
          exact ⟨o, e, ex⟩
      obtain ⟨o, e, ex⟩ := z
      refine ⟨⟨o, e, ex.1⟩, fun a e2 => ?_⟩
      cases e2
      exact ⟨o, e, ex.2.1⟩
    · obtain ⟨o, _, _, _, e, ex, _⟩ := I.hok p _ hk
      refine ⟨⟨o, e, ex.1⟩, fun a e2 => ?_⟩
      cases e2
      exact ⟨o, e, ex.2.1⟩
  | _ => exact False.elim ty
noncomputable def tBM0 (K : PySem.W.Frag) (T : String) (r : V → List V → Hp → VK → Prop) (to : TE) : TE := fun σ H Q => to σ H fun x H1 => tyV K T x H1 ∧ r x [] H1 Q
noncomputable def tBM (K : PySem.W.Frag) (T : String) (r : V → List V → Hp → VK → Prop) (to : TE) (t : TA) : TE := fun σ H Q => to σ H fun x H1 => tyV K T x H1 ∧ t σ H1 fun xs H2 => r x xs H2 Q
variable {o e : Expr} {es : List Expr} {to : TE} {t : TA} {name : Str} {apos cpos : Pos} {T id : String} {r : V → List V → Hp → VK → Prop}
theorem pe_bm0 (pa : PlainAttrs T) (slot : Slot T name id) (hty : typeOf (.builtin id) = pure (.type "method_descriptor")) (hm : MtR X id r) (ho : PE X o to)
    (hbase : attributeBase o name X.env (eval o X.env) = eval o X.env := by rfl) (hline : (apos.endLine == cpos.line) = true := by rfl) : PE X (.Call (.Attribute o name apos) [] [] cpos) (tBM0 X.K T r to) := by
  intro pins s σ H Q I h
  refine wpAny_Call_method0_late hbase hline (thn (ho pins s σ H _ I h) fun v s1 hq_ => ?_); obtain ⟨x, H1, I1, r1, ty, q1⟩ := hq_
  obtain ⟨h1, h2⟩ := tyV_is I1 r1 ty
  exact ⟨T, id, pa, slot, hty, h1, h2, Calls.callWith_builtin rfl (PySem.evalArgs_none (hm pins s1 σ H1 x [] v [] Q I1 r1 .nil q1))⟩
theorem pe_bm (pa : PlainAttrs T) (slot : Slot T name id) (hty : typeOf (.builtin id) = pure (.type "method_descriptor")) (hm : MtR X id r) (ho : PE X o to) (ha : PA X (e :: es) t)
    (hbase : attributeBase o name X.env (eval o X.env) = eval o X.env := by rfl)
    (hfew : ((backTo cpos (starEach (e :: es) X.env)).all (fun x => !x.1) && (backToKw cpos (keywordEach [] X.env)).all (fun x => x.1.isSome)
      && decide ((e :: es).length + ([] : List Keyword).length + (if ([] : List Keyword).isEmpty then 0 else 1) < 30)) = true := by rfl)
    (hline : (apos.endLine == cpos.line) = true := by rfl) (hs : starEach (e :: es) X.env = (false, eval e X.env) :: starEach es X.env := by rfl) (hplain : (backTo cpos (starEach es X.env)).any (·.1) = false := by rfl) :
    PE X (.Call (.Attribute o name apos) (e :: es) [] cpos) (tBM X.K T r to t) := by
  intro pins s σ H Q I h
  refine wpAny_Call_method_late hbase hfew hline rfl (thn (ho pins s σ H _ I h) fun v s1 hq_ => ?_); obtain ⟨x, H1, I1, r1, ty, q1⟩ := hq_
  obtain ⟨h1, h2⟩ := tyV_is I1 r1 ty
  refine ⟨T, id, pa, slot, hty, h1, h2, ?_⟩
  have hA := ha cpos pins s1 σ H1 _ I1 q1
  rw [hs] at hA ⊢
  refine Calls.callWith_builtin (by show (false || (backTo cpos (starEach es X.env)).any (·.1)) = false; rw [hplain] <;> rfl) (Calls.evalArgs_plain ?_)
  exact thn hA fun us s2 ⟨vs, H2, I2, r2, q2⟩ => hm pins s2 σ H2 x vs v us Q I2 r1 r2 q2
/- xs.append(e), list.index on a module's tuple .. are MtR facts of 06m -/
end
end L2
namespace L2
open PySem PySem.Spec PyProof.Rows
noncomputable def MtM (X : Cx) (id : String) (r : V → List V → Hp → VK → Prop) : Prop :=
  ∀ (pins : List (Addr × Obj)) (s : Shared) (σ : St) (H : Hp) (x : V) (xs : List V) (v : Value) (us : List Value) (Q : VK), Inv X pins σ H s → RelV x v → Vals xs us → r x xs H Q →
    wpAny (model X.prog X.w) X.A (call (.builtin id) (v :: us)) (EP X pins σ Q) X.xe s
theorem Vals.one {x : V} {us : List Value} (h : Vals [x] us) : ∃ u, us = [u] ∧ RelV x u := by
  cases h with | cons r t => cases t; exact ⟨_, rfl, r⟩
theorem Vals.zero : ∀ {us : List Value}, Vals [] us → us = []
  | _, .nil => rfl
theorem Vals.dropLast {xs : List V} {us : List Value} (h : Vals xs us) : Vals xs.dropLast us.dropLast := by
  induction h with
  | nil => exact .nil
  | cons r t ih =>
    cases t with
    | nil => exact .nil
    | cons q t' => exact .cons r ih
theorem Vals.reverse {xs : List V} {us : List Value} (h : Vals xs us) : Vals xs.reverse us.reverse := by
  induction h with
  | nil => exact .nil
  | cons r t ih => rw [List.reverse_cons, List.reverse_cons]; exact Vals.append ih (.cons r .nil)
theorem erase_last {α : Type} (l : List α) : l.eraseIdx (l.length - 1) = l.dropLast := by
  induction l with
  | nil => rfl
  | cons a r ih =>
    cases r with
    | nil => rfl
    | cons b r =>
      have e : (a :: b :: r).length - 1 = ((b :: r).length - 1) + 1 := by
        have h1 : (a :: b :: r).length = r.length + 2 := rfl
        have h2 : (b :: r).length = r.length + 1 := rfl
        exact om120 h1 h2
      rw [e, List.eraseIdx_cons_succ, ih]
      all_goals rfl
section
variable {X : Cx} {pins : List (Addr × Obj)} {σ : St} {H : Hp} {s : Shared} {l b : Addr} {xs ys zs : List V}
theorem Inv.lset {its its' : List Value} {n : Nat} {f : Array Value → Array Value} {t' : Nat} (I : Inv X pins σ H s) (hH : H l = some (.lst xs))
    (e : s.heap.get? l = some { cls := .type "list", data := .seq its.toArray n }) (hf : f its.toArray = its'.toArray) (hv : Vals ys its') (hz : ys.length ≤ sizeLine) :
    Inv X pins σ (upd H l (.lst ys)) { s with heap := s.heap.update l (Obj.mapSeq f), toks := t' } := by
  have q := PySem.IsL.update e f
  rw [hf] at q
  refine I.write (x := l) (e := l) (by rw [hH]; exact trivial) (.inl rfl) (fun b' u hb hu => (Heap.get?_update_other s.heap (Obj.mapSeq f) (Ne.symm hb)).trans hu) ⟨_, q⟩ ?_
  exact ⟨hz, its', _, hv, q⟩
theorem Inv.lnew {its : List Value} {t' : Nat} (I : Inv X pins σ H s) (hv : Vals ys its) (hz : ys.length ≤ sizeLine) :
    Inv X pins σ (upd H s.heap.objs.size (.lst ys)) { s with heap := s.heap.push { cls := .type "list", data := .seq its.toArray }, toks := t' } :=
  I.laid (fun _ _ q => Heap.get?_push_of_some _ q) (Nat.le_refl _) ⟨hz, its, 0, hv, Heap.get?_push_size _ rfl⟩
theorem Inv.fresh (I : Inv X pins σ H s) : H s.heap.objs.size = none := I.hok.fresh (Nat.le_refl _)
theorem Inv.lstM (I : Inv X pins σ H s) (hH : H l = some (.lst xs)) : xs.length ≤ sizeLine ∧ ∃ (its : List Value) (n : Nat), Vals xs its ∧ xs.length = its.length ∧ s.heap.get? l = some { cls := .type "list", data := .seq its.toArray n } := by
  obtain ⟨z, its, n, r, e⟩ := I.hok l _ hH
  exact ⟨z, its, n, r, r.length, e⟩
theorem notLongL {n : Nat} (h : n ≤ sizeLine) : Builtin.List.listTooLong n = false := by
  unfold Builtin.List.listTooLong
  exact decide_eq_false (om121 h)
end
section
variable {X : Cx}
noncomputable def rAppend : V → List V → Hp → VK → Prop := fun x vs H Q => ∃ l xs y, x = .ref l ∧ vs = [y] ∧ H l = some (.lst xs) ∧ xs.length < sizeLine ∧ Q .non (upd H l (.lst (xs ++ [y])))
theorem mt_append : MtM X "list.append" rAppend := by
  intro pins s σ H x vs v us Q I rx rv h
  obtain ⟨l, xs, y, rfl, rfl, hH, hz, q⟩ := h
  cases rx
  obtain ⟨u, rfl, ru⟩ := rv.one
  obtain ⟨z, its, n, r, hl, e⟩ := I.lstM hH
  refine call_meets F.slot_list_append ⟨_, e, rfl⟩ F.entry_list_append (F.args_list_append_2 _ _) (PySem.list_append l its.toArray n u (by rw [List.size_toArray]; exact om122 hz hl)) ⟨e, ?_⟩
  refine ⟨.non, _, I.lset (its' := its ++ [u]) hH e (by simp) (r.append (.cons ru .nil)) ?_, rfl, q⟩
  rw [List.length_append, List.length_singleton]
  exact om123 hz
noncomputable def rExtend : V → List V → Hp → VK → Prop := fun x vs H Q => ∃ l b xs zs, x = .ref l ∧ vs = [.ref b] ∧ H l = some (.lst xs) ∧ H b = some (.lst zs) ∧ xs.length + zs.length ≤ sizeLine ∧ Q .non (upd H l (.lst (xs ++ zs)))
theorem mt_extend : MtM X "list.extend" rExtend := by
  intro pins s σ H x vs v us Q I rx rv h
  obtain ⟨l, b, xs, zs, rfl, rfl, hH, hB, hz, q⟩ := h
  cases rx
  obtain ⟨u, rfl, ru⟩ := rv.one
  cases ru
  obtain ⟨z, its, n, r, hl, e⟩ := I.lstM hH
  obtain ⟨z2, its2, n2, r2, hl2, e2⟩ := I.lstM hB
  have hsz : its.toArray.size + its2.toArray.size ≤ sizeLine := by rw [List.size_toArray, List.size_toArray]; exact om12 hz hl hl2
  have hlong : ¬ (!its.toArray.isEmpty && Builtin.List.listTooLong (its.toArray.size + its2.toArray.size)) = true := by
    rw [notLongL hsz, Bool.and_false]
    exact Bool.false_ne_true
  refine call_meets F.slot_list_extend ⟨_, e, rfl⟩ F.entry_list_extend (F.args_list_extend_2 _ _)
    (AutoSeq1.list_extend_list_list_0 l its.toArray n b its2.toArray n2 hlong (by rw [List.size_toArray]; exact om1 z hl) (om45 hsz)) ⟨e, e2, ?_⟩
  refine ⟨.non, _, I.lset (its' := its ++ its2) hH e (by simp) (r.append r2) ?_, rfl, q⟩
  rw [List.length_append]
  exact om24 hz
noncomputable def rPop : V → List V → Hp → VK → Prop := fun x vs H Q => ∃ l xs y, x = .ref l ∧ vs = [] ∧ H l = some (.lst xs) ∧ xs[xs.length - 1]? = some y ∧ Q y (upd H l (.lst xs.dropLast))
theorem mt_pop : MtM X "list.pop" rPop := by
  intro pins s σ H x vs v us Q I rx rv h
  obtain ⟨l, xs, y, rfl, rfl, hH, hy, q⟩ := h
  cases rx
  have hus := rv.zero
  subst hus
  obtain ⟨z, its, n, r, hl, e⟩ := I.lstM hH
  obtain ⟨u, hu, ru⟩ := r.get hy
  have hy' : its.toArray[its.toArray.size - 1]? = some u := by
    show its.toArray[its.length - 1]? = some u
    rw [← Array.getElem?_toList, ← hl]
    exact hu
  refine call_meets F.slot_list_pop ⟨_, e, rfl⟩ F.entry_list_pop (F.args_list_pop_1 _) (MeetsSeq.list_pop_last l its.toArray n u hy' (by rw [List.size_toArray]; exact om1 z hl)) ⟨e, ?_⟩
  refine ⟨y, _, I.lset (its' := its.dropLast) hH e ?_ r.dropLast ?_, ru, q⟩
  · show its.toArray.eraseIdxIfInBounds (its.toArray.size - 1) = its.dropLast.toArray
    rw [List.size_toArray, List.eraseIdxIfInBounds_toArray, erase_last]
  · rw [List.length_dropLast]
    exact om124 z
noncomputable def rCat : R2 := fun x y H Q => ∃ l b xs zs, x = .ref l ∧ y = .ref b ∧ H l = some (.lst xs) ∧ H b = some (.lst zs) ∧ xs.length + zs.length ≤ sizeLine ∧ ∀ p, H p = none → Q (.ref p) (upd H p (.lst (xs ++ zs)))
theorem op_cat : OpR X (binaryOp .Add) rCat := by
  intro pins s σ H x y v u Q I rx ry h
  obtain ⟨l, b, xs, zs, rfl, rfl, hH, hB, hz, q⟩ := h
  cases rx
  cases ry
  obtain ⟨z, its, n, r, hl, e⟩ := I.lstM hH
  obtain ⟨z2, its2, n2, r2, hl2, e2⟩ := I.lstM hB
  refine PySem.P.add_list e e2 ?_ (by rw [List.size_toArray, List.size_toArray]; exact om12 hz hl hl2)
  have ea : its.toArray ++ its2.toArray = (its ++ its2).toArray := by simp
  rw [ea]
  exact ⟨.ref _, _, I.lnew (t' := s.toks) (r.append r2) (by rw [List.length_append]; exact om24 hz), rfl, q _ I.fresh⟩
end
section
variable {prog : Program} {w : World} {A : Around} {E : Value → Shared → Prop} {s : Shared}
theorem splice_eq (its its2 : List Value) (a c : Nat) : its.toArray.extract 0 a ++ its2.toArray ++ its.toArray.extract c its.toArray.size = (its.take a ++ its2 ++ its.drop c).toArray := by
  apply Array.toList_inj.mp
  first
    | (simp
       exact List.take_of_length_le (by simp))
    | simp [List.take_of_length_le]
    | simp
theorem bounds_run {a c n : Nat} (hac : a ≤ c) (hc : c ≤ n) : sliceBounds (some (a : Int)) (some (c : Int)) none n = ((a : Int), (c : Int), 1) := by
  simp only [sliceBounds, Option.getD_none]
  have h1 : ¬ ((a : Int) < 0) := om11
  have h2 : ¬ ((c : Int) < 0) := om11
  simp only [h1, h2, if_false, show (1 : Int) > 0 by decide, if_true]
  congr 1
  · exact om125 hac hc
  · congr 1; exact om126 hc
set_option maxRecDepth 100000 in
theorem setItem_slice {l b sl : Addr} {items new : Array Value} {n n2 : Nat} {vl vu : Value} {a c : Nat} {Q : Unit → Shared → Prop}
    (e : s.heap.get? l = some { cls := .type "list", data := .seq items n }) (e2 : s.heap.get? b = some { cls := .type "list", data := .seq new n2 }) (hne : l ≠ b)
    (hs : s.heap.IsSliceOf sl vl vu .none) (pl : IsPart vl (some (a : Int))) (pu : IsPart vu (some (c : Int))) (hac : a ≤ c) (hc : c ≤ items.size)
    (hsz : items.size + new.size ≤ sizeLine) (h : Q () { s with heap := s.heap.update l (Obj.mapSeq fun xs => xs.extract 0 a ++ new ++ xs.extract c xs.size) }) :
    wpAny (model prog w) A (setItem (.ref l) (.ref sl) (.ref b)) Q E s := by
  have hl : s.heap.IsList l items := PySem.IsL.isList e
  have hb : s.heap.IsList b new := PySem.IsL.isList e2
  obtain ⟨os, hos, hcs, hds⟩ := id hs
  have hTs : s.TypeIs (.ref sl) "slice" := ⟨os, hos, hcs⟩
  have hstep : ¬ ((rawPart none == rawInt 0) = true) := Bool.false_ne_true
  have hsame : Builtin.List.listSameRef (.ref l) (.ref b) = false := by
    unfold Builtin.List.listSameRef
    exact beq_eq_false_iff_ne.mpr hne
  have hmax : (max (a : Int) (c : Int)).toNat = c := om127 hac
  have hz' : ((fun xs : Array Value => xs.extract 0 a ++ new ++ xs.extract c xs.size) items).size ≤ sizeLine + 1 := by
    simp only [Array.size_append, Array.size_extract]
    exact om128 hsz hmax
  unfold setItem
  try with_reducible refine wpAny_holding ?_
  first | refine wpAny_bind (wpAny_pure ?_) | skip
  refine wpAny_bind (wpAny_sequenceKey hl.typeIs (by decide) ?_)
  refine wpAny_bind (wpAny_callSpecial?_slot (name := Str.ofString "__setitem__") hl.typeIs slot_list_setitem
    (wpAny_call_entry slot_list_setitem hl.typeIs entry_list_setitem ?_ (args_list_setitem _ _ _)))
  show wpAny _ _ (Builtin.List.listSubscript? (.ref sl) >>= _) _ _ s
  refine wpAny_bind ?_
  unfold Builtin.List.listSubscript?
  refine wpAny_bind (wpAny_specialOf hTs slice_no_index ?_)
  simp only [Option.isNone_none, if_true]
  refine wpAny_pure ?_
  show wpAny _ _ (typeOf (.ref sl) >>= _) _ _ s
  refine wpAny_bind (wpAny_typeOf hTs ?_)
  first
    | rw [if_neg (by decide)]
    | refine PySem.W.KFB.if_not (by decide) ?_
  rw [listSliceParts_eq]
  refine wpAny_bind (wpAny_bind (wpAny_field hos hds (x := .none) rfl (wpAny_bind (wpAny_listPart .none ?_))))
  rw [if_neg hstep]
  refine wpAny_bind (wpAny_field hos hds (x := vl) rfl (wpAny_bind (wpAny_listPart pl ?_)))
  refine wpAny_bind (wpAny_field hos hds (x := vu) rfl (wpAny_bind (wpAny_listPart pu (wpAny_pure ?_))))
  first
    | simp only [hsame, Bool.false_eq_true, if_false]
    | refine PySem.W.KFB.if_not hsame ?_
    | (dsimp only
       rw [if_neg (by rw [hsame]; exact Bool.false_ne_true)])
  refine wpAny_bind (m := Builtin.List.listAllItems (.ref b) "must assign iterable to extended slice") ?_
  unfold Builtin.List.listAllItems
  refine wpAny_bind (wpAny_typeOf hb.typeIs ?_)
  first
    | refine PySem.W.KFB.if_so (by decide) ?_
    | rw [if_pos (by decide)]
    | simp only [beq_self_eq_true, Bool.true_or, if_true]
  unfold Builtin.List.listItems
  refine wpAny_bind (wpAny_seqItems e2 rfl (wpAny_pure ?_))
  refine wpAny_bind (wpAny_bind (wpAny_seqItems e rfl (wpAny_pure ?_)))
  refine wpAny_bind (wpAny_of_eq ((sliceIndices_raw (some (a : Int)) (some (c : Int)) none items.size (by simp)).trans (congrArg (pure : Int × Int × Int → Sem (Int × Int × Int)) (bounds_run hac hc))) ?_)
  show wpAny _ _ (if ((1 : Int) == 1) = true then _ else _) _ _ s
  rw [if_pos (by decide)]
  refine wpAny_bind (wpAny_rule ?_)
  first
    | simp only [notLongL hsz, Bool.false_eq_true, if_false]
    | refine PySem.W.KFB.if_not (notLongL hsz) ?_
  first | refine wpAny_bind (wpAny_pure ?_) | skip
  show wpAny _ _ (updateSeq l (fun xs => xs.extract 0 ((a : Int)).toNat ++ new ++ xs.extract (max (a : Int) (c : Int)).toNat xs.size) >>= _) _ _ s
  rw [hmax, Int.toNat_natCast]
  refine wpAny_bind (wpAny_updateSeq (hz := Nat.le_trans (Nat.le_add_right _ _) hsz) (_hz' := hz') e rfl ?_)
  refine wpAny_bind (wpAny_letGo ?_)
  first
    | exact wpAny_bind (wpAny_pure (wpAny_pure ⟨.none, rfl, wpAny_pure h⟩))
    | exact wpAny_pure ⟨.none, rfl, wpAny_pure h⟩
end
section
variable {X : Cx}
theorem set_slice {pins : List (Addr × Obj)} {s : Shared} {σ : St} {H : Hp} {l b sl : Addr} {xs ys : List V} {a c : Int} {vl vu : Value} {Q : Unit → Shared → Prop} (I : Inv X pins σ H s)
    (hH : H l = some (.lst xs)) (hB : H b = some (.lst ys)) (hne : l ≠ b) (hs : s.heap.IsSliceOf sl vl vu .none) (ra : RelV (.int a) vl) (rc : RelV (.int c) vu) (h0 : 0 ≤ a) (hac : a ≤ c) (hc : c ≤ xs.length)
    (hz : xs.length + ys.length ≤ sizeLine) (h : ∀ s', Inv X pins σ (upd H l (.lst (xs.take a.toNat ++ ys ++ xs.drop c.toNat))) s' → Q () s') :
    wpAny (model X.prog X.w) X.A (setItem (.ref l) (.ref sl) (.ref b)) Q X.xe s := by
  obtain ⟨ta, rfl⟩ := ra
  obtain ⟨tc, rfl⟩ := rc
  obtain ⟨z, its, n, r, hl, e⟩ := I.lstM hH
  obtain ⟨z2, its2, n2, r2, hl2, e2⟩ := I.lstM hB
  obtain ⟨a', rfl⟩ := Int.eq_ofNat_of_zero_le h0
  obtain ⟨c', rfl⟩ := Int.eq_ofNat_of_zero_le (Int.le_trans h0 hac)
  simp only [Int.toNat_natCast] at h
  refine setItem_slice (a := a') (c := c') e e2 hne hs (.int _ _) (.int _ _) (om129 hac) (by rw [List.size_toArray]; exact om130 hl hc) (by rw [List.size_toArray, List.size_toArray]; exact om12 hz hl hl2) (h _ ?_)
  refine I.lset (its' := its.take a' ++ its2 ++ its.drop c') (t' := s.toks) hH e ?_ (Vals.append (Vals.append (r.take _) r2) (r.drop _)) ?_
  · exact splice_eq its its2 a' c'
  · rw [List.length_append, List.length_append, List.length_take, List.length_drop]
    exact om131 hz hac
end
end L2
namespace Att
open PySem PySem.W PySem.Calls PyProof.Rows
theorem ints_of_wellAll {P : Params} {h : Heap} : ∀ (ns : List Int) (vs : List Value), WellAll P h vs (ns.map WData.int) → IntsAre vs ns := by
  intro ns
  induction ns with
  | nil =>
    intro vs w
    rw [List.map_nil] at w
    cases w
    exact .nil
  | cons n ns ih =>
    intro vs w
    rw [List.map_cons] at w
    cases w with
    | cons a b =>
      cases a
      exact .cons _ _ (ih _ b)
theorem script_of {l : OpenLaw} {n : Nat} (hn : l.most = some n) {P : Params} {h : Heap} {args : List WData} {vals : List Value}
    (hpre : l.row.toRowW.claim.pre args = true) (hwl : WellAll P h vals args) :
    ∃ a vs ns, vals = [Value.ref a] ∧ args = [WData.list (ns.map WData.int)] ∧ h.get? a = some { cls := .type "list", data := .seq vs.toArray } ∧ IntsAre vs ns ∧ ns.length ≤ n := by
  have hsh : WShape.hasAll [] args [.list .int] = true := (pre_splitW hpre).1
  have hc : l.pre.holds [] { args := args } = true := (pre_splitW hpre).2
  obtain ⟨d, r, rfl, h1, h2⟩ := hasAllW_cons hsh
  obtain rfl := hasAllW_nil h2
  obtain ⟨xs, rfl, h3⟩ := hasW_list h1
  obtain ⟨ns, rfl⟩ := items_int h3
  have hlen : ns.length ≤ n := by
    unfold OpenLaw.pre at hc
    have h4 : (WTm.not (.lt (.lit (.int (n : Int))) (.len (.arg 0)))).holds [] { args := [.list (ns.map .int)] } = true := by
      have h4 := (holds_andW hc).1
      rw [hn] at h4
      exact h4
    have h5 := condW_of h4 (w_not (w_lt w_lit (w_len_list (w_arg rfl))))
    rw [List.length_map] at h5
    refine Nat.le_of_not_lt fun q => ?_
    have q' : (n : Int) < ((ns.length : Nat) : Int) := om23 q
    first
      | (rw [decide_eq_true q'] at h5; exact absurd h5 (by decide))
      | (simp at h5; omega)
  cases hwl with
  | cons w1 w2 =>
    cases w2
    cases w1 with
    | list ho hall => exact ⟨_, _, ns, rfl, rfl, ho, ints_of_wellAll ns _ hall, hlen⟩
theorem post_true (l : OpenLaw) (args : List WData) : l.row.toRowW.claim.post args (.bool true) args = true :=
  postW_of (r := l.row.toRowW) (X := (true == true))
    (show WShape.has [] (.bool true) .bool = true by first | rfl | decide | simp [WShape.has, WShape.arms, WShape.armsAll])
    (show (WTm.eq .res (.lit (.bool true))).value [] { args := args, res := some (.bool true), after := args } = some (.bool (true == true)) from w_eq_bool (w_res rfl) w_lit) rfl
theorem attach_call {l : OpenLaw} {n : Nat} {q : Program} {loose : List Str} {XP : (Str → Option Value) → Heap → Prop} {YP : World → Heap → Prop} {d : DefRec}
    (hn : l.most = some n) (hdf : d.params.defaults = [])
    (call : ∀ (w : World) (s₀ s₁ : Shared) (mg mb : Str → Option Value) (fa : Addr) (o : Obj) (pm cd doc : Value) (a : Addr) (vs : List Value) (ns : List Int),
      Ground q loose [] XP w s₀ mg mb s₁.heap → YP w s₁.heap →
      s₁.heap.get? fa = some o → o.data = .func (docDef d.name d.params d.body d.scope pm cd doc) → s₁.heap.CodeRec cd d.name → mg d.name = some (.ref fa) →
      s₁.heap.get? a = some { cls := .type "list", data := .seq vs.toArray } → IntsAre vs ns → ns.length ≤ n → s₁.gens = #[] →
      codeAny (model l.prog w) callerA (.call (.ref fa) ⟨[.ref a], []⟩) (fun r s' => r = .ok (.ret (.bool true)) ∧ OldK s₁.heap s'.heap ∧ s'.os = s₁.os ∧ AllBare s'.gens) s₁) :
    WalkO q loose XP YP l.row.toRowW d [] (fun f vs => PySem.call f vs) := by
  intro w s₀ s₁ mg mb G Y fa o pm cd doc dV kV ho hd hcd hD hmg hg args vals as hpre hlay hrd hwl hlo
  obtain rfl : dV = .none := Dflts.none hD hdf
  obtain rfl : kV = .none := Dflts.noKw hD
  obtain ⟨a, vs, ns, rfl, rfl, hobj, hints, hlen⟩ := script_of hn hpre hwl
  refine enter_call (codeAny_mono (call w s₀ s₁ mg mb fa o pm cd doc a vs ns G Y ho (fd_plain hd) hcd hmg hobj hints hlen hg) fun r s' hq => ?_)
  obtain ⟨rfl, h2, h3, h4⟩ := hq
  exact ⟨.inl ⟨.bool true, .bool true, [], rfl, fun _ => rfl, .bool true, post_true l _, fun _ => ⟨List.Pairwise.nil, fun _ hm => (nomatch hm)⟩⟩, h2, h3, h4⟩
section
variable {prog : Program} {w : World} {A : Around} {E : Value → Shared → Prop} {s : Shared} {K : Frag}
end
end Att
namespace L2
open PySem PySem.Spec PyProof.Rows
theorem vals_ints : ∀ {vs : List Value} {ns : List Int}, IntsAre vs ns → Vals (ns.map V.int) vs
  | _, _, .nil => .nil
  | _, _, .cons n t h => .cons ⟨t, rfl⟩ (vals_ints h)
noncomputable def Only (H : Hp) : Prop := ∀ b, H b = none ∨ ∃ o xs, H b = some (.frz o (.lst xs))
theorem law_call {P : Program} {w : World} {K : PySem.W.Frag} {mg mb : Str → Option Value} {CX : CXT} {k : Nat} {fa a : Addr} {fd : FuncData} {x : Str} {sp : Sp} {s₁ : Shared} {vs : List Value} {ns : List Int}
    (KX : K.In s₁.heap) (hns : s₁.heap.Ns mainGlobals mg) (hb : s₁.heap.Ns builtinsNs mb) (hbb : ∀ x : Str, x ≠ "__name__" → mb x = bootBuiltins x) (hlim : s₁.heap.NoLimit) (hg : s₁.gens = #[])
    (ha : s₁.heap.get? a = some { cls := .type "list", data := .seq vs.toArray }) (hi : IntsAre vs ns) (hl : ns.length ≤ sizeLine) (hr : Room k callerA)
    (F : ∀ base : Heap, K.In base → base.Ns mainGlobals mg → FnOk P w K mg base CX k fa fd [x] sp) (hbind : ∀ (s : Shared) (u : Value), BindsTo s fd ⟨[u], []⟩ [(x, u)])
    (hsp : ∀ H : Hp, Only H → SqL K H a (ns.map V.int) → sp [.ref a] H (fun v _ => v = .bl true) fun _ _ _ => False)
    (hCX : ∀ H e s', CX [] H s₁ (fun _ _ _ => False) e s' → False) :
    codeAny (model P w) callerA (.call (.ref fa) ⟨[.ref a], []⟩) (fun r s' => r = .ok (.ret (.bool true)) ∧ OldK s₁.heap s'.heap ∧ s'.os = s₁.os ∧ AllBare s'.gens) s₁ := by
  have rv := vals_ints hi
  have lenV := hi.length
  have core : ∀ H : Hp, Only H → SqL K H a (ns.map V.int) → HOk P w H s₁.heap → (∀ b, H b ≠ none → b = a) → (H a ≠ none → K.lookup a = none) →
      codeAny (model P w) callerA (.call (.ref fa) ⟨[.ref a], []⟩) (fun r s' => r = .ok (.ret (.bool true)) ∧ OldK s₁.heap s'.heap ∧ s'.os = s₁.os ∧ AllBare s'.gens) s₁ := by
    intro H hO hS hok hA hK
    have base_of : ∀ {b : Addr} {o : Obj}, s₁.heap.get? b = some o → H b = none → (hidT s₁.heap H).get? b = some o := fun e n => hidT_get e n
    have noA : ∀ {b : Addr} {o : Obj} {es : Array DictEntry} {ep : Nat}, s₁.heap.get? b = some o → o.data = .dict es ep → H b = none := fun {b o es ep} e d => by
      cases q : H b with
      | none => rfl
      | some u =>
        have e' : b = a := hA b (by rw [q]; simp)
        subst e'
        rw [ha] at e; cases e
        have d' : Data.seq vs.toArray _ = Data.dict es ep := d
        cases d'
    have nsK : ∀ {b : Addr} {m : Str → Option Value}, s₁.heap.Ns b m → (hidT s₁.heap H).Ns b m := fun {b m} ⟨o, es, ep, e, d, r⟩ => ⟨o, es, ep, base_of e (noA e d), d, r⟩
    have hKb : K.In (hidT s₁.heap H) := fun b o e => base_of (KX b o e) (by
      cases q : H b with
      | none => rfl
      | some u =>
        have e' : b = a := hA b (by rw [q]; simp)
        subst e'
        rw [hK (by rw [q]; simp)] at e; cases e)
    have hM : Mod K mg (hidT s₁.heap H) := ⟨hKb, nsK hns, ⟨mb, nsK hb, hbb⟩, let ⟨mc, h1, h2⟩ := hlim; ⟨mc, nsK h1, h2⟩⟩
    have e0 : Env0 P w K mg (hidT s₁.heap H) callerA [] s₁ H := ⟨rfl, hM, fun b o e => of_hidT e, Nat.le_of_eq (hidT_size _ _), trivial, fun b hb => absurd (show b ∈ ([] : List Addr) from hb) (by simp), hok, .of_eq hg⟩
    refine codeAny_mono ((F _ hKb (nsK hns)).run callerA [] s₁ H ⟨[.ref a], []⟩ [.ref a] [.ref a] _ _ hr e0 (hbind s₁ (.ref a)) (.cons rfl .nil) (hsp H hO hS)) fun r s' h => ?_
    cases r with
    | error e => exact (hCX H e s' h).elim
    | ok fl =>
      cases fl with
      | next => exact False.elim h
      | brk => exact False.elim h
      | cont => exact False.elim h
      | ret u =>
        obtain ⟨v, H', os, bare, un, hok', r', q⟩ := h
        have q' : v = .bl true := q
        subst q'
        obtain rfl : u = Value.bool true := r'
        refine ⟨rfl, OldK.of_keep fun b o e => ?_, os, bare⟩
        cases q : H b with
        | none => exact un.keep b o e q (by intro z; exact absurd (show b ∈ ([] : List Addr) from z) (by simp)) (by simp)
        | some u =>
          rcases hO b with z | ⟨ob, xs, z⟩
          · rw [q] at z; cases z
          · have z2 := un.frzs b ob _ z
            obtain ⟨e1, _⟩ := hok b _ z
            obtain ⟨e2, _⟩ := hok' b _ z2
            rw [e] at e1; cases e1
            exact e2
  cases hk : K.lookup a with
  | some o =>
    have e := KX a o hk
    rw [ha] at e
    cases e
    refine core (fun _ => none) (fun _ => .inl rfl) (.inr ⟨_, vs.toArray, _, hk, rfl, rfl, rfl, by rw [List.size_toArray, lenV]; exact hl, by simpa using rv⟩) (fun b u z => by have z' : (none : Option HO) = some u := z; cases z') (fun b z => absurd rfl z) fun z => absurd rfl z
  | none =>
    refine core (fun b => if b = a then some (.frz { cls := .type "list", data := .seq vs.toArray } (.lst (ns.map V.int))) else none) (fun b => ?_) (.inl (.inr ⟨{ cls := .type "list", data := .seq vs.toArray }, if_pos rfl⟩)) (fun b u z => ?_) (fun b z => ?_) fun _ => hk
    · by_cases hb : b = a
      · exact .inr ⟨_, _, if_pos hb⟩
      · exact .inl (if_neg hb)
    · by_cases hb : b = a
      · have z' := (if_pos hb).symm.trans z
        cases z'
        subst hb
        exact ⟨ha, by rw [List.length_map]; exact hl, vs, _, rv, ha⟩
      · have z' := (if_neg hb).symm.trans z
        cases z'
    · by_cases hb : b = a
      · exact hb
      · exact absurd (if_neg hb) z
end L2
namespace L2
open PySem PySem.Spec PyProof.Rows
theorem walk_of {l : PySem.W.OpenLaw} {n k : Nat} {q : Program} {loose : List Str} {XP : (Str → Option Value) → Heap → Prop} {YP : World → Heap → Prop} {d : DefRec} {K : Params → PySem.W.Frag} {CX : World → CXT} {sp : World → Sp} {x : Str}
    (hn : l.most = some n) (hn2 : n ≤ sizeLine) (hdf : d.params.defaults = []) (hr : Room k callerA)
    (hY : ∀ (w : World) (h : Heap), YP w h → (K w.params).In h)
    (F : ∀ (w : World) (mg : Str → Option Value) (fa : Addr) (h : Heap), (K w.params).In h → h.Ns mainGlobals mg → mg d.name = some (.ref fa) →
      ∃ fd : FuncData, (∀ (s : Shared) (u : Value), BindsTo s fd ⟨[u], []⟩ [(x, u)]) ∧
        ∀ base : Heap, (K w.params).In base → base.Ns mainGlobals mg → FnOk l.prog w (K w.params) mg base (CX w) k fa fd [x] (sp w))
    (hsp : ∀ (w : World) (H : Hp) (a : Addr) (ns : List Int), ns.length ≤ n → Only H → SqL (K w.params) H a (ns.map V.int) → sp w [.ref a] H (fun v _ => v = .bl true) fun _ _ _ => False)
    (hCX : ∀ (w : World) (H : Hp) (s : Shared) (e : Value) (s' : Shared), CX w [] H s (fun _ _ _ => False) e s' → False) :
    PySem.W.WalkO q loose XP YP l.row.toRowW d [] (fun f vs => PySem.call f vs) := by
  refine Att.attach_call hn hdf fun w s₀ s₁ mg mb fa o pm cd doc a vs ns G Y ho hd hcd hmg hobj hints hlen hg => ?_
  have KX := hY w _ Y
  obtain ⟨fd, hb, hF⟩ := F w mg fa _ KX G.T.g hmg
  exact law_call KX G.T.g G.T.b G.T.builtins G.T.nolimit hg hobj hints (Nat.le_trans hlen hn2) hr hF hb (fun H hO hS => hsp w H a ns hlen hO hS) fun H e s' => hCX w H s₁ e s'
end L2
namespace L2
open PySem PySem.Spec PyProof.Rows
noncomputable def inClass (s : Stmt) (j : Nat) : Stmt := match s with
  | .ClassDef _ _ _ body _ _ _ _ _ _ _ => body.getD j (.Pass ⟨0, 0, 0, 0⟩)
  | _ => .Pass ⟨0, 0, 0, 0⟩
noncomputable def defArgs (s : Stmt) : Arguments := match s with
  | .FunctionDef _ a _ _ _ _ _ _ _ _ => a
  | _ => { posonlyargs := [], args := [], vararg := none, kwonlyargs := [], kw_defaults := [], kwarg := none, defaults := [] }
noncomputable def defBody (s : Stmt) : List Stmt := match s with
  | .FunctionDef _ _ b _ _ _ _ _ _ _ => b
  | _ => []
noncomputable def defScope (s : Stmt) : Scope := match s with
  | .FunctionDef _ _ _ _ _ _ sc _ _ _ => sc
  | _ => { kind := .function, names := [], isGenerator := false, isCoroutine := false }
noncomputable abbrev CX0 : CXT := fun _ _ _ _ _ _ => False
noncomputable abbrev E0 : XK := fun _ _ _ => False
theorem pass0 {X : Cx} : Passes CX0 X E0 := fun _ _ _ _ _ _ _ h => h.elim
structure Fun (K : PySem.W.Frag) (x qual : Str) (st : Stmt) (f : Addr) (fd : FuncData) : Prop where
  ex : ∃ (oc : Value) (od : Option Addr) (kV doc pm : Value) (an : Option Addr) (cdv ct : Value) (osl : Array (Option Value)),
    fd = PySem.W.fnOf x qual (defArgs st) (defBody st) (defScope st) .none kV doc pm an cdv ct ∧ K.lookup f = some ⟨oc, od, .func fd, osl⟩ ∧ PySem.W.codeIn K cdv qual = true
  kp : PySem.W.keepIn K (.ref f) = true
section
variable {P : Program} {w : World} {K : PySem.W.Frag} {mg : Str → Option Value} {base : Heap}
theorem Fun.ok {x qual : Str} {st : Stmt} {f : Addr} {fd : FuncData} {N ps : List Str} {k : Nat} {sp : Sp} (F : Fun K x qual st f fd) (S : FnScope N ps (defScope st)) (len : ∀ vs H Q E, sp vs H Q E → vs.length = ps.length)
    (hbody : ∀ (cdv : Value) (A : Around) (outer : List Env) (s : Shared) (H : Hp) (vs : List V) (Q : VK) (E : XK), Room k (A.deeper (envOfC qual (defScope st) s.heap.objs.size f cdv)) → sp vs H Q E →
      ∃ t, PSs (cxOf CX0 P w K mg base N qual (defScope st) f cdv A outer s H E).nox (defBody st) t ∧ t { nx := fun _ H' => Q .non H', rt := Q } (start N vs) H) : FnOk P w K mg base CX0 (k + 1) f fd ps sp := by
  obtain ⟨oc, od, kV, doc, pm, an, cdv, ct, osl, rfl, lk, hcd⟩ := F.ex
  refine fn_of lk hcd S len fun A outer s H vs Q E hr hsp => ?_
  obtain ⟨t, h, q⟩ := hbody cdv A outer s H vs Q E hr hsp
  exact ⟨t, h.nox, q⟩
theorem Fun.binds {x qual : Str} {st : Stmt} {f : Addr} {fd : FuncData} {ps : List Str} (F : Fun K x qual st f fd)
    (h : ∀ (kV doc pm : Value) (an : Option Addr) (cdv ct : Value) (us : List Value), us.length = ps.length → bindArgs (PySem.W.fnOf x qual (defArgs st) (defBody st) (defScope st) .none kV doc pm an cdv ct) ⟨us, []⟩ = pure (ps.zip us)) : Binds K fd ps [] := by
  obtain ⟨oc, od, kV, doc, pm, an, cdv, ct, osl, rfl, lk, hcd⟩ := F.ex
  exact .all (h kV doc pm an cdv ct)
theorem fun_mk {x qual : Str} {st : Stmt} {f : Addr} {oc : Value} {od an : Option Addr} {osl : Array (Option Value)} {kV doc pm cdv ct : Value} (l : K.lookup f = some ⟨oc, od, .func (PySem.W.fnOf x qual (defArgs st) (defBody st) (defScope st) .none kV doc pm an cdv ct), osl⟩)
    (c : PySem.W.codeIn K cdv qual = true) (k : PySem.W.keepIn K (.ref f) = true) : Fun K x qual st f (PySem.W.fnOf x qual (defArgs st) (defBody st) (defScope st) .none kV doc pm an cdv ct) := ⟨⟨oc, od, kV, doc, pm, an, cdv, ct, osl, rfl, l, c⟩, k⟩
end
section
variable {X : Cx}
theorem pv (i : Nat) {x : Str} {pos : Pos} (hN : X.N[i]? = some x := by rfl) (hv : Vis X.env.scope x := by first | exact Or.inl rfl | exact Or.inr (Or.inl rfl) | exact Or.inr (Or.inr rfl)) (hd : (x == ("__debug__" : Str)) = false := by decide)
    (hcd : (x == ("__classdict__" : Str)) = false := by decide) : PE X (.Name x pos) (tVar i) := pe_var hN hv hd hcd
end
theorem iteF {A B : Prop} (h : B) : if false = true then A else B := by
  rw [if_neg Bool.false_ne_true]
  exact h
theorem iteT {A B : Prop} (h : A) : if true = true then A else B := by
  rw [if_pos rfl]
  exact h
theorem ite2 {c A B : Prop} [Decidable c] (h1 : c → A) (h2 : ¬ c → B) : if c then A else B := by
  by_cases h : c
  · rw [if_pos h]
    exact h1 h
  · rw [if_neg h]
    exact h2 h
noncomputable def Same (H H' : Hp) : Prop := ∀ b o, H b = some o → H' b = some o
theorem Same.refl (H : Hp) : Same H H := fun _ _ h => h
theorem Same.trans {H H1 H2 : Hp} (a : Same H H1) (b : Same H1 H2) : Same H H2 := fun c o h => b c o (a c o h)
theorem Same.free {H H' : Hp} (e : Same H H') {l : Addr} (h : H' l = Option.none) : H l = Option.none := by
  cases q : H l with
  | none => rfl
  | some o =>
    rw [e l o q] at h
    cases h
end L2
set_option Elab.async false
set_option linter.all false
set_option maxRecDepth 100000
set_option maxHeartbeats 4000000
namespace L2
open PySem PySem.Spec PyProof.Rows
section
variable {prog : Program} {w : World} {A : Around} {R : Result → Shared → Prop} {s : Shared}
noncomputable abbrev NoE : Value → Shared → Prop:=fun _ _=>False
theorem comp_loop {elt target iter : Expr} {ifs : List Expr} {scope : Scope} {pos : Pos} {it acc : Value} {env : Env} (I : Nat → Shared → Prop)
  (turn : ∀ n s,I n s → wpAny (model prog w) A (pyNext it) (fun r s₁=>match r with
   | none=>R (.ok .next) s₁
   | some v=>wpAny (model prog w) A (letOwnedTupleGo target it v) (fun _ s₂=>wpAny (model prog w) A (assign target env v) (fun _ s₃ =>
     wpAny (model prog w) A (forIn ifs true fun c r=>if r = true then do let ok ← isTrue c env (eval c env); pure (ForInStep.yield ok) else pure (ForInStep.yield r)) (fun ok s₄ =>
      if ok = true then wpAny (model prog w) A (eval elt env) (fun x s₅ =>
       wpAny (model prog w) A (call (.builtin "list.append") [acc,x]) (fun _ s₆=>∃ m,m < n ∧ I m s₆) NoE s₅) NoE s₄
      else ∃ m,m < n ∧ I m s₄) NoE s₃) NoE s₂) NoE s₁) NoE s)
  (n : Nat) (h : I n s) :
  codeAny (model prog w) A (.compLoop (.ListComp elt [⟨target,iter,ifs,0⟩] scope pos) 0 it acc env) R s:=by
 refine codeAny_loop rfl I (fun n s hI=>?_) n h
 show wpAny _ A ((compTurn (.ListComp elt [⟨target,iter,ifs,0⟩] scope pos) 0 it acc env).onRaise (fun x=>do noteFrame x env; theTreesLotGoes x)) _ _ s
 refine wpAny_noted ?_
 rw [compTurn_list]
 refine wpAny_bind (wpAny_standAt (wpAny_bind (wpAny_mono (turn n s hI) (fun r s₁ h₁=>?_) fun _ _ f=>f.elim)))
 cases r with
 | none=>exact wpAny_pure h₁
 | some v =>
  refine wpAny_bind (wpAny_mono h₁ (fun _ s₂ h₂=>?_) fun _ _ f=>f.elim)
  refine wpAny_bind (wpAny_mono h₂ (fun _ s₃ h₃=>wpAny_bind (wpAny_mono h₃ (fun ok s₄ h₄=>?_) fun _ _ f=>f.elim)) fun _ _ f=>f.elim)
  cases ok with
  | false=>exact wpAny_pure ⟨rfl,h₄⟩
  | true =>
   exact wpAny_bind (wpAny_bind (wpAny_mono h₄ (fun x s₅ h₅=>wpAny_bind (wpAny_mono h₅ (fun _ s₆ h₆=>wpAny_pure (wpAny_pure ⟨rfl,h₆⟩)) fun _ _ f=>f.elim)) fun _ _ f=>f.elim))
end
noncomputable def compCx (X : Cx) (scope : Scope) (M : List Str) (cl : List (Str × Addr)) (C : Addr) (fp : List Addr) (sB : Shared) (HB : Hp) : Cx where
 prog:=X.prog
 w:=X.w
 K:=X.K
 mg:=X.mg
 base:=X.base
 A:=X.A
 N:=M
 s₀:=sB
 H₀:=HB
 env:=compEnvC scope cl C X.env
 outer:=X.stack
 stack:=X.stack
 ex:=fp
 fn:=fun _=>false
 calm:=X.calm
 pn:=[]
 xe:=fun _ _=>False
noncomputable def sIn (nT : Nat) (ix : List Nat) (σ : St) : St:=List.replicate nT none ++ ix.map fun i=>(σ[i]?).getD none
structure CompSc (N : List Str) (sc scope : Scope) (M : List Str) (nT : Nat) (ix : List Nat) : Prop where
 cell : ∀ y ∈ scope.names,y.2 ≠ .cell
 kind : scope.kind = .function
 loc : ∀ y ∈ scope.names,y.2 = .local → scope.names.lookup y.1 = some .local
 fre : ∀ y ∈ scope.names,y.2 = .free → sc.names.lookup y.1 = some .cell
 nms : M.drop nT = ix.map fun i=>N.getD i Str.empty
 len : M.length = nT + ix.length
 vis : ∀ i ∈ ix,scope.names.lookup (N.getD i Str.empty) = some .free
theorem relabel_cell {env : Env} (hk : env.scope.kind = .function) : ∀ {names : List (Str × NameKind)} {y : Str},names.lookup y = some .free → env.kindOf y = some .cell →
  (names.map fun (n,k)=>if (k == NameKind.free && env.scope.kind == .function && env.kindOf n == some .cell) then (n,NameKind.cell) else (n,k)).lookup y = some .cell
 | [],_,h,_=>by simp at h
 | (n,k) :: r,y,h,hc=>by
  have ih:=@relabel_cell env hk r y
  show List.lookup y ((if (k == NameKind.free && env.scope.kind == .function && env.kindOf n == some .cell) = true then (n,NameKind.cell) else (n,k)) :: _) = _
  cases hx : y == n with
  | true =>
   simp only [List.lookup_cons,hx] at h
   cases h
   have e : y = n:=by simpa using hx
   subst e
   rw [if_pos (by rw [hk,hc]; rfl)]
   simp [List.lookup_cons]
  | false =>
   simp only [List.lookup_cons,hx] at h
   by_cases hc' : (k == NameKind.free && env.scope.kind == .function && env.kindOf n == some .cell) = true
   ·rw [if_pos hc']; simp only [List.lookup_cons,hx]; exact ih h hc
   ·rw [if_neg hc']; simp only [List.lookup_cons,hx]; exact ih h hc
theorem relabel_of {env : Env} : ∀ {names : List (Str × NameKind)} {y : Str} {k' : NameKind},
  (names.map fun (n,k)=>if (k == NameKind.free && env.scope.kind == .function && env.kindOf n == some .cell) then (n,NameKind.cell) else (n,k)).lookup y = some k' →
  ∃ k,names.lookup y = some k ∧ (k' = k ∨ k = .free)
 | [],_,_,h=>by simp at h
 | (n,k) :: r,y,k',h=>by
  have ih:=@relabel_of env r y k'
  have h : List.lookup y ((if (k == NameKind.free && env.scope.kind == .function && env.kindOf n == some .cell) = true then (n,NameKind.cell) else (n,k)) :: _) = some k':=h
  cases hx : y == n with
  | true =>
   refine ⟨k,by simp only [List.lookup_cons,hx],?_⟩
   by_cases hc' : (k == NameKind.free && env.scope.kind == .function && env.kindOf n == some .cell) = true
   ·right
    simp only [Bool.and_eq_true] at hc'
    simpa using hc'.1.1
   ·rw [if_neg hc'] at h; simp only [List.lookup_cons,hx] at h; left; exact (Option.some.inj h).symm
  | false =>
   have h2 : List.lookup y (r.map fun (n,k)=>if (k == NameKind.free && env.scope.kind == .function && env.kindOf n == some .cell) then (n,NameKind.cell) else (n,k)) = some k':=by
    by_cases hc' : (k == NameKind.free && env.scope.kind == .function && env.kindOf n == some .cell) = true
    ·rw [if_pos hc'] at h; simp only [List.lookup_cons,hx] at h; exact h
    ·rw [if_neg hc'] at h; simp only [List.lookup_cons,hx] at h; exact h
   obtain ⟨k2,e,q⟩:=ih h2
   exact ⟨k2,by simp only [List.lookup_cons,hx]; exact e,q⟩
noncomputable def clFrom (env : Env) : List (Str × NameKind) → List (Str × Addr) → List (Str × Addr)
 | [],acc=>acc
 | (n,k) :: r,acc=>if k == .free then clFrom env r ((n,(env.cells.lookup n).getD 0) :: acc) else clFrom env r acc
theorem clFrom_sub {env : Env} : ∀ {names : List (Str × NameKind)} {acc : List (Str × Addr)},(∀ y ∈ names,y.2 = .free → ∃ c,env.cells.lookup y.1 = some c) → (∀ x c,acc.lookup x = some c → env.cells.lookup x = some c) →
  ∀ x c,(clFrom env names acc).lookup x = some c → env.cells.lookup x = some c
 | [],_,_,ha,x,c,h=>ha x c h
 | (n,k) :: r,acc,hy,ha,x,c,h=>by
  unfold clFrom at h
  by_cases hk : (k == NameKind.free) = true
  ·rw [if_pos hk] at h
   refine clFrom_sub (fun y hy'=>hy y (List.mem_cons_of_mem _ hy')) (fun x' c' h'=>?_) x c h
   obtain ⟨c0,e0⟩:=hy (n,k) List.mem_cons_self (by simpa using hk)
   have e0 : env.cells.lookup n = some c0:=e0
   simp only [List.lookup_cons] at h'
   cases hx : x' == n with
   | true =>
    rw [hx] at h'
    have e : x' = n:=by simpa using hx
    subst e
    rw [e0] at h'
    rw [e0]
    exact h'
   | false=>rw [hx] at h'; exact ha _ _ h'
  ·rw [if_neg hk] at h
   exact clFrom_sub (fun y hy'=>hy y (List.mem_cons_of_mem _ hy')) ha x c h
theorem lookup_some_of {x : Str} : ∀ {acc : List (Str × Addr)},(∃ c,(x,c) ∈ acc) → ∃ c,acc.lookup x = some c
 | [],h=>by obtain ⟨_,h⟩:=h; cases h
 | (n,c) :: r,h=>by
  simp only [List.lookup_cons]
  cases hx : x == n with
  | true=>exact ⟨c,rfl⟩
  | false =>
   obtain ⟨c',h⟩:=h
   rcases List.mem_cons.mp h with e | h
   ·injection e with e1 _
    subst e1
    simp at hx
   ·exact lookup_some_of ⟨c',h⟩
theorem clFrom_mem {env : Env} {x : Str} : ∀ {names : List (Str × NameKind)} {acc : List (Str × Addr)},((∃ c,(x,c) ∈ acc) ∨ (x,NameKind.free) ∈ names) → ∃ c,(x,c) ∈ clFrom env names acc
 | [],_,h=>by
  rcases h with h | h
  ·exact h
  ·cases h
 | (n,k) :: r,acc,h=>by
  unfold clFrom
  by_cases hk : (k == NameKind.free) = true
  ·rw [if_pos hk]
   refine clFrom_mem ?_
   rcases h with ⟨c,h⟩ | h
   ·exact .inl ⟨c,List.mem_cons_of_mem _ h⟩
   ·rcases List.mem_cons.mp h with e | h
    ·injection e with e1 _
     subst e1
     exact .inl ⟨_,List.mem_cons_self⟩
    ·exact .inr h
  ·rw [if_neg hk]
   refine clFrom_mem ?_
   rcases h with h | h
   ·exact .inl h
   ·rcases List.mem_cons.mp h with e | h
    ·injection e with _ e2
     subst e2
     exact absurd rfl hk
    ·exact .inr h
theorem closureFor_at {env : Env} : ∀ (names : List (Str × NameKind)) (acc : List (Str × Addr)),(∀ y ∈ names,y.2 = .free → ∃ c,env.cells.lookup y.1 = some c) →
  (forIn names acc (fun x r=>match x with | (name,kind)=>if (kind == NameKind.free) = true then (do let a ← cellOf env name; pure (ForInStep.yield ((name,a) :: r))) else pure (ForInStep.yield r)) : Sem (List (Str × Addr))) = pure (clFrom env names acc)
 | [],acc,_=>rfl
 | (n,k) :: r,acc,hy=>by
  have ih:=fun acc=>closureFor_at r acc fun y hy'=>hy y (List.mem_cons_of_mem _ hy')
  rw [List.forIn_cons]
  unfold clFrom
  by_cases hk : (k == NameKind.free) = true
  ·obtain ⟨c0,e0⟩:=hy (n,k) List.mem_cons_self (by simpa using hk)
   have e0 : env.cells.lookup n = some c0:=e0
   have e1 : cellOf env n = pure c0:=by unfold cellOf; rw [e0]
   rw [if_pos hk]
   simp only [hk,if_true,e1,e0]
   exact ih _
  ·rw [if_neg hk]
   simp only [hk]
   exact ih _
theorem closureFor_cl {env : Env} {scope : Scope} (hy : ∀ y ∈ scope.names,y.2 = .free → ∃ c,env.cells.lookup y.1 = some c) : closureFor scope env = pure (clFrom env scope.names []):=by
 have h:=closureFor_at scope.names [] hy
 exact congrArg (fun t : Sem (List (Str × Addr))=>t >>= fun s=>pure s) h
section
variable {X : Cx} {pins : List (Addr × Obj)} {σ : St} {H : Hp} {s : Shared}
theorem comp_has {scope : Scope} {M : List Str} {nT : Nat} {ix : List Nat} (I : Inv X pins σ H s) (S : CompSc X.N X.env.scope scope M nT ix) : ∀ y ∈ scope.names,y.2 = .free → ∃ c,X.env.cells.lookup y.1 = some c :=
 fun y hy e=>I.ok.has y.1 (.inl (S.fre y hy e))
theorem comp_inv {scope : Scope} {M : List Str} {nT : Nat} {ix : List Nat} {fp : List Addr} {C : Addr} {h₁ : Heap} {m : Str → Option Value} {tk : Nat} (I : Inv X pins σ H s) (hf : ∀ b ∈ fp,FpOk X pins H b) (hfs : ∀ b ∈ fp,b < s.heap.objs.size)
  (S : CompSc X.N X.env.scope scope M nT ix) (hC : s.heap.objs.size ≤ C) (old : ∀ b o,s.heap.get? b = some o → h₁.get? b = some o) (hns : h₁.Ns C m) :
  Inv (compCx X scope M (clFrom X.env scope.names []) C fp s H) [] (sIn nT ix σ) H { s with heap:=h₁,toks:=tk }:=by
 have sub : ∀ x c,(clFrom X.env scope.names []).lookup x = some c → X.env.cells.lookup x = some c:=clFrom_sub (comp_has I S) (fun x c h=>by simp at h)
 have hs2 : ∀ x,scope.names.lookup x = some .free → ∃ c,(clFrom X.env scope.names []).lookup x = some c:=fun x e=>lookup_some_of (clFrom_mem (.inr (PySem.mem_of_lookup e)))
 have hex : ∀ x k',(relabel scope X.env).names.lookup x = some k' → (k' = .cell ∨ k' = .free) → scope.names.lookup x = some .free:=fun x k' e hk=>by
  obtain ⟨k,e1,q⟩:=relabel_of e
  rcases q with q | q
  ·rcases hk with z | z
   ·exact absurd (q.symm.trans z) (S.cell (x,k) (PySem.mem_of_lookup e1))
   ·rw [e1,← q,z]
  ·rw [e1,q]
 refine ⟨⟨I.ok.mod,S.kind,I.ok.glob,I.ok.blt,hC,fun x y c h1 h2=>I.ok.inj x y c (sub x c h1) (sub y c h2),fun x hx=>?_,fun x c hx=>?_,I.ok.hd,I.ok.frames,.inl rfl,fun b hb=>⟨fun z=>?_,fun x c e=>?_⟩,I.bs,Nat.le_trans I.ok.bsz I.sz,fun b o e hb=>?_,fun b hb hz=>?_,I.stack,I.stkFree⟩,
  rfl,I.bare,Un.kept old,⟨m,hns,fun k y v e1 e2 _=>?_⟩,fun x c e=>?_,I.hok.fresh hC,fun x c e=>I.freeC x c (sub x c e),fun p hp=>absurd (show p ∈ ([] : List (Addr × Obj)) from hp) (by simp),I.hok.kept old,?_⟩
 ·rcases hx with hx | hx
  ·exact hs2 x (hex x _ hx (.inl rfl))
  ·exact hs2 x (hex x _ hx (.inr rfl))
 ·exact absurd (show false = true from hx) (by decide)
 ·have z' : b = C:=z
  have:=hfs b hb
  rw [z'] at this
  exact absurd this (Nat.not_lt.mpr hC)
 ·exact (hf b hb).2.2.2.2.1 x c (sub x c e)
 ·rcases (hf b hb).2.2.2.1 with z | z
  ·exact I.ok.noex b o e z
  ·exact absurd (Nat.lt_of_lt_of_le (Heap.lt_size e) (Nat.le_trans I.ok.bsz z)) (Nat.lt_irrefl _)
 ·rcases List.mem_cons.mp (I.stkSub b hz) with z | z
  ·exact (hf b hb).2.1 z
  ·exact (hf b hb).2.2.1 z
 ·have e2 : (sIn nT ix σ)[k]? = some (some v):=e2
  have e1 : M[k]? = some y:=e1
  unfold sIn at e2
  by_cases hk : k < nT
  ·rw [List.getElem?_append_left (by simpa using hk),List.getElem?_replicate] at e2
   simp [hk] at e2
  ·have hk' : nT ≤ k:=Nat.le_of_not_lt hk
   rw [List.getElem?_append_right (by simpa using hk'),List.length_replicate,List.getElem?_map] at e2
   cases e3 : ix[k - nT]? with
   | none=>rw [e3] at e2; cases e2
   | some i =>
    rw [e3] at e2
    have e4 : (σ[i]?).getD none = some v:=Option.some.inj e2
    have e5 : σ[i]? = some (some v):=by
     cases e6 : σ[i]? with
     | none=>rw [e6] at e4; cases e4
     | some o=>rw [e6] at e4; exact congrArg some e4
    have hi : i < X.N.length:=by rw [← I.len]; exact (List.getElem?_eq_some_iff.mp e5).1
    have e7 : y = X.N.getD i Str.empty:=by
     have q : (M.drop nT)[k - nT]? = some y:=by rw [List.getElem?_drop]; rw [Nat.add_sub_cancel' hk']; exact e1
     rw [S.nms,List.getElem?_map,e3] at q
     exact (Option.some.inj q).symm
    have e8 : X.N[i]? = some y:=by rw [e7,List.getElem?_eq_getElem hi,List.getD_eq_getElem?_getD,List.getElem?_eq_getElem hi]; rfl
    have hfree : scope.names.lookup y = some .free:=by rw [e7]; exact S.vis i (List.mem_of_getElem? e3)
    have hcell : X.env.scope.names.lookup y = some .cell:=S.fre (y,.free) (PySem.mem_of_lookup hfree) rfl
    obtain ⟨m',_,hl⟩:=I.loc
    obtain ⟨u,r,l⟩:=hl i y v e8 e5 (.inr (.inl hcell))
    refine ⟨u,r,?_⟩
    rcases l with ⟨l,_⟩ | ⟨_,c,ec,o,ho,hd⟩
    ·have l : X.env.scope.names.lookup y = some .local:=l
     rw [hcell] at l
     cases l
    ·obtain ⟨c',ec'⟩:=hs2 y hfree
     have q:=sub y c' ec'
     rw [ec] at q
     cases q
     exact .inr ⟨.inl (relabel_cell I.ok.kind hfree hcell),c,ec',o,old _ _ ho,hd⟩
 ·obtain ⟨v,o,ho,hd⟩:=I.cell x c (sub x c e)
  exact ⟨v,o,old _ _ ho,hd⟩
 ·show (sIn nT ix σ).length = M.length
  rw [S.len]
  simp [sIn]
theorem Inv.track {D : Addr} {o : HO} (I : Inv X pins σ H s) (f : FpOk X pins H D) (ge : X.s₀.heap.objs.size ≤ D) (new : ObjOk X.prog X.w (upd H D o) s.heap D o) : Inv X pins σ (upd H D o) s:=by
 have n:=f.1
 have ne : ∀ b u,H b = some u → b ≠ D:=fun b u e=>ne_of_none e n
 refine ⟨I.ok,I.os,I.bare,⟨I.base.keep,I.base.slot,fun b ob e q hx=>?_,I.base.there,fun b xs e=>?_,fun b ob u e=>?_,fun b ps e=>?_⟩,I.loc,I.cell,?_,fun x c e=>?_,fun p hp=>?_,fun b u e=>?_,I.len⟩
 ·rw [upd_ne (Nat.ne_of_lt (Nat.lt_of_lt_of_le (Heap.lt_size e) ge))]
  exact I.base.free b ob e q hx
 ·have q:=I.base.tups b xs e
  rw [upd_ne (ne _ _ q)]
  exact q
 ·have q:=I.base.frzs b ob u e
  rw [upd_ne (ne _ _ q)]
  exact q
 ·obtain ⟨more,q⟩:=I.base.tbls b ps e
  exact ⟨more,by rw [upd_ne (ne _ _ q)]; exact q⟩
 ·rw [upd_ne (Ne.symm f.2.1)]
  exact I.free
 ·rw [upd_ne (f.2.2.2.2.1 x c e)]
  exact I.freeC x c e
 ·obtain ⟨e,q,r⟩:=I.pin p hp
  exact ⟨e,by rw [upd_ne (f.2.2.2.2.2 p hp)]; exact q,r⟩
 ·by_cases hb : b = D
  ·subst hb
   rw [upd_same] at e
   cases e
   exact new
  ·rw [upd_ne hb] at e
   exact (I.hok b u e).stay (fun _ _ _ q=>q) (fun c q=>by rw [upd_ne (ne _ _ q)]; exact q) fun c xs q=>by rw [upd_ne (ne _ _ q)]; exact q
noncomputable abbrev lstO (us : List Value) : Obj:={ cls:=.type "list",data:=.seq us.toArray us.length }
theorem lstO_snoc (us : List Value) (y : Value) : ({ cls:=.type "list",data:=.seq (us.toArray.push y) (us.length + 1) } : Obj) = lstO (us ++ [y]):=by
 show ({ cls:=.type "list",data:=.seq (us.toArray.push y) (us.length + 1) } : Obj) = { cls:=.type "list",data:=.seq (us ++ [y]).toArray (us ++ [y]).length }
 rw [List.length_append,List.length_singleton,List.push_toArray]
noncomputable def PF (X : Cx) (ifs : List Expr) (t : TT) : Prop :=
 ∀ (pins : List (Addr × Obj)) (s : Shared) (σ : St) (H : Hp) (Q : Bool → Hp → Prop),Inv X pins σ H s → t σ H Q →
  wpAny (model X.prog X.w) X.A (forIn ifs true fun c r=>if r = true then do let ok ← isTrue c X.env (eval c X.env); pure (ForInStep.yield ok) else pure (ForInStep.yield r)) (TP X pins σ Q) X.xe s
noncomputable def tAll : TT:=fun _ H Q=>Q true H
theorem pf_nil : PF X [] tAll:=fun _ _ _ H _ I h=>wpAny_tests_nil ⟨H,I,h⟩
theorem pf_one {c : Expr} {t : TT} (h : PT X c t) : PF X [c] t:=fun pins s σ H Q I q=>wpAny_tests_one (h pins s σ H Q I q)
noncomputable def sTail (ix : List Nat) (σ : St) : St:=ix.map fun i=>(σ[i]?).getD none
noncomputable def CompR (J : It) (nT : Nat) (tail : St) (g : TG) (tt : TT) (te : TE) (Q : List V → Hp → Prop) (H : Hp) : Prop :=
 ∃ W : Nat → Nat → List V → Hp → Prop,(∃ m,W 0 m [] H) ∧ ∀ i m ys H,W i m ys H →
  (J.stop i H ∧ Q ys H) ∨ (J.go i H ∧ ys.length < sizeLine ∧ ∃ N : List V → Hp → Prop,(∀ ys' H2,N ys' H2 → ∃ m',m' < m ∧ W (i + 1) m' ys' H2) ∧
   ∀ x H' (ts : St),ts.length = nT → J.yld i H x H' → g x (ts ++ tail) H' fun σ2 H2=>(∃ ts' : St,ts'.length = nT ∧ σ2 = ts' ++ tail) ∧ tt σ2 H2 fun b H3=>if b = true then te σ2 H3 fun y H4=>N (ys ++ [y]) H4 else N ys H3)
theorem comp_block {tg elt iter : Expr} {ifs : List Expr} {scope : Scope} {pos : Pos} {M : List Str} {nT : Nat} {ix : List Nat} {g : TG} {tt : TT} {te : TE} {it : Addr} {fp : List Addr} {tn : Nat → Heap → Prop} {J : It} {E : Value → Shared → Prop}
  {RR : Value → Addr → Result → Shared → Prop} {Qf : List V → Hp → Prop}
  (I : Inv X pins σ H s) (hc : X.calm = true) (T : Turn X.prog X.w X.K tg J fp it tn) (st : tn 0 s.heap) (hf : ∀ b ∈ fp,FpOk X pins H b) (S : CompSc X.N X.env.scope scope M nT ix)
  (hg : ∀ cl C fp s H,PG (compCx X scope M cl C fp s H) tg g) (hi : ∀ cl C fp s H,PF (compCx X scope M cl C fp s H) ifs tt) (he : ∀ cl C fp s H,PE (compCx X scope M cl C fp s H) elt te)
  (h : CompR J nT (sTail ix σ) g tt te Qf H)
  (hRR : ∀ D C ys m H' s',(∀ b o u,H b = some (.frz o u) → H' b = some (.frz o u)) → H' D = none → Inv X pins σ (upd H' D (.lst ys)) s' → FpOk X pins (upd H' D (.lst ys)) C → s'.heap.Ns C m → Qf ys H' → RR (.ref D) C (.ok .next) s') :
  wpAny (model X.prog X.w) X.A (newList []) (fun acc s₃=>wpAny (model X.prog X.w) X.A (newFunctionEnv scope X.env.globals (clFrom X.env scope.names []) [] X.env.qual none .none (some X.env)) (fun cenv s₄ =>
   codeAny (model X.prog X.w) X.A (.compStart (.ListComp elt [⟨tg,iter,ifs,0⟩] scope pos) 0 (.ref it) acc { cenv with scope:=relabel scope X.env }) (RR acc cenv.locals) s₄) E s₃) E s:=by
 obtain ⟨W,⟨m0,w0⟩,turn⟩:=h
 have hfs : ∀ b ∈ fp,b < s.heap.objs.size:=fun b hb=>by
  obtain ⟨o,e,_⟩:=T.obj 0 _ st b hb
  exact Heap.lt_size e
 refine wpAny_newObj_type (wpAny_newFunctionEnv S.cell (by intro y hy; simp at hy) (fun h₁ hns₁ hsb₁=>?_) S.kind)
 dsimp only at hns₁ hsb₁ ⊢
 generalize hH2 : s.heap.push { cls:=.type "list",dict:=none,data:=.seq ([] : List Value).toArray } = H2 at hns₁ hsb₁ ⊢
 have hC : H2.objs.size = s.heap.objs.size + 1:=by rw [← hH2,Heap.size_push]
 have hDC : s.heap.objs.size ≠ H2.objs.size:=by rw [hC]; exact Nat.ne_of_lt (Nat.lt_succ_self _)
 have hCle : s.heap.objs.size ≤ H2.objs.size:=by rw [hC]; exact Nat.le_succ _
 have below : ∀ b,b < s.heap.objs.size → b ≠ H2.objs.size ∧ b ≠ s.heap.objs.size:=fun b hb=>⟨by rw [hC]; exact Nat.ne_of_lt (Nat.lt_succ_of_lt hb),Nat.ne_of_lt hb⟩
 have old : ∀ b o,s.heap.get? b = some o → h₁.get? b = some o:=fun b o e=>hsb₁.extBut b o (below b (Heap.lt_size e)).1 (Heap.get?_push_of_some _ (hH2 ▸ Heap.get?_push_of_some _ e))
 have hacc : h₁.get? s.heap.objs.size = some (lstO []):=hsb₁.extBut _ _ hDC (Heap.get?_push_of_some _ (hH2 ▸ Heap.get?_push_size _ rfl))
 have hDn : H s.heap.objs.size = none:=I.hok.fresh (Nat.le_refl _)
 have hDfs : s.heap.objs.size ∉ frs X.stack:=fun hb=>(List.mem_cons.mp (I.stkSub _ hb)).elim (fun e=>absurd I.lt (by rw [← e]; exact Nat.lt_irrefl _)) (I.nofs (Nat.le_refl _))
 generalize hD : s.heap.objs.size = D at *
 generalize hCC : H2.objs.size = C at *
 have J0 : ∀ tk,Inv (compCx X scope M (clFrom X.env scope.names []) C fp s H) [] (sIn nT ix σ) H { s with heap:=h₁,toks:=tk }:=fun tk=>comp_inv I hf (by rw [hD]; exact hfs) S (by rw [hD]; exact hCle) old hns₁
 have cne : ∀ x c,(clFrom X.env scope.names []).lookup x = some c → c ≠ D:=fun x c e z=>by
  have sub:=clFrom_sub (comp_has I S) (acc:=[]) (fun x c h=>by simp at h) x c e
  obtain ⟨v,o,ho,_⟩:=I.cell x c sub
  have:=Heap.lt_size ho
  rw [z,hD] at this
  exact Nat.lt_irrefl _ this
 have pinD : ∀ {σ' : St} {H' : Hp} {s' : Shared} {us : List Value},Inv (compCx X scope M (clFrom X.env scope.names []) C fp s H) [] σ' H' s' → s'.heap.get? D = some (lstO us) → H' D = none →
   Inv (compCx X scope M (clFrom X.env scope.names []) C fp s H) [(D,lstO us)] σ' H' s':=fun {σ' H' s' us} I' e n=>I'.pins_of fun p hp=>by
  have ep : p = (D,lstO us):=by simpa using hp
  subst ep
  exact ⟨e,n,hDC,hDfs,fun v z=>by cases z⟩
 have stat : ∀ {H' : Hp} {us : List Value},(∀ b ∈ fp,H' b = none) → ∀ b ∈ fp,FpOk (compCx X scope M (clFrom X.env scope.names []) C fp s H) [(D,lstO us)] H' b:=fun {H' us} hn b hb =>
  ⟨hn b hb,((J0 0).ok.exf b hb).1,(J0 0).ok.exfs b hb,.inl hb,((J0 0).ok.exf b hb).2,fun p hp z=>by
   have ep : p = (D,lstO us):=by simpa [compCx] using hp
   rw [ep] at z
   have:=hfs b hb
   rw [← z] at this
   exact Nat.lt_irrefl _ this⟩
 have loop : ∀ s₃ : Shared,(∃ tk,s₃ = { s with heap:=h₁,toks:=tk }) →
   codeAny (model X.prog X.w) X.A (.compLoop (.ListComp elt [⟨tg,iter,ifs,0⟩] scope pos) 0 (.ref it) (.ref D) (compEnvC scope (clFrom X.env scope.names []) C X.env)) (RR (.ref D) C) s₃:=by
  rintro s₃ ⟨tk,rfl⟩
  refine comp_loop (fun n s'=>∃ i ys us ts H',ts.length = nT ∧ Inv (compCx X scope M (clFrom X.env scope.names []) C fp s H) [(D,lstO us)] (ts ++ sTail ix σ) H' s' ∧ Vals ys us ∧ ys.length ≤ sizeLine ∧ tn i s'.heap ∧ (∀ b ∈ fp,H' b = none) ∧ W i n ys H') ?_ m0
   ⟨0,[],[],List.replicate nT none,H,List.length_replicate,pinD (J0 tk) hacc hDn,.nil,Nat.zero_le _,T.keep _ _ _ st fun b hb o e=>old b o e,fun b hb=>(hf b hb).1,w0⟩
  rintro n s1 ⟨i,ys,us,ts,H1,hts,I1,rv,hz,st1,fr1,w1⟩
  rcases turn i n ys H1 w1 with ⟨stop,q⟩ | ⟨go,hlt,N,hN,step⟩
  ·refine thn (T.done (compCx X scope M (clFrom X.env scope.names []) C fp s H) rfl rfl rfl hc i _ s1 _ H1 NoE I1 (stat fr1) st1 stop) fun r s2 hq_=>?_; obtain ⟨hr,I2⟩:=hq_
   subst hr
   have IO : Inv X pins σ H1 s2:=I.call' (ch:=fp) I2.os I2.base I2.hok I2.bare fun b hb=>⟨(hf b hb).2.2.2.1,(hf b hb).2.1,(hf b hb).2.2.2.2.1,(hf b hb).2.2.2.2.2⟩
   have pD:=I2.pin (D,lstO us) (by simp [compCx])
   have hn1 : H1 D = none:=pD.2.1
   have fD : FpOk X pins H1 D:=by rw [← hD]; exact I.fpOk (Nat.le_refl _) (by rw [hD]; exact hn1)
   have IT : Inv X pins σ (upd H1 D (.lst ys)) s2:=IO.track fD (by rw [← hD]; exact I.sz) ⟨hz,us,us.length,rv,pD.1⟩
   obtain ⟨mC,hnC,_⟩:=I2.loc
   have hC1 : H1 C = none:=I2.free
   exact hRR D C ys mC H1 s2 I2.base.frzs hn1 IT (I.fpOk (by rw [hD]; exact hCle) (by rw [upd_ne (Ne.symm hDC)]; exact hC1)) hnC q
  ·refine thn (T.item (compCx X scope M (clFrom X.env scope.names []) C fp s H) rfl rfl rfl hc i _ s1 _ H1 NoE I1 (stat fr1) st1 go) fun r s2 hq_=>?_; obtain ⟨u,hr,h2⟩:=hq_
   subst hr
   refine thn h2 fun _ s3 hq_=>?_; obtain ⟨x,H3,I3,r3,y3,st3,fr3⟩:=hq_
   have I3':=I3.pinned (stat fr3) (T.obj _ _ st3)
   refine thn (hg _ _ _ _ _ _ s3 _ H3 x u _ I3' r3 (step x H3 ts hts y3)) fun _ s4 ⟨σ4,H4,I4,⟨ts4,hts4,e4⟩,q4⟩=>?_
   subst e4
   refine thn (hi _ _ _ _ _ _ s4 _ H4 _ I4 q4) fun b s5 hq_=>?_; obtain ⟨H5,I5,q5⟩:=hq_
   cases b with
   | false =>
    obtain ⟨m',hm,w'⟩ : ∃ m',m' < n ∧ W (i + 1) m' ys H5:=hN _ _ q5
    refine ⟨m',hm,i + 1,ys,us,ts4,H5,hts4,I5.unpinned,rv,hz,T.keep _ _ _ st3 fun b hb o e=>(I5.pin (b,o) (List.mem_append_right _ (List.mem_append_right _ (mem_pinsAt hb e)))).1,fun b hb=>?_,w'⟩
    obtain ⟨o,e,d⟩:=T.obj _ _ st3 b hb
    exact (I5.pin (b,o) (List.mem_append_right _ (List.mem_append_right _ (mem_pinsAt hb e)))).2.1
   | true =>
    refine thn (he _ _ _ _ _ _ s5 _ H5 _ I5 q5) fun v s6 hq_=>?_; obtain ⟨y,H6,I6,r6,q6⟩:=hq_
    obtain ⟨m',hm,w'⟩:=hN _ _ q6
    have pD:=I6.pin (D,lstO us) (List.mem_append_right _ (List.mem_append_left _ List.mem_cons_self))
    have hl:=rv.length
    have keepfp : ∀ b ∈ fp,∀ o,s3.heap.get? b = some o → s6.heap.get? b = some o:=fun b hb o e=>(I6.pin (b,o) (List.mem_append_right _ (List.mem_append_right _ (mem_pinsAt hb e)))).1
    have freefp : ∀ b ∈ fp,H6 b = none:=fun b hb=>by
     obtain ⟨o,e,d⟩:=T.obj _ _ st3 b hb
     exact (I6.pin (b,o) (List.mem_append_right _ (List.mem_append_right _ (mem_pinsAt hb e)))).2.1
    refine append_at (hsz:=by rw [List.size_toArray,← hl]; exact hz) pD.1 fun h7 sb hD7=>?_
    have I7 : Inv (compCx X scope M (clFrom X.env scope.names []) C fp s H) [] (ts4 ++ sTail ix σ) H6 { s6 with heap:=h7 } :=
     (I6.pins_of (pins':=[]) fun p hp=>absurd hp (by simp)).turned (t':=s6.toks) (it:=D) (fun b o hb e=>(sb.2 b hb).trans e) pD.2.1 hDC (.inr (by show s.heap.objs.size ≤ D; rw [hD]; exact Nat.le_refl _)) cne fun p hp=>absurd (show p ∈ ([] : List (Addr × Obj)) from hp) (by simp)
    refine ⟨m',hm,i + 1,ys ++ [y],us ++ [v],ts4,H6,hts4,pinD I7 (hD7.trans (congrArg some (lstO_snoc us v))) pD.2.1,rv.append (.cons r6 .nil),by rw [List.length_append,List.length_singleton]; exact hlt,
     T.keep _ _ _ (T.keep _ _ _ st3 keepfp) fun b hb o e=>(sb.2 b fun z=>?_).trans e,freefp,w'⟩
    have:=hfs b hb
    rw [z] at this
    exact Nat.lt_irrefl _ this
 exact codeAny_compStart_list (loop _ ⟨_,rfl⟩) (T.self _ 0 _ _ _ (T.keep _ _ _ st fun b hb o e=>old b o e) (loop _ ⟨_,rfl⟩))
noncomputable def tComp (wi : TI) (nT : Nat) (ix : List Nat) (g : TG) (tt : TT) (te : TE) : TE:=fun σ H Q=>wi σ H fun J H1=>CompR J nT (sTail ix σ) g tt te (fun ys H'=>∀ p,H' p = none → Q (.ref p) (upd H' p (.lst ys))) H1
theorem pe_comp {tg elt iter : Expr} {ifs : List Expr} {scope : Scope} {pos : Pos} {M : List Str} {nT : Nat} {ix : List Nat} {wi : TI} {g : TG} {tt : TT} {te : TE} (hc : X.calm = true) (hI : PI X tg iter wi) (S : CompSc X.N X.env.scope scope M nT ix)
  (hg : ∀ cl C fp s H,PG (compCx X scope M cl C fp s H) tg g) (hi : ∀ cl C fp s H,PF (compCx X scope M cl C fp s H) ifs tt) (he : ∀ cl C fp s H,PE (compCx X scope M cl C fp s H) elt te)
  (hs : ∀ x,foldedSetIterable iter X.env x = pure x:=by intro _; rfl) :
  PE X (.ListComp elt [⟨tg,iter,ifs,0⟩] scope pos) (tComp wi nT ix g tt te):=by
 intro pins s σ H Q I h
 rw [eval_ListComp]
 refine wpAny_comprehension_free (use:=none) rfl hs (closureFor_cl (comp_has I S)) S.kind S.loc (thn (hI pins s σ H _ I h) fun xv s1 h1=>thn h1 fun itv s2 h2=>?_)
 obtain ⟨it,fp,tn,J,H2,e,I2,T,st2,f2,R⟩:=h2
 subst e
 refine comp_block (RR:=fun acc C=>compPost (model X.prog X.w) X.A X.xe none (EP X pins σ Q) acc C) I2 hc T st2 f2 S hg hi he R ?_
 intro D C ys m H' s' _ n I' fC ns q
 exact ⟨m,ns,fun h' sb=>⟨.ref D,_,I'.turned (t':=s'.toks) (fun b o hb e=>(sb.2 b hb).trans e) fC.1 fC.2.1 fC.2.2.2.1 fC.2.2.2.2.1 fC.2.2.2.2.2,rfl,q D n⟩⟩
theorem ps_setC {tg elt iter : Expr} {ifs : List Expr} {scope : Scope} {pos py spos : Pos} {y : Str} {i : Nat} {M : List Str} {nT : Nat} {ix : List Nat} {wi : TI} {g : TG} {tt : TT} {te : TE} (hN : X.N.Nodup) (hy : X.N[i]? = some y) (hx : Loc X.env.scope y)
  (hc : X.calm = true) (hI : PI X tg iter wi) (S : CompSc X.N X.env.scope scope M nT ix)
  (hg : ∀ cl C fp s H,PG (compCx X scope M cl C fp s H) tg g) (hi : ∀ cl C fp s H,PF (compCx X scope M cl C fp s H) ifs tt) (he : ∀ cl C fp s H,PE (compCx X scope M cl C fp s H) elt te)
  (hsw : swapsWith (.ListComp elt [⟨tg,iter,ifs,0⟩] scope pos) (some (.Name y py)) spos.line X.env = pure true:=by rfl)
  (hf : X.fn y = true ∨ X.env.scope.names.lookup y = some .local:=by first | exact .inl rfl | exact .inr rfl | assumption)
  (hs : ∀ x,foldedSetIterable iter X.env x = pure x:=by intro _; rfl) :
  PS X (.Assign [.Name y py] (.ListComp elt [⟨tg,iter,ifs,0⟩] scope pos) spos) (fun D σ H=>tComp wi nT ix g tt te σ H fun v H1=>D.nx (σ.set i (some v)) H1):=by
 intro pins s σ H D I h
 rw [exec_Assign_Name_used _ _ _ _ hsw]
 refine wpAny_bind (wpAny_standAt (wpAny_bind ?_))
 show wpAny _ X.A (do let _ ← comprehension (.ListComp elt [⟨tg,iter,ifs,0⟩] scope pos) scope X.env _ (newList []) false (eval iter X.env) (some (assign (.Name y py) X.env))) _ _ s
 refine wpAny_bind (thn (wpAny_comprehension_free (use:=some (assign (.Name y py) X.env)) (Q:=fun _ s'=>SP X pins D .next s') rfl hs (closureFor_cl (comp_has I S)) S.kind S.loc
  (thn (hI pins s σ H _ I h) fun xv s1 h1=>thn h1 fun itv s2 h2=>?_)) fun _ s' hq=>wpAny_pure (wpAny_pure hq))
 obtain ⟨it,fp,tn,J,H2,e,I2,T,st2,f2,R⟩:=h2
 subst e
 refine comp_block (RR:=fun acc C=>compPost (model X.prog X.w) X.A X.xe (some (assign (.Name y py) X.env)) (fun _ s'=>SP X pins D .next s') acc C) I2 hc T st2 f2 S hg hi he R ?_
 intro Dd C ys m H' s' _ n I' fC ns q
 show wpAny _ X.A (assign (.Name y py) X.env (.ref Dd)) _ _ s'
 refine wpAny_assign_Name (store_ok2 I' hN hy hx (v:=.ref Dd) rfl (fun s'' I'' hh=>?_) hf)
 obtain ⟨a,sb,ha⟩:=hh
 have hCa : C ≠ a:=by
  rcases ha with z | z
  ·rw [z]; exact fC.2.1
  ·exact Ne.symm (fC.2.2.2.2.1 _ _ z)
 exact ⟨m,ns.sameBut sb hCa,fun h' sb'=>⟨_,_,I''.turned (t':=s''.toks) (fun b o hb e=>(sb'.2 b hb).trans e) fC.1 fC.2.1 fC.2.2.2.1 fC.2.2.2.2.1 fC.2.2.2.2.2,q Dd n⟩⟩
end
end L2
namespace L2
open PySem PySem.Spec PyProof.Rows
section
variable {X : Cx}
noncomputable def CDivB (i j : Int) : Prop:=0 < j ∧ j ≤ 1000000000000000000
theorem op_fdivB : OpR X (binaryOp .FloorDiv) (rI CDivB fun i j=>.int (i / j)):=opI fun i j _ _ _ _ _ hc q=>by
 have h1 : (0 : Int) < j:=hc.1
 have h2 : j ≤ 1000000000000000000:=hc.2
 refine floordiv_int (om8 h1) (by rw [Int.fdiv_eq_ediv_of_nonneg i (om19 h1)]; exact q) (.inl (PyProof.noPylong_of_log2 ?_))
 have h3 : j.natAbs ≠ 0:=by omega
 have h4 : j.natAbs < 2 ^ 60:=by omega
 have h5 : j.natAbs.log2 < 60:=(Nat.log2_lt h3).mpr h4
 exact om132 h5
noncomputable def clsV : V → Option Value
 | .ty n=>some (.type n)
 | .ref a=>some (.ref a)
 | _=>none
theorem call_isinst : CallR X (.builtin "isinstance") (fun xs H Q=>∃ x y c t b,xs = [x,y] ∧ clsV y = some c ∧ TyOf X.K H x t ∧ PySem.W.kitOne X.K t c = some b ∧ Q (.bl b) H):=by
 intro pins s σ H xs us Q I r h
 obtain ⟨x,y,c,t,b,rfl,hc,ty,e,q⟩:=h
 obtain ⟨u,w',rfl,rx,ry⟩:=vals2 r
 have ec : w' = c:=by
  cases y with
  | ty n=>exact Eq.trans ry (Option.some.inj hc)
  | ref a=>exact Eq.trans ry (Option.some.inj hc)
  | _=>cases hc
 subst ec
 exact isinst_ok I rx ty e fun tk=>⟨.bl b,H,I.tok tk,rfl,q⟩
theorem strsAre_of : ∀ {ys : List Str} {us : List Value},Vals (ys.map V.str) us → StrsAre us ys
 | [],_,.nil=>.nil
 | y :: r,_,.cons (b:=u) h t=>by
  obtain ⟨tk,e⟩ : ∃ tk,u = Value.str y tk:=h
  subst e
  exact .cons y tk (strsAre_of t)
theorem mt_join : MtR X "str.join" (fun x xs H Q=>∃ (z : Str) (p : Addr) (ys : List Str),x = .str z ∧ xs = [.ref p] ∧ SqL X.K H p (ys.map V.str) ∧ z.length ≤ 16 ∧ (ys.map (·.length)).sum + ys.length ≤ 1048576 ∧ Q (.str (Txt.join z ys)) H):=by
 intro pins s σ H x xs v us Q I rx rs h
 obtain ⟨z,p,ys,rfl,rfl,hq,hz,hw,q⟩:=h
 obtain ⟨u,rfl,ru⟩:=vals1 rs
 cases ru
 obtain ⟨t,rfl⟩:=rx
 obtain ⟨its,r',pl,hz'⟩:=I.list hq
 exact join_listW pl.isList (by simpa using strsAre_of r') hz hw fun t' k=>⟨.str _,H,I.tok k,⟨_,rfl⟩,q⟩
noncomputable def cstV : Expr → Option V
 | .Constant (.str x) _ _=>some (.str x)
 | .Constant (.int i) _ _=>some (.int i)
 | _=>none
theorem pe_cst {e : Expr} {v : V} (h : cstV e = some v) : PE X e (tC v):=by
 cases e with
 | Constant c j p =>
  cases c with
  | str x=>cases h; exact pe_str
  | int i=>cases h; exact pe_int
  | _=>cases h
 | _=>cases h
theorem star_cst {e : Expr} {es : List Expr} {env : Env} {v : V} (h : cstV e = some v) : starEach (e :: es) env = (false,eval e env) :: starEach es env:=by
 cases e with
 | Constant c j p=>rfl
 | _=>cases h
noncomputable def isCst (e : Expr) : Bool:=(cstV e).isSome
noncomputable def cstG (e : Expr) : V:=(cstV e).getD .non
theorem pa_csts : ∀ {es : List Expr},es.all isCst = true → PA X es (fun _ H Q=>Q (es.map cstG) H)
 | [],_=>pa_nil
 | e :: es,h=>by
  rw [List.all_cons,Bool.and_eq_true] at h
  obtain ⟨v,hv⟩:=Option.isSome_iff_exists.mp (show (cstV e).isSome = true from h.1)
  have hg : cstG e = v:=by unfold cstG; rw [hv]; rfl
  rw [List.map_cons,hg]
  exact pa_cons (pe_cst hv) (pa_csts h.2) (star_cst hv)
theorem flat_csts {es : List Expr} (h : es.all isCst = true) : (es.map cstG).all flatV = true:=by
 rw [List.all_eq_true] at h ⊢
 intro v hv
 obtain ⟨e,he,rfl⟩:=List.mem_map.mp hv
 have q:=h e he
 unfold isCst at q
 unfold cstG
 cases e with
 | Constant c j p =>
  cases c with
  | str x=>rfl
  | int i=>rfl
  | _=>exact absurd q Bool.false_ne_true
 | _=>exact absurd q Bool.false_ne_true
noncomputable def tMid (t : TS) : TS:=fun D σ H=>∃ R : St → Hp → Prop,t { D with nx:=R } σ H ∧ ∀ σ' H',R σ' H' → D.nx σ' H'
theorem ps_mid {st : Stmt} {t : TS} (h : PS X st t) : PS X st (tMid t):=by
 intro pins s σ H D I hw
 obtain ⟨R,h1,h2⟩:=hw
 refine thn (h pins s σ H _ I h1) fun f s' q=>?_
 cases f with
 | next=>obtain ⟨σ',H',I',q⟩:=q; exact ⟨σ',H',I',h2 _ _ q⟩
 | brk=>exact q
 | cont=>exact q
 | ret v=>exact q
theorem len1 {ts : St} (h : ts.length = 1) : ∃ v,ts = [v]:=by
 match ts,h with
 | [v],_=>exact ⟨v,rfl⟩
theorem compR_range {lo : Int} {n : Nat} {te : TE} {Qf : List V → Hp → Prop} {σt : St} {H : Hp} (Pv : Nat → List V → Hp → Prop) (h0 : Pv 0 [] H) (hz : n ≤ sizeLine) (hlen : ∀ i ys H',Pv i ys H' → ys.length ≤ i)
  (hs : ∀ i ys H',i < n → Pv i ys H' → te (some (.int (lo + i)) :: σt) H' fun y H2=>Pv (i + 1) (ys ++ [y]) H2) (hd : ∀ ys H',Pv n ys H' → Qf ys H') :
  CompR (Itr lo n) 1 σt (gName 0) tAll te Qf H:=by
 refine ⟨fun i m ys H'=>m = n - i ∧ i ≤ n ∧ Pv i ys H',⟨n,by simp,Nat.zero_le _,h0⟩,?_⟩
 rintro i m ys H' ⟨rfl,hi,p⟩
 by_cases hlt : i < n
 ·refine .inr ⟨hlt,Nat.lt_of_le_of_lt (hlen i ys H' p) (Nat.lt_of_lt_of_le hlt hz),Pv (i + 1),fun ys' H2 p'=>⟨n - (i + 1),om2 hlt,rfl,hlt,p'⟩,fun x H2 ts hts y=>?_⟩
  obtain ⟨e,y⟩:=y
  subst e y
  obtain ⟨v,rfl⟩:=len1 hts
  exact ⟨⟨[some _],rfl,rfl⟩,hs i ys _ hlt p⟩
 ·have e : i = n:=om3 hi hlt
  subst e
  exact .inl ⟨Nat.le_refl _,hd ys H' p⟩
end
end L2
namespace L2
open PySem PySem.Spec PyProof.Rows
section
variable {κ : Type} [DecidableEq κ]
end
section
variable {P : Program} {w : World} {H : Hp} {h : Heap} {a : Addr}
end
section
variable {X : Cx} {pins : List (Addr × Obj)} {σ : St} {H : Hp} {s : Shared} {a : Addr} {y v : V} {u r : Value} {o : Option V} {A : Around} {E : Value → Shared → Prop}
end
section
variable {X : Cx} {pins : List (Addr × Obj)} {σ : St} {H : Hp} {s : Shared} {a : Addr} {kvs : List (Key × V)} {k : Key} {u : Value} {A : Around} {E : Value → Shared → Prop}
end
section
variable {X : Cx} {o i e value : Expr} {pos pos' tpos : Pos} {td ty tv : TE}
end
section
variable {X : Cx} {pos : Pos}
end
section
variable {X : Cx} {pins : List (Addr × Obj)} {σ : St} {H : Hp} {s : Shared} {a : Addr} {y d : V} {u r : Value} {o : Option V} {A : Around} {E : Value → Shared → Prop}
end
section
variable {X : Cx} {o e f : Expr} {apos cpos : Pos} {td ty tx : TE}
end
section
variable {X : Cx} {pins : List (Addr × Obj)} {σ : St} {H : Hp} {s : Shared} {a : Addr} {kvs : List (Key × V)} {A : Around} {E : Value → Shared → Prop}
end
section
variable {X : Cx} {pins : List (Addr × Obj)} {σ : St} {H : Hp} {s : Shared} {a : Addr} {y : V} {u : Value} {A : Around} {E : Value → Shared → Prop}
end
end L2
namespace L2
open PySem PySem.Spec PyProof.Rows
section
variable {κ : Type} [DecidableEq κ]
end
end L2
namespace L2
open PySem PySem.Spec PyProof.Rows
section
variable {X : Cx} {pins : List (Addr × Obj)} {σ : St} {H : Hp} {s : Shared}
end
end L2
namespace L2
open PySem PySem.Spec PyProof.Rows
section
open PySem.W PySem.Calls Builtin Builtin.ObjectAttr
variable {prog : Program} {w : World} {A : Around} {E : Value → Shared → Prop} {s : Shared} {K : PySem.W.Frag} {x C : Addr} {ox : Obj} {od : Option Obj} {name : Str}
end
section
open PySem.W PySem.Calls
variable {prog : Program} {w : World} {A : Around} {E : Value → Shared → Prop} {R : Result → Shared → Prop} {K : Frag} {h : Heap} {g : Array GenState} {d : Drawn} {t : Nat} {os : OsState} {C B : Addr}
end
section
variable {X : Cx} {pins : List (Addr × Obj)} {σ : St} {H : Hp} {s : Shared} {a C : Addr} {fs : List (Str × V)} {f : Str} {v : V} {A : Around} {E : Value → Shared → Prop}
end
section
variable {X : Cx} {CX : CXT} {k : Nat} {f C : Addr} {fd : FuncData} {ps : List Str} {sp : Sp} {E : XK} {x m g : Str} {p pos pos' : Pos} {e o value : Expr} {es : List Expr} {ta tv : TE} {t : TA}
end
end L2
namespace L2
open PySem PySem.Spec PyProof.Rows
theorem Inv.turnedN {X : Cx} {pins : List (Addr × Obj)} {σ : St} {H : Hp} {s : Shared} {h' : Heap} {t' : Nat} {fp : List Addr} (I : Inv X pins σ H s) (hf : ∀ b ∈ fp,FpOk X pins H b) (k : ∀ b o,b ∉ fp → s.heap.get? b = some o → h'.get? b = some o) :
  Inv X pins σ H { s with heap:=h',toks:=t' }:=by
 have nit : ∀ b u,H b = some u → b ∉ fp:=fun b u e z=>by rw [(hf b z).1] at e; cases e
 refine I.step (g':=s.gens) (d':=s.drawn) (ch:=fp) (fun b hb=>?_) (fun b o _ _ hc e _=>k b o hc e) (fun b o _ _ hc e _=>⟨o.slots,k b o hc e⟩) (fun _ _ _ _ n=>n)
  (fun b o hc e=>⟨o,k b o hc e⟩) (fun _ _ e=>e) (fun _ _ _ e=>e) (fun b ps e=>⟨#[],by rw [e]; simp⟩) (fun m hm=>?_) (fun b u e=>?_) I.bare
 ·obtain ⟨f0,f1,f2,f3,f4,f5⟩:=hf b hb
  exact ⟨f3,f1,f4,f5⟩
 ·obtain ⟨o,es,ep,ho,r⟩:=hm
  exact ⟨o,es,ep,k _ o (fun z=>(hf _ z).2.1 rfl) ho,r⟩
 ·refine (I.hok b u e).stay (fun c v hc q=>k c v ?_ q) (fun _ q=>q) fun _ _ q=>q
  rcases hc with z | z
  ·rw [z]; exact nit b u e
  ·exact nit c _ z
section
variable {X : Cx} {elts : List Expr} {kx : Nat} {tp : Pos}
end
end L2
namespace L2
open PySem PySem.Spec PyProof.Rows PySem.SeqAt
section
variable {X : Cx}
end
end L2
namespace L2
open PySem PySem.Spec PyProof.Rows
section
variable {M : Model} {A : Around} {E : Value → Shared → Prop} {s : Shared}
end
section
variable {M : Model} {A : Around} {E : Value → Shared → Prop} {s : Shared}
end
section
variable {X : Cx} {pins : List (Addr × Obj)} {σ : St} {H : Hp} {s : Shared} {x C : Addr} {d : Option Addr}
end
section
variable {P : Program} {w : World} {K : PySem.W.Frag} {mg : Str → Option Value} {base : Heap} {N : List Str} {qual : Str} {scope : Scope} {f : Addr} {cd : Value} {A : Around} {outer : List Env} {s₀ : Shared} {H₀ : Hp} {E : XK}
variable {pins : List (Addr × Obj)} {σ : St} {H : Hp} {s : Shared} {x C : Addr} {d : Option Addr}
end
end L2
namespace L2
open PySem PySem.Spec PyProof.Rows
section
open PySem.W
variable {prog : Program} {w : World} {A : Around} {E : Value → Shared → Prop} {K : Frag} {x C : Addr} {ox : Obj} {vs : Array Value} {env : Env}
end
end L2
namespace L2
open PySem PySem.Spec PyProof.Rows
section
variable {X : Cx} {pins : List (Addr × Obj)} {σ : St} {H : Hp} {s : Shared} {x C : Addr} {d : Option Addr}
end
section
open PySem.W
end
end L2
namespace L2
open PySem PySem.Spec PyProof.Rows
section
variable {X : Cx} {k : Nat} {f : Addr} {fd : FuncData} {ps : List Str} {sp : Sp} {dvs : List V} {ds : List Value} {x : Str} {p pos : Pos} {e : Expr} {es : List Expr} {t : TA} {te : TEX}
end
end L2
namespace L2
open PySem PySem.Spec PyProof.Rows
section
variable {X : Cx} {st b₀ : Stmt} {suite : List Stmt} {tb : TSX} {ts : TS} {cn n : Str} {np hp pos : Pos} {B : Addr} {i : Nat}
end
end L2
namespace L2
open PySem PySem.Spec PyProof.Rows
section
variable {X : Cx} {pins : List (Addr × Obj)} {σ : St} {H : Hp} {s : Shared} {a C : Addr} {fs : List (Str × V)} {f : Str} {v : V} {A : Around} {E : Value → Shared → Prop}
end
end L2
namespace L2
open PySem PySem.Spec PyProof.Rows
section
variable {X : Cx} {e v₁ v₂ : Expr} {es rest : List Expr} {te : TE} {t : TJ} {pos : Pos}
end
end L2
namespace L2
open PySem PySem.Spec PyProof.Rows PySem.SeqAt
section
variable {X : Cx}
end
end L2
namespace L2
open PySem PySem.Spec PyProof.Rows
section
variable {prog : Program} {w : World} {A : Around} {E : Value → Shared → Prop} {s : Shared}
theorem wpAny_pick {src : Source} {n : Nat} {Q : Nat → Shared → Prop} (hn : n ≠ 0) (h : ∀ i d,i < n → Q i { s with drawn:=d }) : wpAny (model prog w) A (choose src n) Q E s:=by
 intro Γ p _
 show Sem.wp _ Γ (.choose src n .pure) _ _ p s
 rw [Sem.wp_choose]
 exact ⟨hn,h _ _ (Nat.mod_lt _ (Nat.pos_of_ne_zero hn))⟩
theorem wpAny_order {α : Type} : ∀ (n : Nat) (xs : List α) (s : Shared) {Q : List α → Shared → Prop},xs.length = n → (∀ ys d,ys.Perm xs → Q ys { s with drawn:=d }) →
  wpAny (model prog w) A (drawOrder n xs) Q E s:=by
 intro n
 induction n with
 | zero =>
  intro xs s Q hl h
  cases xs with
  | nil =>
   unfold drawOrder
   exact wpAny_pure (h [] s.drawn .rfl)
  | cons _ _=>cases hl
 | succ n ih =>
  intro xs s Q hl h
  cases xs with
  | nil=>cases hl
  | cons x r =>
   unfold drawOrder
   refine wpAny_bind (wpAny_pick (by simp) fun i d hi=>?_)
   have hg : (x :: r)[i]? = some ((x :: r)[i]'hi):=List.getElem?_eq_getElem hi
   rw [hg]
   dsimp only
   refine wpAny_bind (ih _ _ (by rw [List.length_eraseIdx_of_lt hi,hl]; rfl) fun ys d' hp=>wpAny_pure (h _ d' ?_))
   refine (List.Perm.cons _ hp).trans ?_
   rw [List.eraseIdx_eq_take_drop_succ]
   refine List.perm_middle.symm.trans ?_
   rw [List.getElem_cons_drop,List.take_append_drop]
end
noncomputable def txOf : Value → Str
 | .str x _=>x
 | _=>⟨#[]⟩
theorem orStandIn_led (t : SetTable) (n : Nat) : (t.orStandIn n).led = t.led:=by
 unfold SetTable.orStandIn
 split
 ·rfl
 ·rfl
theorem layNew_led (t : SetTable) (es : Array (Int × Value)) (h : Int) (x : Value) : (layNew t es h x).2.1.led = t.led:=by
 unfold layNew
 split
 ·exact orStandIn_led _ _
 ·rfl
theorem relayAll_led (t : SetTable) (es : Array (Int × Value)) (n : Nat) : (relayAll t es n).2.1.led = t.led:=by
 unfold relayAll
 split
 ·rename_i t' order e
  unfold SetTable.relaid SetTable.laid at e
  cases hq : SetTable.layClean (SetTable.sizeAbove n - 1) (es.map (·.1)) with
  | none=>rw [hq] at e; cases e
  | some ow =>
   rw [hq] at e
   cases e
   dsimp only
   split <;> rfl
 ·rfl
theorem relayAll_plain (t : SetTable) (es : Array (Int × Value)) (n : Nat) (hp : t.plain = false) : (relayAll t es n).2.1.plain = false:=by
 unfold relayAll
 split
 ·rename_i t' order e
  unfold SetTable.relaid SetTable.laid at e
  cases hq : SetTable.layClean (SetTable.sizeAbove n - 1) (es.map (·.1)) with
  | none=>rw [hq] at e; cases e
  | some ow =>
   rw [hq] at e
   cases e
   dsimp only
   split
   ·exact hp
   ·rfl
 ·rfl
noncomputable def TxSet (prog : Program) (w : World) (h : Heap) (a : Addr) (L : List Str) : Prop :=
 ∃ o es ep t,h.get? a = some o ∧ o.ExactSet ∧ o.data = .set es ep t ∧ ElemsOf (PySem.strKind prog w) es.toList ∧ (es.toList.map fun e=>txOf e.2).Perm L ∧ L.Nodup
  ∧ es.size < scanBound ∧ t.fits es.size = true ∧ t.led = !(w.params.followText "set-order") ∧ (t.plain = false ∨ es.size = 0)
theorem TxSet.at {prog : Program} {w : World} {h h' : Heap} {a : Addr} {L : List Str} (x : TxSet prog w h a L) (e : ∀ o,h.get? a = some o → h'.get? a = some o) : TxSet prog w h' a L :=
 let ⟨o,es,ep,t,ho,r⟩:=x; ⟨o,es,ep,t,e o ho,r⟩
section
variable {prog : Program} {w : World} {A : Around} {E : Value → Shared → Prop} {s : Shared}
theorem txset_found {es : Array (Int × Value)} (hel : ElemsOf (PySem.strKind prog w) es.toList) (x : Str) :
  (es.toList.findIdx? (fun e=>(PySem.strKind prog w).is x e.2) = none ↔ ¬ x ∈ es.toList.map fun e=>txOf e.2):=by
 rw [List.findIdx?_eq_none_iff]
 constructor
 ·intro h m
  obtain ⟨e,he,ex⟩:=List.mem_map.mp m
  obtain ⟨⟨k,hk,_⟩,_⟩:=hel e he
  obtain ⟨t,et⟩:=Value.isStrOf_shape hk
  have q:=h e he
  rw [et] at ex q
  have ekx : k = x:=ex
  subst ekx
  have q' : (PySem.strKind prog w).is k (.str k t) = true:=strKind_is prog w k t
  rw [q'] at q; cases q
 ·intro h e he
  cases q : (PySem.strKind prog w).is x e.2 with
  | false=>rfl
  | true =>
   obtain ⟨t,et⟩:=Value.isStrOf_shape q
   exact absurd (List.mem_map.mpr ⟨e,he,by rw [et]; rfl⟩) h
theorem txset_store {a : Addr} {o : Obj} {es es' : Array (Int × Value)} {ep : Nat} {t t' : SetTable} {L : List Str} (ho : s.heap.get? a = some o) (hx : o.ExactSet) (hd : o.data = .set es ep t)
  (h1 : ElemsOf (PySem.strKind prog w) es'.toList) (h2 : (es'.toList.map fun e=>txOf e.2).Perm L) (h3 : L.Nodup) (h4 : es'.size < scanBound) (h5 : t'.fits es'.size = true)
  (h6 : t'.led = !(w.params.followText "set-order")) (h7 : t'.plain = false) :
  (s.heap.update a (Obj.putSet es' t')).get? a = some { o with data:=.set es' (ep + 1) t' } ∧ TxSet prog w (s.heap.update a (Obj.putSet es' t')) a L:=by
 have hg : (s.heap.update a (Obj.putSet es' t')).get? a = some { o with data:=.set es' (ep + 1) t' }:=by
  have q:=Heap.get?_update_self (Obj.putSet es' t') ho (by rw [putSet_of es' t' hd]; rfl)
  rwa [putSet_of es' t' hd] at q
 exact ⟨hg,_,es',ep + 1,t',hg,hx,rfl,h1,h2,h3,h4,h5,h6,.inl h7⟩
theorem wpAny_txAdd {a : Addr} {L : List Str} {x : Str} {tk : Tok} {Q : Bool → Shared → Prop} (hS : TxSet prog w s.heap a L) (room : L.length + 1 < scanBound)
  (h : ∀ b h' tk',Heap.SameBut a s.heap h' → TxSet prog w h' a (if x ∈ L then L else L ++ [x]) → s.toks ≤ tk' → Q b { s with heap:=h',toks:=tk' }) :
  wpAny (model prog w) A (setAdd a (.str x tk)) Q E s:=by
 obtain ⟨o,es,ep,t,ho,hx,hd,hel,hp,hnd,hb,hf,hl,hpl⟩:=hS
 have hkey : (PySem.strKind prog w).is x (.str x tk) = true:=strKind_is prog w x tk
 have hlen : es.size = L.length:=by rw [← hp.length_eq,List.length_map,Array.length_toList]
 unfold setAdd
 refine wpAny_holding (wpAny_bind ((PySem.strKind prog w).pyHash (k:=x) hkey ?_))
 unfold setAddHashed setAddHashedIn
 refine wpAny_holding (wpAny_bind (wpAny_setState_of (s:={ s with toks:=s.toks + 1 }) ho hd hf ?_))
 dsimp only
 rw [byScan_of rfl hb hel]
 simp only [↓reduceIte]
 unfold setAddByScan
 refine wpAny_bind (wpAny_bind (wpAny_rule (wpAny_bind (wpAny_setScan_of (knd:=PySem.strKind prog w) hkey ho hd hf hel ?_))))
 cases hr : List.findIdx? (fun e=>(PySem.strKind prog w).is x e.2) es.toList with
 | some j =>
  dsimp only
  have hm : x ∈ L:=by
   refine Decidable.byContradiction fun hn=>?_
   have q:=(txset_found (prog:=prog) (w:=w) hel x).mpr fun m=>hn (hp.mem_iff.mp m)
   rw [q] at hr; cases hr
  have q:=h false s.heap (s.toks + 1) (Heap.SameBut.refl a s.heap) (by rw [if_pos hm]; exact ⟨o,es,ep,t,ho,hx,hd,hel,hp,hnd,hb,hf,hl,hpl⟩) (Nat.le_succ _)
  exact wpAny_pure (wpAny_pure q)
 | none =>
  dsimp only
  have hm : ¬ x ∈ L:=fun m=>(txset_found (prog:=prog) (w:=w) hel x).mp hr (hp.mem_iff.mpr m)
  have way : ∀ (b : Bool) {s₁ : Shared} {Q' : Unit → Shared → Prop},Q' () s₁ → wpAny (model prog w) A (match b with | true=>rule "set.scan.the-table-gave-way" | false=>pure ()) Q' E s₁:=by
   intro b s₁ Q' hq
   cases b
   ·exact wpAny_pure hq
   ·exact wpAny_rule hq
  have p1:=layNew_perm t es ((PySem.strKind prog w).hash x) (.str x tk)
  have f1:=layNew_fits t es ((PySem.strKind prog w).hash x) (.str x tk)
  have l1:=layNew_led t es ((PySem.strKind prog w).hash x) (.str x tk)
  generalize layNew t es ((PySem.strKind prog w).hash x) (.str x tk) = N at p1 f1 l1 ⊢
  obtain ⟨es1,t1,was,gave⟩:=N
  dsimp only at p1 f1 l1 ⊢
  rw [Array.toList_push] at p1
  have el1 : ElemsOf (PySem.strKind prog w) es1.toList:=(hel.push hkey rfl).perm p1
  have pp1 : (es1.toList.map fun e=>txOf e.2).Perm (L ++ [x]):=by
   refine (p1.map _).trans ?_
   rw [List.map_append]
   exact hp.append_right _
  have nd1 : (L ++ [x]).Nodup:=List.nodup_append.mpr ⟨hnd,by simp,fun y hy z hz e=>by rw [List.mem_singleton] at hz; subst hz; subst e; exact hm hy⟩
  have sz1 : es1.size = es.size + 1:=by rw [← Array.length_toList,p1.length_eq,List.length_append,Array.length_toList]; rfl
  have b1 : es1.size < scanBound:=by rw [sz1,hlen]; exact room
  refine wpAny_bind (way _ ?_)
  have tail : ∀ t2 : SetTable,t2.fits es1.size = true → t2.led = t.led → t2.plain = false →
    wpAny (model prog w) A (do
     storeSet a es1 t2
     if (!was && t2.tooFull) = true then do
       (match (relayAll t2 es1 (SetTable.grown es1.size)).2.2 with | true=>rule "set.scan.the-table-gave-way" | false=>pure ())
       storeSet a (relayAll t2 es1 (SetTable.grown es1.size)).1 (relayAll t2 es1 (SetTable.grown es1.size)).2.1
       pure (some true)
      else pure (some true)) (fun r s'=>r = some true ∧ Q true s') E { s with toks:=s.toks + 1 }:=by
   intro t2 g1 g2 g3
   refine wpAny_bind (wpAny_storeSet_of (s:={ s with toks:=s.toks + 1 }) ho hd ?_ (fits_of_scanBound b1))
   obtain ⟨o1,S1⟩:=txset_store (s:=s) (prog:=prog) (w:=w) ho hx hd el1 pp1 nd1 b1 g1 (g2.trans hl) g3
   have sb1:=Heap.SameBut.update s.heap a (Obj.putSet es1 t2)
   split
   ·have p2:=relayAll_perm t2 es1 (SetTable.grown es1.size)
    have f2:=relayAll_fits t2 es1 (SetTable.grown es1.size)
    have l2:=relayAll_led t2 es1 (SetTable.grown es1.size)
    have q2:=relayAll_plain t2 es1 (SetTable.grown es1.size) g3
    generalize relayAll t2 es1 (SetTable.grown es1.size) = Z at p2 f2 l2 q2 ⊢
    obtain ⟨es2,t3,gave2⟩:=Z
    dsimp only at p2 f2 l2 q2 ⊢
    have sz2 : es2.size = es1.size:=by rw [← Array.length_toList,p2.length_eq,Array.length_toList]
    have b2 : es2.size < scanBound:=by rw [sz2]; exact b1
    refine wpAny_bind (way _ (wpAny_bind (wpAny_storeSet_of (s:={ s with heap:=s.heap.update a (Obj.putSet es1 t2),toks:=s.toks + 1 }) o1 rfl ?_ (fits_of_scanBound b2))))
    obtain ⟨_,S2⟩:=txset_store (s:={ s with heap:=s.heap.update a (Obj.putSet es1 t2) }) (prog:=prog) (w:=w) o1 hx rfl (el1.perm p2) ((p2.map _).trans pp1) nd1 b2 f2 (l2.trans (g2.trans hl)) q2
    exact wpAny_pure ⟨rfl,h true _ _ (sb1.trans (Heap.SameBut.update _ a _)) (by rw [if_neg hm]; exact S2) (Nat.le_succ _)⟩
   ·exact wpAny_pure ⟨rfl,h true _ _ sb1 (by rw [if_neg hm]; exact S1) (Nat.le_succ _)⟩
  split
  ·rename_i tp
   refine wpAny_bind ?_
   rw [hashByValue_scannable 8 (x:=.str x tk) rfl]
   refine wpAny_pure ?_
   have e0 : plainKind (.str x tk) = false:=rfl
   rw [e0]
   simp only [Bool.false_eq_true,↓reduceIte]
   refine wpAny_mono (tail { t1 with plain:=false } (SetTable.fits_plain_off f1) l1 rfl) (fun r s' q=>?_) fun _ _ z=>z
   obtain ⟨rfl,q⟩:=q
   exact wpAny_pure q
  ·rename_i tp
   refine wpAny_bind (wpAny_pure ?_)
   simp only [↓reduceIte]
   refine wpAny_mono (tail t1 f1 l1 (by simpa using tp)) (fun r s' q=>?_) fun _ _ z=>z
   obtain ⟨rfl,q⟩:=q
   exact wpAny_pure q
end
end L2
namespace L2
open PySem PySem.Spec PyProof.Rows
noncomputable def freshSet (w : World) : Obj:={ cls:=.type "set",dict:=none,data:=.set #[] 0 (.fresh 0 0 (!(w.params.followText "set-order"))) }
section
variable {prog : Program} {w : World} {A : Around} {E : Value → Shared → Prop} {s : Shared}
theorem txset_fresh {h : Heap} {a : Addr} (e : h.get? a = some (freshSet w)) : TxSet prog w h a [] :=
 ⟨_,#[],0,_,e,⟨rfl,rfl,rfl⟩,rfl,fun _ z=>by simp at z,by simp,List.nodup_nil,(by decide : (0 : Nat) < scanBound),rfl,rfl,.inr rfl⟩
theorem code_set_newW (a : Value) {G : Value → Shared → Prop} (h : G (.ref s.heap.objs.size) { s with heap:=s.heap.push (freshSet w) }) :
  codeAny (model prog w) A (.call (.builtin "set.__new__") ⟨[.type "set",a],[]⟩) (wants G E) s:=by
 refine codeAny_of_tree ?_
 show wpAny _ A.in1 (do checkBuiltinCall "set.__new__" _; again (.builtin "set.__new__" _)) _ _ s
 refine wpAny_bind (wpAny_of_eq (PySem.F.newCall_set_1 a) (wpAny_pure ⟨plainId_quiet PySem.F.plain_set_new _,codeAny_builtin PySem.F.entry_set_new ?_⟩))
 rw [Around.under_plainId PySem.F.plain_set_new]
 unfold Builtin.«set.__new__» Builtin.Frozenset.newClass
 have ok:=sub_set_self
 obtain ⟨H,g,d,tk,os⟩:=s
 dsimp only
 wp_walk
 refine wpAny_askSetting (wpAny_pure ?_)
 dsimp only
 simp only [newObj]
 exact wpAny_bind (wpAny_alloc (wpAny_pure (wpAny_pure h)))
theorem codeAny_txUpdate {R : Result → Shared → Prop} {I : Addr} {fp wr : List Addr} {G : Array GenState → Array GenState → Prop} {n : Nat} {P : Nat → Value → Prop} {St : Nat → Shared → Prop}
  (W : WalksS prog w A.in1 I fp wr G n P St) (S : Addr) (hSf : ¬ S ∈ fp) (ss : List Str) (hn : ss.length = n) (hv : ∀ i v,P i v → ∃ x t,ss[i]? = some x ∧ v = .str x t) (hb : n + 1 < scanBound) :
  ∀ (k i : Nat) (s : Shared) (L : List Str),n - i = k → i ≤ n → St i s → TxSet prog w s.heap S L → (∀ x,x ∈ L ↔ x ∈ ss.take i) → L.length ≤ i →
   (∀ s' L',Moved (S :: wr) G s s' → TxSet prog w s'.heap S L' → (∀ x,x ∈ L' ↔ x ∈ ss) → L'.length ≤ n → R (.ok (.ret .none)) s') →
   codeAny (model prog w) A (.builtin "set.update.loop" ⟨[.ref S,.ref I],[]⟩) R s:=by
 have hSw : ¬ S ∈ wr:=fun z=>hSf (W.sub _ z)
 have sub : ∀ b ∈ wr,b ∈ S :: wr:=fun b z=>List.mem_cons_of_mem _ z
 intro k
 induction k with
 | zero =>
  intro i s L hk hi st hS hL hc hR
  have e : i = n:=om133 hk hi
  subst e
  refine codeAny_builtin PyProof.Rows.F.entry_set_update_loop ?_
  rw [Around.under_plainId PyProof.Rows.F.plain_set_update_loop]
  show wpAny _ A.in1 (pyNext (.ref I) >>= _) _ _ s
  refine wpAny_bind (W.done s _ _ st fun s' m=>?_)
  show wpAny _ A.in1 (ret Value.none) _ _ s'
  refine wpAny_pure (hR s' L (m.mono sub) (hS.at fun o e=>m.heap S o hSw e) (fun x=>?_) hc)
  rw [hL x,← hn,List.take_length]
 | succ k ih =>
  intro i s L hk hi st hS hL hc hR
  have lt : i < n:=om134 hk
  refine codeAny_builtin PyProof.Rows.F.entry_set_update_loop ?_
  rw [Around.under_plainId PyProof.Rows.F.plain_set_update_loop]
  show wpAny _ A.in1 (pyNext (.ref I) >>= _) _ _ s
  refine wpAny_bind (W.item i s _ _ lt st fun v s' hP st' m=>?_)
  obtain ⟨x,t,hx,rfl⟩:=hv i v hP
  show wpAny _ A.in1 (holding [Value.str x t] (setAdd S (.str x t)) >>= _) _ _ s'
  refine wpAny_bind (wpAny_holding ?_)
  refine wpAny_txAdd (hS.at fun o e=>m.heap S o hSw e) (om135 hb hc lt) fun b h' tk' sb S2 htk=>?_
  refine wpAny_pure ⟨plainId_quiet PyProof.Rows.F.plain_set_update_loop _,ih (i + 1) _ _ (om136 hk) lt (W.frame _ s' _ _ st' htk fun b hb o e=>?_) S2 (fun y=>?_) ?_ fun s'' L' m'' S'' q1 q2=>?_⟩
  ·rw [sb.2 b (fun z : b = S=>hSf (by rw [← z]; exact hb))]; exact e
  ·have tk : ss.take (i + 1) = ss.take i ++ [x]:=by rw [List.take_succ,hx]; rfl
   rw [tk,List.mem_append,List.mem_singleton,← hL y]
   split
   ·rename_i hm
    exact ⟨.inl,fun z=>z.elim id fun e=>e ▸ hm⟩
   ·rw [List.mem_append,List.mem_singleton]
  ·split
   ·exact om46 hc
   ·rw [List.length_append,List.length_singleton]; exact om20 hc
  ·refine hR s'' L' (Moved.trans W.gtrans ((m.mono sub).then_heap htk fun b o hb e=>?_) m'') S'' q1 q2
   rw [sb.2 b (fun z : b = S=>hb (by rw [z]; exact List.mem_cons_self))]; exact e
end
theorem StrsAre.at' : ∀ {vs : List Value} {ss : List Str},StrsAre vs ss → ∀ (i : Nat) (v : Value),vs[i]? = some v → ∃ x t,ss[i]? = some x ∧ v = .str x t
 | _,_,.nil,i,v,h=>by simp at h
 | _,_,.cons y t r,0,v,h=>by simp at h; exact ⟨y,t,rfl,h.symm⟩
 | _,_,.cons y t r,i + 1,v,h=>by
  simp only [List.getElem?_cons_succ] at h
  obtain ⟨x,t',e,e'⟩:=StrsAre.at' r i v h
  exact ⟨x,t',by simpa using e,e'⟩
theorem StrsAre.len : ∀ {vs : List Value} {ss : List Str},StrsAre vs ss → ss.length = vs.length
 | _,_,.nil=>rfl
 | _,_,.cons _ _ r=>by simp [StrsAre.len r]
section
variable {prog : Program} {w : World} {A : Around} {E : Value → Shared → Prop} {s : Shared}
set_option maxHeartbeats 3200000 in
theorem call_set_texts {l : Addr} {items : Array Value} {ss : List Str} {Q : Value → Shared → Prop}
  (hh : A.handled = none) (hl : s.heap.IsList l items) (hi : StrsAre items.toList ss) (hb : items.size + 1 < scanBound)
  (h : ∀ (h' : Heap) (tk : Nat) L,TxSet prog w h' s.heap.objs.size L → (∀ x,x ∈ L ↔ x ∈ ss) → L.length ≤ items.size →
   (∀ b o,b < s.heap.objs.size → s.heap.get? b = some o → h'.get? b = some o) → s.toks ≤ tk → Q (.ref s.heap.objs.size) { s with heap:=h',toks:=tk }) :
  wpAny (model prog w) A (call (.type "set") [.ref l]) Q E s:=by
 obtain ⟨c,tl,mro⟩:=PySem.F.called_set.mro
 have made:=PySem.F.called_set.made
 have sb:=PySem.F.called_set.sub
 refine wpAny_call (codeAny_of_tree ?_)
 show wpAny _ _ (callAny (.type "set") _) _ _ _
 refine wpAny_pure ⟨Code.quiet_builtin _ (by decide +kernel),codeAny_builtin PySem.F.entry_type_call ?_⟩
 rw [Around.under_plain (weight_type_call_type "set" [.ref l] []) rfl]
 have n1:=PySem.F.called_set.notType
 have n2:=PySem.F.called_set.canCreate
 have ct:=PySem.F.typeCall_set_1 (.ref l)
 repeat (any_goals (first | assumption | wp_step))
 refine codeAny_mono (code_set_newW (.ref l) (E:=E) (G:=fun v s₁=>v = .ref s.heap.objs.size ∧ s₁ = { s with heap:=s.heap.push (freshSet w) }) ⟨rfl,rfl⟩) fun r s₁ hr=>?_
 cases r with
 | error e=>exact hr
 | ok fl =>
  cases fl with
  | ret obj =>
   obtain ⟨rfl,rfl⟩:=hr
   have hS : (s.heap.push (freshSet w)).get? s.heap.objs.size = some (freshSet w):=Heap.get?_push_size _ rfl
   have hT : Shared.TypeIs { s with heap:=s.heap.push (freshSet w) } (.ref s.heap.objs.size) "set":=⟨_,hS,rfl⟩
   have li:=PySem.F.called_set.init.lookup
   have bi:=PySem.F.called_set.init.bind (.ref s.heap.objs.size)
   repeat (any_goals (first | assumption | wp_step))
   refine codeAny_mono (codeAny_call_builtin (R:=wants (fun r s₂=>r = .none ∧ ∃ h' tk L,s₂ = { s with heap:=h',toks:=tk } ∧ TxSet prog w h' s.heap.objs.size L ∧ (∀ x,x ∈ L ↔ x ∈ ss) ∧ L.length ≤ items.size ∧
     (∀ b o,b < s.heap.objs.size → s.heap.get? b = some o → h'.get? b = some o) ∧ s.toks ≤ tk) E) PySem.F.called_set.init.plain PySem.F.entry_set_init (check_set_init_1 hT ?_)) fun r₂ s₂ hr₂=>?_
   ·obtain ⟨ol,hol,hcl,nl,hdl⟩:=hl
    obtain ⟨ocls,odict,odata,oslots⟩:=ol
    simp only at hcl hdl
    subst hcl
    subst hdl
    have hol' : (s.heap.push (freshSet w)).get? l = some { cls:=.type "list",dict:=odict,data:=.seq items nl,slots:=oslots }:=Heap.get?_push_of_some _ hol
    have ns:=PySem.F.sub_list_set
    have nf:=PySem.F.sub_list_frozenset
    have ne : (Value.type "list" == Value.type "dict") = false:=by decide
    have hl1 : (s.heap.push (freshSet w)).IsList l items:=⟨_,hol',rfl,nl,rfl⟩
    unfold freshSet at hS hT hol' hl1 ⊢
    unfold Builtin.«set.__init__» noKeywords Builtin.Frozenset.updateFrom
    generalize hPI : pyIter = PI
    wp_walk
    subst hPI
    refine wpAny_pyIter_list hl1 ?_
    refine wpAny_bind (wpAny_runValue ?_)
    have hlS : l < s.heap.objs.size:=Heap.lt_size hol
    have h3 : A.in1.in1.in1.handled = none:=by simp [hh]
    have hne : l ≠ (s.heap.push (freshSet w)).objs.size:=by rw [Heap.size_push]; exact Nat.ne_of_lt (Nat.lt_succ_of_lt hlS)
    have hSf : ¬ s.heap.objs.size ∈ [(s.heap.push (freshSet w)).objs.size,l]:=by
     rw [Heap.size_push]
     simp only [List.mem_cons,List.not_mem_nil,or_false,not_or]
     exact ⟨Nat.ne_of_lt (Nat.lt_succ_self _),Nat.ne_of_gt hlS⟩
    have hlen : ss.length = items.size:=by rw [L2.StrsAre.len hi,Array.length_toList]
    refine codeAny_txUpdate ((Walks.list h3 _ l hne items).toS) s.heap.objs.size hSf ss hlen (fun i v hv=>StrsAre.at' hi i v (by rw [Array.getElem?_toList]; exact hv)) hb (items.size - 0) 0 _ [] om137 (Nat.zero_le _)
     ⟨⟨_,Heap.get?_push_size _ rfl,rfl,rfl⟩,hl1.push _⟩ (txset_fresh (Heap.get?_push_of_some _ hS)) (fun x=>by simp) (Nat.le_refl _) fun s' L m S' q1 q2=>?_
    obtain ⟨h',g',d',tk',os'⟩:=s'
    have eg : g' = s.gens:=m.gens
    have ed : d' = s.drawn:=m.drawn
    have eo : os' = s.os:=m.os
    subst eg
    subst ed
    subst eo
    show wpAny _ _ _ _ _ _
    refine wpAny_pure ?_
    show wpAny _ _ (ret Value.none) _ _ _
    refine wpAny_pure ⟨rfl,h',tk',L,rfl,S',q1,q2,fun b o hb e=>?_,m.toks⟩
    have b1 : b ≠ s.heap.objs.size:=Nat.ne_of_lt hb
    have b2 : b ≠ (s.heap.push (freshSet w)).objs.size:=by rw [Heap.size_push]; exact Nat.ne_of_lt (Nat.lt_succ_of_lt hb)
    exact m.heap b o (by simp only [List.mem_cons,List.not_mem_nil,or_false,not_or]; exact ⟨b1,b2⟩) (Heap.get?_push_of_some _ (Heap.get?_push_of_some _ e))
   ·cases r₂ with
    | error e=>exact hr₂
    | ok fl₂ =>
     cases fl₂ with
     | ret r =>
      obtain ⟨rfl,h',tk,L,rfl,S',q1,q2,hk',q3⟩:=hr₂
      repeat (any_goals (first | assumption | wp_step))
      exact h _ _ _ S' q1 q2 hk' q3
     | _=>exact hr₂.elim
  | _=>exact hr.elim
end
end L2
namespace L2
open PySem PySem.Spec PyProof.Rows
theorem slot_setit_next : Slot "set_iterator" "__next__" "set_iterator.__next__":=by
 refine .of (owner:="set_iterator") (n:="__next__") ?_ (by decide +kernel) (by decide +kernel) (by decide +kernel) ?_ ?_
 ·rw [typeLookup_type,builtinLookup_eq_fast]; kernel_rfl
 ·first | exact .inl (by decide +kernel) | exact .inr (by decide +kernel)
 ·rw [isSubtype_type]; kernel_rfl
theorem slot_setit_iter : Slot "set_iterator" "__iter__" "set_iterator.__iter__":=by
 refine .of (owner:="set_iterator") (n:="__iter__") ?_ (by decide +kernel) (by decide +kernel) (by decide +kernel) ?_ ?_
 ·rw [typeLookup_type,builtinLookup_eq_fast]; kernel_rfl
 ·first | exact .inl (by decide +kernel) | exact .inr (by decide +kernel)
 ·rw [isSubtype_type]; kernel_rfl
theorem entry_setit_next : entryFor table "set_iterator.__next__" = some Builtin.«set_iterator.__next__»:=entryFor_of_tree (by kernel_rfl)
theorem entry_setit_iter : entryFor table "set_iterator.__iter__" = some Builtin.«dict_keyiterator.__iter__»:=by
 refine entryFor_alias (id':="dict_keyiterator.__iter__") ?_ rfl (by decide +kernel) ?_ <;> kernel_rfl
theorem entry_set_iterW : entryFor table "set.__iter__" = some Builtin.«frozenset.__iter__»:=by
 refine entryFor_alias (id':="frozenset.__iter__") ?_ rfl (by decide +kernel) ?_ <;> kernel_rfl
theorem args_setit_next (a : Value) : argsOk "set_iterator.__next__" ⟨[a],[]⟩:=by unfold argsOk; kernel_rfl
theorem args_setit_iter (a : Value) : argsOk "set_iterator.__iter__" ⟨[a],[]⟩:=by unfold argsOk; kernel_rfl
noncomputable def SetIt (h : Heap) (I : Addr) (f : Value) (i : Nat) (S : Addr) (n ep : Nat) : Prop :=
 ∃ o,h.get? I = some o ∧ o.cls = .type "set_iterator" ∧ o.data = .fields #[f,.int i 0,.ref S,.int n 0,.int ep 0]
theorem SetIt.at {h h' : Heap} {I : Addr} {f : Value} {i : Nat} {S : Addr} {n ep : Nat} (x : SetIt h I f i S n ep) (e : ∀ o,h.get? I = some o → h'.get? I = some o) : SetIt h' I f i S n ep :=
 let ⟨o,ho,r⟩:=x; ⟨o,e o ho,r⟩
theorem SetIt.is {s : Shared} {I : Addr} {f : Value} {i : Nat} {S : Addr} {n ep : Nat} (x : SetIt s.heap I f i S n ep) : s.TypeIs (.ref I) "set_iterator":=let ⟨o,ho,hc,_⟩:=x; ⟨o,ho,hc⟩
section
variable {prog : Program} {w : World} {A : Around} {E : Value → Shared → Prop} {s : Shared}
theorem wp_stop {α : Type} {Q : α → Shared → Prop} (hh : A.handled = none)
  (h : ∀ h' e,(∀ b o,s.heap.get? b = some o → h'.get? b = some o) → Shared.TypeIs { s with heap:=h' } e "StopIteration" → E e { s with heap:=h' }) :
  wpAny (model prog w) A (do raiseNew (← newExc (.type "StopIteration") []) : Sem α) Q E s:=by
 refine wpAny_bind ?_
 simp only [newExc,newTuple]
 refine wpAny_bind (wpAny_newObj_type ?_ (by size_fits))
 refine wpAny_bind (m:=firstArgMember _ _) (wpAny_of_eq (a:=Value.none) ?_ ?_)
 ·first | rfl | (simp only [firstArgMember]; rfl)
 refine wpAny_newObj_type ?_ (by size_fits)
 simp only [raiseNew]
 refine wpAny_bind (wpAny_handled ?_)
 rw [hh]
 refine wpAny_bind (wpAny_pure (wpAny_throw (h _ _ (fun b o e=>Heap.get?_push_of_some _ (Heap.get?_push_of_some _ e)) ?_)))
 exact ⟨_,Heap.get?_push_size _ rfl,rfl⟩
theorem next_of {I : Addr} {f : Value} {i : Nat} {S : Addr} {n ep : Nat} {Q : Option Value → Shared → Prop} (hit : SetIt s.heap I f i S n ep)
  (h : wpAny (model prog w) A.in1 (Builtin.«set_iterator.__next__» ⟨[.ref I],[]⟩) (fun fin s'=>∃ v,fin = .done (.ret v) ∧ Q (some v) s') (fun e s'=>s'.TypeIs e "StopIteration" ∧ Q none s') s) :
  wpAny (model prog w) A (pyNext (.ref I)) Q E s:=by
 unfold pyNext
 refine wpAny_bind (wpAny_attempt (wpAny_callSpecial?_slot (name:=Str.ofString "__next__") hit.is slot_setit_next (wpAny_call_entry slot_setit_next hit.is entry_setit_next ?_ (args_setit_next _))))
 refine wpAny_mono h (fun fin s' q=>?_) fun e s' q=>?_
 ·obtain ⟨v,e,q⟩:=q
  exact ⟨v,e,wpAny_pure q⟩
 ·exact wpAny_bind (wpAny_isInstance (T:="StopIteration") (b:=true) q.1 isSubtype_stop (wpAny_pure q.2))
theorem setIt_put {I : Addr} {f : Value} {i : Nat} {S : Addr} {n ep : Nat} {o : Obj} {vs : Array Value} (ho : s.heap.get? I = some o) (hc : o.cls = .type "set_iterator") (hd : o.data = .fields vs) (k : Nat) (x : Value)
  (e : vs.setIfInBounds k x = #[f,.int i 0,.ref S,.int n 0,.int ep 0]) : SetIt (s.heap.update I (Obj.mapFields (·.setIfInBounds k x))) I f i S n ep :=
 ⟨_,Heap.get?_update_self _ ho (Obj.isFreed_of_fields (Obj.data_mapFields hd _)),(Obj.cls_mapFields ..).trans hc,by rw [Obj.data_mapFields hd,e]⟩
theorem next_drawn {I S P : Addr} {i : Nat} {oS oP : Obj} {es : Array (Int × Value)} {ep : Nat} {t : SetTable} {ps : Array Value} {c p : Nat} {hx : Int} {x : Value} {Q : Option Value → Shared → Prop}
  (hit : SetIt s.heap I (.ref P) i S es.size ep) (hS : s.heap.get? S = some oS) (hdS : oS.data = .set es ep t) (hf : t.fits es.size = true) (hP : s.heap.get? P = some oP) (hdP : oP.data = .seq ps c)
  (hi : ps[i]? = some (.int p 0)) (he : es[p]? = some (hx,x)) (hQ : ∀ h',SetIt h' I (.ref P) (i + 1) S es.size ep → Heap.SameBut I s.heap h' → Q (some x) { s with heap:=h' }) :
  wpAny (model prog w) A (pyNext (.ref I)) Q E s:=by
 refine next_of hit ?_
 obtain ⟨o,ho,hc,hd⟩:=hit
 show wpAny _ _ (fieldsOf (.ref I) >>= _) _ _ s
 refine wpAny_bind (wpAny_fieldsOf ho hd ?_)
 dsimp only
 refine wpAny_bind (wpAny_setEntries_of hS hdS hf ?_)
 simp only [bne_self_eq_false,Bool.false_eq_true,↓reduceIte]
 refine wpAny_bind (wpAny_seqItems hP hdP ?_)
 simp only [Int.toNat_natCast,hi]
 unfold setNextDrawn
 refine wpAny_bind (wpAny_bind (wpAny_setState_of hS hdS hf ?_))
 simp only [bne_self_eq_false,Bool.false_eq_true,↓reduceIte,he]
 refine wpAny_pure ?_
 refine wpAny_bind (wpAny_setField ho hd (by simp) (wpAny_pure ⟨x,rfl,hQ _ ?_ (Heap.SameBut.update ..)⟩))
 exact setIt_put ho hc hd _ _ (by simp [rawInt])
theorem next_drawn_end (hh : A.handled = none) {I S P : Addr} {i : Nat} {oS oP : Obj} {es : Array (Int × Value)} {ep : Nat} {t : SetTable} {ps : Array Value} {c : Nat} {Q : Option Value → Shared → Prop}
  (hit : SetIt s.heap I (.ref P) i S es.size ep) (hS : s.heap.get? S = some oS) (hdS : oS.data = .set es ep t) (hf : t.fits es.size = true) (hP : s.heap.get? P = some oP) (hdP : oP.data = .seq ps c)
  (hi : ps[i]? = none) (hQ : ∀ h',(∀ b o,b ≠ I → s.heap.get? b = some o → h'.get? b = some o) → Q none { s with heap:=h' }) :
  wpAny (model prog w) A (pyNext (.ref I)) Q E s:=by
 refine next_of hit ?_
 obtain ⟨o,ho,hc,hd⟩:=hit
 show wpAny _ _ (fieldsOf (.ref I) >>= _) _ _ s
 refine wpAny_bind (wpAny_fieldsOf ho hd ?_)
 dsimp only
 refine wpAny_bind (wpAny_setEntries_of hS hdS hf ?_)
 simp only [bne_self_eq_false,Bool.false_eq_true,↓reduceIte]
 refine wpAny_bind (wpAny_seqItems hP hdP ?_)
 simp only [Int.toNat_natCast,hi]
 refine wpAny_bind (wpAny_setField ho hd (by simp) ?_)
 refine wpAny_bind (wpAny_setField (Heap.get?_update_self _ ho (Obj.isFreed_of_fields (Obj.data_mapFields hd _))) (Obj.data_mapFields hd _) (by simp) ?_)
 refine wp_stop (s:={ s with heap:=_ }) (by simpa using hh) fun h' e k te=>⟨te,hQ h' fun b o hb eb=>k b o ?_⟩
 exact (Heap.get?_update_other _ _ (Ne.symm hb)).trans ((Heap.get?_update_other _ _ (Ne.symm hb)).trans eb)
end
end L2
namespace L2
open PySem PySem.Spec PyProof.Rows
section
variable {prog : Program} {w : World} {A : Around} {E : Value → Shared → Prop} {s : Shared}
theorem next_slot {I S : Addr} {i j nx : Nat} {oS : Obj} {es : Array (Int × Value)} {ep : Nat} {t : SetTable} {x : Value} {Q : Option Value → Shared → Prop}
  (hit : SetIt s.heap I (.int j 0) i S es.size ep) (hS : s.heap.get? S = some oS) (hdS : oS.data = .set es ep t) (hf : t.fits es.size = true)
  (hn : ∀ (Q' : Option (Value × Nat) → Shared → Prop) E',Q' (some (x,nx)) s → wpAny (model prog w) A.in1 (setNext S j i ep) Q' E' s)
  (hQ : ∀ h',SetIt h' I (.int nx 0) (i + 1) S es.size ep → Heap.SameBut I s.heap h' → Q (some x) { s with heap:=h' }) :
  wpAny (model prog w) A (pyNext (.ref I)) Q E s:=by
 refine next_of hit ?_
 obtain ⟨o,ho,hc,hd⟩:=hit
 show wpAny _ _ (fieldsOf (.ref I) >>= _) _ _ s
 refine wpAny_bind (wpAny_fieldsOf ho hd ?_)
 dsimp only
 refine wpAny_bind (wpAny_setEntries_of hS hdS hf ?_)
 simp only [bne_self_eq_false,Bool.false_eq_true,↓reduceIte]
 simp only [Int.toNat_natCast]
 refine wpAny_bind (hn _ _ ?_)
 dsimp only
 refine wpAny_bind (wpAny_setField ho hd (by simp) ?_)
 have g1:=Heap.get?_update_self (Obj.mapFields (·.setIfInBounds 0 (rawInt nx))) ho (Obj.isFreed_of_fields (Obj.data_mapFields hd _))
 have d1:=Obj.data_mapFields hd (·.setIfInBounds 0 (rawInt nx))
 refine wpAny_bind (wpAny_setField g1 d1 (by simp) (wpAny_pure ⟨x,rfl,hQ _ ?_ ((Heap.SameBut.update ..).trans (Heap.SameBut.update ..))⟩))
 exact setIt_put (s:={ s with heap:=_ }) g1 ((Obj.cls_mapFields ..).trans hc) d1 _ _ (by simp [rawInt])
theorem next_slot_end (hh : A.handled = none) {I S : Addr} {i j : Nat} {oS : Obj} {es : Array (Int × Value)} {ep : Nat} {t : SetTable} {Q : Option Value → Shared → Prop}
  (hit : SetIt s.heap I (.int j 0) i S es.size ep) (hS : s.heap.get? S = some oS) (hdS : oS.data = .set es ep t) (hf : t.fits es.size = true)
  (hn : ∀ (Q' : Option (Value × Nat) → Shared → Prop) E',Q' none s → wpAny (model prog w) A.in1 (setNext S j i ep) Q' E' s)
  (hQ : ∀ h',(∀ b o,b ≠ I → s.heap.get? b = some o → h'.get? b = some o) → Q none { s with heap:=h' }) :
  wpAny (model prog w) A (pyNext (.ref I)) Q E s:=by
 refine next_of hit ?_
 obtain ⟨o,ho,hc,hd⟩:=hit
 show wpAny _ _ (fieldsOf (.ref I) >>= _) _ _ s
 refine wpAny_bind (wpAny_fieldsOf ho hd ?_)
 dsimp only
 refine wpAny_bind (wpAny_setEntries_of hS hdS hf ?_)
 simp only [bne_self_eq_false,Bool.false_eq_true,↓reduceIte]
 simp only [Int.toNat_natCast]
 refine wpAny_bind (hn _ _ ?_)
 dsimp only
 refine wpAny_bind (wpAny_setField ho hd (by simp) ?_)
 refine wp_stop (s:={ s with heap:=_ }) (by simpa using hh) fun h' e k te=>⟨te,hQ h' fun b o hb eb=>k b o ?_⟩
 exact (Heap.get?_update_other _ _ (Ne.symm hb)).trans eb
theorem setNext_text (ht : w.params.followText "set-order" = true) {S : Addr} {j i : Nat} {oS : Obj} {es : Array (Int × Value)} {ep : Nat} {t : SetTable} (hS : s.heap.get? S = some oS) (hdS : oS.data = .set es ep t)
  (hf : t.fits es.size = true) {Q : Option (Value × Nat) → Shared → Prop} (h : Q (((pickOrder (w.params.setOrder S ep) es)[i]?).map fun e=>(e.2,j)) s) :
  wpAny (model prog w) A (setNext S j i ep) Q E s:=by
 unfold setNext
 refine wpAny_bind (wpAny_setState_of hS hdS hf ?_)
 dsimp only
 unfold setsByText
 refine wpAny_bind (wpAny_bind (wpAny_askSetting (wpAny_pure ?_)))
 dsimp only
 rw [show (model prog w).w.params.followText "set-order" = _ from ht]
 simp only [↓reduceIte,bne_self_eq_false,Bool.false_eq_true]
 unfold setWalk
 refine wpAny_bind (wpAny_bind (wpAny_setState_of hS hdS hf ?_))
 dsimp only
 unfold setsByText
 refine wpAny_bind (wpAny_bind (wpAny_askSetting (wpAny_pure ?_)))
 dsimp only
 rw [show (model prog w).w.params.followText "set-order" = _ from ht]
 simp only [↓reduceIte]
 exact wpAny_bind (wpAny_askSetting (wpAny_pure (wpAny_pure h)))
theorem setNext_one (ht : w.params.followText "set-order" = false) {S : Addr} {j i : Nat} {oS : Obj} {es : Array (Int × Value)} {ep : Nat} {t : SetTable} (hS : s.heap.get? S = some oS) (hdS : oS.data = .set es ep t)
  (hf : t.fits es.size = true) (hl : t.led = true) (hs : es.size ≤ 1) {Q : Option (Value × Nat) → Shared → Prop}
  (h : Q (match es[SetTable.below t.place j]?,t.place[SetTable.below t.place j]? with | some (_,x),some k=>some (x,k + 1) | _,_=>none) s) :
  wpAny (model prog w) A (setNext S j i ep) Q E s:=by
 unfold setNext
 refine wpAny_bind (wpAny_setState_of hS hdS hf ?_)
 dsimp only
 unfold setsByText
 refine wpAny_bind (wpAny_bind (wpAny_askSetting (wpAny_pure ?_)))
 dsimp only
 rw [show (model prog w).w.params.followText "set-order" = _ from ht]
 simp only [Bool.false_eq_true,↓reduceIte]
 split
 ·rename_i z
  have z' : (!t.plain && decide (es.size > 1)) = true:=z
  simp only [Bool.and_eq_true,decide_eq_true_eq] at z'
  omega
 ·refine wpAny_bind ?_
  show wpAny _ _ (if (!t.led && !es.isEmpty) = true then _ else _) _ _ _
  rw [hl]
  simp only [Bool.not_true,Bool.false_and,Bool.false_eq_true,↓reduceIte]
  exact wpAny_pure (wpAny_pure h)
end
end L2
namespace L2
open PySem PySem.Spec PyProof.Rows
theorem pickGo_perm {α : Type} (f : Nat → Nat) : ∀ (n k : Nat) (l : List α) (out : Array α),l.length = n → (pickOrder.go f n k l out).toList.Perm (out.toList ++ l):=by
 intro n
 induction n with
 | zero =>
  intro k l out h
  rw [List.length_eq_zero_iff.mp h]
  unfold pickOrder.go
  simp
 | succ n ih =>
  intro k l out h
  unfold pickOrder.go
  have hi : f k % l.length < l.length:=Nat.mod_lt _ (om138 h)
  rw [List.getElem?_eq_getElem hi]
  dsimp only
  refine (ih _ _ _ (by rw [List.length_eraseIdx_of_lt hi,h]; rfl)).trans ?_
  rw [Array.toList_push,List.append_assoc,List.singleton_append]
  refine List.Perm.append_left _ ?_
  rw [List.eraseIdx_eq_take_drop_succ]
  refine List.perm_middle.symm.trans ?_
  rw [List.getElem_cons_drop,List.take_append_drop]
theorem pickOrder_perm {α : Type} (f : Nat → Nat) (xs : Array α) : (pickOrder f xs).toList.Perm xs.toList:=by
 have h:=pickGo_perm f xs.size 0 xs.toList #[] (Array.length_toList ..)
 simpa [pickOrder] using h
theorem range_at {α : Type} (xs : Array α) (d : α) : (List.range xs.size).map (fun p=>(xs[p]?).getD d) = xs.toList:=by
 refine List.ext_getElem (by simp) fun i h1 h2=>?_
 have h3 : i < xs.size:=by simpa using h2
 simp [h3]
noncomputable def ItAt (ord : List (Int × Value)) (i : Nat) (v : Value) : Prop:=∃ e,ord[i]? = some e ∧ v = e.2
section
variable {prog : Program} {w : World} {A : Around} {E : Value → Shared → Prop} {s : Shared}
theorem setit_self {I : Addr} {f : Value} {i : Nat} {S : Addr} {n ep : Nat} (hit : SetIt s.heap I f i S n ep) {Q : Value → Shared → Prop} (h : Q (.ref I) s) : wpAny (model prog w) A (pyIter (.ref I)) Q E s:=by
 refine wpAny_pyIter_slot hit.is slot_setit_iter (wpAny_call_entry slot_setit_iter hit.is entry_setit_iter ?_ (args_setit_iter _))
 show wpAny _ _ (ret (.ref I)) _ _ s
 exact wpAny_pure ⟨_,rfl, "set_iterator",_,hit.is,slot_setit_next.lookup,h⟩
theorem walk_drawn (hh : A.handled = none) (I S P : Addr) (hIS : S ≠ I) (hIP : P ≠ I) {oS oP : Obj} {es : Array (Int × Value)} {ep : Nat} {t : SetTable} {ys : List Nat} {c : Nat} (hdS : oS.data = .set es ep t)
  (hf : t.fits es.size = true) (hdP : oP.data = .seq (ys.map fun (i : Nat)=>rawInt i).toArray c) (hy : ys.Perm (List.range es.size)) :
  WalksS prog w A I [I,S,P] [I] (fun a b=>b = a) es.size (ItAt (ys.map fun p=>(es[p]?).getD (0,.none)))
   (fun i s=>SetIt s.heap I (.ref P) i S es.size ep ∧ s.heap.get? S = some oS ∧ s.heap.get? P = some oP) where
 sub:=fun b hb=>by simp at hb; simp [hb]
 grefl:=fun _=>rfl
 gtrans:=fun _ _ _ h1 h2=>h2.trans h1
 frame:=fun i s h' tk st _ k=>⟨st.1.at fun o e=>k I (by simp) o e,k S (by simp) _ st.2.1,k P (by simp) _ st.2.2⟩
 item:=fun i s Q E hi st hQ=>by
  have hl : ys.length = es.size:=by rw [hy.length_eq,List.length_range]
  have hi' : i < ys.length:=om47 hi hl
  have hp : ys[i] < es.size:=List.mem_range.mp (hy.mem_iff.mp (List.getElem_mem hi'))
  refine next_drawn (p:=ys[i]) (hx:=(es[ys[i]]).1) (x:=(es[ys[i]]).2) st.1 st.2.1 hdS hf st.2.2 hdP (by simp [hi',rawInt]) (by simp [hp]) fun h' q sb=>?_
  refine hQ _ _ ⟨es[ys[i]],by simp [hi',hp],rfl⟩ ⟨q,?_,?_⟩ ⟨fun b o hb e=>?_,rfl,rfl,rfl,Nat.le_refl _⟩
  ·rw [sb.2 S hIS]; exact st.2.1
  ·rw [sb.2 P hIP]; exact st.2.2
  ·rw [sb.2 b (fun z=>hb (by simp [z]))]; exact e
 done:=fun s Q E st hQ=>by
  have hl : ys.length = es.size:=by rw [hy.length_eq,List.length_range]
  refine next_drawn_end hh st.1 st.2.1 hdS hf st.2.2 hdP (by simp [hl]) fun h' k=>hQ _ ⟨fun b o hb e=>k b o (fun z=>hb (by simp [z])) e,rfl,rfl,rfl,Nat.le_refl _⟩
 self:=fun _ _ _ _ st hQ=>setit_self st.1 hQ
theorem walk_text (hh : A.handled = none) (ht : w.params.followText "set-order" = true) (I S : Addr) (hIS : S ≠ I) {oS : Obj} {es : Array (Int × Value)} {ep : Nat} {t : SetTable} (hdS : oS.data = .set es ep t)
  (hf : t.fits es.size = true) :
  WalksS prog w A I [I,S] [I] (fun a b=>b = a) es.size (ItAt (pickOrder (w.params.setOrder S ep) es).toList)
   (fun i s=>SetIt s.heap I (.int (0 : Nat) 0) i S es.size ep ∧ s.heap.get? S = some oS) where
 sub:=fun b hb=>by simp at hb; simp [hb]
 grefl:=fun _=>rfl
 gtrans:=fun _ _ _ h1 h2=>h2.trans h1
 frame:=fun i s h' tk st _ k=>⟨st.1.at fun o e=>k I (by simp) o e,k S (by simp) _ st.2⟩
 item:=fun i s Q E hi st hQ=>by
  have hl : (pickOrder (w.params.setOrder S ep) es).size = es.size:=by rw [← Array.length_toList,(pickOrder_perm _ _).length_eq,Array.length_toList]
  have hi' : i < (pickOrder (w.params.setOrder S ep) es).size:=om47 hi hl
  refine next_slot (x:=(pickOrder (w.params.setOrder S ep) es)[i].2) (nx:=0) st.1 st.2 hdS hf (fun Q' E' q=>setNext_text ht st.2 hdS hf (by rw [Array.getElem?_eq_getElem hi']; exact q)) fun h' q sb=>?_
  refine hQ _ _ ⟨(pickOrder (w.params.setOrder S ep) es)[i],by rw [Array.getElem?_toList]; exact Array.getElem?_eq_getElem hi',rfl⟩ ⟨q,?_⟩ ⟨fun b o hb e=>?_,rfl,rfl,rfl,Nat.le_refl _⟩
  ·rw [sb.2 S hIS]; exact st.2
  ·rw [sb.2 b (fun z=>hb (by simp [z]))]; exact e
 done:=fun s Q E st hQ=>by
  have hl : (pickOrder (w.params.setOrder S ep) es).size = es.size:=by rw [← Array.length_toList,(pickOrder_perm _ _).length_eq,Array.length_toList]
  refine next_slot_end hh st.1 st.2 hdS hf (fun Q' E' q=>setNext_text ht st.2 hdS hf (by rw [Array.getElem?_eq_none (om48 hl)]; exact q)) fun h' k=>hQ _ ⟨fun b o hb e=>k b o (fun z=>hb (by simp [z])) e,rfl,rfl,rfl,Nat.le_refl _⟩
 self:=fun _ _ _ _ st hQ=>setit_self st.1 hQ
theorem below_zero (p : Nat) : SetTable.below #[p] 0 = 0:=by simp [SetTable.below,SetTable.below.go]
theorem below_succ (p : Nat) : SetTable.below #[p] (p + 1) = 1:=by simp [SetTable.below,SetTable.below.go]
theorem walk_one (hh : A.handled = none) (ht : w.params.followText "set-order" = false) (I S : Addr) (hIS : S ≠ I) {oS : Obj} {es : Array (Int × Value)} {ep : Nat} {t : SetTable} (hdS : oS.data = .set es ep t)
  (hf : t.fits es.size = true) (hl : t.led = true) (hs : es.size ≤ 1) :
  WalksS prog w A I [I,S] [I] (fun a b=>b = a) es.size (ItAt es.toList)
   (fun i s=>(∃ j : Nat,SetIt s.heap I (.int j 0) i S es.size ep ∧ (i = 0 → j = 0) ∧ (i = 1 → ∃ p,t.place = #[p] ∧ j = p + 1)) ∧ s.heap.get? S = some oS) where
 sub:=fun b hb=>by simp at hb; simp [hb]
 grefl:=fun _=>rfl
 gtrans:=fun _ _ _ h1 h2=>h2.trans h1
 frame:=fun i s h' tk st _ k=>⟨let ⟨j,a,r⟩:=st.1; ⟨j,a.at fun o e=>k I (by simp) o e,r⟩,k S (by simp) _ st.2⟩
 item:=fun i s Q E hi st hQ=>by
  obtain ⟨⟨j,hit,j0,j1⟩,hS⟩:=st
  have e0 : i = 0:=om139 hs hi
  subst e0
  cases j0 rfl
  have e1 : es.size = 1:=om140 hs hi
  have hp : t.place.size = 1:=by
   simp only [SetTable.fits,Bool.and_eq_true,beq_iff_eq] at hf
   omega
  obtain ⟨p,ep'⟩:=Array.size_eq_one_iff.mp hp
  refine next_slot (x:=(es[0]'(om13 hi)).2) (nx:=p + 1) hit hS hdS hf (fun Q' E' q=>setNext_one ht hS hdS hf hl hs (by rw [ep',below_zero,Array.getElem?_eq_getElem (om13 hi)]; exact q)) fun h' q sb=>?_
  refine hQ _ _ ⟨es[0]'(om13 hi),by rw [Array.getElem?_toList]; exact Array.getElem?_eq_getElem (om13 hi),rfl⟩ ⟨⟨_,q,fun z=>om141 z,fun _=>⟨p,ep',rfl⟩⟩,?_⟩ ⟨fun b o hb e=>?_,rfl,rfl,rfl,Nat.le_refl _⟩
  ·rw [sb.2 S hIS]; exact hS
  ·rw [sb.2 b (fun z=>hb (by simp [z]))]; exact e
 done:=fun s Q E st hQ=>by
  obtain ⟨⟨j,hit,j0,j1⟩,hS⟩:=st
  refine next_slot_end hh hit hS hdS hf (fun Q' E' q=>setNext_one ht hS hdS hf hl hs ?_) fun h' k=>hQ _ ⟨fun b o hb e=>k b o (fun z=>hb (by simp [z])) e,rfl,rfl,rfl,Nat.le_refl _⟩
  by_cases z : es.size = 0
  ·rw [Array.getElem?_eq_none (show es.size ≤ _ by exact om142 z)]; exact q
  ·have e1 : es.size = 1:=om143 hs z
   obtain ⟨p,e2,e3⟩:=j1 e1
   subst e3
   rw [e2,below_succ,Array.getElem?_eq_none (show es.size ≤ 1 by exact om144 e1)]; exact q
 self:=fun _ _ _ _ st hQ=>let ⟨⟨_,a,_⟩,_⟩:=st; setit_self a hQ
end
end L2
namespace L2
open PySem PySem.Spec PyProof.Rows
theorem strsAre_txOf {prog : Program} {w : World} {es : List (Int × Value)} (h : ElemsOf (PySem.strKind prog w) es) (i : Nat) (v : Value) (hv : ItAt es i v) : ∃ x t,(es.map fun e=>txOf e.2)[i]? = some x ∧ v = .str x t:=by
 obtain ⟨e,he,rfl⟩:=hv
 obtain ⟨⟨k,hk,_⟩,_⟩:=h e (List.mem_of_getElem? he)
 obtain ⟨t,et⟩:=Value.isStrOf_shape hk
 exact ⟨k,t,by rw [List.getElem?_map,he]; show some (txOf e.2) = _; rw [et]; rfl,et⟩
noncomputable def TxWalk (prog : Program) (w : World) (s s' : Shared) (S I : Addr) (L : List Str) : Prop :=
 ∃ (fp : List Addr) (ss : List Str) (P : Nat → Value → Prop) (St : Nat → Shared → Prop),(∀ b o,s.heap.get? b = some o → s'.heap.get? b = some o) ∧ s'.gens = s.gens ∧ s'.os = s.os ∧ s.toks ≤ s'.toks ∧
  s.heap.objs.size ≤ I ∧ I < s'.heap.objs.size ∧ s'.TypeIs (.ref I) "set_iterator" ∧ (∀ b ∈ fp,b = S ∨ s.heap.objs.size ≤ b) ∧ (∀ A' : Around,A'.handled = none → WalksS prog w A' I fp [I] (fun a b=>b = a) ss.length P St) ∧ St 0 s' ∧
  (∀ i v,P i v → ∃ x t,ss[i]? = some x ∧ v = .str x t) ∧ ss.Perm L
section
variable {prog : Program} {w : World} {A : Around} {E : Value → Shared → Prop} {s : Shared}
theorem iter_txset {S : Addr} {L : List Str} (hS : TxSet prog w s.heap S L) {Q : Value → Shared → Prop} (h : ∀ s' I,TxWalk prog w s s' S I L → Q (.ref I) s') : wpAny (model prog w) A (pyIter (.ref S)) Q E s:=by
 obtain ⟨o,es,ep,t,ho,hx,hd,hel,hp,hnd,hb,hf,hl,hpl⟩:=hS
 have hT : s.TypeIs (.ref S) "set":=⟨o,ho,hx.1⟩
 have hlt : S < s.heap.objs.size:=Heap.lt_size ho
 refine wpAny_pyIter_slot hT PySem.F.slot_set_iter (wpAny_call_entry PySem.F.slot_set_iter hT entry_set_iterW ?_ (PySem.F.args_set_iter_1 _))
 unfold Builtin.«frozenset.__iter__»
 show wpAny _ _ (Builtin.Frozenset.sizeOf S >>= _) _ _ s
 unfold Builtin.Frozenset.sizeOf
 refine wpAny_bind (wpAny_bind (wpAny_setEntries_of ho hd hf (wpAny_pure ?_)))
 unfold setDrawn
 refine wpAny_bind (wpAny_bind (wpAny_setState_of ho hd hf ?_))
 dsimp only
 unfold setsByText
 refine wpAny_bind (wpAny_bind (wpAny_askSetting (wpAny_pure (wpAny_pure ?_))))
 split
 ·rename_i z
  have z' : (!(w.params.followText "set-order") && (!t.plain && decide (es.size > 1))) = true:=z
  simp only [Bool.and_eq_true,decide_eq_true_eq] at z'
  refine wpAny_bind (wpAny_order es.size (List.range es.size) s (by simp) fun ys d hy=>?_)
  have hyl : ys.length = es.size:=by rw [hy.length_eq,List.length_range]
  have hsz : ((ys.map fun (i : Nat)=>rawInt i).length) ≤ sizeLine:=by rw [List.length_map,hyl]; exact fits_of_scanBound hb
  refine wpAny_bind (wpAny_newTuple (s:={ s with drawn:=d }) ?_ hsz)
  refine wpAny_bind ?_
  unfold setEpoch
  refine wpAny_bind (wpAny_setState_of (Heap.get?_push_of_some _ ho) hd hf (wpAny_pure ?_))
  refine wpAny_bind (wpAny_newObj_type (wpAny_pure ⟨_,rfl, "set_iterator",_,⟨_,Heap.get?_push_size _ rfl,rfl⟩,slot_setit_next.lookup,h _ _ ?_⟩))
  generalize hP : s.heap.push { cls:=.type "tuple",data:=.seq (ys.map fun (i : Nat)=>rawInt i).toArray } = H1
  have s1 : H1.objs.size = s.heap.objs.size + 1:=by rw [← hP,Heap.size_push]
  have gP : H1.get? s.heap.objs.size = some { cls:=.type "tuple",data:=.seq (ys.map fun (i : Nat)=>rawInt i).toArray }:=by rw [← hP]; exact Heap.get?_push_size _ rfl
  have gS : H1.get? S = some o:=by rw [← hP]; exact Heap.get?_push_of_some _ ho
  refine ⟨[H1.objs.size,S,s.heap.objs.size],(ys.map fun p=>(es[p]?).getD (0,.none)).map fun e=>txOf e.2,ItAt (ys.map fun p=>(es[p]?).getD (0,.none)),
   (fun i s'=>SetIt s'.heap H1.objs.size (.ref s.heap.objs.size) i S es.size ep ∧ s'.heap.get? S = some o ∧ s'.heap.get? s.heap.objs.size = some { cls:=.type "tuple",data:=.seq (ys.map fun (i : Nat)=>rawInt i).toArray }),fun b o e=>?_,rfl,rfl,Nat.le_refl _,?_,?_,⟨_,Heap.get?_push_size _ rfl,rfl⟩,fun b hb=>?_,
   fun A' hA=>?_,⟨⟨_,Heap.get?_push_size _ rfl,rfl,rfl⟩,Heap.get?_push_of_some _ gS,Heap.get?_push_of_some _ gP⟩,?_,?_⟩
  ·exact Heap.get?_push_of_some _ (by rw [← hP]; exact Heap.get?_push_of_some _ e)
  ·show s.heap.objs.size ≤ H1.objs.size
   exact om49 s1
  ·show H1.objs.size < (H1.push _).objs.size
   rw [Heap.size_push]; exact Nat.lt_succ_self _
  ·simp only [List.mem_cons,List.not_mem_nil,or_false] at hb
   rcases hb with e | e | e
   ·subst e; exact .inr (om49 s1)
   ·exact .inl e
   ·rw [e]; exact .inr (Nat.le_refl _)
  ·have q:=walk_drawn (prog:=prog) (w:=w) hA H1.objs.size S s.heap.objs.size (Nat.ne_of_lt (by rw [s1]; exact Nat.lt_succ_of_lt hlt)) (Nat.ne_of_lt (by rw [s1]; exact Nat.lt_succ_self _)) hd hf (oP:={ cls:=.type "tuple",data:=.seq (ys.map fun (i : Nat)=>rawInt i).toArray }) (c:=0) rfl hy
   simpa [hyl] using q
  ·refine strsAre_txOf (prog:=prog) (w:=w) (hel.perm ?_)
   have q:=hy.map fun p=>(es[p]?).getD ((0 : Int),Value.none)
   rwa [range_at] at q
  ·have q:=hy.map fun p=>(es[p]?).getD ((0 : Int),Value.none)
   rw [range_at] at q
   exact (q.map _).trans hp
 ·rename_i z
  have z' : ¬ (!(w.params.followText "set-order") && (!t.plain && decide (es.size > 1))) = true:=z
  refine wpAny_bind (wpAny_pure ?_)
  refine wpAny_bind ?_
  unfold setEpoch
  refine wpAny_bind (wpAny_setState_of ho hd hf (wpAny_pure ?_))
  refine wpAny_bind (wpAny_newObj_type (wpAny_pure ⟨_,rfl, "set_iterator",_,⟨_,Heap.get?_push_size _ rfl,rfl⟩,slot_setit_next.lookup,h _ _ ?_⟩))
  have hmem : ∀ b ∈ [s.heap.objs.size,S],b = S ∨ s.heap.objs.size ≤ b:=fun b hb=>by
   simp only [List.mem_cons,List.not_mem_nil,or_false] at hb
   rcases hb with e | e
   ·subst e; exact .inr (Nat.le_refl _)
   ·exact .inl e
  have hlt2 : ∀ o' : Obj,s.heap.objs.size < (s.heap.push o').objs.size:=fun o'=>by rw [Heap.size_push]; exact Nat.lt_succ_self _
  cases ht : w.params.followText "set-order" with
  | true =>
   have pl : (pickOrder (w.params.setOrder S ep) es).toList.length = es.size:=by rw [(pickOrder_perm _ _).length_eq,Array.length_toList]
   refine ⟨[s.heap.objs.size,S],(pickOrder (w.params.setOrder S ep) es).toList.map fun e=>txOf e.2,ItAt (pickOrder (w.params.setOrder S ep) es).toList,
    (fun i s'=>SetIt s'.heap s.heap.objs.size (.int (0 : Nat) 0) i S es.size ep ∧ s'.heap.get? S = some o),fun b o e=>Heap.get?_push_of_some _ e,rfl,rfl,Nat.le_refl _,Nat.le_refl _,hlt2 _,⟨_,Heap.get?_push_size _ rfl,rfl⟩,hmem,
    fun A' hA=>?_,⟨⟨_,Heap.get?_push_size _ rfl,rfl,rfl⟩,Heap.get?_push_of_some _ ho⟩,?_,?_⟩
   ·have q:=walk_text (prog:=prog) (w:=w) hA ht s.heap.objs.size S (Nat.ne_of_lt hlt) hd hf
    rw [List.length_map,pl]; exact q
   ·exact strsAre_txOf (prog:=prog) (w:=w) (hel.perm (pickOrder_perm _ _))
   ·exact ((pickOrder_perm _ _).map _).trans hp
  | false =>
   have hs : es.size ≤ 1:=by
    rw [ht] at z'
    rcases hpl with e | e
    ·rw [e] at z'
     simp at z'
     exact z'
    ·exact om145 e
   refine ⟨[s.heap.objs.size,S],es.toList.map fun e=>txOf e.2,ItAt es.toList,
    (fun i s'=>(∃ j : Nat,SetIt s'.heap s.heap.objs.size (.int j 0) i S es.size ep ∧ (i = 0 → j = 0) ∧ (i = 1 → ∃ p,t.place = #[p] ∧ j = p + 1)) ∧ s'.heap.get? S = some o),fun b o e=>Heap.get?_push_of_some _ e,rfl,rfl,Nat.le_refl _,Nat.le_refl _,hlt2 _,⟨_,Heap.get?_push_size _ rfl,rfl⟩,hmem,
    fun A' hA=>?_,⟨⟨0,⟨_,Heap.get?_push_size _ rfl,rfl,rfl⟩,fun _=>rfl,fun z=>by cases z⟩,Heap.get?_push_of_some _ ho⟩,?_,?_⟩
   ·have q:=walk_one (prog:=prog) (w:=w) hA ht s.heap.objs.size S (Nat.ne_of_lt hlt) hd hf (by rw [hl,ht]; rfl) hs
    rw [List.length_map,Array.length_toList]; exact q
   ·exact strsAre_txOf (prog:=prog) (w:=w) hel
   ·exact hp
theorem strsAre_items : ∀ (vs : List Value) (ss : List Str),vs.length = ss.length → (∀ (i : Nat) (v : Value),vs[i]? = some v → ∃ x t,ss[i]? = some x ∧ v = Value.str x t) → StrsAre vs ss
 | [],[],_,_=>.nil
 | [],_ :: _,h,_=>by cases h
 | _ :: _,[],h,_=>by cases h
 | v :: vs,y :: ss,h,k=>by
  obtain ⟨x,t,e,rfl⟩:=k 0 v rfl
  cases e
  exact .cons y t (strsAre_items vs ss (by simpa using h) fun i u hu=>k (i + 1) u (by simpa using hu))
theorem collect_txset {S : Addr} {L : List Str} (hh : A.handled = none) (hS : TxSet prog w s.heap S L) {Q : List Value → Shared → Prop}
  (h : ∀ s' vs ss,s.heap.objs.size ≤ s'.heap.objs.size → (∀ b o,s.heap.get? b = some o → s'.heap.get? b = some o) → s'.gens = s.gens → s'.os = s.os → s.toks ≤ s'.toks → StrsAre vs ss → ss.Perm L → Q vs s') : wpAny (model prog w) A (collect (.ref S)) Q E s:=by
 have hlen : L.length < scanBound:=by
  obtain ⟨o,es,ep,t,ho,hx,hd,hel,hp,hnd,hb,hf,hl,hpl⟩:=hS
  rw [← hp.length_eq,List.length_map,Array.length_toList]; exact hb
 unfold collect
 refine wpAny_bind (wpAny_runValue (codeAny_builtin PySem.F.entry_proto_collect ?_))
 rw [Around.under_plainId PySem.F.plain_proto_collect]
 show wpAny _ A.in1 (newList [] >>= fun l=>again (.builtin "list.__iadd__" ⟨[l,.ref S],[]⟩)) _ _ s
 refine wpAny_bind (wpAny_newObj_type (wpAny_pure ⟨plainId_quiet PySem.F.plain_list_iadd _,codeAny_builtin PySem.F.entry_list_iadd ?_⟩))
 rw [Around.under_plainId PySem.F.plain_list_iadd]
 show wpAny _ A.in1 (Builtin.List.listExtendWith (.ref s.heap.objs.size) (.ref S) (.ref s.heap.objs.size)) _ _ _
 unfold Builtin.List.listExtendWith
 have hlt : S < s.heap.objs.size:=by obtain ⟨o,_,_,_,ho,_⟩:=hS; exact Heap.lt_size ho
 generalize hH : s.heap.push { cls:=.type "list",data:=.seq ([] : List Value).toArray } = H
 have gl : H.get? s.heap.objs.size = some { cls:=.type "list",data:=.seq ([] : List Value).toArray }:=by rw [← hH]; exact Heap.get?_push_size _ rfl
 have gs : TxSet prog w H S L:=hS.at fun o e=>by rw [← hH]; exact Heap.get?_push_of_some _ e
 have gk : ∀ b o,s.heap.get? b = some o → H.get? b = some o:=fun b o e=>by rw [← hH]; exact Heap.get?_push_of_some _ e
 have hT : Shared.TypeIs { s with heap:=H } (.ref S) "set":=by
  obtain ⟨o,_,_,_,ho,hx,_⟩:=gs
  exact ⟨o,ho,hx.1⟩
 refine wpAny_bind (wpAny_typeOf hT ?_)
 have n1 : Builtin.List.listSameRef (.ref s.heap.objs.size) (.ref S) = false:=by
  simp only [Builtin.List.listSameRef,beq_eq_false_iff_ne]
  exact Nat.ne_of_gt hlt
 have n2 : (Value.type "set" == Value.type "list") = false:=by decide
 have n3 : (Value.type "set" == Value.type "tuple") = false:=by decide
 simp only [n1,n2,n3,Bool.or_false,Bool.false_eq_true,if_false]
 refine wpAny_bind (iter_txset (s:={ s with heap:=H }) gs fun s1 I hq_=>?_); obtain ⟨fp,ss,P,St,k1,kg,ko,kt,hI1,hI2,hIT,hfp,W,st,hv,hp⟩:=hq_
 have hSz : H.objs.size = s.heap.objs.size + 1:=by rw [← hH,Heap.size_push]
 have hT1 : s1.TypeIs (.ref S) "set":=by
  obtain ⟨o,ho,hc⟩:=hT
  exact ⟨o,k1 _ _ ho,hc⟩
 refine wpAny_bind (wpAny_holding ?_)
 unfold Builtin.List.listLengthHint
 refine wpAny_bind (wpAny_specialOf hT1 PySem.F.slot_set_len.lookup ?_)
 wp_delta
 refine wpAny_bind (wpAny_isInstance (b:=true) hT1 sub_set_self ?_)
 show wpAny _ A.in1 (typeOf (Value.ref S) >>= _) _ _ _
 refine wpAny_bind (wpAny_typeOf hT1 (wpAny_pure ?_))
 rw [if_pos (by decide)]
 refine wpAny_bind (wpAny_rule ?_)
 have g1:=k1 _ _ gl
 refine wpAny_bind ?_
 show wpAny _ A.in1 (updateSeq s.heap.objs.size (·.push .none) >>= fun _=>updateSeq s.heap.objs.size (·.pop)) _ _ _
 refine wpAny_bind (wpAny_updateSeq g1 rfl ?_)
 have g2:=Heap.get?_update_self (Obj.mapSeq (·.push Value.none)) g1 rfl
 refine wpAny_updateSeq g2 rfl ?_
 have g3:=Heap.get?_update_self (Obj.mapSeq (·.pop)) g2 rfl
 have nfp : ¬ s.heap.objs.size ∈ fp:=fun m=>by
  rcases hfp _ m with e | e
  ·exact absurd hlt (by rw [← e]; exact Nat.lt_irrefl _)
  ·have e' : H.objs.size ≤ s.heap.objs.size:=e
   exact om146 hSz e'
 have oth : ∀ b o,b ≠ s.heap.objs.size → s1.heap.get? b = some o → ((s1.heap.update s.heap.objs.size (Obj.mapSeq (·.push Value.none))).update s.heap.objs.size (Obj.mapSeq (·.pop))).get? b = some o :=
  fun b o hb e=>(Heap.get?_update_other _ _ (Ne.symm hb)).trans ((Heap.get?_update_other _ _ (Ne.symm hb)).trans e)
 have W1:=W A.in1 (by simpa using hh)
 have hn : ss.length ≤ sizeLine:=by rw [hp.length_eq]; exact fits_of_scanBound hlen
 refine wpAny_pure ⟨plainId_quiet PySem.F.plain_extend_loop _,codeAny_extend_loopS W1 hn _ nfp _ ss.length 0 _ _ _ rfl (Nat.zero_le _) (W1.frame 0 s1 _ s1.toks st (Nat.le_refl _) fun b hb o e=>oth b o (fun z=>nfp (z ▸ hb)) e) g3 (ItemsOf.nil P) fun s' acc c m gS hacc=>?_⟩
 show wpAny _ A (load s.heap.objs.size >>= _) _ _ s'
 refine wpAny_bind (wpAny_load gS (wpAny_pure (h s' acc.toList ss (Nat.le_of_lt (Heap.lt_size gS)) (fun b o e=>?_) ?_ ?_ ?_ ?_ hp)))
 ·have ne : b ≠ s.heap.objs.size:=Nat.ne_of_lt (Heap.lt_size e)
  refine m.heap b o ?_ (oth b o ne (k1 b o (gk b o e)))
  simp only [List.mem_cons,List.not_mem_nil,or_false,not_or]
  refine ⟨ne,fun z=>?_⟩
  have q : s.heap.objs.size + 1 ≤ I:=hSz ▸ hI1
  have q2:=Heap.lt_size e
  rw [z] at q2
  exact absurd (Nat.lt_of_lt_of_le (Nat.lt_succ_of_lt q2) q) (Nat.lt_irrefl _)
 ·exact m.gens.trans kg
 ·exact m.os.trans ko
 ·exact Nat.le_trans kt m.toks
 ·refine strsAre_items _ _ (by rw [Array.length_toList,hacc.1]) fun i v e=>hv i v (hacc.2 i v (by rwa [Array.getElem?_toList] at e))
end
end L2
namespace L2
open PySem PySem.Spec PyProof.Rows
section
variable {prog : Program} {w : World} {A : Around} {E : Value → Shared → Prop} {s : Shared}
theorem sorted_txset {S : Addr} {L : List Str} (hh : A.handled = none) (hS : TxSet prog w s.heap S L) (h64 : L.length < 64) {Q : Value → Shared → Prop}
  (h : ∀ s' a c vs ss,s.heap.objs.size ≤ a → (∀ b o,s.heap.get? b = some o → s'.heap.get? b = some o) → s'.gens = s.gens → s'.os = s.os → s'.heap.get? a = some (seqObj "list" vs c) → StrsAre vs.toList ss → ss.Perm L → sortedS ss = true → Q (.ref a) s') :
  wpAny (model prog w) A (call (.builtin "sorted") [.ref S]) Q E s:=by
 refine Calls.call_function_entry kind_sorted plain_sorted entry_sorted (args_sorted1 _) ?_
 unfold Builtin.«sorted»
 refine wpAny_bind (m:=checkCount "sorted" 1 1 _) (wpAny_pure ?_)
 refine wpAny_bind (collect_txset (by simpa using hh) hS fun s1 vs ss kz k kg ko kt hv hp=>?_)
 have hl : vs.length < 64:=by rw [← L2.StrsAre.len hv,hp.length_eq]; exact h64
 refine wpAny_bind (wpAny_newList ?_ (by have q : sizeLine = 1000000000 ∨ 64 ≤ sizeLine:=.inr (by decide); exact om147 hl q))
 have g:=Heap.get?_push_size s1.heap (o:=seqObj "list" vs.toArray 0) rfl
 refine wpAny_bind (wpAny_holding (wpAny_call_entry slot_list_sort ⟨_,g,rfl⟩ entry_list_sort (list_sort_treeK strKind_oneLt g hv.keysOf (fun v₁ v₂ rest e=>keyKind_strs (by rw [← e]; exact hv)) hl fun st' a1 a2=>⟨_,rfl,?_⟩) (args_list_sort _)))
 obtain ⟨ss',q1,q2,q3⟩:=sorted_out_str hv a1 a2
 generalize (arrOf st').map (·.2) = out at q1 ⊢
 obtain ⟨c,hc⟩:=sortedHeap_at (out:=out) g
 have kk : ∀ b o,s.heap.get? b = some o → (sortedHeap (s1.heap.push (seqObj "list" vs.toArray 0)) s1.heap.objs.size vs out).get? b = some o:=by
  intro b o e
  have e1:=k b o e
  have lt : b < s1.heap.objs.size:=Heap.lt_size e1
  have lt2 : b < (s1.heap.push (seqObj "list" vs.toArray 0)).objs.size:=by rw [size_push']; exact Nat.lt_succ_of_lt lt
  rw [sortedHeap_old (Nat.ne_of_lt lt) lt2]
  exact Heap.get?_push_of_some _ e1
 exact wpAny_pure ⟨_,rfl,h { s1 with heap:=sortedHeap (s1.heap.push (seqObj "list" vs.toArray 0)) s1.heap.objs.size vs out } s1.heap.objs.size c out ss' kz kk kg ko hc q1 (q2.trans hp) q3⟩
end
theorem strsAre_vals {vs : List Value} {ss : List Str} (h : StrsAre vs ss) : Vals (ss.map V.str) vs:=by
 induction h with
 | nil=>exact .nil
 | cons y t _ ih=>exact .cons ⟨t,rfl⟩ ih
noncomputable def TsO (P : Program) (w : World) (a : Addr) (L : List Str) : HO:=.ext fun h=>TxSet P w h a L
section
variable {X : Cx}
theorem call_setT (hc : X.calm = true) : CallR X (.type "set") (fun xs H Q=>∃ (p : Addr) (ss : List Str),xs = [.ref p] ∧ SqL X.K H p (ss.map V.str) ∧ ss.length + 1 < scanBound ∧
  ∀ l L,H l = none → (∀ x,x ∈ L ↔ x ∈ ss) → L.length ≤ ss.length → Q (.ref l) (upd H l (TsO X.prog X.w l L))):=by
 intro pins s σ H xs us Q I r h
 obtain ⟨p,ss,rfl,hq,hb,q⟩:=h
 obtain ⟨u,rfl,rx⟩:=vals1 r
 cases rx
 obtain ⟨its,r',pl,hz⟩:=I.list hq
 have hv:=strsAre_of r'
 have hn : its.length = ss.length:=(L2.StrsAre.len hv).symm
 refine call_set_texts (I.ok.hd hc) pl.isList (by simpa using hv) (by simpa [hn] using hb) fun h' tk L hS hm hl k _=>?_
 have k' : ∀ b o,s.heap.get? b = some o → h'.get? b = some o:=fun b o e=>k b o (Heap.lt_size e) e
 obtain ⟨o,ho⟩ : ∃ o,h'.get? s.heap.objs.size = some o:=let ⟨o,_,_,_,ho,_⟩:=hS; ⟨o,ho⟩
 refine ⟨.ref s.heap.objs.size,_,I.laid k' (Nat.le_refl _) (show ObjOk X.prog X.w _ h' _ (TsO X.prog X.w s.heap.objs.size L) from ⟨hS,⟨o,ho⟩,fun h1 h2 x e=>TxSet.at x e⟩),rfl,q _ _ (I.hok.fresh (Nat.le_refl _)) hm (by simpa [hn] using hl)⟩
theorem call_sortedS (hc : X.calm = true) : CallR X (.builtin "sorted") (fun xs H Q=>∃ (p : Addr) (L : List Str),xs = [.ref p] ∧ H p = some (TsO X.prog X.w p L) ∧ L.length < 64 ∧
  ∀ l ss,H l = none → ss.Perm L → L.Nodup → sortedS ss = true → Q (.ref l) (upd H l (.lst (ss.map V.str)))):=by
 intro pins s σ H xs us Q I r h
 obtain ⟨p,L,rfl,hq,h64,q⟩:=h
 obtain ⟨u,rfl,rx⟩:=vals1 r
 cases rx
 obtain ⟨hS,_,_⟩:=I.hok p _ hq
 have hnd : L.Nodup:=by obtain ⟨_,_,_,_,_,_,_,_,_,hnd,_⟩:=hS; exact hnd
 refine sorted_txset (I.ok.hd hc) hS h64 fun s' a c vs ss ha k kg ko hg hv hp hs=>?_
 have len : (ss.map V.str).length ≤ sizeLine:=by rw [List.length_map,hp.length_eq]; exact Nat.le_trans (Nat.le_of_lt h64) (by decide)
 have new : ObjOk X.prog X.w (upd H a (.lst (ss.map V.str))) s'.heap a (.lst (ss.map V.str)):=⟨len,vs.toList,c,strsAre_vals hv,hg⟩
 refine ⟨.ref a,_,I.call' (ch:=[]) ko (Un.laid k ha (I.hok.fresh ha)) (I.hok.laid k ha new) (by rw [kg]; exact I.bare) (fun _ z=>nomatch z),rfl,q _ _ (I.hok.fresh ha) hp hnd hs⟩
theorem call_sortedL : CallR X (.builtin "sorted") (fun xs H Q=>∃ (p : Addr) (ss : List Str),xs = [.ref p] ∧ SqL X.K H p (ss.map V.str) ∧ ss.length < 64 ∧
  ∀ l ss',H l = none → ss'.Perm ss → sortedS ss' = true → Q (.ref l) (upd H l (.lst (ss'.map V.str)))):=by
 intro pins s σ H xs us Q I r h
 obtain ⟨p,ss,rfl,hq,h64,q⟩:=h
 obtain ⟨u,rfl,rx⟩:=vals1 r
 cases rx
 obtain ⟨its,r',pl,hz⟩:=I.list hq
 have hv:=strsAre_of r'
 have hn : its.length = ss.length:=(L2.StrsAre.len hv).symm
 refine sorted_strs pl.isList hv (by rw [hn]; exact h64) fun out ss' a1 a2 a3=>?_
 obtain ⟨c,hc⟩:=sortedAll_at s.heap its out
 have len : (ss'.map V.str).length ≤ sizeLine:=by rw [List.length_map,a2.length_eq]; exact Nat.le_trans (Nat.le_of_lt h64) (by decide)
 refine ⟨.ref (s.heap.objs.size + 1),_,I.laid (t':=s.toks) (fun _ _ e=>sortedAll_old e) (Nat.le_succ _) (show ObjOk X.prog X.w _ _ _ (.lst (ss'.map V.str)) from ⟨len,out.toList,c,strsAre_vals a1,hc⟩),rfl,q _ _ (I.hok.fresh (Nat.le_succ _)) a2 a3⟩
end
end L2
namespace L2
open PySem PySem.Spec PyProof.Rows
section
variable {prog : Program} {w : World} {A : Around} {E : Value → Shared → Prop} {s : Shared}
end
section
variable {X : Cx} {e es : Expr} {te ts : TE} {lo hi : Option Expr} {tl th : TO} {pos p2 : Pos}
end
end L2
namespace L2
open PySem PySem.Spec PyProof.Rows
theorem mro_rev : mroOf (.type "reversed") = pure [.type "reversed",.type "object"]:=by rw [mroOf_type]; kernel_rfl
theorem lookup_rev_new : typeLookup (.type "reversed") "__new__" = pure (some (.builtin "reversed.__new__")):=by rw [typeLookup_type,builtinLookup_eq_fast]; kernel_rfl
theorem slot_rev_init : Slot "reversed" "__init__" "object.__init__":=by
 refine .of (owner:="object") (n:="__init__") ?_ (by decide +kernel) (by decide +kernel) (by decide +kernel) ?_ ?_
 ·rw [typeLookup_type,builtinLookup_eq_fast]; kernel_rfl
 ·first | exact .inl (by decide +kernel) | exact .inr (by decide +kernel)
 ·rw [isSubtype_type]; kernel_rfl
theorem called_rev : TypeCalled "reversed" "reversed.__new__" "object.__init__":=by
 refine ⟨by decide +kernel,by decide +kernel,⟨_,_,mro_rev⟩,madeBy_type mro_rev lookup_rev_new (by decide +kernel),by decide +kernel,?_,slot_rev_init⟩
 rw [isSubtype_type]; kernel_rfl
theorem typeCall_rev (a : Value) : checkTypeCall "reversed" ⟨[a],[]⟩ = pure ():=by kernel_rfl
theorem newCall_rev (a : Value) : checkBuiltinCall "reversed.__new__" ⟨[.type "reversed",a],[]⟩ = pure ():=by kernel_rfl
theorem entry_rev_new : entryFor table "reversed.__new__" = some Builtin.«reversed.__new__»:=entryFor_of_tree (by kernel_rfl)
theorem sub_rev : isSubtype (.type "reversed") (.type "reversed") = pure true:=by rw [isSubtype_type]; kernel_rfl
theorem no_tuple_rev : typeLookup (.type "tuple") "__reversed__" = pure none:=by rw [typeLookup_type,builtinLookup_eq_fast]; kernel_rfl
theorem sub_tuple_dict : isSubtype (.type "tuple") (.type "dict") = pure false:=by rw [isSubtype_type]; kernel_rfl
noncomputable def revObj (t : Addr) (n : Int) : Obj:={ cls:=.type "reversed",data:=.fields #[.ref t,.int (n - 1) 0] }
section
variable {prog : Program} {w : World} {A : Around} {E : Value → Shared → Prop} {s : Shared}
theorem call_rev {t : Addr} {items : Array Value} {Q : Value → Shared → Prop} (ht : IsTup s.heap t items) (hn : (items.size : Int) < 2 ^ 63)
  (h : Q (.ref s.heap.objs.size) { s with heap:=s.heap.push (revObj t items.size),toks:=s.toks + 1 + 1 }) : wpAny (model prog w) A (call (.type "reversed") [.ref t]) Q E s:=by
 refine callType_new (S:=fun _ R s'=>s' = s ∧ R (.ok (.ret (.ref s.heap.objs.size))) { s with heap:=s.heap.push (revObj t items.size),toks:=s.toks + 1 + 1 }) called_rev (by decide) (typeCall_rev _) (newCall_rev _) (fun obj=>PySem.F.args_object_init_2 obj _) entry_rev_new
  (.of_wp fun prog' w' A' R s' hs=>?_) ⟨rfl,⟨_,Heap.get?_push_size _ rfl,rfl⟩,h⟩
 obtain ⟨rfl,hr⟩:=hs
 unfold Builtin.«reversed.__new__» Builtin.SmallTypes.newClass
 refine wpAny_bind ?_
 dsimp only
 refine wpAny_bind (wpAny_pure ?_)
 simp only [Bool.not_true,Bool.false_eq_true,if_false]
 refine wpAny_bind (wpAny_of_eq sub_rev ?_)
 simp only [Bool.not_true,Bool.false_eq_true,if_false]
 refine wpAny_pure ?_
 refine wpAny_bind (m:=Builtin.SmallTypes.refuseKeywords _ _ _) (wpAny_pure ?_)
 refine wpAny_bind (m:=checkCount "reversed" 1 1 _) (wpAny_pure ?_)
 dsimp only
 refine wpAny_bind (wpAny_specialOf ht.typeIs no_tuple_rev ?_)
 dsimp only
 refine wpAny_bind ?_
 show wpAny _ _ (isInstance (.ref t) (.type "dict") >>= _) _ _ _
 refine wpAny_bind (wpAny_isInstance (b:=false) ht.typeIs sub_tuple_dict ?_)
 simp only [Bool.false_eq_true,if_false]
 refine wpAny_bind (wpAny_specialOf ht.typeIs PyProof.Rows.slot_tuple_getitem.lookup ?_)
 dsimp only
 rw [if_pos (by decide +kernel)]
 refine wpAny_pure ?_
 simp only [Bool.not_true,Bool.false_eq_true,if_false]
 refine wpAny_bind (len_tuple ht hn ?_)
 refine wpAny_bind (m:=asInt? _) (wpAny_pure ?_)
 dsimp only
 show wpAny _ _ (newObj (.type "reversed") (.fields [Value.ref t,rawInt ((items.size : Int) - 1)].toArray) >>= _) _ _ _
 exact wpAny_bind (wpAny_newObj_type (wpAny_pure ⟨_,rfl,hr⟩))
end
end L2
namespace L2
open PySem PySem.Spec PyProof.Rows
theorem slot_rev_next : Slot "reversed" "__next__" "reversed.__next__":=by
 refine .of (owner:="reversed") (n:="__next__") ?_ (by decide +kernel) (by decide +kernel) (by decide +kernel) ?_ ?_
 ·rw [typeLookup_type,builtinLookup_eq_fast]; kernel_rfl
 ·first | exact .inl (by decide +kernel) | exact .inr (by decide +kernel)
 ·rw [isSubtype_type]; kernel_rfl
theorem slot_rev_iter : Slot "reversed" "__iter__" "reversed.__iter__":=by
 refine .of (owner:="reversed") (n:="__iter__") ?_ (by decide +kernel) (by decide +kernel) (by decide +kernel) ?_ ?_
 ·rw [typeLookup_type,builtinLookup_eq_fast]; kernel_rfl
 ·first | exact .inl (by decide +kernel) | exact .inr (by decide +kernel)
 ·rw [isSubtype_type]; kernel_rfl
theorem entry_rev_next : entryFor table "reversed.__next__" = some Builtin.«reversed.__next__»:=entryFor_of_tree (by kernel_rfl)
theorem entry_rev_iter : entryFor table "reversed.__iter__" = some Builtin.«dict_keyiterator.__iter__»:=by
 refine entryFor_alias (id':="dict_keyiterator.__iter__") ?_ rfl (by decide +kernel) ?_ <;> kernel_rfl
theorem args_rev_next (a : Value) : argsOk "reversed.__next__" ⟨[a],[]⟩:=by unfold argsOk; kernel_rfl
theorem args_rev_iter (a : Value) : argsOk "reversed.__iter__" ⟨[a],[]⟩:=by unfold argsOk; kernel_rfl
noncomputable def RevAt (h : Heap) (I t : Addr) (k : Int) : Prop:=∃ o,h.get? I = some o ∧ o.cls = .type "reversed" ∧ o.data = .fields #[.ref t,.int k 0]
theorem RevAt.at {h h' : Heap} {I t : Addr} {k : Int} (x : RevAt h I t k) (e : ∀ o,h.get? I = some o → h'.get? I = some o) : RevAt h' I t k:=let ⟨o,ho,r⟩:=x; ⟨o,e o ho,r⟩
theorem RevAt.is {s : Shared} {I t : Addr} {k : Int} (x : RevAt s.heap I t k) : s.TypeIs (.ref I) "reversed":=let ⟨o,ho,hc,_⟩:=x; ⟨o,ho,hc⟩
section
variable {prog : Program} {w : World} {A : Around} {E : Value → Shared → Prop} {s : Shared}
theorem nextR_of {I t : Addr} {k : Int} {Q : Option Value → Shared → Prop} (hit : RevAt s.heap I t k)
  (h : wpAny (model prog w) A.in1 (Builtin.«reversed.__next__» ⟨[.ref I],[]⟩) (fun fin s'=>∃ v,fin = .done (.ret v) ∧ Q (some v) s') (fun e s'=>s'.TypeIs e "StopIteration" ∧ Q none s') s) :
  wpAny (model prog w) A (pyNext (.ref I)) Q E s:=by
 unfold pyNext
 refine wpAny_bind (wpAny_attempt (wpAny_callSpecial?_slot (name:=Str.ofString "__next__") hit.is slot_rev_next (wpAny_call_entry slot_rev_next hit.is entry_rev_next ?_ (args_rev_next _))))
 refine wpAny_mono h (fun fin s' q=>?_) fun e s' q=>?_
 ·obtain ⟨v,e,q⟩:=q
  exact ⟨v,e,wpAny_pure q⟩
 ·exact wpAny_bind (wpAny_isInstance (T:="StopIteration") (b:=true) q.1 isSubtype_stop (wpAny_pure q.2))
theorem nextR {I t : Addr} {k : Nat} {items : Array Value} {x : Value} {Q : Option Value → Shared → Prop} (hit : RevAt s.heap I t k) (ht : IsTup s.heap t items) (hx : items[k]? = some x) (h63 : (items.size : Int) < 2 ^ 63)
  (hQ : ∀ h',RevAt h' I t ((k : Int) - 1) → Heap.SameBut I s.heap h' → Q (some x) { s with heap:=h',toks:=s.toks + 1 }) : wpAny (model prog w) A (pyNext (.ref I)) Q E s:=by
 refine nextR_of hit ?_
 obtain ⟨o,ho,hc,hd⟩:=hit
 have hk : k < items.size:=(Array.getElem?_eq_some_iff.mp hx).1
 show wpAny _ _ (field (.ref I) 0 >>= _) _ _ s
 refine wpAny_bind (wpAny_field ho hd (x:=.ref t) rfl (wpAny_bind (wpAny_field ho hd (x:=.int k 0) rfl ?_)))
 dsimp only
 rw [if_neg om11]
 refine wpAny_bind (wpAny_specialOf ht.typeIs PyProof.Rows.slot_tuple_getitem.lookup ?_)
 simp only [Option.isNone_some,Bool.false_eq_true,if_false]
 refine wpAny_bind (wpAny_mkInt (wpAny_bind (wpAny_attempt ?_)))
 refine getItem_tuple (s:={ s with toks:=s.toks + 1 }) ht (by omega) (om148 h63 hk) (j:=k) ?_ hx ?_
 ·unfold seqIndex?
  simp
  omega
 refine wpAny_bind (wpAny_field (s:={ s with toks:=s.toks + 1 }) ho hd (x:=.int k 0) rfl ?_)
 dsimp only
 refine wpAny_bind (wpAny_setField ho hd (by simp) (wpAny_pure ⟨x,rfl,hQ _ ?_ (Heap.SameBut.update ..)⟩))
 exact ⟨_,Heap.get?_update_self _ ho (Obj.isFreed_of_fields (Obj.data_mapFields hd _)),(Obj.cls_mapFields ..).trans hc,by rw [Obj.data_mapFields hd]; simp [rawInt]⟩
theorem nextR_end (hh : A.handled = none) {I t : Addr} {Q : Option Value → Shared → Prop} (hit : RevAt s.heap I t (-1))
  (hQ : ∀ h',(∀ b o,b ≠ I → s.heap.get? b = some o → h'.get? b = some o) → Q none { s with heap:=h' }) : wpAny (model prog w) A (pyNext (.ref I)) Q E s:=by
 refine nextR_of hit ?_
 obtain ⟨o,ho,hc,hd⟩:=hit
 show wpAny _ _ (field (.ref I) 0 >>= _) _ _ s
 refine wpAny_bind (wpAny_field ho hd (x:=.ref t) rfl (wpAny_bind (wpAny_field ho hd (x:=.int (-1) 0) rfl ?_)))
 dsimp only
 rw [if_pos (by decide)]
 refine wpAny_bind (wpAny_rule (wpAny_bind ?_))
 show wpAny _ _ (setField (.ref I) 1 (rawInt (-1)) >>= fun _=>setField (.ref I) 0 .none) _ _ _
 refine wpAny_bind (wpAny_setField ho hd (by simp) ?_)
 refine wpAny_setField (Heap.get?_update_self _ ho (Obj.isFreed_of_fields (Obj.data_mapFields hd _))) (Obj.data_mapFields hd _) (by simp) ?_
 refine wpAny_bind ?_
 refine wp_stop (s:={ s with heap:=_ }) (by simpa using hh) fun h' e k te=>⟨te,hQ h' fun b o hb eb=>k b o ?_⟩
 exact (Heap.get?_update_other _ _ (Ne.symm hb)).trans ((Heap.get?_update_other _ _ (Ne.symm hb)).trans eb)
theorem iterR {I t : Addr} {k : Int} (hit : RevAt s.heap I t k) {Q : Value → Shared → Prop} (h : Q (.ref I) s) : wpAny (model prog w) A (pyIter (.ref I)) Q E s:=by
 refine wpAny_pyIter_slot hit.is slot_rev_iter (wpAny_call_entry slot_rev_iter hit.is entry_rev_iter ?_ (args_rev_iter _))
 show wpAny _ _ (ret (.ref I)) _ _ s
 exact wpAny_pure ⟨_,rfl, "reversed",_,hit.is,slot_rev_next.lookup,h⟩
end
end L2
namespace L2
open PySem PySem.Spec PyProof.Rows
section
variable {prog : Program} {w : World} {A : Around} {E : Value → Shared → Prop} {s : Shared}
end
end L2
namespace L2
open PySem PySem.Spec PyProof.Rows
section
variable {X : Cx} {e : Expr} {te : TE} {xl xr : Str} {p p2 pos pos2 : Pos}
end
end L2
namespace L2
open PySem PySem.Spec PyProof.Rows
section
variable {prog : Program} {w : World} {A : Around} {E : Value → Shared → Prop} {s : Shared}
end
end L2
namespace L2
open PySem PySem.Spec PyProof.Rows
section
variable {prog : Program} {w : World} {A : Around} {E : Value → Shared → Prop} {s : Shared}
end
section
variable {X : Cx}
end
end L2
namespace L2
open PySem PySem.Spec PyProof.Rows
section
variable {X : Cx}
end
end L2
namespace L2
open PySem PySem.Spec PyProof.Rows
section
variable {X : Cx} {o lo hi : Expr} {to tl th : TE} {pos p2 : Pos}
noncomputable def gSl (to tl th : TE) : TG:=fun v σ H Q=>to σ H fun ov H1=>tl σ H1 fun a H2=>th σ H2 fun c H3=>∃ l b xs ys i j,ov = .ref l ∧ v = .ref b ∧ a = .int i ∧ c = .int j ∧ H3 l = some (.lst xs) ∧ H3 b = some (.lst ys) ∧ l ≠ b ∧ 0 ≤ i ∧ i ≤ j ∧ j ≤ (xs.length : Int) ∧
 xs.length + ys.length ≤ sizeLine ∧ Q σ (upd H3 l (.lst (xs.take i.toNat ++ ys ++ xs.drop j.toNat)))
theorem pg_slice (ho : PE X o to) (hl : PE X lo tl) (hh : PE X hi th)
  (ha : ∀ v,assign (.Subscript o (.Slice (some lo) (some hi) none p2) pos) X.env v = (do
   let ov ← holding [v] (eval o X.env)
   let iv ← holding [v,ov] (eval (.Slice (some lo) (some hi) none p2) X.env)
   standAt pos
   holding [v,ov,iv] (setItem ov iv v)
   release [iv,v,ov] []):=by intro _; rfl) : PG X (.Subscript o (.Slice (some lo) (some hi) none p2) pos) (gSl to tl th):=by
 intro pins s σ H v u Q I r h
 rw [ha]
 refine wpAny_bind (wpAny_holding (thn (ho pins s σ H _ I h) fun ov s1 hq_=>?_)); obtain ⟨x,H1,I1,r1,q1⟩:=hq_
 refine wpAny_bind (wpAny_holding ?_)
 refine wpAny_Slice (thn (hl pins s1 σ H1 _ I1 q1) fun vl s2 ⟨y,H2,I2,r2,q2⟩=>thn (hh pins s2 σ H2 _ I2 q2) fun vu s3 hq'=>?_)
 obtain ⟨z,H3,I3,r3,l,b,xs,ys,i,j,e1,e2,e3,e4,h1,h2,hne,h0,hij,hj,hz,q⟩:=hq'
 subst e1 e2 e3 e4
 cases (show ov = Value.ref l from r1)
 cases (show u = Value.ref b from r)
 refine wpAny_pure ?_
 have I4 : Inv X pins σ H3 { s3 with heap:=s3.heap.push { cls:=.type "slice",data:=.fields #[vl,vu,.none] } }:=I3.kept (t':=s3.toks) fun b o e=>Heap.get?_push_of_some _ e
 refine wpAny_bind (wpAny_standAt (wpAny_bind (wpAny_holding ?_)))
 exact set_slice I4 h1 h2 hne (Heap.IsSliceOf.new s3.heap vl vu .none) r2 r3 h0 hij hj hz fun s5 I5=>wpAny_release ⟨σ,_,I5,q⟩
end
end L2
namespace L2
open PySem PySem.Spec PyProof.Rows Builtin Builtin.Str
section
variable {prog : Program} {w : World} {A : Around} {E : Value → Shared → Prop} {s : Shared}
theorem getItem_tuple_all {t sl : Addr} {items : Array Value} {vl vu : Value} {lo hi : Option Int} {Q : Value → Shared → Prop} (ht : IsTup s.heap t items) (hs : s.heap.IsSliceOf sl vl vu .none) (pl : IsPart vl lo) (pu : IsPart vu hi)
  (hw : HT.sIx items.size 0 lo = 0 ∧ HT.sIx items.size items.size hi = items.size) (h : Q (.ref t) s) : wpAny (model prog w) A (getItem (.ref t) (.ref sl)) Q E s:=by
 obtain ⟨os,hos,hcs,hds⟩:=id hs
 have hTs : s.TypeIs (.ref sl) "slice":=⟨os,hos,hcs⟩
 unfold getItem
 try with_reducible refine wpAny_holding ?_
 first | refine wpAny_bind (wpAny_pure ?_) | skip
 refine wpAny_bind (wpAny_sequenceKey ht.typeIs (by decide) ?_)
 refine wpAny_bind (wpAny_callSpecial?_slot (name:=Str.ofString "__getitem__") ht.typeIs PyProof.Rows.slot_tuple_getitem
  (wpAny_call_entry PyProof.Rows.slot_tuple_getitem ht.typeIs PyProof.Rows.entry_tuple_getitem ?_ (PyProof.Rows.args_tuple_getitem _ _)))
 show wpAny _ _ (Builtin.Tuple.tupleItemsOf (.ref t) >>= _) _ _ s
 refine wpAny_bind (PyProof.Rows.tupleItemsOf_ ht ?_)
 refine wpAny_bind (wpAny_typeOf hTs ?_)
 rw [if_pos (by decide)]
 refine wpAny_bind (HT.sliceApplied_gen hs pl pu ?_)
 show wpAny _ _ (if (((HT.sIx items.size 0 lo : Nat) : Int) == 0 && (1 : Int) == 1 && (HT.sIx items.size items.size hi - HT.sIx items.size 0 lo) == items.size) = true then _ else _) _ _ s
 rw [hw.1,hw.2,if_pos (by simp)]
 unfold Builtin.Tuple.tupleIsExact
 refine wpAny_bind (wpAny_bind (wpAny_typeOf ht.typeIs (wpAny_pure ?_)))
 rw [if_pos (by decide)]
 first
  | exact wpAny_rule (wpAny_pure ⟨_,rfl,wpAny_pure h⟩)
  | exact wpAny_bind (wpAny_rule (wpAny_pure ⟨_,rfl,wpAny_pure h⟩))
  | exact wpAny_bind (wpAny_pure (wpAny_pure ⟨_,rfl,wpAny_pure h⟩))
end
section
variable {X : Cx}
noncomputable def rCatH : R2:=fun x y H Q=>∃ a b xs ys,x = .ref a ∧ y = .ref b ∧ H a = some (.tup xs) ∧ H b = some (.tup ys) ∧ xs.length + ys.length ≤ sizeLine ∧ ∀ r H',H' r = some (.tup (xs ++ ys)) → Same H H' → Q (.ref r) H'
theorem op_catH : OpR X (binaryOp .Add) rCatH:=by
 intro pins s σ H x y v u Q I rx ry h
 obtain ⟨a,b,xs,ys,rfl,rfl,ha',hb',hz,q⟩:=h
 have ha:=SqT.of (K:=X.K) ha'
 have hb:=SqT.of (K:=X.K) hb'
 by_cases hx : xs = []
 ·subst hx
  cases rx
  cases ry
  obtain ⟨its,r1,p1,_⟩:=I.tuple ha
  obtain ⟨its2,r2,p2,_⟩:=I.tuple hb
  have e0 : its = []:=r1.nil_iff.mpr rfl
  subst e0
  obtain ⟨⟨cls,dd,data,sl⟩,ho,hc,n,hd⟩:=id p1
  obtain ⟨⟨cls2,dd2,data2,sl2⟩,ho2,hc2,n2,hd2⟩:=id p2
  simp only at hc hd hc2 hd2
  subst hc hd hc2 hd2
  exact concat_meets ⟨_,ho,rfl⟩ ⟨_,ho2,rfl⟩ noFill_tuple_add seq_tuple_add PySem.F.slot_tuple_add PySem.F.entry_tuple_add (PySem.F.args_tuple_add_2 _ _)
   (tuple_addW0 a b ([] : List Value).toArray its2.toArray n n2 dd dd2 sl sl2 rfl) ⟨ho,ho2,.ref b,H,I,rfl,q b H hb' (Same.refl H)⟩
 ·refine op_catT pins s σ H _ _ v u Q I rx ry ⟨a,b,xs,ys,rfl,rfl,ha,hb,hx,hz,fun e=>?_,fun _ p np=>?_⟩
  ·subst e
   exact q a H (by rw [List.append_nil]; exact ha') (Same.refl H)
  ·exact q p _ upd_same fun c o e=>by rw [upd_ne (ne_of_none e np)]; exact e
noncomputable def rSlA : V → Option Int → Option Int → Hp → VK → Prop:=fun x lo hi H Q=>∃ a xs,x = .ref a ∧ H a = some (.tup xs) ∧ ∀ r H',H' r = some (.tup (cutV xs lo hi)) → Same H H' → Q (.ref r) H'
theorem sl_tupA : SlR X rSlA:=by
 intro pins s σ H x v vl vu lo hi sl Q I rx hs pl pu h
 obtain ⟨a,xs,rfl,hx',q⟩:=h
 have hx:=SqT.of (K:=X.K) hx'
 by_cases hw : HT.sIx xs.length 0 lo = 0 ∧ HT.sIx xs.length xs.length hi = xs.length
 ·cases rx
  obtain ⟨its,r,ht,hz⟩:=I.tuple hx
  have hlen : its.toArray.size = xs.length:=by rw [List.size_toArray]; exact r.length.symm
  refine ⟨"tuple",_,PyProof.Rows.slot_tuple_getitem.lookup,ht.typeIs,?_⟩
  refine getItem_tuple_all ht hs pl pu (by rw [hlen]; exact hw) ⟨.ref a,H,I,rfl,q a H ?_ (Same.refl H)⟩
  rw [hx']
  unfold cutV
  rw [hw.1,hw.2,List.drop_zero,Nat.sub_zero,List.take_length]
 ·exact sl_tup pins s σ H _ v vl vu lo hi sl Q I rx hs pl pu ⟨a,xs,rfl,hx,hw,fun p np=>q p _ upd_same fun c o e=>by rw [upd_ne (ne_of_none e np)]; exact e⟩
end
end L2
namespace L2
open PySem PySem.Spec PyProof.Rows
theorem boolC {G : Bool → Hp → Prop} {b : Bool} {H : Hp} (y : G true H) (n : b = false → G b H) : G b H:=by
 cases b
 ·exact n rfl
 ·exact y
theorem opq {A : Prop} (h : ∀ G : Prop,(A → G) → G) : A:=h A fun z=>z
section
variable {t u : TS} {D : Ends} {σ : St} {H : Hp}
theorem seqE (h : ∀ E : Ends,(∀ σ' H',u D σ' H' → E.nx σ' H') → t E σ H) : tSeq t u D σ H:=h { D with nx:=u D } fun _ _ h=>h
theorem seqF (h : ∀ F : St → Hp → Prop,(∀ σ' H',u D σ' H' → F σ' H') → t { D with nx:=F } σ H) : tSeq t u D σ H:=h _ fun _ _ h=>h
theorem ifG {c : TT} (h : ∀ F : Bool → Hp → Prop,(∀ b H',(if b = true then t D σ H' else u D σ H') → F b H') → c σ H F) : tIfS c t u D σ H:=h _ fun _ _ x=>x
theorem ifE {c : TT} (h : ∀ F : Bool → Hp → Prop,(∀ H',t D σ H' → F true H') → (∀ H',u D σ H' → F false H') → c σ H F) : tIfS c t u D σ H:=by
 refine h _ (fun H' x=>?_) fun H' x=>?_
 ·show if true = true then _ else _
  rw [if_pos rfl]; exact x
 ·show if false = true then _ else _
  rw [if_neg (by decide)]; exact x
theorem midE (R : St → Hp → Prop) (h1 : ∀ E : Ends,E.rt = D.rt → (∀ σ' H',R σ' H' → E.nx σ' H') → t E σ H) (h2 : ∀ σ' H',R σ' H' → D.nx σ' H') : tMid t D σ H:=⟨R,h1 { D with nx:=R } rfl fun _ _ h=>h,h2⟩
theorem whileE {c : TT} {tb : TS} (W : Nat → St → Hp → Prop) (m0 : Nat) (h0 : W m0 σ H)
  (hs : ∀ m σ H,∀ E : Ends,E.rt = D.rt → (∀ m' σ' H',m' < m → W m' σ' H' → E.nx σ' H') → ∀ F : Bool → Hp → Prop,(∀ H',tb E σ H' → F true H') → (∀ H',D.nx σ H' → F false H') → ∀ G : Prop,(c σ H F → G) → W m σ H → G) : tWhile c tb D σ H:=by
 refine ⟨W,⟨m0,h0⟩,fun m σ H w=>?_⟩
 refine hs m σ H { D with nx:=fun σ' H'=>∃ m',m' < m ∧ W m' σ' H',ct:=fun σ' H'=>∃ m',m' < m ∧ W m' σ' H',bk:=D.nx } rfl (fun m' σ' H' l w'=>⟨m',l,w'⟩) _ (fun H' x=>?_) (fun H' x=>?_) _ (fun z=>z) w
 ·show if true = true then _ else _
  rw [if_pos rfl]
  exact ⟨_,fun _ _ h=>h,x⟩
 ·show if false = true then _ else _
  rw [if_neg (by decide)]; exact x
noncomputable def ForW (J : It) (g : TG) (tb : TS) (D : Ends) (σ : St) (H : Hp) : Prop:=∃ W : Nat → Nat → St → Hp → Prop,(∃ m,W 0 m σ H) ∧ ∀ i m σ H,W i m σ H →
 (J.stop i H ∧ D.nx σ H) ∨ (J.go i H ∧ ∃ N : St → Hp → Prop,(∀ σ' H',N σ' H' → ∃ m',m' < m ∧ W (i + 1) m' σ' H') ∧ ∀ x H',J.yld i H x H' → g x σ H' fun σ2 H2=>tb { D with nx:=N,ct:=N,bk:=D.nx } σ2 H2)
theorem forE {wi : TI} {g : TG} {tb : TS} (h : ∀ F : It → Hp → Prop,(∀ J H',ForW J g tb D σ H' → F J H') → wi σ H F) : tFor wi g tb D σ H:=h _ fun _ _ z=>z
theorem tgE {g : TG} {x : V} {Q : St → Hp → Prop} (h : ∀ F : St → Hp → Prop,(∀ σ' H',Q σ' H' → F σ' H') → g x σ H F) : g x σ H Q:=h _ fun _ _ z=>z
theorem for_rangeE {lo : Int} {n : Nat} {g : TG} {tb : TS} {D : Ends} {σ : St} {H : Hp} (Pv : Nat → St → Hp → Prop) (h0 : Pv 0 σ H)
  (hs : ∀ E : Ends,E.rt = D.rt → ∀ i σ H,i < n → (∀ σ' H',Pv (i + 1) σ' H' → E.nx σ' H') → ∀ G : Prop,((g (.int (lo + i)) σ H fun σ2 H2=>tb E σ2 H2) → G) → Pv i σ H → G) (hd : ∀ σ H,Pv n σ H → D.nx σ H) : ForW (Itr lo n) g tb D σ H :=
 for_range Pv h0 (fun i σ H hi p=>hs { D with nx:=Pv (i + 1),ct:=Pv (i + 1),bk:=D.nx } rfl i σ H hi (fun _ _ h=>h) _ (fun z=>z) p) hd
theorem for_listE {K : PySem.W.Frag} {a : Addr} {xs : List V} {g : TG} {tb : TS} {D : Ends} {σ : St} {H : Hp} (Pv : Nat → St → Hp → Prop) (h0 : Pv 0 σ H) (hl : ∀ i σ H,i ≤ xs.length → Pv i σ H → SqL K H a xs)
  (hs : ∀ E : Ends,E.rt = D.rt → ∀ i x σ H,xs[i]? = some x → (∀ σ' H',Pv (i + 1) σ' H' → E.nx σ' H') → ∀ G : Prop,((g x σ H fun σ2 H2=>tb E σ2 H2) → G) → Pv i σ H → G) (hd : ∀ σ H,Pv xs.length σ H → D.nx σ H) : ForW (Itl K a) g tb D σ H :=
 for_list Pv h0 hl (fun i x σ H hi p=>hs { D with nx:=Pv (i + 1),ct:=Pv (i + 1),bk:=D.nx } rfl i x σ H hi (fun _ _ h=>h) _ (fun z=>z) p) hd
theorem for_tupE {K : PySem.W.Frag} {a : Addr} {xs : List V} {g : TG} {tb : TS} {D : Ends} {σ : St} {H : Hp} (Pv : Nat → St → Hp → Prop) (h0 : Pv 0 σ H) (hl : ∀ i σ H,i ≤ xs.length → Pv i σ H → SqT K H a xs)
  (hs : ∀ E : Ends,E.rt = D.rt → ∀ i x σ H,xs[i]? = some x → (∀ σ' H',Pv (i + 1) σ' H' → E.nx σ' H') → ∀ G : Prop,((g x σ H fun σ2 H2=>tb E σ2 H2) → G) → Pv i σ H → G) (hd : ∀ σ H,Pv xs.length σ H → D.nx σ H) : ForW (Itt K a) g tb D σ H :=
 for_tup Pv h0 hl (fun i x σ H hi p=>hs { D with nx:=Pv (i + 1),ct:=Pv (i + 1),bk:=D.nx } rfl i x σ H hi (fun _ _ h=>h) _ (fun z=>z) p) hd
end
end L2
namespace K17
open PySem PySem.Spec PyProof.Rows L2
noncomputable def top (i : Nat) : Stmt:=PySem.Challenge.pw_againbook_k17_deeds_of_cuts.main.body.getD i (.Pass ⟨0,0,0,0⟩)
noncomputable abbrev sBox : Stmt:=top 19
noncomputable abbrev sTake : Stmt:=top 20
noncomputable abbrev sNames : Stmt:=top 22
noncomputable def But (p : Addr) (H H' : Hp) : Prop:=∀ b o,b ≠ p → H b = some o → H' b = some o
theorem But.refl {p : Addr} {H : Hp} : But p H H:=fun _ _ _ h=>h
theorem But.trans {p : Addr} {H H1 H2 : Hp} (a : But p H H1) (b : But p H1 H2) : But p H H2:=fun c o n h=>b c o n (a c o n h)
theorem But.of_eq {p : Addr} {H H' : Hp} (h : ∀ b,b ≠ p → H' b = H b) : But p H H':=fun b o n e=>by rw [h b n]; exact e
theorem But.upd_new {p r : Addr} {H H' : Hp} {o : HO} (a : But p H H') (n : H' r = none) : But p H (upd H' r o):=fun b u nb e=>by
 have q:=a b u nb e
 rw [upd_ne (ne_of_none q n)]; exact q
theorem But.upd_own {p r : Addr} {H H' : Hp} {o : HO} (a : But p H H') (n : H r = none) : But p H (upd H' r o):=fun b u nb e=>by
 rw [upd_ne (ne_of_none e n)]; exact a b u nb e
structure BoxAt (H : Hp) (p : Addr) : Prop where
 ob : ∃ a b : Int,0 ≤ a ∧ 1 ≤ b ∧ b ≤ 2147483646 ∧ H p = some (.lst [.int a,.int b])
theorem BoxAt.eq {H H' : Hp} {p : Addr} (B : BoxAt H p) (e : H' p = H p) : BoxAt H' p:=by
 refine opq fun Gq kq=>?_
 obtain ⟨a,b,h1,h2,h3,h⟩:=B.ob
 refine kq ?_
 exact ⟨a,b,h1,h2,h3,by rw [e]; exact h⟩
theorem BoxAt.upd_new {H : Hp} {p r : Addr} {o : HO} (B : BoxAt H p) (n : H r = none) : BoxAt (upd H r o) p:=by
 refine opq fun Gq kq=>?_
 obtain ⟨a,b,h1,h2,h3,h⟩:=B.ob
 refine kq ?_
 exact B.eq (by rw [upd_ne (ne_of_none h n)])
theorem BoxAt.ne {H : Hp} {p r : Addr} (B : BoxAt H p) (n : H r = none) : r ≠ p:=by
 refine opq fun Gq kq=>?_
 obtain ⟨a,b,h1,h2,h3,h⟩:=B.ob
 refine kq ?_
 exact Ne.symm (ne_of_none h n)
noncomputable def spTake : Sp:=fun vs H Q _=>∃ (p : Addr) (w : Int),vs = [.ref p,.int w] ∧ BoxAt H p ∧ 0 < w ∧ w ≤ 1000000000000000000 ∧
 ∀ (d : Int) (H' : Hp),0 ≤ d → d < w → BoxAt H' p → (∀ b,b ≠ p → H' b = H b) → Q (.int d) H'
noncomputable def spBox (K : PySem.W.Frag) : Sp:=fun vs H Q _=>∃ (a : Addr) (ns : List Int) (k : Int),vs = [.ref a,.int k] ∧ SqL K H a (ns.map V.int) ∧ 0 ≤ k ∧ k < 1000 ∧
 ∀ (r : Addr) (H' : Hp),H r = none → BoxAt H' r → (∀ b,b ≠ r → H' b = H b) → Q (.ref r) H'
theorem ten18 : (10 : Int) ^ (18 : Int).toNat = 1000000000000000000:=by decide
theorem int_at {ns : List Int} {k : Int} (h0 : 0 ≤ k) (h1 : k < (ns.length : Int)) : ∃ v : Int,atI (ns.map V.int) k = some (.int v):=by
 have hk : k.toNat < ns.length:=om14 h0 h1
 have ek : k = ((k.toNat : Nat) : Int):=om6 h0
 have q : atI (ns.map V.int) ((k.toNat : Nat) : Int) = some (.int ns[k.toNat]):=atI_nat (by rw [List.getElem?_map,List.getElem?_eq_getElem hk]; rfl)
 rw [← ek] at q
 exact ⟨_,q⟩
section
variable {P : Program} {w : World} {K : PySem.W.Frag} {mg : Str → Option Value} {base : Heap}
theorem scTake : FnScope ["_law_box_here", "_law_wide", "_law_digit", "_law_one", "_law_mixed"] ["_law_box_here", "_law_wide"] (defScope sTake):=⟨rfl,rfl,rfl,by decide +kernel,rfl,by decide +kernel,by decide +kernel⟩
theorem ok_take {f : Addr} {fd : FuncData} (F : Fun K "_law_take" "_law_take" sTake f fd) : FnOk P w K mg base CX0 1 f fd ["_law_box_here", "_law_wide"] spTake:=by
 refine F.ok scTake (fun vs H Q E h=>?_) (fun cdv A outer s H vs Q E hr h=>?_)
 ·refine opq fun Gq kq=>?_
  obtain ⟨p,w,rfl,_⟩:=h
  refine kq ?_
  rfl
 refine opq fun Gq kq=>?_
 obtain ⟨p,wd,rfl,B,hw0,hw1,q⟩:=h
 refine kq ?_
 refine opq fun Gq kq=>?_
 obtain ⟨a,b,ha,hb1,hb2,hp⟩:=B.ob
 refine kq ?_
 refine ⟨_,pss_cons (ps_if (pt_cmpR op_gt (pe_ix ix_list (pv 0) pe_int (fun _ _=>rfl)) pe_int (nomark _))
   (pss_cons (ps_set (i:=2) scTake.nd rfl (Or.inl rfl) (pe_op op_mod (pe_ix ix_list (pv 0) pe_int (fun _ _=>rfl)) (pv 1)))
   (pss_cons (ps_asg (pe_op op_fdivB (pe_ix ix_list (pv 0) pe_int (fun _ _=>rfl)) (pv 1)) (pg_sub (pv 0) pe_int set_list))
   (pss_one (ps_ret (pv 2))))) pss_nil)
  (pss_cons (ps_set (i:=3) scTake.nd rfl (Or.inl rfl) (pe_op op_mod (pe_op op_mul (pe_ix ix_list (pv 0) pe_int (fun _ _=>rfl)) pe_int) pe_int))
  (pss_cons (ps_asg (pe_op op_add (pe_op op_mod (pe_op op_add (pe_op op_mul (pv 3) pe_int) pe_int) pe_int) pe_int) (pg_sub (pv 0) pe_int set_list))
  (pss_cons (ps_set (i:=4) scTake.nd rfl (Or.inl rfl) (pe_op op_fdivB (pe_op op_add (pe_op op_mul (pv 3) pe_int) (pe_ix ix_list (pv 0) pe_int (fun _ _=>rfl))) pe_int))
  (pss_cons (ps_if (pt_cmpR op_gt (pv 1) (pe_op op_pow pe_int pe_int) (nomark _)) (pss_one (ps_set (i:=4) scTake.nd rfl (Or.inl rfl) (pe_op op_mul (pv 4) (pv 4)))) pss_nil)
  (pss_one (ps_ret (pe_op op_mod (pv 4) (pv 1)))))))),?_⟩
 refine ⟨_,rfl,p,_,_,_,rfl,rfl,SqL.of hp,rfl,_,_,rfl,rfl,_,rfl,?_⟩
 refine ite2 (fun c=>?_) (fun c=>?_)
 ·have c' : (0 : Int) < a:=of_decide_eq_true c
  refine ⟨_,rfl,p,_,_,_,rfl,rfl,SqL.of hp,rfl,_,rfl,_,_,rfl,rfl,hw0,?_⟩
  refine ⟨_,rfl,p,_,_,_,rfl,rfl,SqL.of hp,rfl,_,rfl,_,_,rfl,rfl,⟨hw0,hw1⟩,_,rfl,p,_,_,0,rfl,rfl,hp,rfl,_,rfl,?_⟩
  refine q (a % wd) _ (Int.emod_nonneg _ (om8 hw0)) (Int.emod_lt_of_pos _ hw0) ⟨a / wd,b,Int.ediv_nonneg ha (om19 hw0),hb1,hb2,upd_same⟩ fun b n=>upd_ne n
 ·have m0 : 0 ≤ b * 69621 % 2147483647:=Int.emod_nonneg _ (by decide)
  have m1 : b * 69621 % 2147483647 < 2147483647:=Int.emod_lt_of_pos _ (by decide)
  refine ⟨_,rfl,p,_,_,_,rfl,rfl,SqL.of hp,rfl,_,_,rfl,rfl,.inr ⟨by decide,by decide⟩,_,_,rfl,rfl,(by show (0 : Int) < 2147483647; decide),?_⟩
  refine ⟨_,rfl,_,_,rfl,rfl,.inr ⟨by decide,by decide⟩,_,_,rfl,rfl,_,_,rfl,rfl,(by show (0 : Int) < 2147483646; decide),_,_,rfl,rfl,_,rfl,p,_,_,1,rfl,rfl,hp,rfl,?_⟩
  generalize hone : b * 69621 % 2147483647 = one at *
  have n0 : 0 ≤ (one * 48271 + 30103) % 2147483646:=Int.emod_nonneg _ (by decide)
  have n1 : (one * 48271 + 30103) % 2147483646 < 2147483646:=Int.emod_lt_of_pos _ (by decide)
  generalize htwo : (one * 48271 + 30103) % 2147483646 = two at *
  refine ⟨_,rfl,_,_,rfl,rfl,.inr ⟨by decide,by decide⟩,_,rfl,p,_,_,_,rfl,rfl,SqL.of upd_same,rfl,_,_,rfl,rfl,_,_,rfl,rfl,⟨by decide,by decide⟩,?_⟩
  have x0 : 0 ≤ (one * 2147483647 + (two + 1)) / 8191:=om149 m0 n0
  have x1 : (one * 2147483647 + (two + 1)) / 8191 < 18446744073709551616:=om150 m1 n1
  generalize hmix : (one * 2147483647 + (two + 1)) / 8191 = mix at *
  refine ⟨_,rfl,_,_,rfl,rfl,⟨by decide,by decide,by decide⟩,_,_,rfl,rfl,_,rfl,?_⟩
  have B2 : BoxAt (upd H p (.lst [.int a,.int (two + 1)])) p:=⟨a,two + 1,ha,om151 n0,om152 n1,upd_same⟩
  refine ite2 (fun c2=>?_) (fun c2=>?_)
  ·refine ⟨_,rfl,_,rfl,_,_,rfl,rfl,.inl ⟨by omega,by omega⟩,?_⟩
   refine ⟨_,rfl,_,rfl,_,_,rfl,rfl,hw0,?_⟩
   exact q _ _ (Int.emod_nonneg _ (om8 hw0)) (Int.emod_lt_of_pos _ hw0) B2 fun b n=>upd_ne n
  ·refine ⟨_,rfl,_,rfl,_,_,rfl,rfl,hw0,?_⟩
   exact q _ _ (Int.emod_nonneg _ (om8 hw0)) (Int.emod_lt_of_pos _ hw0) B2 fun b n=>upd_ne n
theorem scBox : FnScope ["_law_script", "_law_k", "_law_cell", "_law_seed"] ["_law_script", "_law_k"] (defScope sBox):=⟨rfl,rfl,rfl,by decide +kernel,rfl,by decide +kernel,by decide +kernel⟩
theorem ok_box {f : Addr} {fd : FuncData} (F : Fun K "_law_box" "_law_box" sBox f fd) (ml : mg "len" = none) (mi : mg "int" = none) : FnOk P w K mg base CX0 1 f fd ["_law_script", "_law_k"] (spBox K):=by
 refine F.ok scBox (fun vs H Q E h=>?_) (fun cdv A outer s H vs Q E hr h=>?_)
 ·refine opq fun Gq kq=>?_
  obtain ⟨a,ns,k,rfl,_⟩:=h
  refine kq ?_
  rfl
 refine opq fun Gq kq=>?_
 obtain ⟨a,ns,k,rfl,hS,hk0,hk1,q⟩:=h
 refine kq ?_
 refine ⟨_,pss_cons (ps_set (i:=2) scBox.nd rfl (Or.inl rfl) (pe_op op_add (pe_op op_mul pe_int (pv 1)) pe_int))
  (pss_cons (ps_if (pt_cmpR op_lt (pv 1) (pe_callB call_len_seq rfl ml PySem.boot_len (pa_cons (pv 0) pa_nil)) (nomark _))
   (pss_one (ps_set (i:=2) scBox.nd rfl (Or.inl rfl) (pe_ix ix_list (pv 0) (pv 1) (fun _ _=>rfl))))
   (pss_one (ps_if (pt_cmpR op_gt (pe_callB call_len_seq rfl ml PySem.boot_len (pa_cons (pv 0) pa_nil)) pe_int (nomark _))
    (pss_one (ps_set (i:=2) scBox.nd rfl (Or.inl rfl) (pe_op op_add (pv 2) (pe_op op_mul (pe_op op_mod (pe_ix ix_list (pv 0) (pe_op op_mod (pv 1) (pe_callB call_len_seq rfl ml PySem.boot_len (pa_cons (pv 0) pa_nil))) (fun _ _=>rfl)) pe_int) pe_int)))) pss_nil)))
  (pss_cons (ps_set (i:=3) scBox.nd rfl (Or.inl rfl) (pe_op op_add (pe_op op_mod (pe_op op_add (pe_op op_mul (pe_op op_mod (pv 2) pe_int) pe_int) (pe_op op_mul pe_int (pv 1))) pe_int) pe_int))
  (pss_one (ps_ret (pe_lst (pa_cons (pe_op op_mul (pv 2) (pe_callTy call_int1 rfl mi PyProof.Rows.boot_int (pa_cons (pe_cmpR op_ge (pv 2) (pe_op op_pow pe_int pe_int) (nomark _)) pa_nil))) (pa_cons (pv 3) pa_nil))))))),?_⟩
 have hl : (ns.map V.int).length = ns.length:=List.length_map _
 have tail : ∀ c : Int,∃ v : V,∃ x : Int,v = .int x ∧ 1 ≤ x ∧ x ≤ 2147483646 ∧ v = .int ((c % 2147483629 * 48271 + 40692 * k) % 2147483646 + 1):=fun c=>by
  have n0 : 0 ≤ (c % 2147483629 * 48271 + 40692 * k) % 2147483646:=Int.emod_nonneg _ (by decide)
  have n1 : (c % 2147483629 * 48271 + 40692 * k) % 2147483646 < 2147483646:=Int.emod_lt_of_pos _ (by decide)
  exact ⟨_,_,rfl,om50,om51,rfl⟩
 have fin : ∀ (c : Int) (r : Addr),H r = none → Q (.ref r) (upd H r (.lst [.int (c * (if decide ((10 : Int) ^ (18 : Int).toNat ≤ c) = true then 1 else 0)),.int ((c % 2147483629 * 48271 + 40692 * k) % 2147483646 + 1)])):=fun c r hn=>by
  refine q r _ hn ⟨_,_,?_,?_,?_,upd_same⟩ fun b n=>upd_ne n
  ·rw [ten18]
   by_cases h : (1000000000000000000 : Int) ≤ c
   ·rw [decide_eq_true h,if_pos rfl]; exact om153 h
   ·rw [decide_eq_false h,if_neg Bool.false_ne_true]; exact om154
  ·have n0 : 0 ≤ (c % 2147483629 * 48271 + 40692 * k) % 2147483646:=Int.emod_nonneg _ (by decide)
   exact om50
  ·have n1 : (c % 2147483629 * 48271 + 40692 * k) % 2147483646 < 2147483646:=Int.emod_lt_of_pos _ (by decide)
   exact om51
 have bnd : ∀ c : Int,CMul c (if decide ((10 : Int) ^ (18 : Int).toNat ≤ c) = true then 1 else 0):=fun c=>.inr (by split <;> decide)
 try dsimp only [cxOf,Cx.nox,Cx.wish]
 refine seqF fun F0 f0=>⟨_,rfl,_,_,rfl,rfl,.inl ⟨by decide,by decide⟩,_,_,rfl,rfl,f0 _ _ ?_⟩
 clear f0
 refine seqF fun F1 f1=>?_
 have go : ∀ c : Int,F1 [some (.ref a),some (.int k),some (.int c),none] H:=fun c=>f1 _ _ (seqF fun F2 f2=>⟨_,rfl,_,_,rfl,rfl,(by show (0 : Int) < 2147483629; decide),_,_,rfl,rfl,.inr ⟨by decide,by decide⟩,_,rfl,_,_,rfl,rfl,.inl ⟨by decide,by decide⟩,_,_,rfl,rfl,_,_,rfl,rfl,(by show (0 : Int) < 2147483646; decide),_,_,rfl,rfl,f2 _ _ (⟨_,rfl,_,rfl,_,_,rfl,rfl,⟨by decide,by decide,by decide⟩,_,_,rfl,rfl,.inr ⟨_,rfl,_,_,rfl,rfl,bnd c,_,rfl,(by exact sz2),fin c⟩⟩)⟩)
 clear f1
 refine ifG fun G g'=>⟨_,rfl,_,rfl,a,_,rfl,.inl hS,_,_,rfl,rfl,_,rfl,g' _ _ ?_⟩
 clear g'
 refine ite2 (fun c=>?_) (fun c=>?_)
 ·have c' : k < (((ns.map V.int).length : Nat) : Int):=of_decide_eq_true c
  rw [hl] at c'
  obtain ⟨v,hv⟩:=int_at (ns:=ns) hk0 c'
  exact ⟨_,rfl,_,rfl,a,_,_,_,rfl,rfl,hS,hv,go v⟩
 ·have c' : ¬ k < (((ns.map V.int).length : Nat) : Int):=of_decide_eq_false (Bool.eq_false_iff.mpr c)
  rw [hl] at c'
  refine ifG fun G g'=>⟨_,rfl,a,_,rfl,.inl hS,_,_,rfl,rfl,_,rfl,g' _ _ ?_⟩
  clear g'
  refine ite2 (fun c2=>?_) (fun c2=>?_)
  ·have c3 : (0 : Int) < (((ns.map V.int).length : Nat) : Int):=of_decide_eq_true c2
   obtain ⟨v,hv⟩:=int_at (ns:=ns) (k:=k % (((ns.map V.int).length : Nat) : Int)) (Int.emod_nonneg _ (om155 c3)) (by have:=Int.emod_lt_of_pos k c3; rw [hl] at this; rw [hl]; exact this)
   exact ⟨_,rfl,_,rfl,_,rfl,_,rfl,a,_,rfl,.inl hS,_,_,rfl,rfl,c3,a,_,_,_,rfl,rfl,hS,hv,_,_,rfl,rfl,(by show (0 : Int) < 2147483629; decide),_,_,rfl,rfl,.inr ⟨by decide,by decide⟩,_,_,rfl,rfl,go _⟩
  ·exact go _
theorem slen (i j : Str) : (i ++ j).length = i.length + j.length:=by
 show (i.cps ++ j.cps).size = i.cps.size + j.cps.size
 exact Array.size_append
theorem line_big : 1000000 ≤ sizeLine:=by rw [sizeLine_eq]; decide
theorem keepN {H : Hp} {r b : Addr} {o u : HO} (h : H b = some u) (n : H r = none) : upd H r o b = some u:=by rw [upd_ne (ne_of_none h n)]; exact h
theorem str_at {z : Str} {k : Int} (h0 : 0 ≤ k) (h1 : k < (z.length : Int)) : ∃ c : Nat,atI z.cps.toList k = some c:=by
 have hl : z.cps.toList.length = z.length:=Array.length_toList
 have hk : k.toNat < z.cps.toList.length:=om156 h0 h1 hl
 have ek : k = ((k.toNat : Nat) : Int):=om6 h0
 have q : atI z.cps.toList ((k.toNat : Nat) : Int) = some z.cps.toList[k.toNat]:=atI_nat (List.getElem?_eq_getElem hk)
 rw [← ek] at q
 exact ⟨_,q⟩
theorem txt_at {ys : List Str} {k : Int} (h0 : 0 ≤ k) (h1 : k < (ys.length : Int)) : ∃ y ∈ ys,atI (ys.map V.str) k = some (.str y):=by
 have hk : k.toNat < ys.length:=om14 h0 h1
 have ek : k = ((k.toNat : Nat) : Int):=om6 h0
 have q : atI (ys.map V.str) ((k.toNat : Nat) : Int) = some (.str ys[k.toNat]):=atI_nat (by rw [List.getElem?_map,List.getElem?_eq_getElem hk]; rfl)
 rw [← ek] at q
 exact ⟨_,List.getElem_mem hk,q⟩
noncomputable def cutS (ss : List Str) (lo hi : Option Int) : List Str:=(ss.drop (HT.sIx ss.length 0 lo)).take (HT.sIx ss.length ss.length hi - HT.sIx ss.length 0 lo)
theorem cut_strs (ss : List Str) (lo hi : Option Int) : cutV (ss.map V.str) lo hi = (cutS ss lo hi).map V.str:=by
 unfold cutV cutS
 rw [List.length_map,List.map_take,List.map_drop]
theorem cutS_mem {ss : List Str} {lo hi : Option Int} {y : Str} (h : y ∈ cutS ss lo hi) : y ∈ ss:=List.mem_of_mem_drop (List.mem_of_mem_take h)
theorem cutS_len (ss : List Str) (lo hi : Option Int) : (cutS ss lo hi).length ≤ ss.length:=by
 unfold cutS
 rw [List.length_take,List.length_drop]
 exact om42
theorem sum_le1 : ∀ {ys : List Str},(∀ y ∈ ys,y.length ≤ 1) → (ys.map (·.length)).sum ≤ ys.length
 | [],_=>Nat.le_refl _
 | y :: r,h=>by
  have h1:=h y List.mem_cons_self
  have h2:=sum_le1 (ys:=r) fun z hz=>h z (List.mem_cons_of_mem _ hz)
  rw [List.map_cons,List.sum_cons,List.length_cons]
  exact om157 h1 h2
theorem join_le {z : Str} {ys : List Str} (hz : z.length = 0) (h : ∀ y ∈ ys,y.length ≤ 1) : (Txt.join z ys).length ≤ ys.length:=by
 show (Builtin.Str.glued z ys).length ≤ _
 rw [size_glued,hz,Nat.mul_zero,Nat.add_zero]
 exact sum_le1 h
noncomputable def letters : Str:="abcdefghijklmnopqrstuvwxyz"
theorem letters_len : letters.length = 26:=by decide +kernel
noncomputable def spNames : Sp:=fun vs H Q _=>∃ (p : Addr) (n : Int),vs = [.ref p,.int n] ∧ BoxAt H p ∧ 1 ≤ n ∧ n ≤ 20 ∧
 ∀ (r : Addr) (ys : List Str) (H' : Hp),H r = none → H' r = some (.lst (ys.map V.str)) → (ys.length : Int) = n → (∀ y ∈ ys,y.length ≤ 20) → BoxAt H' p → But p H H' → Q (.ref r) H'
theorem scNames : FnScope ["_law_box_here", "_law_total", "_law_letters", "_law_wide", "_law_spot_here", "_law_signs", "_law_first", "_law_form", "_law_found", "_law_k", "_law_one", "_law_word", "_law_some", "_law_odd"] ["_law_box_here", "_law_total"] (defScope sNames):=⟨rfl,rfl,rfl,by decide +kernel,rfl,by decide +kernel,by decide +kernel⟩
noncomputable def scopeN__law_k : Scope:={ kind:=.function,names:=[(".0",.local),("_law_k",.local),("_law_take",.globalImplicit),("_law_box_here",.free),("_law_letters",.free)],isGenerator:=false,isCoroutine:=false }
theorem ndN__law_k : (["_law_k", "_law_box_here", "_law_letters"] : List Str).Nodup:=by decide +kernel
theorem csN__law_k : CompSc ["_law_box_here", "_law_total", "_law_letters", "_law_wide", "_law_spot_here", "_law_signs", "_law_first", "_law_form", "_law_found", "_law_k", "_law_one", "_law_word", "_law_some", "_law_odd"] (defScope sNames) scopeN__law_k ["_law_k", "_law_box_here", "_law_letters"] 1 [0,2]:=⟨by decide +kernel,rfl,by decide +kernel,by decide +kernel,by decide +kernel,rfl,by decide +kernel⟩
noncomputable def scopeN__law_j : Scope:={ kind:=.function,names:=[(".0",.local),("_law_j",.local),("_law_take",.globalImplicit),("_law_box_here",.free),("_law_letters",.free)],isGenerator:=false,isCoroutine:=false }
theorem ndN__law_j : (["_law_j", "_law_box_here", "_law_letters"] : List Str).Nodup:=by decide +kernel
theorem csN__law_j : CompSc ["_law_box_here", "_law_total", "_law_letters", "_law_wide", "_law_spot_here", "_law_signs", "_law_first", "_law_form", "_law_found", "_law_k", "_law_one", "_law_word", "_law_some", "_law_odd"] (defScope sNames) scopeN__law_j ["_law_j", "_law_box_here", "_law_letters"] 1 [0,2]:=⟨by decide +kernel,rfl,by decide +kernel,by decide +kernel,by decide +kernel,rfl,by decide +kernel⟩
theorem draw_letters {p : Addr} {n : Nat} {H0 : Hp} {Qf : List V → Hp → Prop} (hn : n ≤ 20) (B : BoxAt H0 p)
  (hd : ∀ (ss : List Str) (H' : Hp),ss.length = n → (∀ s ∈ ss,s.length ≤ 1) → BoxAt H' p → (∀ b,b ≠ p → H' b = H0 b) → Qf (ss.map V.str) H') :
  CompR (Itr 0 n) 1 [some (.ref p),some (.str letters)] (gName 0) tAll (tOp rIxS (tVar 2) (tCall spTake [] E0 (tCons (tVar 1) (tCons (tC (.int 26)) tNil)))) Qf H0:=by
 refine compR_range (fun i ys H'=>∃ ss : List Str,ys = ss.map V.str ∧ ss.length = i ∧ (∀ s ∈ ss,s.length ≤ 1) ∧ BoxAt H' p ∧ ∀ b,b ≠ p → H' b = H0 b)
  ⟨[],rfl,rfl,(fun _ h=>nomatch h),B,fun _ _=>rfl⟩ (Nat.le_trans hn (by decide)) (fun i ys H' ⟨ss,e,l,_⟩=>by rw [e,List.length_map,l]; exact Nat.le_refl _) ?_ ?_
 ·intro i ys H' hi hq'
  refine opq fun Gq kq=>?_
  obtain ⟨ss,rfl,hl,h1,B',e'⟩:=hq'
  refine kq ?_
  refine ⟨_,rfl,_,rfl,p,26,rfl,B',by decide,by decide,fun d H2 d0 d1 B2 e2=>?_⟩
  obtain ⟨c,hc⟩:=str_at (z:=letters) d0 (by rw [letters_len]; exact d1)
  refine ⟨_,_,c,rfl,rfl,by decide,hc,ss ++ [⟨#[c]⟩],by rw [List.map_append]; rfl,by rw [List.length_append,hl]; rfl,fun s hs=>?_,B2,fun b nb=>(e2 b nb).trans (e' b nb)⟩
  rcases List.mem_append.mp hs with hs | hs
  ·exact h1 s hs
  ·rw [List.mem_singleton.mp hs]; exact Nat.le_refl 1
 ·intro ys H' hq'
  refine opq fun Gq kq=>?_
  obtain ⟨ss,rfl,hl,h1,B',e'⟩:=hq'
  refine kq ?_
  exact hd ss H' hl h1 B' e'
noncomputable def Rw (p g r : Addr) (n d1 d2 d4 d5 : Int) (i c : Nat) (ss ys : List Str) (H : Hp) (L : Nat) : L2.St → Hp → Prop:=fun σ' H'=>∃ w1 : Str,w1.length ≤ L ∧
 σ' = [some (.ref p),some (.int n),some (.str letters),some (.int (1 + d1)),some (.int d2),some (.ref g),some (.int d4),some (.int d5),some (.ref r),some (.int (0 + (i : Int))),some (.str ⟨#[c]⟩),some (.str w1),none,none] ∧
 H' g = some (.lst (ss.map V.str)) ∧ H' r = some (.lst (ys.map V.str)) ∧ BoxAt H' p ∧ But p H H'
noncomputable def Rf (p r : Addr) (n : Int) (H : Hp) : L2.St → Hp → Prop:=fun σ' H'=>σ'[8]? = some (some (.ref r)) ∧ ∃ ys : List Str,H' r = some (.lst (ys.map V.str)) ∧ (ys.length : Int) = n ∧ (∀ y ∈ ys,y.length ≤ 20) ∧ BoxAt H' p ∧ But p H H'
theorem flat_strs (ys : List Str) : (ys.map V.str).all flatV = true:=by
 rw [List.all_eq_true]
 intro v hv
 obtain ⟨y,_,rfl⟩:=List.mem_map.mp hv
 rfl
theorem set_strs (ys : List Str) (j : Nat) (y : Str) : (ys.map V.str).set j (V.str y) = (ys.set j y).map V.str:=(List.map_set ..).symm
inductive NI (p g r : Addr) (n d1 d2 d4 d5 : Int) (ss : List Str) (H : Hp) (i : Nat) (σ : L2.St) (H' : Hp) : Prop
 | mk (ok oo ow : Option V) (ys : List Str) (e0 : σ = [some (.ref p),some (.int n),some (.str letters),some (.int (1 + d1)),some (.int d2),some (.ref g),some (.int d4),some (.int d5),some (.ref r),ok,oo,ow,none,none]) (e1 : H' g = some (.lst (ss.map V.str))) (e2 : H' r = some (.lst (ys.map V.str))) (e3 : ys.length = i) (e4 : (∀ y ∈ ys,y.length ≤ 20)) (e5 : BoxAt H' p) (e6 : But p H H') : NI p g r n d1 d2 d4 d5 ss H i σ H'
theorem ok_names {f fT : Addr} {fd fdT : FuncData} (F : Fun K "_law_names" "_law_names" sNames f fd) (GT : FnOk P w K mg base CX0 1 fT fdT ["_law_box_here", "_law_wide"] spTake) (bT : Binds K fdT ["_law_box_here", "_law_wide"] []) (kT : PySem.W.keepIn K (.ref fT) = true)
  (mT : mg "_law_take" = some (.ref fT)) (mr : mg "range" = none) : FnOk P w K mg base CX0 2 f fd ["_law_box_here", "_law_total"] spNames:=by
 refine F.ok scNames (fun vs H Q E h=>?_) (fun cdv A outer s H vs Q E hr h=>?_)
 ·refine opq fun Gq kq=>?_
  obtain ⟨p,n,rfl,_⟩:=h
  refine kq ?_
  rfl
 refine opq fun Gq kq=>?_
 obtain ⟨p,n,rfl,B,hn0,hn1,q⟩:=h
 refine kq ?_
 refine ⟨_,(@pss_cons _ _ _ _ _ (@ps_set _ _ (2) _ _ _ _ scNames.nd rfl (Or.inr rfl) (@pe_str _ _ _ _) (by rfl) (.inl rfl)) (@pss_cons _ _ _ _ _ (@ps_set _ _ (3) _ _ _ _ scNames.nd rfl (Or.inl rfl) (@pe_op _ _ _ _ _ _ _ _ op_add (@pe_int _ _ _ _) (@pe_call _ _ _ _ _ _ _ _ _ _ _ _ _ _ _ _ GT hr rfl mT kT bT .nil pass0 (@pa_cons _ _ _ _ _ (@pv _ 0 _ _ (by rfl) (.inr (.inl rfl)) (by decide) (by decide)) (@pa_cons _ _ _ _ _ (@pe_int _ _ _ _) (@pa_nil _) (by rfl)) (by rfl)) (by decide) (by rfl) (by rfl))) (by rfl) (.inl rfl)) (@pss_cons _ _ _ _ _ (@ps_set _ _ (4) _ _ _ _ scNames.nd rfl (Or.inl rfl) (@pe_call _ _ _ _ _ _ _ _ _ _ _ _ _ _ _ _ GT hr rfl mT kT bT .nil pass0 (@pa_cons _ _ _ _ _ (@pv _ 0 _ _ (by rfl) (.inr (.inl rfl)) (by decide) (by decide)) (@pa_cons _ _ _ _ _ (@pv _ 3 _ _ (by rfl) (.inl rfl) (by decide) (by decide)) (@pa_nil _) (by rfl)) (by rfl)) (by decide) (by rfl) (by rfl)) (by rfl) (.inl rfl)) (@pss_cons _ _ _ _ _ (@ps_setC _ _ _ _ _ _ _ _ _ _ (5) (["_law_k", "_law_box_here", "_law_letters"]) (1) ([0,2]) _ _ _ _ scNames.nd rfl (Or.inl rfl) rfl (@pi_range1 _ _ _ _ _ _ rfl mr (@pa_cons _ _ _ _ _ (@pv _ 3 _ _ (by rfl) (by first | exact Or.inl rfl | exact Or.inr (Or.inl rfl) | exact Or.inr (Or.inr rfl)) (by decide) (by decide)) (@pa_nil _) (by rfl)) (by rfl)) csN__law_k (fun _ _ _ _ _=>(@pg_name _ _ (0) _ ndN__law_k rfl (Or.inl rfl) (by first | exact .inl rfl | exact .inr rfl))) (fun _ _ _ _ _=>(@pf_nil _)) (fun _ _ _ _ _=>(@pe_ix _ _ _ _ _ _ _ ix_str (@pv _ 2 _ _ (by rfl) (by first | exact Or.inl rfl | exact Or.inr (Or.inl rfl) | exact Or.inr (Or.inr rfl)) (by decide) (by decide)) (@pe_call _ _ _ _ _ _ _ _ _ _ _ _ _ _ _ _ GT hr rfl mT kT bT .nil pass0 (@pa_cons _ _ _ _ _ (@pv _ 1 _ _ (by rfl) (by first | exact Or.inl rfl | exact Or.inr (Or.inl rfl) | exact Or.inr (Or.inr rfl)) (by decide) (by decide)) (@pa_cons _ _ _ _ _ (@pe_int _ _ _ _) (@pa_nil _) (by rfl)) (by rfl)) (by decide) (by rfl) (by rfl)) (fun _ _=>rfl))) (by rfl) (by first | exact .inl rfl | exact .inr rfl) (by intro _; rfl)) (@pss_cons _ _ _ _ _ (@ps_set _ _ (6) _ _ _ _ scNames.nd rfl (Or.inl rfl) (@pe_call _ _ _ _ _ _ _ _ _ _ _ _ _ _ _ _ GT hr rfl mT kT bT .nil pass0 (@pa_cons _ _ _ _ _ (@pv _ 0 _ _ (by rfl) (.inr (.inl rfl)) (by decide) (by decide)) (@pa_cons _ _ _ _ _ (@pe_int _ _ _ _) (@pa_nil _) (by rfl)) (by rfl)) (by decide) (by rfl) (by rfl)) (by rfl) (.inl rfl)) (@pss_cons _ _ _ _ _ (@ps_set _ _ (7) _ _ _ _ scNames.nd rfl (Or.inl rfl) (@pe_call _ _ _ _ _ _ _ _ _ _ _ _ _ _ _ _ GT hr rfl mT kT bT .nil pass0 (@pa_cons _ _ _ _ _ (@pv _ 0 _ _ (by rfl) (.inr (.inl rfl)) (by decide) (by decide)) (@pa_cons _ _ _ _ _ (@pe_int _ _ _ _) (@pa_nil _) (by rfl)) (by rfl)) (by decide) (by rfl) (by rfl)) (by rfl) (.inl rfl)) (@pss_cons _ _ _ _ _ (@ps_set _ _ (8) _ _ _ _ scNames.nd rfl (Or.inl rfl) (@pe_lst _ _ _ _ (@pa_nil _)) (by rfl) (.inl rfl)) (@pss_cons _ _ _ _ _ (@ps_for _ _ _ _ _ _ _ _ PassesOwn.never rfl (@pi_range1 _ _ _ _ _ _ rfl mr (@pa_cons _ _ _ _ _ (@pv _ 1 _ _ (by rfl) (.inl rfl) (by decide) (by decide)) (@pa_nil _) (by rfl)) (by rfl)) (@pg_name _ _ (9) _ scNames.nd rfl (Or.inl rfl) (.inl rfl)) (@pss_cons _ _ _ _ _ (@ps_set _ _ (10) _ _ _ _ scNames.nd rfl (Or.inl rfl) (@pe_ix _ _ _ _ _ _ _ ix_str (@pv _ 2 _ _ (by rfl) (.inr (.inl rfl)) (by decide) (by decide)) (@pe_op _ _ _ _ _ _ _ _ op_mod (@pe_op _ _ _ _ _ _ _ _ op_add (@pv _ 6 _ _ (by rfl) (.inl rfl) (by decide) (by decide)) (@pe_op _ _ _ _ _ _ _ _ op_mul (@pe_int _ _ _ _) (@pv _ 9 _ _ (by rfl) (.inl rfl) (by decide) (by decide)))) (@pe_int _ _ _ _)) (fun _ _=>rfl)) (by rfl) (.inl rfl)) (@pss_cons _ _ _ _ _ (@ps_mid _ _ _ (@ps_set _ _ (11) _ _ _ _ scNames.nd rfl (Or.inl rfl) (@pe_op _ _ _ _ _ _ _ _ op_add_str (@pe_op _ _ _ _ _ _ _ _ op_add_str (@pe_bm _ _ _ _ _ _ _ _ _ _ _ _ PySem.F.plainAttrs_str PySem.F.slot_str_join PySem.F.type_str_join mt_join (@pe_str _ _ _ _) (@pa_cons _ _ _ _ _ (@pe_slice _ _ _ _ _ _ _ _ _ _ sl_list (@pv _ 5 _ _ (by rfl) (.inl rfl) (by decide) (by decide)) (@po_none _) (@po_some _ _ _ (@pv _ 4 _ _ (by rfl) (.inl rfl) (by decide) (by decide)))) (@pa_nil _) (by rfl)) (by rfl) (by rfl) (by rfl) (by rfl) (by rfl)) (@pv _ 10 _ _ (by rfl) (.inl rfl) (by decide) (by decide))) (@pe_bm _ _ _ _ _ _ _ _ _ _ _ _ PySem.F.plainAttrs_str PySem.F.slot_str_join PySem.F.type_str_join mt_join (@pe_str _ _ _ _) (@pa_cons _ _ _ _ _ (@pe_slice _ _ _ _ _ _ _ _ _ _ sl_list (@pv _ 5 _ _ (by rfl) (.inl rfl) (by decide) (by decide)) (@po_some _ _ _ (@pe_op _ _ _ _ _ _ _ _ op_add (@pv _ 4 _ _ (by rfl) (.inl rfl) (by decide) (by decide)) (@pe_int _ _ _ _))) (@po_none _)) (@pa_nil _) (by rfl)) (by rfl) (by rfl) (by rfl) (by rfl) (by rfl))) (by rfl) (.inl rfl))) (@pss_cons _ _ _ _ _ (@ps_mid _ _ _ (@ps_if _ _ _ _ _ _ _ _ (@PW.pt _ _ _ (@pw_and _ _ _ _ _ _ _ (@pt_cmpR _ _ _ _ _ _ _ _ op_eq (@pv _ 7 _ _ (by rfl) (.inl rfl) (by decide) (by decide)) (@pe_int _ _ _ _) (@nomark _ _ (by decide) (by decide))) (@pw_and1 _ _ _ _ (@pt_cmpR _ _ _ _ _ _ _ _ op_eq (@pe_op _ _ _ _ _ _ _ _ op_mod (@pv _ 9 _ _ (by rfl) (.inl rfl) (by decide) (by decide)) (@pe_int _ _ _ _)) (@pe_int _ _ _ _) (@nomark _ _ (by decide) (by decide)))))) (@pss_one _ _ _ (@ps_set _ _ (11) _ _ _ _ scNames.nd rfl (Or.inl rfl) (@pe_op _ _ _ _ _ _ _ _ op_add_str (@pv _ 11 _ _ (by rfl) (.inl rfl) (by decide) (by decide)) (@pe_str _ _ _ _)) (by rfl) (.inl rfl))) (@pss_nil _))) (@pss_cons _ _ _ _ _ (@ps_mid _ _ _ (@ps_if _ _ _ _ _ _ _ _ (@pt_cmpR _ _ _ _ _ _ _ _ op_eq (@pv _ 7 _ _ (by rfl) (.inl rfl) (by decide) (by decide)) (@pe_int _ _ _ _) (@nomark _ _ (by decide) (by decide))) (@pss_one _ _ _ (@ps_set _ _ (11) _ _ _ _ scNames.nd rfl (Or.inl rfl) (@pe_op _ _ _ _ _ _ _ _ op_add_str (@pe_bm _ _ _ _ _ _ _ _ _ _ _ _ PySem.F.plainAttrs_str PySem.F.slot_str_join PySem.F.type_str_join mt_join (@pe_str _ _ _ _) (@pa_cons _ _ _ _ _ (@pe_comp _ _ _ _ _ _ _ (["_law_j", "_law_box_here", "_law_letters"]) (1) ([0,2]) _ _ _ _ rfl (@pi_range1 _ _ _ _ _ _ rfl mr (@pa_cons _ _ _ _ _ (@pe_call _ _ _ _ _ _ _ _ _ _ _ _ _ _ _ _ GT hr rfl mT kT bT .nil pass0 (@pa_cons _ _ _ _ _ (@pv _ 0 _ _ (by rfl) (by first | exact Or.inl rfl | exact Or.inr (Or.inl rfl) | exact Or.inr (Or.inr rfl)) (by decide) (by decide)) (@pa_cons _ _ _ _ _ (@pe_int _ _ _ _) (@pa_nil _) (by rfl)) (by rfl)) (by decide) (by rfl) (by rfl)) (@pa_nil _) (by rfl)) (by rfl)) csN__law_j (fun _ _ _ _ _=>(@pg_name _ _ (0) _ ndN__law_j rfl (Or.inl rfl) (by first | exact .inl rfl | exact .inr rfl))) (fun _ _ _ _ _=>(@pf_nil _)) (fun _ _ _ _ _=>(@pe_ix _ _ _ _ _ _ _ ix_str (@pv _ 2 _ _ (by rfl) (by first | exact Or.inl rfl | exact Or.inr (Or.inl rfl) | exact Or.inr (Or.inr rfl)) (by decide) (by decide)) (@pe_call _ _ _ _ _ _ _ _ _ _ _ _ _ _ _ _ GT hr rfl mT kT bT .nil pass0 (@pa_cons _ _ _ _ _ (@pv _ 1 _ _ (by rfl) (by first | exact Or.inl rfl | exact Or.inr (Or.inl rfl) | exact Or.inr (Or.inr rfl)) (by decide) (by decide)) (@pa_cons _ _ _ _ _ (@pe_int _ _ _ _) (@pa_nil _) (by rfl)) (by rfl)) (by decide) (by rfl) (by rfl)) (fun _ _=>rfl))) (by intro _; rfl)) (@pa_nil _) (by rfl)) (by rfl) (by rfl) (by rfl) (by rfl) (by rfl)) (@pv _ 10 _ _ (by rfl) (.inl rfl) (by decide) (by decide))) (by rfl) (.inl rfl))) (@pss_nil _))) (@pss_cons _ _ _ _ _ (@ps_mid _ _ _ (@ps_if _ _ _ _ _ _ _ _ (@pt_cmpR _ _ _ _ _ _ _ _ op_in_seq (@pv _ 11 _ _ (by rfl) (.inl rfl) (by decide) (by decide)) (@pe_tup _ _ _ _ _ (@pa_csts _ _ (by rfl))) rfl) (@pss_one _ _ _ (@ps_set _ _ (11) _ _ _ _ scNames.nd rfl (Or.inl rfl) (@pe_op _ _ _ _ _ _ _ _ op_add_str (@pe_str _ _ _ _) (@pv _ 10 _ _ (by rfl) (.inl rfl) (by decide) (by decide))) (by rfl) (.inl rfl))) (@pss_nil _))) (@pss_one _ _ _ (@ps_expr _ _ _ _ (@pe_bm _ _ _ _ _ _ _ _ _ _ _ _ PySem.F.plainAttrs_list PySem.F.slot_list_append PySem.F.type_list_append mt_append (@pv _ 8 _ _ (by rfl) (.inl rfl) (by decide) (by decide)) (@pa_cons _ _ _ _ _ (@pv _ 11 _ _ (by rfl) (.inl rfl) (by decide) (by decide)) (@pa_nil _) (by rfl)) (by rfl) (by rfl) (by rfl) (by rfl) (by rfl)) (by rfl)))))))) (by intro _; rfl)) (@pss_cons _ _ _ _ _ (@ps_mid _ _ _ (@ps_if _ _ _ _ _ _ _ _ (@pt_cmpR _ _ _ _ _ _ _ _ op_eq (@pe_call _ _ _ _ _ _ _ _ _ _ _ _ _ _ _ _ GT hr rfl mT kT bT .nil pass0 (@pa_cons _ _ _ _ _ (@pv _ 0 _ _ (by rfl) (.inr (.inl rfl)) (by decide) (by decide)) (@pa_cons _ _ _ _ _ (@pe_int _ _ _ _) (@pa_nil _) (by rfl)) (by rfl)) (by decide) (by rfl) (by rfl)) (@pe_int _ _ _ _) (@nomark _ _ (by decide) (by decide))) (@pss_cons _ _ _ _ _ (@ps_set _ _ (12) _ _ _ _ scNames.nd rfl (Or.inl rfl) (@pe_lst _ _ _ _ (@pa_csts _ _ (by rfl))) (by rfl) (.inl rfl)) (@pss_cons _ _ _ _ _ (@ps_set _ _ (13) _ _ _ _ scNames.nd rfl (Or.inl rfl) (@pe_ix _ _ _ _ _ _ _ ix_list (@pv _ 12 _ _ (by rfl) (.inl rfl) (by decide) (by decide)) (@pe_call _ _ _ _ _ _ _ _ _ _ _ _ _ _ _ _ GT hr rfl mT kT bT .nil pass0 (@pa_cons _ _ _ _ _ (@pv _ 0 _ _ (by rfl) (.inr (.inl rfl)) (by decide) (by decide)) (@pa_cons _ _ _ _ _ (@pe_int _ _ _ _) (@pa_nil _) (by rfl)) (by rfl)) (by decide) (by rfl) (by rfl)) (fun _ _=>rfl)) (by rfl) (.inl rfl)) (@pss_one _ _ _ (@ps_if _ _ _ _ _ _ _ _ (@pt_cmpR _ _ _ _ _ _ _ _ op_notIn_seq (@pv _ 13 _ _ (by rfl) (.inl rfl) (by decide) (by decide)) (@pv _ 8 _ _ (by rfl) (.inl rfl) (by decide) (by decide)) rfl) (@pss_one _ _ _ (@ps_asg _ _ _ _ _ _ (@pv _ 13 _ _ (by rfl) (.inl rfl) (by decide) (by decide)) (@pg_sub _ _ _ _ _ _ _ (@pv _ 8 _ _ (by rfl) (.inl rfl) (by decide) (by decide)) (@pe_call _ _ _ _ _ _ _ _ _ _ _ _ _ _ _ _ GT hr rfl mT kT bT .nil pass0 (@pa_cons _ _ _ _ _ (@pv _ 0 _ _ (by rfl) (.inr (.inl rfl)) (by decide) (by decide)) (@pa_cons _ _ _ _ _ (@pv _ 1 _ _ (by rfl) (.inl rfl) (by decide) (by decide)) (@pa_nil _) (by rfl)) (by rfl)) (by decide) (by rfl) (by rfl)) set_list (by intro _; rfl)) (by rfl) (by rfl) (by rfl))) (@pss_nil _))))) (@pss_nil _))) (@pss_one _ _ _ (@ps_ret _ _ _ _ (@pv _ 8 _ _ (by rfl) (.inl rfl) (by decide) (by decide))))))))))))),?_⟩
 try dsimp only [cxOf,Cx.nox,Cx.wish]
 refine seqE fun E0 f0=>f0 _ _ ?_
 refine seqE fun E1 f1=>⟨_,rfl,p,6,rfl,B,by decide,by decide,fun d1 H1 d10 d11 B1 e1=>⟨_,_,rfl,rfl,f1 _ _ ?_⟩⟩
 refine seqE fun E2 f2=>⟨_,rfl,_,rfl,p,_,rfl,B1,om158 d10,om159 d11,fun d2 H2 d20 d21 B2 e2=>f2 _ _ ?_⟩
 clear f0 f1 f2
 refine seqE fun E1 f1=>⟨_,rfl,_,rfl,by omega,by omega,?_⟩
 refine draw_letters (p:=p) (om160 d11) B2 fun ss H3 hss1 hss2 B3 e3 g hg=>f1 _ _ ?_
 clear f1
 have k3 : But p H H3:=(But.of_eq e1).trans ((But.of_eq e2).trans (But.of_eq e3))
 have hgp : g ≠ p:=B3.ne hg
 refine seqE fun E1 f1=>⟨_,rfl,p,26,rfl,B3.upd_new hg,by decide,by decide,fun d4 H4 d40 d41 B4 e4=>f1 _ _ ?_⟩
 refine seqE fun E2 f2=>⟨_,rfl,p,3,rfl,B4,by decide,by decide,fun d5 H5 d50 d51 B5 e5=>f2 _ _ ?_⟩
 clear f1 f2
 have hg5 : H5 g = some (.lst (ss.map V.str)):=by rw [e5 g hgp,e4 g hgp]; exact upd_same
 have k5 : But p H H5:=(k3.upd_new hg).trans ((But.of_eq e4).trans (But.of_eq e5))
 refine seqE fun E1 f1=>⟨(by decide),fun r hr5=>f1 _ _ ?_⟩
 clear f1
 have hrp : r ≠ p:=B5.ne hr5
 have hrg : g ≠ r:=ne_of_none hg5 hr5
 have nog : H g = none:=by
  cases z : H g with
  | none=>rfl
  | some o=>have:=k3 g o hgp z; rw [hg] at this; cases this
 have nor : H r = none:=by
  cases z : H r with
  | none=>rfl
  | some o=>have:=k5 r o hrp z; rw [hr5] at this; cases this
 have big:=line_big
 refine seqE fun E1 f1=>forE fun J j=>⟨_,rfl,_,rfl,by omega,by omega,j _ _ ?_⟩
 clear j
 refine for_rangeE (lo:=0) (NI p g r n d1 d2 d4 d5 ss H) ⟨none,none,none,[],rfl,keepN hg5 hr5,upd_same,rfl,(fun _ h=>nomatch h),B5.upd_new hr5,k5.upd_new hr5⟩ ?_ ?_
 ·intro E0 _ i σ H' hi fE Gq kq hq'
  obtain ⟨ok,oo,ow,ys,rfl,hg',hr',hyl,hy,B',k'⟩:=hq'
  clear f1
  obtain ⟨c,hc⟩:=str_at (z:=letters) (k:=(d4 + 5 * (0 + (i : Int))) % 26) (Int.emod_nonneg _ (by decide)) (by rw [letters_len]; exact Int.emod_lt_of_pos _ (by decide))
  refine kq ?_
  show tSeq (tAsg _ _) _ E0 _ _
  refine seqE fun E1 f1=>⟨_,rfl,_,rfl,_,rfl,_,_,rfl,rfl,.inl ⟨by decide,by decide⟩,_,_,rfl,rfl,_,_,rfl,rfl,(by show (0 : Int) < 26; decide),_,_,c,rfl,rfl,by decide,hc,f1 _ _ ?_⟩
  clear f1
  have h1c : (⟨#[c]⟩ : Str).length = 1:=rfl
  refine seqE fun E1 f1=>midE (Rw p g r n d1 d2 d4 d5 i c ss ys H 13) (fun E2 _ fm=>?_) fun σ' H1 hq'=>?_
  ·clear f1 fE
   refine ⟨rfl,_,rfl,_,rfl,_,rfl,g,_,rfl,SqL.of hg',fun s1 n1=>?_⟩
   have z1:=sum_le1 (ys:=cutS ss none (some d2)) fun y hy=>hss2 y (cutS_mem hy)
   have z2:=cutS_len ss none (some d2)
   refine ⟨_,s1,cutS ss none (some d2),rfl,rfl,SqL.of (by rw [upd_same,cut_strs]),by decide,om52 d11 hss1 z1 z2,?_⟩
   have j1:=join_le (z:="") (ys:=cutS ss none (some d2)) (by decide +kernel) fun y hy=>hss2 y (cutS_mem hy)
   refine ⟨_,rfl,_,_,rfl,rfl,om161 d11 hss1 big h1c z2 j1,?_⟩
   refine ⟨rfl,_,rfl,_,rfl,_,_,rfl,rfl,_,rfl,g,_,rfl,SqL.of (keepN hg' n1),fun s2 n2=>?_⟩
   have z3:=sum_le1 (ys:=cutS ss (some (d2 + 1)) none) fun y hy=>hss2 y (cutS_mem hy)
   have z4:=cutS_len ss (some (d2 + 1)) none
   refine ⟨_,s2,cutS ss (some (d2 + 1)) none,rfl,rfl,SqL.of (by rw [upd_same,cut_strs]),by decide,om52 d11 hss1 z3 z4,?_⟩
   have j2:=join_le (z:="") (ys:=cutS ss (some (d2 + 1)) none) (by decide +kernel) fun y hy=>hss2 y (cutS_mem hy)
   refine ⟨_,_,rfl,rfl,by rw [slen]; exact om162 d11 hss1 big h1c z2 j1 z4 j2,?_⟩
   exact fm _ _ ⟨_,by rw [slen,slen]; exact om163 d11 hss1 h1c z2 j1 z4 j2,rfl,keepN (keepN hg' n1) n2,keepN (keepN hr' n1) n2,(B'.upd_new n1).upd_new n2,(k'.upd_new n1).upd_new n2⟩
  obtain ⟨w1,hw1,rfl,g1,r1,B1,k1⟩:=hq'
  refine f1 _ _ ?_
  clear f1
  refine seqE fun E1 f1=>midE (Rw p g r n d1 d2 d4 d5 i c ss ys H 14) (fun E2 _ fm=>?_) fun σ' H2 hq'=>?_
  ·clear f1 fE
   refine ⟨_,rfl,rfl,_,rfl,?_⟩
   refine ite2 (fun ca=>?_) (fun ca=>?_)
   ·refine ⟨_,rfl,_,_,rfl,rfl,(by show (0 : Int) < 2; decide),rfl,_,rfl,?_⟩
    refine ite2 (fun cb=>?_) (fun cb=>?_)
    ·have hz : (Str.ofString "z").length = 1:=by decide +kernel
     refine ⟨_,rfl,_,_,rfl,rfl,by rw [hz]; exact om164 big hw1,?_⟩
     exact fm _ _ ⟨_,by rw [slen,hz]; exact om165 hw1,rfl,g1,r1,B1,k1⟩
    ·exact fm _ _ ⟨w1,om53 hw1,rfl,g1,r1,B1,k1⟩
   ·exact iteF (fm _ _ ⟨w1,om53 hw1,rfl,g1,r1,B1,k1⟩)
  obtain ⟨w2,hw2,rfl,g2,r2,B2,k2⟩:=hq'
  refine f1 _ _ ?_
  clear f1
  refine seqE fun E1 f1=>midE (Rw p g r n d1 d2 d4 d5 i c ss ys H 14) (fun E2 _ fm=>?_) fun σ' H3 hq'=>?_
  ·clear f1 fE
   refine ⟨_,rfl,rfl,_,rfl,?_⟩
   refine ite2 (fun ca=>?_) (fun ca=>?_)
   ·refine ⟨rfl,_,rfl,p,8,rfl,B2,by decide,by decide,fun d6 H6 d60 d61 B6 e6=>?_⟩
    refine ⟨_,rfl,by omega,by omega,?_⟩
    refine draw_letters (p:=p) (om166 d61) B6 fun tt H7 ht1 ht2 B7 e7 g7 n7=>?_
    have jt:=join_le (z:="") (ys:=tt) (by decide +kernel) ht2
    have zt:=sum_le1 ht2
    refine ⟨_,g7,tt,rfl,rfl,SqL.of upd_same,by decide,om167 d61 ht1 zt,?_⟩
    refine ⟨_,rfl,_,_,rfl,rfl,om168 big h1c d61 ht1 jt,?_⟩
    have g8 : H7 g = some (.lst (ss.map V.str)):=by rw [e7 g hgp,e6 g hgp]; exact g2
    have r8 : H7 r = some (.lst (ys.map V.str)):=by rw [e7 r hrp,e6 r hrp]; exact r2
    exact fm _ _ ⟨_,by rw [slen]; exact om169 h1c d61 ht1 jt,rfl,keepN g8 n7,keepN r8 n7,B7.upd_new n7,(k2.trans ((But.of_eq e6).trans (But.of_eq e7))).upd_new n7⟩
   ·exact fm _ _ ⟨w2,om54 hw2,rfl,g2,r2,B2,k2⟩
  obtain ⟨w3,hw3,rfl,g3,r3,B3,k3⟩:=hq'
  refine f1 _ _ ?_
  clear f1
  refine seqE fun E1 f1=>midE (Rw p g r n d1 d2 d4 d5 i c ss ys H 14) (fun E2 _ fm=>?_) fun σ' H4 hq'=>?_
  ·clear f1 fE
   refine ⟨_,rfl,by decide,fun t0 n0=>?_⟩
   refine ⟨t0,_,rfl,.inr (SqT.of upd_same),rfl,flat_csts (by rfl),_,rfl,?_⟩
   refine ite2 (fun ca=>?_) (fun ca=>?_)
   ·have hq : (Str.ofString "qqqqqqq").length = 7:=by decide +kernel
    refine ⟨_,rfl,_,_,rfl,rfl,by rw [hq]; exact om170 big h1c,?_⟩
    exact fm _ _ ⟨_,by rw [slen,hq]; exact om171 h1c,rfl,keepN g3 n0,keepN r3 n0,B3.upd_new n0,k3.upd_new n0⟩
   ·exact fm _ _ ⟨w3,om54 hw3,rfl,keepN g3 n0,keepN r3 n0,B3.upd_new n0,k3.upd_new n0⟩
  obtain ⟨w4,hw4,rfl,g4,r4,B4,k4⟩:=hq'
  refine f1 _ _ ?_
  clear f1
  refine ⟨_,rfl,.inl ⟨rfl,_,SqL.of r4⟩,_,rfl,r,_,_,rfl,rfl,r4,by rw [List.length_map]; exact om172 hn1 big hi hyl,?_⟩
  refine fE _ _ ⟨_,_,_,ys ++ [w4],rfl,by rw [upd_ne hrg]; exact g4,by rw [upd_same,List.map_append]; rfl,by rw [List.length_append,hyl]; rfl,fun y hm=>?_,B4.eq (upd_ne (Ne.symm hrp)),k4.upd_own nor⟩
  rcases List.mem_append.mp hm with hm | hm
  ·exact hy y hm
  ·rw [List.mem_singleton.mp hm]; exact om173 hw4
 ·intro σ H' hq'
  refine opq fun Gq kq=>?_
  obtain ⟨ok,oo,ow,ys,rfl,hg',hr',hyl,hy,B',k'⟩:=hq'
  refine kq ?_
  have hyn : (ys.length : Int) = n:=om174 hn0 hyl
  refine f1 _ _ ?_
  clear f1
  refine seqF fun F1 f1=>midE (Rf p r n H) (fun E2 _ fm=>?_) fun σ' H1 hq'=>?_
  ·clear f1
   refine ifG fun G' g'=>⟨_,rfl,p,6,rfl,B',by decide,by decide,fun d6 H6 d60 d61 B6 e6=>⟨rfl,_,rfl,g' _ _ ?_⟩⟩
   clear g'
   have r6 : H6 r = some (.lst (ys.map V.str)):=by rw [e6 r hrp]; exact hr'
   have k6 : But p H H6:=k'.trans (But.of_eq e6)
   refine ite2 (fun ca=>?_) (fun ca=>?_)
   ·refine seqE fun E3 f3=>⟨by decide,fun t0 n0=>f3 _ _ ?_⟩
    clear f3
    have t0p : t0 ≠ p:=B6.ne n0
    refine seqE fun E4 f3=>⟨_,rfl,_,rfl,p,13,rfl,B6.upd_new n0,by decide,by decide,fun d7 H7 d70 d71 B7 e7=>?_⟩
    have t7 : H7 t0 = some (.lst ((["num", "var", "op", "go", "ask", "back", "chain", "sets", "iff", "ends", "calls", "reads", "gives"] : List Str).map V.str)):=((e7 t0 t0p).trans upd_same).trans (congrArg (fun l=>some (HO.lst l)) (by decide +kernel))
    have r7 : H7 r = some (.lst (ys.map V.str)):=by rw [e7 r hrp]; exact keepN r6 n0
    have k7 : But p H H7:=(k6.upd_new n0).trans (But.of_eq e7)
    obtain ⟨od,hod,hat⟩:=txt_at (ys:=(["num", "var", "op", "go", "ask", "back", "chain", "sets", "iff", "ends", "calls", "reads", "gives"] : List Str)) d70 (by simpa using d71)
    refine ⟨t0,_,_,_,rfl,rfl,SqL.of t7,hat,f3 _ _ ?_⟩
    clear f3
    have hol : od.length ≤ 20:=by
     have : ∀ y ∈ (["num", "var", "op", "go", "ask", "back", "chain", "sets", "iff", "ends", "calls", "reads", "gives"] : List Str),y.length ≤ 20:=by decide +kernel
     exact this od hod
    refine ifG fun G' g'=>⟨_,rfl,_,rfl,r,_,rfl,.inl (SqL.of r7),rfl,flat_strs _,_,rfl,g' _ _ ?_⟩
    clear g'
    refine ite2 (fun cb=>?_) (fun cb=>?_)
    ·refine ⟨_,rfl,_,rfl,_,rfl,_,rfl,p,n,rfl,B7,om55 hn0,om175 hn1,fun d8 H8 d80 d81 B8 e8=>?_⟩
     have r8 : H8 r = some (.lst (ys.map V.str)):=by rw [e8 r hrp]; exact r7
     have k8 : But p H H8:=k7.trans (But.of_eq e8)
     refine ⟨r,_,d8,d8.toNat,rfl,rfl,r8,?_,?_⟩
     ·unfold ixN
      rw [if_pos d80,List.length_map,if_pos (om176 hyn d81)]
     refine fm _ _ ⟨rfl,ys.set d8.toNat od,by rw [upd_same,set_strs],by rw [List.length_set]; exact hyn,fun y hm=>?_,B8.eq (upd_ne (Ne.symm hrp)),k8.upd_own nor⟩
     rcases List.mem_or_eq_of_mem_set hm with hm | hm
     ·exact hy y hm
     ·rw [hm]; exact hol
    ·exact fm _ _ ⟨rfl,ys,r7,hyn,hy,B7,k7⟩
   ·exact fm _ _ ⟨rfl,ys,r6,hyn,hy,B6,k6⟩
  obtain ⟨hs8,ys1,r1,l1,y1,B1,k1⟩:=hq'
  refine f1 _ _ ?_
  exact ⟨_,hs8,q r ys1 H1 nor r1 l1 y1 B1 k1⟩
end
end K17
namespace L2
open PySem PySem.Spec PyProof.Rows PySem.SeqAt
section
variable {X : Cx}
end
end L2
namespace L2
open PySem PySem.Spec PyProof.Rows PySem.SeqAt
section
variable {prog : Program} {w : World} {A : Around} {E : Value → Shared → Prop} {s : Shared}
end
end L2
namespace L2
open PySem PySem.Spec PyProof.Rows PySem.SeqAt
open PySem.AutoSeq1 (wpAny_loadPart')
open PySem.MeetsSeq PySem.MeetsSeq2 PySem.MeetsSeq3 PySem.SeqRoads2
section
variable {prog : Program} {w : World} {A : Around} {E : Value → Shared → Prop} {s : Shared}
end
end L2
namespace L2
open PySem PySem.Spec PyProof.Rows PySem.SeqAt
section
variable {prog : Program} {w : World} {A : Around} {E : Value → Shared → Prop} {s : Shared}
end
section
variable {X : Cx}
end
end L2
namespace L2
open PySem PySem.Spec PyProof.Rows PySem.SeqAt
section
variable {prog : Program} {w : World} {A : Around} {E : Value → Shared → Prop} {s : Shared}
end
section
variable {X : Cx}
end
end L2
namespace L2
open PySem PySem.Spec PyProof.Rows
section
variable {prog : Program} {w : World} {A : Around} {E : Value → Shared → Prop} {s : Shared}
end
section
variable {X : Cx} {pos : Pos}
end
end L2
namespace L2
open PySem PySem.Spec PyProof.Rows PySem.SeqAt
inductive Tr where
 | lf (v : V) | tp (l : Tr) | nil | cons (h t : Tr)
noncomputable def Tr.dep : Tr → Nat
 | .lf _=>0
 | .tp l=>l.dep + 1
 | .nil=>0
 | .cons h t=>max h.dep t.dep
noncomputable def Tr.isL : Tr → Bool
 | .nil=>true
 | .cons _ _=>true
 | _=>false
noncomputable def okV : V → Bool
 | .byt _=>false
 | .flt _=>false
 | _=>true
noncomputable def TrAt (K : PySem.W.Frag) (H : Hp) : Tr → V → List V → Prop
 | .lf v,x,_=>x = v ∧ okV v = true
 | .tp l,x,_=>l.isL = true ∧ ∃ a xs,x = .ref a ∧ SqT K H a xs ∧ TrAt K H l .non xs
 | .nil,_,xs=>xs = []
 | .cons h t,_,xs=>h.isL = false ∧ t.isL = true ∧ ∃ y ys,xs = y :: ys ∧ TrAt K H h y [] ∧ TrAt K H t .non ys
theorem eqAt_same {A : Around} {s : Shared} {v : V} {u u' : Value} (ok : okV v = true) (r : RelV v u) (r' : RelV v u') : EqAt A s u u' true:=by
 cases v with
 | int a =>
  obtain ⟨t,rfl⟩:=r
  obtain ⟨t',rfl⟩:=r'
  have:=EqAt.int_int (A:=A) (s:=s) a t a t'
  rwa [beq_self_eq_true] at this
 | str a =>
  obtain ⟨t,rfl⟩:=r
  obtain ⟨t',rfl⟩:=r'
  have:=EqAt.str_str (A:=A) (s:=s) a t a t'
  rwa [beq_self_eq_true] at this
 | byt b=>cases ok
 | flt b=>cases ok
 | non=>cases r; cases r'; exact EqAt.same _
 | bl b=>cases r; cases r'; exact EqAt.same _
 | ref b=>cases r; cases r'; exact EqAt.same _
 | ty b=>cases r; cases r'; exact EqAt.same _
section
variable {X : Cx}
theorem all_range {n : Nat} : (List.range n).all (fun _=>true) = true:=by simp
theorem rcAt_tp {pins : List (Addr × Obj)} {σ : St} {H : Hp} {s : Shared} (I : Inv X pins σ H s) {A : Around} {a b : Addr} {xs ys : List V} (ha : SqT X.K H a xs) (hb : SqT X.K H b ys) (hl : xs.length = ys.length) (hu : A.units < cLine)
  (h : ∀ (j : Nat) (x y : V) (u v : Value),xs[j]? = some x → ys[j]? = some y → RelV x u → RelV y v → EqAt A.in1 s u v true) : RcAt A s (.ref a) (.ref b) true:=by
 obtain ⟨ia,ra,pa,_⟩:=I.tuple ha
 obtain ⟨ib,rb,pb,_⟩:=I.tuple hb
 have:=RcAt.tuples (A:=A) (e:=fun _=>true) (show s.heap.IsTuple a ia.toArray from pa) (show s.heap.IsTuple b ib.toArray from pb) hu (fun j h1 h2=>?_)
 ·rw [all_range,List.size_toArray,List.size_toArray,← ra.length,← rb.length,hl,beq_self_eq_true] at this
  exact this
 ·have la:=ra.length
  have lb:=rb.length
  have hj : j < xs.length:=by simp at h1; exact om25 la h1
  have hj' : j < ys.length:=om21 hl hj
  obtain ⟨u1,q1,r1⟩:=ra.get (List.getElem?_eq_getElem hj)
  obtain ⟨u2,q2,r2⟩:=rb.get (List.getElem?_eq_getElem hj')
  have e1 : ia.toArray[j] = u1:=by
   obtain ⟨_,e⟩:=List.getElem?_eq_some_iff.mp q1
   simpa using e
  have e2 : ib.toArray[j] = u2:=by
   obtain ⟨_,e⟩:=List.getElem?_eq_some_iff.mp q2
   simpa using e
  rw [e1,e2]
  exact h j _ _ _ _ (List.getElem?_eq_getElem hj) (List.getElem?_eq_getElem hj') r1 r2
theorem tr_eq {pins : List (Addr × Obj)} {σ : St} {H : Hp} {s : Shared} (I : Inv X pins σ H s) : ∀ (t : Tr) {A : Around},A.units + t.dep < cLine → ∀ {x y : V} {xs ys : List V},TrAt X.K H t x xs → TrAt X.K H t y ys →
  (t.isL = false → ∀ u v,RelV x u → RelV y v → EqAt A s u v true) ∧ (t.isL = true → xs.length = ys.length ∧ ∀ (j : Nat) (x' y' : V) (u v : Value),xs[j]? = some x' → ys[j]? = some y' → RelV x' u → RelV y' v → EqAt A s u v true):=by
 intro t
 induction t with
 | lf w =>
  rintro A hu x y xs ys ⟨rfl,ok⟩ ⟨rfl,_⟩
  exact ⟨fun _ u v r r'=>eqAt_same ok r r',fun h=>by cases h⟩
 | tp l ih =>
  rintro A hu x y xs ys ⟨hl,a,as,rfl,ha,ta⟩ ⟨_,b,bs,rfl,hb,tb⟩
  refine ⟨fun _ u v r r'=>?_,fun h=>by cases h⟩
  cases r
  cases r'
  have hd : A.units + (l.dep + 1) < cLine:=hu
  have h2:=(ih (A:=A.in1) (by show A.units + 1 + l.dep < cLine; exact om177 hd) ta tb).2 hl
  by_cases e : a = b
  ·rw [e]; exact EqAt.same _
  ·exact EqAt.of_refs e (rcAt_tp I ha hb h2.1 (om26 hu) h2.2)
 | nil =>
  rintro A hu x y xs ys rfl rfl
  exact ⟨(fun h=>by cases h),fun _=>⟨rfl,fun j x' y' u v h=>by simp at h⟩⟩
 | cons h t ihh iht =>
  rintro A hu x y xs ys ⟨hh,ht,x1,xs1,rfl,p1,p2⟩ ⟨_,_,y1,ys1,rfl,q1,q2⟩
  have hd : A.units + max h.dep t.dep < cLine:=hu
  have h1:=(ihh (A:=A) (om178 hd) p1 q1).1 hh
  have h2:=(iht (A:=A) (om179 hd) p2 q2).2 ht
  refine ⟨(fun h=>by cases h),fun _=>⟨by rw [List.length_cons,List.length_cons,h2.1],fun j x' y' u v hx hy=>?_⟩⟩
  cases j with
  | zero=>cases hx; cases hy; exact h1 u v
  | succ j=>exact h2.2 j x' y' u v (by simpa using hx) (by simpa using hy)
noncomputable def rEqTr (K : PySem.W.Frag) (d : Nat) (b : Bool) : R2:=fun x y H Q=>∃ l : Tr,l.dep < d ∧ TrAt K H (.tp l) x [] ∧ TrAt K H (.tp l) y [] ∧ Q (.bl b) H
theorem op_eqTr {d : Nat} (hu : X.A.units + d < cLine) : OpR X (compareOp .Eq) (rEqTr X.K d true):=by
 intro pins s σ H x y v u Q I rx ry h
 obtain ⟨l,hd,⟨hl,a,as,rfl,ha,ta⟩,⟨_,b,bs,rfl,hb,tb⟩,q⟩:=h
 cases rx
 cases ry
 have h2:=(tr_eq I l (A:=X.A.in1) (by show X.A.units + 1 + l.dep < cLine; exact om56 hu hd) ta tb).2 hl
 exact rcAt_tp I ha hb h2.1 (om26 hu) h2.2 X.prog X.w _ _ ⟨.bl true,H,I,rfl,q⟩
theorem rcNe_tp {pins : List (Addr × Obj)} {σ : St} {H : Hp} {s : Shared} (I : Inv X pins σ H s) {A : Around} {a b : Addr} {xs ys : List V} (ha : SqT X.K H a xs) (hb : SqT X.K H b ys) (hl : xs.length = ys.length) (hu : A.units < cLine)
  (h : ∀ (j : Nat) (x y : V) (u v : Value),xs[j]? = some x → ys[j]? = some y → RelV x u → RelV y v → EqAt A.in1 s u v true) : RcNeAt A s (.ref a) (.ref b) false:=by
 obtain ⟨ia,ra,pa,_⟩:=I.tuple ha
 obtain ⟨ib,rb,pb,_⟩:=I.tuple hb
 have:=RcNeAt.tuples (A:=A) (e:=fun _=>true) (show s.heap.IsTuple a ia.toArray from pa) (show s.heap.IsTuple b ib.toArray from pb) hu (fun j h1 h2=>?_)
 ·rw [all_range,List.size_toArray,List.size_toArray,← ra.length,← rb.length,hl,beq_self_eq_true] at this
  exact this
 ·have la:=ra.length
  have lb:=rb.length
  have hj : j < xs.length:=by simp at h1; exact om25 la h1
  have hj' : j < ys.length:=om21 hl hj
  obtain ⟨u1,q1,r1⟩:=ra.get (List.getElem?_eq_getElem hj)
  obtain ⟨u2,q2,r2⟩:=rb.get (List.getElem?_eq_getElem hj')
  have e1 : ia.toArray[j] = u1:=by
   obtain ⟨_,e⟩:=List.getElem?_eq_some_iff.mp q1
   simpa using e
  have e2 : ib.toArray[j] = u2:=by
   obtain ⟨_,e⟩:=List.getElem?_eq_some_iff.mp q2
   simpa using e
  rw [e1,e2]
  exact h j _ _ _ _ (List.getElem?_eq_getElem hj) (List.getElem?_eq_getElem hj') r1 r2
theorem op_neTr {d : Nat} (hu : X.A.units + d < cLine) : OpR X (compareOp .NotEq) (rEqTr X.K d false):=by
 intro pins s σ H x y v u Q I rx ry h
 obtain ⟨l,hd,⟨hl,a,as,rfl,ha,ta⟩,⟨_,b,bs,rfl,hb,tb⟩,q⟩:=h
 cases rx
 cases ry
 have h2:=(tr_eq I l (A:=X.A.in1) (by show X.A.units + 1 + l.dep < cLine; exact om56 hu hd) ta tb).2 hl
 exact rcNe_tp I ha hb h2.1 (om26 hu) h2.2 X.prog X.w _ _ ⟨.bl false,H,I,rfl,q⟩
end
end L2
namespace L2
open PySem PySem.Spec PyProof.Rows
noncomputable def Itv (K : PySem.W.Frag) (a : Addr) (n : Nat) : It :=
 ⟨fun i H=>∃ xs x,SqT K H a xs ∧ xs.length = n ∧ xs.reverse[i]? = some x,fun i H x H'=>H' = H ∧ ∀ xs,SqT K H a xs → xs.reverse[i]? = some x,fun i H=>∃ xs,SqT K H a xs ∧ xs.length = n ∧ i = n⟩
theorem turn_rev {P : Program} {w : World} {K : PySem.W.Frag} {tg : Expr} (a it : Addr) (n : Nat) : Turn P w K tg (Itv K a n) [it] it (fun i h=>RevAt h it a ((n : Int) - 1 - i)) where
 mem:=by simp
 obj:=fun i h st b hb=>by
  have e : b = it:=by simpa using hb
  subst e
  obtain ⟨o,e,c,d⟩:=st
  exact ⟨o,e,fun v z=>by rw [d] at z; cases z⟩
 keep:=fun i h h' st k=>st.at fun o e=>k it (by simp) o e
 item:=by
  intro X hP hw hK hc i pins s σ H E I hf st hg
  subst hP hw hK
  obtain ⟨xs,x,hq,hn,hx⟩:=hg
  obtain ⟨its,rv,p,hz⟩:=I.tuple hq
  have hl:=rv.length
  have h63:=line63
  have hi : i < xs.length:=by
   rcases Nat.lt_or_ge i xs.length with z | z
   ·exact z
   ·rw [List.getElem?_eq_none (by simpa using z)] at hx; cases hx
  have hx' : xs[xs.length - 1 - i]? = some x:=by rw [List.getElem?_reverse hi] at hx; exact hx
  obtain ⟨u,hu,ru⟩:=rv.get hx'
  obtain ⟨f0,f1,f2,f3,f4,f5⟩:=hf it (by simp)
  have e : ((n : Int) - 1 - i) = ((xs.length - 1 - i : Nat) : Int):=om180 hn hi
  rw [e] at st
  refine nextR (items:=its.toArray) st (show IsTup s.heap a its.toArray from p) (x:=u) (by simpa using hu) (by simp only [List.size_toArray]; omega) fun h' st' sb=>?_
  have I1 : Inv X pins σ H { s with heap:=h',toks:=s.toks + 1 }:=I.turned (t':=s.toks + 1) (fun b o hb e=>(sb.2 b hb).trans e) f0 f1 f3 f4 f5
  obtain ⟨o,e',c,d⟩:=id st'
  refine ⟨u,rfl,go_of (s:={ s with heap:=h',toks:=s.toks + 1 }) e' c d (by decide) ⟨x,H,I1,ru,⟨rfl,fun ys hy=>by rw [I.tuple_inj hy hq]; exact hx⟩,?_,fun b hb=>(hf b hb).1⟩⟩
  have e2 : ((n : Int) - 1 - ((i + 1 : Nat) : Int)) = ((xs.length - 1 - i : Nat) : Int) - 1:=om181 e
  show RevAt h' it a ((n : Int) - 1 - ((i + 1 : Nat) : Int))
  rw [e2]; exact st'
 done:=by
  intro X hP hw hK hc i pins s σ H E I hf st hg
  subst hP hw hK
  obtain ⟨xs,hq,hn,hx⟩:=hg
  obtain ⟨f0,f1,f2,f3,f4,f5⟩:=hf it (by simp)
  have e : ((n : Int) - 1 - (i : Int)) = -1:=om182 hx
  rw [e] at st
  exact nextR_end (I.ok.hd hc) st fun h' eb=>⟨rfl,I.turned (t':=s.toks) (fun b o hb e=>eb b o hb e) f0 f1 f3 f4 f5⟩
 self:=fun _ _ _ _ _ st h=>iterR st h
section
variable {X : Cx} {tg : Expr}
noncomputable def iRev (K : PySem.W.Frag) (tl : TE) : TI:=fun σ H R=>tl σ H fun x H1=>∃ a xs,x = .ref a ∧ SqT K H1 a xs ∧ R (Itv K a xs.length) H1
theorem pi_rev {e : Expr} {tl : TE} {xr : Str} {p pos : Pos} (hgr : Gl X xr) (hmr : X.mg xr = none) (hvr : bootBuiltins xr = some (.type "reversed")) (hl : PE X e tl) (hnr : xr ≠ "__name__":=by decide) (hdr : (xr == ("__debug__" : Str)) = false:=by decide)
  (h3 : starEach [e] X.env = (false,eval e X.env) :: starEach [] X.env:=by rfl) (h4 : (backTo pos (starEach [] X.env)).any (·.1) = false:=by rfl) : PI X tg (.Call (.Name xr p) [e] [] pos) (iRev X.K tl):=by
 intro pins s σ H R I h
 refine wpAny_Call_Name_kw (ld_blt I hgr hmr hvr ?_ hnr hdr)
 refine PyProof.Rows.callWith_type1 ?_ h3 h4
 rw [h3]
 show wpAny _ _ (spliced ((false,eval e X.env) :: backTo pos (starEach [] X.env))) _ _ s
 refine Calls.spliced_cons (thn (hl pins s σ H _ I h) fun u s1 hq_=>?_); obtain ⟨x,H1,I1,r1,a,xs,ex,hq,q⟩:=hq_
 subst ex
 cases (show u = Value.ref a from r1)
 obtain ⟨its,r',pl,hz⟩:=I1.tuple hq
 have hlen:=r'.length
 have h63:=line63
 refine Calls.spliced_nil (call_rev (show IsTup s1.heap a its.toArray from pl) (by simp only [List.size_toArray]; omega) ?_)
 have rv : RevAt (s1.heap.push (revObj a its.toArray.size)) s1.heap.objs.size a ((xs.length : Int) - 1 - ((0 : Nat) : Int)):=⟨_,Heap.get?_push_size _ rfl,rfl,by rw [List.size_toArray,← hlen]; simp [revObj]⟩
 refine iterR (s:={ s1 with heap:=s1.heap.push (revObj a its.toArray.size),toks:=s1.toks + 1 + 1 }) rv ?_
 refine ⟨s1.heap.objs.size,[s1.heap.objs.size],_,_,H1,rfl,I1.kept (t':=s1.toks + 1 + 1) fun b o e=>Heap.get?_push_of_some _ e,turn_rev a _ xs.length,rv,fun b hb=>?_,q⟩
 have e : b = s1.heap.objs.size:=by simpa using hb
 subst e
 exact I1.fpOk (Nat.le_refl _) (I1.hok.fresh (Nat.le_refl _))
end
theorem for_revE {K : PySem.W.Frag} {a : Addr} {xs : List V} {g : TG} {tb : TS} {D : Ends} {σ : St} {H : Hp} (Pv : Nat → St → Hp → Prop) (h0 : Pv 0 σ H) (hl : ∀ i σ H,i ≤ xs.length → Pv i σ H → SqT K H a xs)
  (hs : ∀ E : Ends,E.rt = D.rt → ∀ i x σ H,xs.reverse[i]? = some x → (∀ σ' H',Pv (i + 1) σ' H' → E.nx σ' H') → ∀ G : Prop,((g x σ H fun σ2 H2=>tb E σ2 H2) → G) → Pv i σ H → G) (hd : ∀ σ H,Pv xs.length σ H → D.nx σ H) : ForW (Itv K a xs.length) g tb D σ H:=by
 refine ⟨fun i m σ H=>m = xs.length - i ∧ i ≤ xs.length ∧ Pv i σ H,⟨xs.length,by simp,Nat.zero_le _,h0⟩,?_⟩
 rintro i m σ H ⟨rfl,hi,p⟩
 have q:=hl i σ H hi p
 by_cases hlt : i < xs.length
 ·refine .inr ⟨⟨xs,_,q,rfl,List.getElem?_eq_getElem (by simpa using hlt)⟩,Pv (i + 1),fun σ' H' p'=>⟨xs.length - (i + 1),om2 hlt,rfl,hlt,p'⟩,fun x H' y=>?_⟩
  obtain ⟨e,y⟩:=y
  subst e
  exact hs { D with nx:=Pv (i + 1),ct:=Pv (i + 1),bk:=D.nx } rfl i x σ _ (y xs q) (fun _ _ h=>h) _ (fun z=>z) p
 ·have e : i = xs.length:=om3 hi hlt
  subst e
  exact .inl ⟨⟨xs,q,rfl,rfl⟩,hd σ H p⟩
end L2
namespace L2
open PySem PySem.Spec PyProof.Rows
theorem slot_lrh : Slot "list_reverseiterator" "__length_hint__" "list_reverseiterator.__length_hint__":=by
 refine Slot.of (owner:="list_reverseiterator") (n:="__length_hint__") (by rw [typeLookup_type,builtinLookup_eq_fast]; kernel_rfl) (by decide +kernel) (by decide +kernel) (by decide +kernel) ?_ (by rw [isSubtype_type]; kernel_rfl)
 first | exact .inl (by decide +kernel) | exact .inr (by decide +kernel)
theorem no_lr_len : typeLookup (.type "list_reverseiterator") "__len__" = pure none:=by rw [typeLookup_type,builtinLookup_eq_fast]; kernel_rfl
theorem sub_lr : isSubtype (.type "list_reverseiterator") (.type "list_reverseiterator") = pure true:=by rw [isSubtype_type]; kernel_rfl
section
variable {prog : Program} {w : World} {A : Around} {E : Value → Shared → Prop} {s : Shared}
theorem hintLr {I t : Addr} {k : Int} (hit : s.heap.IsRevIter I t k) {Q : Bool → Shared → Prop} (h : Q false s) : wpAny (model prog w) A (Builtin.List.listLengthHint (.ref I)) Q E s:=by
 unfold Builtin.List.listLengthHint
 refine wpAny_bind (wpAny_specialOf hit.typeIs no_lr_len ?_)
 show wpAny _ A (specialOf (Value.ref I) (Str.ofString "__length_hint__") >>= _) _ _ _
 refine wpAny_bind (wpAny_specialOf hit.typeIs slot_lrh.lookup ?_)
 have esp : splitId "list_reverseiterator.__length_hint__" = some ("list_reverseiterator", "__length_hint__"):=by decide +kernel
 dsimp only
 rw [esp]
 dsimp only
 refine wpAny_bind (wpAny_isInstance (b:=true) hit.typeIs sub_lr ?_)
 simp only [Bool.not_true,Bool.false_eq_true,if_false]
 rw [if_pos (by decide +kernel),if_neg (by decide +kernel)]
 exact wpAny_pure h
theorem collectLr {I t : Addr} {items : Array Value} {Q : List Value → Shared → Prop} (hh : A.handled = none) (hit : s.heap.IsRevIter I t ((items.size : Int) - 1)) (ht : s.heap.IsList t items) (hI : t ≠ I) (hn : items.size ≤ sizeLine)
  (hQ : ∀ s',(∀ b o,b ≠ I → s.heap.get? b = some o → s'.heap.get? b = some o) → s.heap.objs.size ≤ s'.heap.objs.size → s'.gens = s.gens → s'.os = s.os → Q items.toList.reverse s') : wpAny (model prog w) A (collect (.ref I)) Q E s:=by
 have hIs : I < s.heap.objs.size:=by obtain ⟨o,ho,_⟩:=hit; exact Heap.lt_size ho
 have hts : t < s.heap.objs.size:=by obtain ⟨o,ho,_⟩:=ht; exact Heap.lt_size ho
 have nI : I ≠ s.heap.objs.size:=Nat.ne_of_lt hIs
 have nt : t ≠ s.heap.objs.size:=Nat.ne_of_lt hts
 unfold collect
 refine wpAny_bind (wpAny_runValue (codeAny_builtin PySem.F.entry_proto_collect (by
  rw [Around.under_plainId PySem.F.plain_proto_collect _]
  show wpAny _ A.in1 (newList [] >>= fun l=>again (.builtin "list.__iadd__" ⟨[l,.ref I],[]⟩)) _ _ s
  refine wpAny_bind (wpAny_newObj_type (wpAny_pure ⟨plainId_quiet PySem.F.plain_list_iadd _,codeAny_builtin PySem.F.entry_list_iadd ?_⟩))
  rw [Around.under_plainId PySem.F.plain_list_iadd _]
  generalize hH : s.heap.push { cls:=.type "list",data:=.seq ([] : List Value).toArray } = H
  have gl : H.get? s.heap.objs.size = some { cls:=.type "list",data:=.seq #[] }:=by rw [← hH]; exact Heap.get?_push_size _ rfl
  have gk : ∀ b o,s.heap.get? b = some o → H.get? b = some o:=fun b o e=>by rw [← hH]; exact Heap.get?_push_of_some _ e
  have hit2 : H.IsRevIter I t ((items.size : Int) - 1):=hit.at fun o e=>gk I o e
  have ht2 : H.IsList t items:=ht.at fun o e=>gk t o e
  show wpAny _ A.in1 (Builtin.List.listExtendWith (.ref s.heap.objs.size) (.ref I) (.ref s.heap.objs.size)) _ _ { s with heap:=H }
  unfold Builtin.List.listExtendWith
  refine wpAny_bind (wpAny_typeOf (s:={ s with heap:=H }) hit2.typeIs ?_)
  have n1 : Builtin.List.listSameRef (.ref s.heap.objs.size) (.ref I) = false:=by
   simp only [Builtin.List.listSameRef,beq_eq_false_iff_ne]
   exact Ne.symm nI
  have n2 : (Value.type "list_reverseiterator" == Value.type "list") = false:=by decide
  have n3 : (Value.type "list_reverseiterator" == Value.type "tuple") = false:=by decide
  simp only [n1,n2,n3,Bool.or_false,Bool.false_eq_true,if_false]
  refine wpAny_bind (wpAny_pyIter_revIter (s:={ s with heap:=H }) hit2 (wpAny_bind (wpAny_holding (hintLr (s:={ s with heap:=H }) hit2 ?_))))
  have nfp : ¬ s.heap.objs.size ∈ [I,t]:=by simp only [List.mem_cons,List.not_mem_nil,or_false,not_or]; exact ⟨Ne.symm nI,Ne.symm nt⟩
  rw [if_neg (by decide +kernel)]
  refine wpAny_pure ⟨plainId_quiet PySem.F.plain_extend_loop _,?_⟩
  have W:=(Walks.listRev (prog:=prog) (w:=w) (A:=A.in1) (by simpa using hh) I t hI items).toS
  refine codeAny_extend_loopS W hn _ nfp _ items.size 0 _ #[] _ rfl (Nat.zero_le _) ⟨Nat.zero_le _,by simpa using hit2,ht2⟩ gl (ItemsOf.nil _) fun s' acc c' m gS hacc=>?_
  have ea : acc = items.toList.reverse.toArray:=by
   apply Array.ext'
   refine List.ext_getElem? fun i=>?_
   by_cases hi : i < items.size
   ·have hi' : i < acc.size:=by rw [hacc.1]; exact hi
    have q:=hacc.2 i acc[i] (by simp [hi'])
    rw [Array.getElem?_toList,Array.getElem?_eq_getElem hi',← q]
    show items[items.size - 1 - i]? = items.toList.reverse[i]?
    rw [List.getElem?_reverse (by simpa using hi)]
    simp
   ·rw [List.getElem?_eq_none (by rw [Array.length_toList,hacc.1]; exact om57 hi),List.getElem?_eq_none (by simp; exact om57 hi)]
  subst ea
  show wpAny _ A (load s.heap.objs.size >>= _) _ _ s'
  refine wpAny_bind (wpAny_load gS (wpAny_pure ?_))
  have eT : items.toList.reverse.toArray.toList = items.toList.reverse:=by simp
  rw [eT]
  refine hQ s' (fun b o hb e=>?_) ?_ m.gens m.os
  ·have ne : b ≠ s.heap.objs.size:=Nat.ne_of_lt (Heap.lt_size e)
   exact m.heap b o (by simp only [List.mem_cons,List.not_mem_nil,or_false,not_or]; exact ⟨ne,hb⟩) (gk b o e)
  ·exact Nat.le_of_lt (Heap.lt_size gS))))
end
end L2
namespace L2
open PySem PySem.Spec PyProof.Rows
section
variable {prog : Program} {w : World} {A : Around} {E : Value → Shared → Prop} {s : Shared}
theorem code_tupleLr {I t : Addr} {items : Array Value} {Q₁ : Value → Shared → Prop} (hh : A.handled = none) (hit : s.heap.IsRevIter I t ((items.size : Int) - 1)) (ht : s.heap.IsList t items) (hI : t ≠ I) (hn : items.size ≤ sizeLine)
  (h : ∀ s' : Shared,(∀ b o,b ≠ I → s.heap.get? b = some o → s'.heap.get? b = some o) → s.heap.objs.size ≤ s'.heap.objs.size → s'.gens = s.gens → s'.os = s.os →
   Q₁ (.ref s'.heap.objs.size) { s' with heap:=s'.heap.push { cls:=.type "tuple",data:=.seq items.toList.reverse.toArray } }) :
  codeAny (model prog w) A (.call (.builtin "tuple.__new__") ⟨[.type "tuple",.ref I],[]⟩) (wants Q₁ E) s:=by
 refine codeAny_of_tree (show wpAny _ A.in1 (do checkBuiltinCall "tuple.__new__" ⟨[.type "tuple",.ref I],[]⟩; again (.builtin "tuple.__new__" ⟨[.type "tuple",.ref I],[]⟩)) _ _ s from ?_)
 refine wpAny_bind (wpAny_of_eq (PySem.F.newCall_tuple_1 _) (wpAny_pure ⟨plainId_quiet PySem.F.plain_tuple_new _,codeAny_builtin PySem.F.entry_tuple_new (by
  rw [Around.under_plainId PySem.F.plain_tuple_new _]
  have hsub:=sub_tuple_self
  have hinit:=init_tuple_lookup
  have hmh:=madeHere_tuple
  have hTI:=hit.typeIs
  wp_walk using wpAny_typeOf hTI,collectLr (by simpa using hh) hit ht hI hn
  intro s' k z1 z2 z3
  show wpAny _ _ (Builtin.Tuple.tupleExact items.toList.reverse.toArray >>= fun v=>ret v) _ _ _
  unfold Builtin.Tuple.tupleExact
  exact wpAny_bind (wpAny_newObj_type (wpAny_pure (h s' k z1 z2 z3)) (by show items.toList.reverse.toArray.size ≤ sizeLine; simpa using hn)))⟩))
theorem call_tupleLr {I t : Addr} {items : Array Value} {Q : Value → Shared → Prop} (hh : A.handled = none) (hit : s.heap.IsRevIter I t ((items.size : Int) - 1)) (ht : s.heap.IsList t items) (hI : t ≠ I) (hn : items.size ≤ sizeLine)
  (h : ∀ s' : Shared,(∀ b o,b ≠ I → s.heap.get? b = some o → s'.heap.get? b = some o) → s.heap.objs.size ≤ s'.heap.objs.size → s'.gens = s.gens → s'.os = s.os →
   Q (.ref s'.heap.objs.size) { s' with heap:=s'.heap.push { cls:=.type "tuple",data:=.seq items.toList.reverse.toArray } }) : wpAny (model prog w) A (call (.type "tuple") [.ref I]) Q E s:=by
 refine callType_codes (Q₁:=fun ob s₁=>s₁.TypeIs ob "tuple" ∧ Q ob s₁) PySem.F.called_tuple (PySem.F.typeCall_tuple_1 _) PySem.F.entry_object_init (code_tupleLr (by simpa using hh) hit ht hI hn fun s' k z1 z2 z3=>⟨⟨_,Heap.get?_push_size _ rfl,rfl⟩,h s' k z1 z2 z3⟩) fun ob s₁ h₁=>?_
 exact ⟨h₁.1,PySem.F.args_object_init_2 ob _,object_init_meets PySem.F.called_tuple.init.lookup PySem.F.called_tuple.made (by decide) prog w A.in1 _ s₁ ⟨h₁.1,rfl,h₁.2⟩⟩
end
section
variable {X : Cx} {e : Expr} {te : TE} {xl xr : Str} {p p2 pos pos2 : Pos}
noncomputable def tTupRev (K : PySem.W.Frag) (te : TE) : TE:=fun σ H Q=>te σ H fun x H1=>∃ a xs,x = .ref a ∧ SqL K H1 a xs ∧ ∀ l,H1 l = none → Q (.ref l) (upd H1 l (.tup xs.reverse))
theorem pe_tuprev (hc : X.calm = true) (hgl : Gl X xl) (hml : X.mg xl = none) (hvl : bootBuiltins xl = some (.type "tuple")) (hgr : Gl X xr) (hmr : X.mg xr = none) (hvr : bootBuiltins xr = some (.type "reversed")) (he : PE X e te)
  (hnl : xl ≠ "__name__":=by decide) (hdl : (xl == ("__debug__" : Str)) = false:=by decide) (hnr : xr ≠ "__name__":=by decide) (hdr : (xr == ("__debug__" : Str)) = false:=by decide)
  (h1 : starEach [.Call (.Name xr p2) [e] [] pos2] X.env = (false,eval (.Call (.Name xr p2) [e] [] pos2) X.env) :: starEach [] X.env:=by rfl) (h2 : (backTo pos (starEach [] X.env)).any (·.1) = false:=by rfl)
  (h3 : starEach [e] X.env = (false,eval e X.env) :: starEach [] X.env:=by rfl) (h4 : (backTo pos2 (starEach [] X.env)).any (·.1) = false:=by rfl) :
  PE X (.Call (.Name xl p) [.Call (.Name xr p2) [e] [] pos2] [] pos) (tTupRev X.K te):=by
 intro pins s σ H Q I h
 refine wpAny_Call_Name_kw (ld_blt I hgl hml hvl ?_ hnl hdl)
 refine PyProof.Rows.callWith_type1 ?_ h1 h2
 rw [h1]
 show wpAny _ _ (spliced ((false,eval (.Call (.Name xr p2) [e] [] pos2) X.env) :: backTo pos (starEach [] X.env))) _ _ s
 refine Calls.spliced_cons ?_
 refine wpAny_Call_Name_kw (ld_blt I hgr hmr hvr ?_ hnr hdr)
 refine PyProof.Rows.callWith_type1 ?_ h3 h4
 rw [h3]
 show wpAny _ _ (spliced ((false,eval e X.env) :: backTo pos2 (starEach [] X.env))) _ _ s
 refine Calls.spliced_cons (thn (he pins s σ H _ I h) fun u s1 hq_=>?_); obtain ⟨x,H1,I1,r1,a,xs,ex,hq,q⟩:=hq_
 subst ex
 cases (show u = Value.ref a from r1)
 obtain ⟨its,r',pl,hz⟩:=I1.list hq
 have hlen:=r'.length
 refine Calls.spliced_nil (call_reversed_list pl.isList (Calls.spliced_nil ?_))
 have hlt : a < s1.heap.objs.size:=by obtain ⟨o,ho,_⟩:=pl.isList; exact Heap.lt_size ho
 refine call_tupleLr (s:={ s1 with heap:=s1.heap.push (PySem.revObj a ((its.toArray.size : Int) - 1)) }) (items:=its.toArray) (I.ok.hd hc) ⟨_,Heap.get?_push_size _ rfl,rfl,rfl⟩ (pl.isList.at fun o e=>Heap.get?_push_of_some _ e) (Nat.ne_of_lt hlt)
  (by simp only [List.size_toArray]; exact om1 hz hlen) fun s' k hl kg ko=>?_
 have hsz : s1.heap.objs.size ≤ s'.heap.objs.size:=Nat.le_trans (by show _ ≤ (s1.heap.push _).objs.size; rw [Heap.size_push]; exact Nat.le_succ _) hl
 have k' : ∀ b o,s1.heap.get? b = some o → (s'.heap.push { cls:=.type "tuple",data:=.seq its.toArray.toList.reverse.toArray }).get? b = some o:=fun b o e=>Heap.get?_push_of_some _ (k b o (Nat.ne_of_lt (Heap.lt_size e)) (Heap.get?_push_of_some _ e))
 have hg : (s'.heap.push { cls:=.type "tuple",data:=.seq its.toArray.toList.reverse.toArray }).get? s'.heap.objs.size = some { cls:=.type "tuple",data:=.seq its.toArray.toList.reverse.toArray }:=Heap.get?_push_size _ rfl
 have new : ObjOk X.prog X.w (upd H1 s'.heap.objs.size (.tup xs.reverse)) (s'.heap.push { cls:=.type "tuple",data:=.seq its.toArray.toList.reverse.toArray }) s'.heap.objs.size (.tup xs.reverse):=by
  refine ⟨by rw [List.length_reverse]; exact hz,its.reverse,Vals.reverse r',?_⟩
  have ee : its.toArray.toList.reverse.toArray = its.reverse.toArray:=by simp
  rw [← ee]
  exact ⟨_,hg,rfl,_,rfl⟩
 exact ⟨.ref s'.heap.objs.size,_,I1.call' (ch:=[]) ko (Un.laid k' hsz (I1.hok.fresh hsz)) (I1.hok.laid k' hsz new) (by show AllBare s'.gens; rw [kg]; exact I1.bare) (fun _ z=>nomatch z),rfl,q _ (I1.hok.fresh hsz)⟩
end
end L2
namespace L2
open PySem PySem.Spec PyProof.Rows
section
variable {prog : Program} {w : World} {A : Around} {E : Value → Shared → Prop} {s : Shared}
theorem nextT_item {J T : Addr} {i : Nat} {items : Array Value} {x : Value} {Q : Value → Shared → Prop} (hJ : s.heap.IsTupleIter J T i) (hT : s.heap.IsTuple T items) (hx : items[i]? = some x)
  (q : ∀ h',h'.IsTupleIter J T (i + 1) → Heap.SameBut J s.heap h' → Q x { s with heap:=h' }) : wpAny (model prog w) A (Builtin.SmallTypes.nextOf (.ref J)) Q E s:=by
 obtain ⟨o,ho,hc,hd⟩:=id hJ
 obtain ⟨ol,hol,_,nl,hdl⟩:=hT
 unfold Builtin.SmallTypes.nextOf
 refine wpAny_bind (wpAny_callSpecial?_slot (name:=Str.ofString "__next__") hJ.typeIs PySem.F.slot_tuple_iterator_next (wpAny_call_entry PySem.F.slot_tuple_iterator_next hJ.typeIs PySem.F.entry_tuple_iterator_next (show wpAny _ _ (field (.ref J) 0 >>= _) _ _ s from ?_) (PySem.F.args_tuple_iterator_next_1 _)))
 refine wpAny_bind (wpAny_field ho hd (x:=.ref T) rfl (show wpAny _ _ (if (Value.ref T == Value.none) = true then _ else _) _ _ s from ?_))
 rw [if_neg (show ¬ ((Value.ref T == Value.none) = true) from Bool.false_ne_true)]
 refine (show wpAny _ _ (field (.ref J) 1 >>= _) _ _ s from wpAny_bind (wpAny_field ho hd (x:=.int i 0) rfl (show wpAny _ _ (seqItems? (.ref T) >>= _) _ _ s from wpAny_bind (wpAny_seqItems hol hdl ?_))))
 simp only [Int.toNat_natCast,hx]
 refine wpAny_bind (wpAny_setField ho hd (by simp) (wpAny_pure ⟨x,rfl,wpAny_pure (q _ ⟨_,Heap.get?_update_self _ ho (Obj.isFreed_of_fields (Obj.data_mapFields hd _)),(Obj.cls_mapFields ..).trans hc,by rw [Obj.data_mapFields hd]; simp [rawInt]⟩ (Heap.SameBut.update ..))⟩))
theorem nextT_end {J T : Addr} {i : Nat} {items : Array Value} {Q : Value → Shared → Prop} (hh : A.handled = none) (hJ : s.heap.IsTupleIter J T i) (hT : s.heap.IsTuple T items) (hx : items[i]? = none)
  (q : ∀ h' e,Heap.ExtBut J s.heap h' → Shared.TypeIs { s with heap:=h' } e "StopIteration" → E e { s with heap:=h' }) : wpAny (model prog w) A (Builtin.SmallTypes.nextOf (.ref J)) Q E s:=by
 obtain ⟨o,ho,hc,hd⟩:=id hJ
 obtain ⟨ol,hol,_,nl,hdl⟩:=hT
 unfold Builtin.SmallTypes.nextOf
 refine wpAny_bind (wpAny_callSpecial?_slot (name:=Str.ofString "__next__") hJ.typeIs PySem.F.slot_tuple_iterator_next (wpAny_call_entry PySem.F.slot_tuple_iterator_next hJ.typeIs PySem.F.entry_tuple_iterator_next (show wpAny _ _ (field (.ref J) 0 >>= _) _ _ s from ?_) (PySem.F.args_tuple_iterator_next_1 _)))
 refine wpAny_bind (wpAny_field ho hd (x:=.ref T) rfl (show wpAny _ _ (if (Value.ref T == Value.none) = true then _ else _) _ _ s from ?_))
 rw [if_neg (show ¬ ((Value.ref T == Value.none) = true) from Bool.false_ne_true)]
 refine (show wpAny _ _ (field (.ref J) 1 >>= _) _ _ s from wpAny_bind (wpAny_field ho hd (x:=.int i 0) rfl (show wpAny _ _ (seqItems? (.ref T) >>= _) _ _ s from wpAny_bind (wpAny_seqItems hol hdl ?_))))
 simp only [Int.toNat_natCast,hx]
 refine wpAny_bind (wpAny_rule (wpAny_bind (wpAny_setField ho hd (by simp) ?_)))
 refine wp_stop (by simpa using hh) fun h' e k te=>q h' e (fun b o hb eb=>k b o ?_) te
 exact (Heap.get?_update_other _ _ (Ne.symm hb)).trans eb
end
noncomputable def SIt (b : Bool) (h : Heap) (i l : Addr) (k : Nat) : Prop:=match b with
 | true=>h.IsListIter i l k
 | false=>h.IsTupleIter i l k
noncomputable def SSq (b : Bool) (h : Heap) (l : Addr) (xs : Array Value) : Prop:=match b with
 | true=>h.IsList l xs
 | false=>h.IsTuple l xs
noncomputable def itCls : Bool → String
 | true=>"list_iterator"
 | false=>"tuple_iterator"
theorem SIt.kp {b : Bool} {h h' : Heap} {i l : Addr} {k : Nat} (x : SIt b h i l k) (e : ∀ o,h.get? i = some o → h'.get? i = some o) : SIt b h' i l k:=by
 cases b
 ·exact Heap.IsTupleIter.at x e
 ·obtain ⟨o,ho,r⟩:=x; exact ⟨o,e o ho,r⟩
theorem SSq.kp {b : Bool} {h h' : Heap} {l : Addr} {xs : Array Value} (x : SSq b h l xs) (e : ∀ o,h.get? l = some o → h'.get? l = some o) : SSq b h' l xs:=by
 cases b
 ·obtain ⟨o,ho,r⟩:=x; exact ⟨o,e o ho,r⟩
 ·exact Heap.IsList.at x e
theorem SIt.ob {b : Bool} {h : Heap} {i l : Addr} {k : Nat} (x : SIt b h i l k) : ∃ o,h.get? i = some o ∧ o.cls = .type (itCls b) ∧ ∀ v,o.data ≠ .cell v:=by
 cases b
 ·obtain ⟨o,ho,c,d⟩:=x; exact ⟨o,ho,c,fun v z=>by rw [d] at z; cases z⟩
 ·obtain ⟨o,ho,c,d⟩:=x; exact ⟨o,ho,c,fun v z=>by rw [d] at z; cases z⟩
section
variable {prog : Program} {w : World} {A : Around} {E : Value → Shared → Prop} {s : Shared}
theorem nextS_item {b : Bool} {J T : Addr} {i : Nat} {items : Array Value} {x : Value} {Q : Value → Shared → Prop} (hJ : SIt b s.heap J T i) (hT : SSq b s.heap T items) (hx : items[i]? = some x)
  (q : ∀ h',SIt b h' J T (i + 1) → Heap.SameBut J s.heap h' → Q x { s with heap:=h' }) : wpAny (model prog w) A (Builtin.SmallTypes.nextOf (.ref J)) Q E s:=by
 cases b
 ·exact nextT_item hJ hT hx q
 ·exact wpAny_nextOf_list_item hJ hT hx q
theorem nextS_end {b : Bool} {J T : Addr} {i : Nat} {items : Array Value} {Q : Value → Shared → Prop} (hh : A.handled = none) (hJ : SIt b s.heap J T i) (hT : SSq b s.heap T items) (hx : items[i]? = none)
  (q : ∀ h' e,Heap.ExtBut J s.heap h' → Shared.TypeIs { s with heap:=h' } e "StopIteration" → E e { s with heap:=h' }) : wpAny (model prog w) A (Builtin.SmallTypes.nextOf (.ref J)) Q E s:=by
 cases b
 ·exact nextT_end hh hJ hT hx q
 ·exact wpAny_nextOf_list_end hh hJ hT hx fun h' e k ⟨o,ho,hc⟩=>q h' (.ref e) k ⟨o,ho,hc⟩
theorem iterS {b : Bool} {T : Addr} {items : Array Value} {Q : Value → Shared → Prop} (hT : SSq b s.heap T items)
  (q : Q (.ref s.heap.objs.size) { s with heap:=s.heap.push { cls:=.type (itCls b),data:=.fields #[.ref T,.int 0 0] } }) : wpAny (model prog w) A (pyIter (.ref T)) Q E s:=by
 cases b
 ·exact wpAny_pyIter_tuple hT q
 ·exact wpAny_pyIter_list hT q
structure ZpA (z u v c d a b : Addr) : Prop where
 uz : u ≠ z
 vz : v ≠ z
 cz : c ≠ z
 dz : d ≠ z
 uv : u ≠ v
 uc : u ≠ c
 ud : u ≠ d
 vc : v ≠ c
 vd : v ≠ d
 cd : c ≠ d
 az : a ≠ z
 av : a ≠ v
 ac : a ≠ c
 ad : a ≠ d
 bz : b ≠ z
 bv : b ≠ v
 bc : b ≠ c
 bd : b ≠ d
theorem zp_item {b1 b2 : Bool} {z u v c d a b : Addr} {k : Nat} {xs ys : Array Value} {x y p q : Value} {Q : Option Value → Shared → Prop} (D : ZpA z u v c d a b)
  (hz : IsZip s.heap z u v .none) (hu : IsPair s.heap u (.ref c) (.ref d)) (hv : IsPair s.heap v p q) (h1 : SIt b1 s.heap c a k) (h2 : SIt b2 s.heap d b k) (g1 : SSq b1 s.heap a xs) (g2 : SSq b2 s.heap b ys) (hx : xs[k]? = some x) (hy : ys[k]? = some y)
  (hQ : ∀ h',IsZip h' z u v (rawInt s.heap.objs.size) → IsPair h' v x y → SIt b1 h' c a (k + 1) → SIt b2 h' d b (k + 1) → IsPair h' s.heap.objs.size x y → h'.objs.size = s.heap.objs.size + 1 →
   (∀ e o,e ≠ z → e ≠ v → e ≠ c → e ≠ d → s.heap.get? e = some o → h'.get? e = some o) → Q (some (.ref s.heap.objs.size)) { s with heap:=h' }) : wpAny (model prog w) A (pyNext (.ref z)) Q E s:=by
 have hT : s.TypeIs (.ref z) "zip":=⟨_,hz,rfl⟩
 unfold pyNext
 refine wpAny_bind (wpAny_attempt (wpAny_callSpecial?_slot (name:=Str.ofString "__next__") hT PySem.F.slot_zip_next (wpAny_call_entry PySem.F.slot_zip_next hT PySem.F.entry_zip_next (show wpAny _ _ (field (.ref z) 2 >>= _) _ _ _ from ?_) (PySem.F.args_zip_next_1 _))))
 refine wpAny_bind (wpAny_field hz rfl (x:=.bool false) rfl (show wpAny _ _ (field (.ref z) 3 >>= _) _ _ _ from wpAny_bind (wpAny_field hz rfl (x:=.ref u) rfl (wpAny_bind (wpAny_seqItems hu rfl ?_)))))
 refine (show wpAny _ _ (Builtin.SmallTypes.ownedTupleIsFree (.ref z) >>= _) _ _ _ from wpAny_bind ?_)
 unfold Builtin.SmallTypes.ownedTupleIsFree
 refine wpAny_bind (wpAny_field hz rfl (x:=.none) rfl (wpAny_pure ?_))
 simp only [if_true]
 refine wpAny_bind (wpAny_rule (wpAny_bind (wpAny_field hz rfl (x:=.ref v) rfl (wpAny_bind (wpAny_setField_rec hz (by simp) fun m1 z1 s1=>?_)))))
 replace z1 : IsZip m1 z u v .ellipsis:=z1
 refine wpAny_bind ?_
 simp only [List.zipIdx_cons,List.zipIdx_nil,List.forIn_cons,List.forIn_nil]
 refine wpAny_bind (wpAny_bind (wpAny_onRaise (show wpAny _ _ (Builtin.SmallTypes.nextOf (.ref c) >>= _) _ _ _ from ?_)))
 refine wpAny_bind (nextS_item (s:={ s with heap:=m1 }) (h1.kp fun o e=>s1.extBut _ _ D.cz e) (g1.kp fun o e=>s1.extBut _ _ D.az e) hx fun m2 i2 s2=>wpAny_pure ?_)
 have v2 : IsPair m2 v p q:=s2.extBut _ _ D.vc (s1.extBut _ _ D.vz hv)
 refine wpAny_bind (wpAny_seqItems (s:={ s with heap:=m2 }) v2 rfl (wpAny_bind (wpAny_updateSeq_pair (s:={ s with heap:=m2 }) v2 fun m3 v3 s3=>?_)))
 replace v3 : IsPair m3 v x q:=v3
 refine wpAny_bind (wpAny_letGo (wpAny_pure (wpAny_bind (wpAny_bind (wpAny_onRaise (show wpAny _ _ (Builtin.SmallTypes.nextOf (.ref d) >>= _) _ _ _ from ?_))))))
 have k3 : ∀ e o,e ≠ z → e ≠ c → e ≠ v → s.heap.get? e = some o → m3.get? e = some o:=fun e o n1 n2 n3 w=>s3.extBut _ _ n3 (s2.extBut _ _ n2 (s1.extBut _ _ n1 w))
 refine wpAny_bind (nextS_item (s:={ s with heap:=m3 }) (h2.kp fun o e=>k3 _ _ D.dz D.cd.symm D.vd.symm e) (g2.kp fun o e=>k3 _ _ D.bz D.bc D.bv e) hy fun m4 i4 s4=>wpAny_pure ?_)
 have v4 : IsPair m4 v x q:=s4.extBut _ _ D.vd v3
 refine wpAny_bind (wpAny_seqItems (s:={ s with heap:=m4 }) v4 rfl (wpAny_bind (wpAny_updateSeq_pair (s:={ s with heap:=m4 }) v4 fun m5 v5 s5=>?_)))
 replace v5 : IsPair m5 v x y:=v5
 refine wpAny_bind (wpAny_letGo (wpAny_pure (wpAny_pure (wpAny_bind (wpAny_seqItems (s:={ s with heap:=m5 }) v5 rfl (wpAny_bind (wpAny_newTuple ?_)))))))
 have e5 : m5.objs.size = s.heap.objs.size:=by rw [s5.1,s4.1,s3.1,s2.1,s1.1]
 have k5 : ∀ e o,e ≠ z → e ≠ v → e ≠ c → e ≠ d → s.heap.get? e = some o → m5.get? e = some o:=fun e o n1 n2 n3 n4 w=>s5.extBut _ _ n2 (s4.extBut _ _ n4 (k3 e o n1 n3 n2 w))
 have z5 : IsZip m5 z u v .ellipsis:=s5.extBut _ _ D.vz.symm (s4.extBut _ _ D.dz.symm (s3.extBut _ _ D.vz.symm (s2.extBut _ _ D.cz.symm z1)))
 have j1 : SIt b1 m5 c a (k + 1):=i2.kp fun o e=>s5.extBut _ _ D.vc.symm (s4.extBut _ _ D.cd (s3.extBut _ _ D.vc.symm e))
 have j2 : SIt b2 m5 d b (k + 1):=i4.kp fun o e=>s5.extBut _ _ D.vd.symm e
 have lz : z < m5.objs.size:=Heap.lt_size z5
 refine (show wpAny _ _ (Builtin.SmallTypes.ownedTupleHandOut (.ref z) (.ref m5.objs.size) >>= _) _ _ _ from wpAny_bind ?_)
 unfold Builtin.SmallTypes.ownedTupleHandOut
 have z6 : IsZip (m5.push { cls:=.type "tuple",data:=.seq #[x,y] }) z u v .ellipsis:=Heap.get?_push_of_some _ z5
 refine wpAny_bind (wpAny_setField_rec z6 (by simp) fun m7 z7 s7=>?_)
 replace z7 : IsZip m7 z u v (rawInt m5.objs.size):=z7
 refine wpAny_setField_rec z7 (by simp) fun m8 z8 s8=>?_
 replace z8 : IsZip m8 z u v (rawInt m5.objs.size):=z8
 have up : ∀ e o,e ≠ z → m5.get? e = some o → m8.get? e = some o:=fun e o n w=>s8.extBut _ _ n (s7.extBut _ _ n (Heap.get?_push_of_some _ w))
 have t8 : IsPair m8 m5.objs.size x y:=s8.extBut _ _ (Nat.ne_of_gt lz) (s7.extBut _ _ (Nat.ne_of_gt lz) (Heap.get?_push_size _ rfl))
 have e8 : m8.objs.size = m5.objs.size + 1:=by rw [s8.1,s7.1,Heap.size_push]
 rw [e5] at z8 t8 e8
 refine wpAny_pure ⟨_,rfl,wpAny_pure ?_⟩
 show Q (some (.ref m5.objs.size)) _
 rw [e5]
 exact hQ m8 z8 (up _ _ D.vz v5) (j1.kp fun o e=>up _ o D.cz e) (j2.kp fun o e=>up _ o D.dz e) t8 e8 fun e o n1 n2 n3 n4 w=>up e o n1 (k5 e o n1 n2 n3 n4 w)
theorem zp_end {b1 b2 : Bool} {z u v c d a b : Addr} {k : Nat} {xs ys : Array Value} {p q : Value} {Q : Option Value → Shared → Prop} (hh : A.handled = none) (D : ZpA z u v c d a b)
  (hz : IsZip s.heap z u v .none) (hu : IsPair s.heap u (.ref c) (.ref d)) (h1 : SIt b1 s.heap c a k) (g1 : SSq b1 s.heap a xs) (hx : xs[k]? = none)
  (hQ : ∀ h',(∀ e o,e ≠ z → e ≠ v → e ≠ c → e ≠ d → s.heap.get? e = some o → h'.get? e = some o) → Q none { s with heap:=h' }) : wpAny (model prog w) A (pyNext (.ref z)) Q E s:=by
 have hT : s.TypeIs (.ref z) "zip":=⟨_,hz,rfl⟩
 unfold pyNext
 refine wpAny_bind (wpAny_attempt (wpAny_callSpecial?_slot (name:=Str.ofString "__next__") hT PySem.F.slot_zip_next (wpAny_call_entry PySem.F.slot_zip_next hT PySem.F.entry_zip_next (show wpAny _ _ (field (.ref z) 2 >>= _) _ _ _ from ?_) (PySem.F.args_zip_next_1 _))))
 refine wpAny_bind (wpAny_field hz rfl (x:=.bool false) rfl (show wpAny _ _ (field (.ref z) 3 >>= _) _ _ _ from wpAny_bind (wpAny_field hz rfl (x:=.ref u) rfl (wpAny_bind (wpAny_seqItems hu rfl ?_)))))
 refine (show wpAny _ _ (Builtin.SmallTypes.ownedTupleIsFree (.ref z) >>= _) _ _ _ from wpAny_bind ?_)
 unfold Builtin.SmallTypes.ownedTupleIsFree
 refine wpAny_bind (wpAny_field hz rfl (x:=.none) rfl (wpAny_pure ?_))
 simp only [if_true]
 refine wpAny_bind (wpAny_rule (wpAny_bind (wpAny_field hz rfl (x:=.ref v) rfl (wpAny_bind (wpAny_setField_rec hz (by simp) fun m1 z1 s1=>?_)))))
 replace z1 : IsZip m1 z u v .ellipsis:=z1
 refine wpAny_bind ?_
 simp only [List.zipIdx_cons,List.zipIdx_nil,List.forIn_cons,List.forIn_nil]
 refine wpAny_bind (wpAny_bind (wpAny_onRaise (show wpAny _ _ (Builtin.SmallTypes.nextOf (.ref c) >>= _) _ _ _ from ?_)))
 refine wpAny_bind (nextS_end (s:={ s with heap:=m1 }) (by simpa using hh) (h1.kp fun o e=>s1.extBut _ _ D.cz e) (g1.kp fun o e=>s1.extBut _ _ D.az e) hx fun m2 e s2 te=>?_)
 have z2 : IsZip m2 z u v .ellipsis:=s2 _ _ D.cz.symm z1
 refine wpAny_setField_rec (s:={ s with heap:=m2 }) z2 (by simp) fun m3 z3 s3=>?_
 have te3 : Shared.TypeIs { s with heap:=m3 } e "StopIteration":=by
  cases e with
  | ref x =>
   obtain ⟨o,ho,hc⟩:=te
   have nx : x ≠ z:=fun w=>by
    subst w
    have:=ho.symm.trans z2
    cases this
    injection hc with w
    exact absurd w (by decide)
   exact ⟨o,s3.extBut _ _ nx ho,hc⟩
  | _=>exact te
 exact wpAny_bind (wpAny_isInstance (T:="StopIteration") (b:=true) te3 isSubtype_stop (wpAny_pure (hQ m3 fun e o n1 n2 n3 n4 w=>s3.extBut _ _ n1 (s2 _ _ n3 (s1.extBut _ _ n1 w)))))
theorem zp_new {b1 b2 : Bool} {a b : Addr} {xs ys : Array Value} {Q : Value → Shared → Prop} (g1 : SSq b1 s.heap a xs) (g2 : SSq b2 s.heap b ys)
  (h : ∀ h',IsZip h' (s.heap.objs.size + 4) (s.heap.objs.size + 2) (s.heap.objs.size + 3) .none → IsPair h' (s.heap.objs.size + 2) (.ref s.heap.objs.size) (.ref (s.heap.objs.size + 1)) →
   IsPair h' (s.heap.objs.size + 3) .none .none → SIt b1 h' s.heap.objs.size a 0 → SIt b2 h' (s.heap.objs.size + 1) b 0 → (∀ e o,s.heap.get? e = some o → h'.get? e = some o) → Q (.ref (s.heap.objs.size + 4)) { s with heap:=h' }) :
  wpAny (model prog w) A (call (.type "zip") [.ref a,.ref b]) Q E s:=by
 refine callType_new (S:=fun _ R s'=>s' = s ∧ R (.ok (.ret (.ref (s.heap.objs.size + 4)))) { s with heap:=((((s.heap.push { cls:=.type (itCls b1),data:=.fields #[.ref a,.int 0 0] }).push { cls:=.type (itCls b2),data:=.fields #[.ref b,.int 0 0] }).push { cls:=.type "tuple",data:=.seq #[.ref s.heap.objs.size,.ref (s.heap.objs.size + 1)] }).push { cls:=.type "tuple",data:=.seq #[.none,.none] }).push { cls:=.type "zip",data:=.fields #[.none,.bool false,.bool false,.ref (s.heap.objs.size + 2),.ref (s.heap.objs.size + 3)] } })
  PySem.F.called_zip (by decide) (PySem.F.typeCall_zip_2 _ _) (PySem.F.newCall_zip_2 _ _) (fun ob=>PySem.F.args_object_init_3 ob _ _) PySem.F.entry_zip_new (.of_wp fun prog' w' A' R s' hs=>?_) ⟨rfl,?_⟩
 ·obtain ⟨rfl,hr⟩:=hs
  obtain ⟨hp,g,dr,tk,os⟩:=s'
  have hsub:=sub_zip
  have L1 : SSq b1 (Shared.heap ⟨hp,g,dr,tk,os⟩) a xs:=g1
  have L2 : SSq b2 (Shared.heap ⟨hp.push { cls:=.type (itCls b1),data:=.fields #[.ref a,.int 0 0] },g,dr,tk,os⟩) b ys:=g2.kp fun o e=>Heap.get?_push_of_some _ e
  wp_walk using iterS L1,iterS L2
  refine ⟨_,rfl,?_⟩
  simp only [Heap.size_push] at hr ⊢
  exact hr
 ·have z (h : Heap) (o : Obj) : (h.push o).objs.size = h.objs.size + 1:=Heap.size_push ..
  generalize e1 : s.heap.push { cls:=.type (itCls b1),data:=.fields #[.ref a,.int 0 0] } = m1
  generalize e2 : m1.push { cls:=.type (itCls b2),data:=.fields #[.ref b,.int 0 0] } = m2
  generalize e3 : m2.push { cls:=.type "tuple",data:=.seq #[.ref s.heap.objs.size,.ref (s.heap.objs.size + 1)] } = m3
  generalize e4 : m3.push { cls:=.type "tuple",data:=.seq #[.none,.none] } = m4
  generalize e5 : m4.push { cls:=.type "zip",data:=.fields #[.none,.bool false,.bool false,.ref (s.heap.objs.size + 2),.ref (s.heap.objs.size + 3)] } = m5
  have n1 : m1.objs.size = s.heap.objs.size + 1:=by rw [← e1,z]
  have n2 : m2.objs.size = s.heap.objs.size + 2:=by rw [← e2,z,n1]
  have n3 : m3.objs.size = s.heap.objs.size + 3:=by rw [← e3,z,n2]
  have n4 : m4.objs.size = s.heap.objs.size + 4:=by rw [← e4,z,n3]
  have k5 : ∀ e o,m4.get? e = some o → m5.get? e = some o:=fun e o w=>by rw [← e5]; exact Heap.get?_push_of_some _ w
  have k4 : ∀ e o,m3.get? e = some o → m5.get? e = some o:=fun e o w=>k5 e o (by rw [← e4]; exact Heap.get?_push_of_some _ w)
  have k3 : ∀ e o,m2.get? e = some o → m5.get? e = some o:=fun e o w=>k4 e o (by rw [← e3]; exact Heap.get?_push_of_some _ w)
  have k2 : ∀ e o,m1.get? e = some o → m5.get? e = some o:=fun e o w=>k3 e o (by rw [← e2]; exact Heap.get?_push_of_some _ w)
  have k1 : ∀ e o,s.heap.get? e = some o → m5.get? e = some o:=fun e o w=>k2 e o (by rw [← e1]; exact Heap.get?_push_of_some _ w)
  have q5 : IsZip m5 (s.heap.objs.size + 4) (s.heap.objs.size + 2) (s.heap.objs.size + 3) .none:=by rw [← n4,← e5]; exact Heap.get?_push_size _ rfl
  have q4 : IsPair m5 (s.heap.objs.size + 3) .none .none:=k5 _ _ (by rw [← n3,← e4]; exact Heap.get?_push_size _ rfl)
  have q3 : IsPair m5 (s.heap.objs.size + 2) (.ref s.heap.objs.size) (.ref (s.heap.objs.size + 1)):=k4 _ _ (by rw [← n2,← e3]; exact Heap.get?_push_size _ rfl)
  have q2 : m5.get? (s.heap.objs.size + 1) = some { cls:=.type (itCls b2),data:=.fields #[.ref b,.int 0 0] }:=k3 _ _ (by rw [← n1,← e2]; exact Heap.get?_push_size _ rfl)
  have q1 : m5.get? s.heap.objs.size = some { cls:=.type (itCls b1),data:=.fields #[.ref a,.int 0 0] }:=k2 _ _ (by rw [← e1]; exact Heap.get?_push_size _ rfl)
  refine ⟨⟨_,q5,rfl⟩,h m5 q5 q3 q4 ?_ ?_ k1⟩
  ·cases b1 <;> exact ⟨_,q1,rfl,rfl⟩
  ·cases b2 <;> exact ⟨_,q2,rfl,rfl⟩
end
end L2
namespace L2
open PySem PySem.Spec PyProof.Rows
noncomputable def SqB (K : PySem.W.Frag) (b : Bool) (H : Hp) (a : Addr) (xs : List V) : Prop:=match b with
 | true=>SqL K H a xs
 | false=>SqT K H a xs
theorem Inv.sqB {X : Cx} {pins : List (Addr × Obj)} {σ : St} {H : Hp} {s : Shared} (I : Inv X pins σ H s) {b : Bool} {a : Addr} {xs : List V} (h : SqB X.K b H a xs) : ∃ its : List Value,Vals xs its ∧ SSq b s.heap a its.toArray:=by
 cases b
 ·obtain ⟨its,r,p,_⟩:=I.tuple h; exact ⟨its,r,p⟩
 ·obtain ⟨its,r,p,_⟩:=I.list h; exact ⟨its,r,p.isList⟩
theorem Inv.sqB_inj {X : Cx} {pins : List (Addr × Obj)} {σ : St} {H : Hp} {s : Shared} (I : Inv X pins σ H s) {b : Bool} {a : Addr} {xs ys : List V} (h : SqB X.K b H a xs) (g : SqB X.K b H a ys) : xs = ys:=by
 cases b
 ·exact I.tuple_inj h g
 ·exact I.list_inj h g
noncomputable def Itz (K : PySem.W.Frag) (b1 b2 : Bool) (a b : Addr) : It :=
 ⟨fun i H=>∃ xs ys x y,SqB K b1 H a xs ∧ SqB K b2 H b ys ∧ xs[i]? = some x ∧ ys[i]? = some y,
  fun i H x H'=>∃ p v w,x = .ref p ∧ H p = none ∧ H' = upd H p (.tup [v,w]) ∧ (∀ xs,SqB K b1 H a xs → xs[i]? = some v) ∧ ∀ ys,SqB K b2 H b ys → ys[i]? = some w,
  fun i H=>∃ xs,SqB K b1 H a xs ∧ xs.length ≤ i⟩
theorem turn_zip {P : Program} {wd : World} {K : PySem.W.Frag} {elts : List Expr} {kx : Nat} {tp : Pos} {b1 b2 : Bool} (z u v c d a b : Addr) (D : ZpA z u v c d a b) :
  Turn P wd K (.Tuple elts kx tp) (Itz K b1 b2 a b) [z,u,v,c,d] z (fun i h=>IsZip h z u v .none ∧ IsPair h u (.ref c) (.ref d) ∧ (∃ p q,IsPair h v p q) ∧ SIt b1 h c a i ∧ SIt b2 h d b i) where
 mem:=by simp
 obj:=fun i h st e he=>by
  obtain ⟨hz,hu,⟨p,q,hv⟩,h1,h2⟩:=st
  rcases List.mem_cons.mp he with rfl | he
  ·exact ⟨_,hz,fun v w=>by cases (show Data.fields _ = Data.cell v from w)⟩
  rcases List.mem_cons.mp he with rfl | he
  ·exact ⟨_,hu,fun v w=>by cases (show Data.seq _ _ = Data.cell v from w)⟩
  rcases List.mem_cons.mp he with rfl | he
  ·exact ⟨_,hv,fun v w=>by cases (show Data.seq _ _ = Data.cell v from w)⟩
  rcases List.mem_cons.mp he with rfl | he
  ·obtain ⟨o,ho,_,n⟩:=h1.ob; exact ⟨o,ho,n⟩
  ·have q : e = d:=by simpa using he
   subst q
   obtain ⟨o,ho,_,n⟩:=h2.ob; exact ⟨o,ho,n⟩
 keep:=fun i h h' st k=>⟨k z (by simp) _ st.1,k u (by simp) _ st.2.1,let ⟨p,q,hv⟩:=st.2.2.1; ⟨p,q,k v (by simp) _ hv⟩,st.2.2.2.1.kp fun o e=>k c (by simp) o e,st.2.2.2.2.kp fun o e=>k d (by simp) o e⟩
 item:=by
  intro X hP hw hK hc i pins s σ H E I hf st hg
  subst hP hw hK
  obtain ⟨hz,hu,⟨p,q,hv⟩,h1,h2⟩:=st
  obtain ⟨xs,ys,x,y,gx,gy,hx,hy⟩:=hg
  obtain ⟨its,rv,g1⟩:=I.sqB gx
  obtain ⟨jts,rw',g2⟩:=I.sqB gy
  obtain ⟨ux,hux,rx⟩:=rv.get hx
  obtain ⟨uy,huy,ry⟩:=rw'.get hy
  have lt : ∀ e ∈ [z,u,v,c,d],e < s.heap.objs.size:=fun e he=>by
   obtain ⟨o,ho,_⟩ : ∃ o,s.heap.get? e = some o ∧ True:=by
    rcases List.mem_cons.mp he with rfl | he
    ·exact ⟨_,hz,trivial⟩
    rcases List.mem_cons.mp he with rfl | he
    ·exact ⟨_,hu,trivial⟩
    rcases List.mem_cons.mp he with rfl | he
    ·exact ⟨_,hv,trivial⟩
    rcases List.mem_cons.mp he with rfl | he
    ·obtain ⟨o,ho,_⟩:=h1.ob; exact ⟨o,ho,trivial⟩
    ·have w : e = d:=by simpa using he
     subst w
     obtain ⟨o,ho,_⟩:=h2.ob; exact ⟨o,ho,trivial⟩
   exact Heap.lt_size ho
  refine zp_item D hz hu hv h1 h2 g1 g2 (x:=ux) (y:=uy) (by simpa using hux) (by simpa using huy) fun h' z1 v1 i1 i2 t1 e1 k1=>⟨_,rfl,?_⟩
  have hn : H s.heap.objs.size = none:=I.hok.fresh (Nat.le_refl _)
  have I1 : Inv X pins σ H { s with heap:=h',toks:=s.toks }:=I.turnedN hf fun e o he w=>k1 e o (fun q=>he (by simp [q])) (fun q=>he (by simp [q])) (fun q=>he (by simp [q])) (fun q=>he (by simp [q])) w
  have r2 : Vals [x,y] [ux,uy]:=.cons rx (.cons ry .nil)
  have I2 : Inv X pins σ (upd H s.heap.objs.size (.tup [x,y])) { s with heap:=h',toks:=s.toks } :=
   I1.track (I.fpOk (Nat.le_refl _) hn) I.sz ⟨by show 2 ≤ sizeLine; decide,_,r2,_,t1,rfl,_,rfl⟩
  have hf2 : ∀ e ∈ [z,u,v,c,d],FpOk X pins (upd H s.heap.objs.size (.tup [x,y])) e:=fun e he=>by
   obtain ⟨f0,f1⟩:=hf e he
   refine ⟨?_,f1⟩
   rw [upd_ne (Nat.ne_of_lt (lt e he))]
   exact f0
  refine wpAny_letOwnedTupleGo_zip (s:={ s with heap:=h',toks:=s.toks }) z1 fun h'' z2 s2=>?_
  replace s2 : Heap.SameBut z h' h'':=s2
  have I3 : Inv X pins σ (upd H s.heap.objs.size (.tup [x,y])) { s with heap:=h'',toks:=s.toks }:=I2.turnedN hf2 fun e o he w=>(s2.2 e fun q=>he (by simp [q])).trans w
  have hu' : IsPair h' u (.ref c) (.ref d):=k1 _ _ D.uz D.uv D.uc D.ud hu
  exact ⟨.ref s.heap.objs.size,_,I3,rfl,⟨_,x,y,rfl,hn,rfl,fun ys' hy'=>by rw [I.sqB_inj hy' gx]; exact hx,fun ys' hy'=>by rw [I.sqB_inj hy' gy]; exact hy⟩,
   ⟨z2,(s2.2 u D.uz).trans hu',⟨ux,uy,(s2.2 v D.vz).trans v1⟩,i1.kp fun o w=>(s2.2 c D.cz).trans w,i2.kp fun o w=>(s2.2 d D.dz).trans w⟩,fun e he=>(hf2 e he).1⟩
 done:=by
  intro X hP hw hK hc i pins s σ H E I hf st hg
  subst hP hw hK
  obtain ⟨hz,hu,⟨p,q,hv⟩,h1,h2⟩:=st
  obtain ⟨xs,gx,hx⟩:=hg
  obtain ⟨its,rv,g1⟩:=I.sqB gx
  have hl:=rv.length
  refine zp_end (b2:=b2) (p:=p) (q:=q) (ys:=#[]) (I.ok.hd hc) D hz hu h1 g1 (by simp; exact om1 hx hl) fun h' k1=>⟨rfl,?_⟩
  exact I.turnedN (t':=s.toks) hf fun e o he w=>k1 e o (fun q=>he (by simp [q])) (fun q=>he (by simp [q])) (fun q=>he (by simp [q])) (fun q=>he (by simp [q])) w
 self:=fun _ _ _ _ _ st h=>wpAny_pyIter_zip st.1 h
theorem zpa_new (n a b : Nat) (h1 : a < n) (h2 : b < n) : ZpA (n + 4) (n + 2) (n + 3) n (n + 1) a b:=by
 refine ⟨?_,?_,?_,?_,?_,?_,?_,?_,?_,?_,?_,?_,?_,?_,?_,?_,?_,?_⟩ <;> (show (_ : Nat) ≠ _; omega)
section
variable {X : Cx} {elts : List Expr} {kx : Nat} {tp : Pos}
noncomputable def iZip (K : PySem.W.Frag) (b1 b2 : Bool) (ta : TA) : TI:=fun σ H R=>ta σ H fun vs H1=>∃ a b,vs = [.ref a,.ref b] ∧ (∃ xs,SqB K b1 H1 a xs) ∧ (∃ ys,SqB K b2 H1 b ys) ∧ R (Itz K b1 b2 a b) H1
theorem pi_zip {e1 e2 : Expr} {ta : TA} {p pos : Pos} {b1 b2 : Bool} (hg : Gl X "zip") (hm : X.mg "zip" = none) (hv : bootBuiltins "zip" = some (.type "zip")) (ha : PA X [e1,e2] ta) (hs : starEach [e1,e2] X.env = (false,eval e1 X.env) :: starEach [e2] X.env:=by rfl) (hp : (backTo pos (starEach [e2] X.env)).any (·.1) = false:=by rfl) :
  PI X (.Tuple elts kx tp) (.Call (.Name "zip" p) [e1,e2] [] pos) (iZip X.K b1 b2 ta):=by
 intro pins s σ H R I h
 refine Call_ (ld_blt I hg hm hv (PyProof.Rows.callWith_type1 (thn (ha pos pins s σ H _ I h) fun us s1 hq_=>?_) hs hp)); obtain ⟨vs,H1,I1,r1,q1⟩:=hq_
 obtain ⟨a,b,e,⟨xs,gx⟩,⟨ys,gy⟩,q⟩:=q1
 subst e
 cases r1 with
 | cons r rr =>
  cases rr with
  | cons r' rr' =>
   cases rr'
   cases r
   cases r'
   obtain ⟨its,rv,g1⟩:=I1.sqB gx
   obtain ⟨jts,rw',g2⟩:=I1.sqB gy
   have la : a < s1.heap.objs.size:=by cases b1 <;> (obtain ⟨o,ho,_⟩:=g1; exact Heap.lt_size ho)
   have lb : b < s1.heap.objs.size:=by cases b2 <;> (obtain ⟨o,ho,_⟩:=g2; exact Heap.lt_size ho)
   refine zp_new g1 g2 fun h' z1 u1 v1 i1 i2 k=>wpAny_pyIter_zip z1 ?_
   have D:=zpa_new s1.heap.objs.size a b la lb
   refine ⟨s1.heap.objs.size + 4,[s1.heap.objs.size + 4,s1.heap.objs.size + 2,s1.heap.objs.size + 3,s1.heap.objs.size,s1.heap.objs.size + 1],_,_,H1,rfl,I1.kept (t':=s1.toks) k,turn_zip _ _ _ _ _ a b D,⟨z1,u1,⟨_,_,v1⟩,i1,i2⟩,fun e he=>?_,q⟩
   have he' : s1.heap.objs.size ≤ e:=by
    rcases List.mem_cons.mp he with rfl | he
    ·exact Nat.le_add_right _ _
    rcases List.mem_cons.mp he with rfl | he
    ·exact Nat.le_add_right _ _
    rcases List.mem_cons.mp he with rfl | he
    ·exact Nat.le_add_right _ _
    rcases List.mem_cons.mp he with rfl | he
    ·exact Nat.le_refl _
    ·have w : e = s1.heap.objs.size + 1:=by simpa using he
     subst w
     exact Nat.le_add_right _ _
   exact I1.fpOk he' (I1.hok.fresh he')
end
theorem for_zipE {K : PySem.W.Frag} {b1 b2 : Bool} {a b : Addr} {xs ys : List V} {g : TG} {tb : TS} {D : Ends} {σ : St} {H : Hp} (Pv : Nat → St → Hp → Prop) (h0 : Pv 0 σ H) (hlen : xs.length = ys.length) (hl : ∀ i σ H,i ≤ xs.length → Pv i σ H → SqB K b1 H a xs ∧ SqB K b2 H b ys)
  (hs : ∀ E : Ends,E.rt = D.rt → ∀ i x y p σ H,xs[i]? = some x → ys[i]? = some y → H p = none → (∀ σ' H',Pv (i + 1) σ' H' → E.nx σ' H') → ∀ G : Prop,((g (.ref p) σ (upd H p (.tup [x,y])) fun σ2 H2=>tb E σ2 H2) → G) → Pv i σ H → G) (hd : ∀ σ H,Pv xs.length σ H → D.nx σ H) : ForW (Itz K b1 b2 a b) g tb D σ H:=by
 refine ⟨fun i m σ H=>m = xs.length - i ∧ i ≤ xs.length ∧ Pv i σ H,⟨xs.length,by simp,Nat.zero_le _,h0⟩,?_⟩
 rintro i m σ H ⟨rfl,hi,p⟩
 obtain ⟨q1,q2⟩:=hl i σ H hi p
 by_cases hlt : i < xs.length
 ·refine .inr ⟨⟨xs,ys,xs[i],ys[i]'(hlen ▸ hlt),q1,q2,List.getElem?_eq_getElem hlt,List.getElem?_eq_getElem (hlen ▸ hlt)⟩,Pv (i + 1),fun σ' H' p'=>⟨xs.length - (i + 1),om2 hlt,rfl,hlt,p'⟩,fun x H' y=>?_⟩
  obtain ⟨r,v,w,rfl,hr,rfl,w1,w2⟩:=y
  exact hs { D with nx:=Pv (i + 1),ct:=Pv (i + 1),bk:=D.nx } rfl i v w r σ H (w1 xs q1) (w2 ys q2) hr (fun _ _ h=>h) _ (fun z=>z) p
 ·have e : i = xs.length:=om3 hi hlt
  subst e
  exact .inl ⟨⟨xs,q1,Nat.le_refl _⟩,hd σ H p⟩
end L2
namespace L2
open PySem PySem.Spec PyProof.Rows
section
variable {prog : Program} {w : World} {A : Around} {E : Value → Shared → Prop}
theorem drawL {J l : Addr} {items : Array Value} (hne : l ≠ J) : ∀ (n i : Nat) (s : Shared) (Q : List Value → Shared → Prop),s.heap.IsListIter J l i → s.heap.IsList l items → i + n ≤ items.size →
  (∀ h',h'.IsListIter J l (i + n) → Heap.SameBut J s.heap h' → Q ((items.toList.drop i).take n) { s with heap:=h' }) → wpAny (model prog w) A (draw (.ref J) n) Q E s
 | 0,i,s,Q,hJ,_,_,q=>show wpAny _ _ (pure []) Q E s from wpAny_pure (by simpa using q s.heap hJ (Heap.SameBut.refl ..))
 | n + 1,i,s,Q,hJ,hl,hle,q=>by
  have hlt : i < items.size:=om183 hle
  refine (show wpAny _ _ (pyNext (.ref J) >>= _) Q E s from wpAny_bind (wpAny_pyNext_list_item hJ hl (x:=items[i]) (by simp [hlt]) fun h1 j1 s1=>?_))
  refine wpAny_bind (wpAny_holding (drawL hne n (i + 1) _ _ j1 (hl.extBut s1.extBut hne) (om184 hle) fun h2 j2 s2=>wpAny_pure ?_))
  have e:=q h2 (by rw [show i + (n + 1) = i + 1 + n by exact om185]; exact j2) (s1.trans s2)
  rwa [show items.toList.drop i = items[i] :: items.toList.drop (i + 1) by simp [List.drop_eq_getElem_cons,hlt],List.take_succ_cons] at e
theorem unpackL {s : Shared} {l : Addr} {items : Array Value} {n : Nat} {Q : List Value → Shared → Prop} (hh : A.handled = none) (hl : s.heap.IsList l items) (hn : items.size = n)
  (q : ∀ h',Heap.ExtBut s.heap.objs.size s.heap h' → Q items.toList { s with heap:=h' }) : wpAny (model prog w) A (unpackItems (.ref l) n none) Q E s:=by
 have hne : l ≠ s.heap.objs.size:=by obtain ⟨o,ho,_⟩:=hl; exact Nat.ne_of_lt (Heap.lt_size ho)
 unfold unpackItems
 refine wpAny_bind ?_
 unfold notIterableAtAll
 refine wpAny_bind (wpAny_specialOf hl.typeIs slot_list_iter.lookup ?_)
 refine wpAny_pure ?_
 simp only [Bool.false_eq_true,if_false]
 refine wpAny_bind (wpAny_holding (wpAny_pyIter_list hl ?_))
 have i0 : (s.heap.push { cls:=.type "list_iterator",data:=.fields #[.ref l,.int 0 0] }).IsListIter s.heap.objs.size l 0:=⟨_,Heap.get?_push_size _ rfl,rfl,rfl⟩
 refine wpAny_bind (wpAny_holding (drawL hne n 0 _ _ i0 (hl.push _) (om186 hn) fun h1 j1 s1=>?_))
 have et : (items.toList.drop 0).take n = items.toList:=by rw [List.drop_zero,List.take_of_length_le (by simp [hn])]
 rw [et,if_neg (by simp [hn])]
 have l1 : h1.IsList l items:=(hl.push _).extBut s1.extBut hne
 refine wpAny_bind (wpAny_holding (wpAny_pyNext_list_end hh j1 l1 (by simp [hn]) fun h3 e3=>?_))
 simp only [Option.isSome_none,Bool.false_eq_true,if_false]
 exact wpAny_pure (q h3 fun b o hb e=>e3 b o hb (s1.extBut b o hb (Heap.get?_push_of_some _ e)))
end
section
variable {X : Cx} {pos : Pos}
noncomputable def gLn (K : PySem.W.Frag) (n : Nat) (t : TGs) : TG:=fun v σ H Q=>∃ a xs,v = .ref a ∧ SqL K H a xs ∧ xs.length = n ∧ t xs σ H Q
theorem pg_lstn {es : List Expr} {k n : Nat} {t : TGs} (hc : X.calm = true) (h : PGs X es t)
  (hn : (assignEach es X.env).length = n:=by rfl) (hst : (assignEach es X.env).findIdx? (·.1) = none:=by rfl) : PG X (.Tuple es k pos) (gLn X.K n t):=by
 intro pins s σ H v u Q I r hw
 obtain ⟨a,xs,e1,hq,hl,hw⟩:=hw
 subst e1
 cases r
 obtain ⟨its,rv,p,hz⟩:=I.list hq
 rw [assign_Tuple]
 refine wpAny_bind (wpAny_standAt ?_)
 unfold unpack
 rw [hn,hst]
 refine wpAny_bind (wpAny_holding (unpackL (I.ok.hd hc) p.isList (by simp [← hl,rv.length]) fun h' hx=>?_))
 have I1 : Inv X pins σ H { s with heap:=h' }:=I.kept (t':=s.toks) fun b o e=>hx b o (Nat.ne_of_lt (Heap.lt_size e)) e
 exact h pins _ σ H xs _ Q I1 (by simpa using rv) hw
noncomputable def tAsg3 (K : PySem.W.Frag) (te : TE) (i j k : Nat) : TS:=fun D σ H=>te σ H fun x H1=>∃ a v1 v2 v3,x = .ref a ∧ SqT K H1 a [v1,v2,v3] ∧ D.nx (((σ.set k (some v3)).set j (some v2)).set i (some v1)) H1
theorem ps_asg3 {tg e : Expr} {te : TE} {x y z : Str} {i j k : Nat} (hc : X.calm = true) (hN : X.N.Nodup) (hi : X.N[i]? = some x) (hj : X.N[j]? = some y) (hk : X.N[k]? = some z) (lx : Loc X.env.scope x) (ly : Loc X.env.scope y) (lz : Loc X.env.scope z) (he : PE X e te)
  (fx : X.fn x = true ∨ X.env.scope.names.lookup x = some .local:=by first | exact .inl rfl | exact .inr rfl) (fy : X.fn y = true ∨ X.env.scope.names.lookup y = some .local:=by first | exact .inl rfl | exact .inr rfl) (fz : X.fn z = true ∨ X.env.scope.names.lookup z = some .local:=by first | exact .inl rfl | exact .inr rfl)
  (hs : swapsWithSole [tg] e pos.line X.env = pure false:=by rfl) (hw : swappedStores [tg] e X.env = pure (some [x,y,z]):=by rfl) : PS X (.Assign [tg] e pos) (tAsg3 X.K te i j k):=by
 intro pins s σ H D I h
 rw [exec_Assign_arm]
 refine wpAny_bind (wpAny_standAt ?_)
 rw [hs]
 refine wpAny_bind (wpAny_pure ?_)
 rw [if_neg (by decide)]
 refine wpAny_bind (thn (he pins s σ H _ I h) fun v s1 hq_=>?_); obtain ⟨xv,H1,I1,r1,a,v1,v2,v3,e1,hq,q⟩:=hq_
 rw [hw]
 refine wpAny_bind (wpAny_pure ?_)
 subst e1
 cases r1
 obtain ⟨its,rv,ht,hz⟩:=I1.tuple hq
 cases rv with
 | cons q1 rv =>
  cases rv with
  | cons q2 rv =>
   cases rv with
   | cons q3 rv =>
    cases rv
    rename_i u1 u2 u3
    unfold assignStores
    refine wpAny_bind (wpAny_rule (wpAny_bind (wpAny_unpackItems_tuple (items:=#[u1,u2,u3]) (I.ok.hd hc) ht fun h' hx=>?_)))
    have I2 : Inv X pins σ H1 { s1 with heap:=h' }:=I1.kept (t':=s1.toks) fun b o e=>hx b o (Nat.ne_of_lt (Heap.lt_size e)) e
    refine wpAny_bind ?_
    show wpAny _ _ (assignInOrder [fun v=>bindName X.env z v,fun v=>bindName X.env y v,fun v=>bindName X.env x v] [u3,u2,u1]) _ _ _
    refine wpAny_bind (wpAny_holding (wpAny_bindName (store_ok I2 hN hk lz q3 (fun s2 I3=>?_) fz)))
    refine wpAny_bind (wpAny_holding (wpAny_bindName (store_ok I3 hN hj ly q2 (fun s3 I4=>?_) fy)))
    refine wpAny_bind (wpAny_holding (wpAny_bindName (store_ok I4 hN hi lx q1 (fun s4 I5=>?_) fx)))
    exact wpAny_pure (wpAny_pure ⟨_,H1,I5,q⟩)
end
end L2
namespace L2
open PySem PySem.Spec PyProof.Rows
theorem ext_tup (l b : Addr) (items items2 : Array Value) (n n2 : Nat) (dd : Option Addr) (sl : Array (Option Value)) (w0 : ¬(!items.isEmpty && Builtin.List.listTooLong (items.size + items2.size)) = true) (w1 : items.size ≤ sizeLine) (w2 : items.size + items2.size ≤ sizeLine + 1) :
  Meets (Builtin.«list.extend» ⟨[.ref l,.ref b],[]⟩) (fun _ R s=>s.heap.get? l = some { cls:=.type "list",dict:=none,data:=.seq items n,slots:=#[] } ∧ s.heap.get? b = some ⟨.type "tuple",dd,.seq items2 n2,sl⟩ ∧ R (.ok (.ret Value.none)) { s with heap:=s.heap.update l (Obj.mapSeq fun x=>x ++ items2),toks:=s.toks }):=by
 refine Meets.of_wp fun prog w A R s h=>?_
 obtain ⟨hp,g,d,tk,os⟩:=s
 obtain ⟨hl,hb,h⟩:=h
 have f1:=AutoSeq1.idx_int
 have f2:=AutoSeq1.sub_tuple_tuple
 have f3:=AutoSeq1.sub_list_list
 have f4:=AutoSeq1.sub_tuple_list
 have f5:=AutoSeq1.sub_list_tuple
 have hz : (items ++ items2).size ≤ sizeLine + 1:=by rw [Array.size_append]; exact w2
 wp_walk using (wpAny_updateSeq hl rfl (hz:=w1) (_hz':=hz)),AutoSeq1.wpAny_loadPart' hl,AutoSeq1.wpAny_loadPart' hb
 exact ⟨_,rfl,h⟩
section
variable {X : Cx}
noncomputable def rExtendT (K : PySem.W.Frag) : V → List V → Hp → VK → Prop:=fun x vs H Q=>∃ l b xs zs,x = .ref l ∧ vs = [.ref b] ∧ H l = some (.lst xs) ∧ SqT K H b zs ∧ xs.length + zs.length ≤ sizeLine ∧ Q .non (upd H l (.lst (xs ++ zs)))
theorem mt_extendT : MtM X "list.extend" (rExtendT X.K):=by
 intro pins s σ H x vs v us Q I rx rv h
 obtain ⟨l,b,xs,zs,rfl,rfl,hH,hB,hz,q⟩:=h
 cases rx
 obtain ⟨u,rfl,ru⟩:=rv.one
 cases ru
 obtain ⟨z,its,n,r,hl,e⟩:=I.lstM hH
 obtain ⟨its2,r2,p2,z2⟩:=I.tuple hB
 have hl2:=r2.length
 have hsz : its.toArray.size + its2.toArray.size ≤ sizeLine:=by rw [List.size_toArray,List.size_toArray]; exact om12 hz hl hl2
 have hlong : ¬ (!its.toArray.isEmpty && Builtin.List.listTooLong (its.toArray.size + its2.toArray.size)) = true:=by
  rw [notLongL hsz,Bool.and_false]
  exact Bool.false_ne_true
 obtain ⟨⟨oc,od,da,sl⟩,ho,hc,n2,hd⟩:=p2
 cases hc
 cases hd
 refine call_meets F.slot_list_extend ⟨_,e,rfl⟩ F.entry_list_extend (F.args_list_extend_2 _ _) (ext_tup l b its.toArray its2.toArray n n2 od sl hlong (by rw [List.size_toArray]; exact om1 z hl) (om45 hsz)) ⟨e,ho,?_⟩
 refine ⟨.non,_,I.lset (its':=its ++ its2) hH e (by simp) (r.append r2) (by rw [List.length_append]; exact om24 hz),rfl,q⟩
theorem call_setN (hc : X.calm = true) : CallR X (.type "set") (fun xs H Q=>∃ (p : Addr) (ss : List Str),xs = [.ref p] ∧ SqL X.K H p (ss.map V.str) ∧ ss.length + 1 < scanBound ∧
  ∀ l L,H l = none → L.Nodup → (∀ x,x ∈ L ↔ x ∈ ss) → Q (.ref l) (upd H l (TsO X.prog X.w l L))):=by
 intro pins s σ H xs us Q I r h
 obtain ⟨p,ss,rfl,hq,hb,q⟩:=h
 obtain ⟨u,rfl,rx⟩:=vals1 r
 cases rx
 obtain ⟨its,r',pl,hz⟩:=I.list hq
 have hv:=strsAre_of r'
 have hn : its.length = ss.length:=(L2.StrsAre.len hv).symm
 refine call_set_texts (I.ok.hd hc) pl.isList (by simpa using hv) (by simpa [hn] using hb) fun h' tk L hS hm hl k _=>?_
 have hnd : L.Nodup:=by obtain ⟨_,_,_,_,_,_,_,_,_,hnd,_⟩:=hS; exact hnd
 have k' : ∀ b o,s.heap.get? b = some o → h'.get? b = some o:=fun b o e=>k b o (Heap.lt_size e) e
 obtain ⟨o,ho⟩ : ∃ o,h'.get? s.heap.objs.size = some o:=let ⟨o,_,_,_,ho,_⟩:=hS; ⟨o,ho⟩
 exact ⟨.ref s.heap.objs.size,_,I.laid k' (Nat.le_refl _) (show ObjOk X.prog X.w _ h' _ (TsO X.prog X.w s.heap.objs.size L) from ⟨hS,⟨o,ho⟩,fun h1 h2 x e=>TxSet.at x e⟩),rfl,q _ _ (I.hok.fresh (Nat.le_refl _)) hnd hm⟩
end
end L2
namespace K17
open PySem PySem.Spec PyProof.Rows L2
noncomputable def TMono (H H' : Hp) : Prop:=∀ b xs,H b = some (.tup xs) → H' b = some (.tup xs)
theorem Same.tm {H H' : Hp} (a : Same H H') : TMono H H':=fun b xs h=>a b _ h
theorem same_upd {H : Hp} {p : Addr} {o : HO} (n : H p = none) : Same H (upd H p o):=fun b u e=>keepN e n
theorem ifY {b : Bool} {A B : Prop} (h : b = true) (x : A) : if b = true then A else B:=by rw [if_pos h]; exact x
theorem ifX {b : Bool} {A B : Prop} (h : b = false) (x : B) : if b = true then A else B:=by rw [h,if_neg Bool.false_ne_true]; exact x
theorem line24 : sizeLine = 16777216:=by rw [sizeLine_eq]
theorem BoxAt.same {H H' : Hp} {p : Addr} (B : BoxAt H p) (s : Same H H') : BoxAt H' p:=by
 refine opq fun Gq kq=>?_
 obtain ⟨a,b,h1,h2,h3,h⟩:=B.ob
 refine kq ?_
 exact ⟨a,b,h1,h2,h3,s _ _ h⟩
theorem But.of_same {p : Addr} {H H' : Hp} (s : Same H H') : But p H H':=fun b o _ e=>s _ _ e
theorem But.tm {p : Addr} {H H' : Hp} (k : But p H H') (B : BoxAt H p) : TMono H H':=fun b xs e=>by
 refine opq fun Gq kq=>?_
 obtain ⟨a,c,_,_,_,hp⟩:=B.ob
 refine kq ?_
 exact k b _ (ne_of e hp (by intro w; cases w)) e
theorem But.none {p r : Addr} {H H' : Hp} (k : But p H H') (B : BoxAt H' p) (n : H' r = none) : H r = none:=by
 cases z : H r with
 | none=>rfl
 | some o=>have:=k _ _ (B.ne n) z; rw [n] at this; cases this
theorem compR_lst {K : PySem.W.Frag} {a : Addr} {xs : List V} {te : TE} {Qf : List V → Hp → Prop} {σt : L2.St} {H : Hp} (hz : xs.length ≤ sizeLine) (Pv : Nat → List V → Hp → Prop) (h0 : Pv 0 [] H)
  (hk : ∀ i ys H',Pv i ys H' → SqL K H' a xs ∧ ys.length ≤ i) (hs : ∀ i x ys H',xs[i]? = some x → Pv i ys H' → te (some x :: σt) H' fun y H2=>Pv (i + 1) (ys ++ [y]) H2) (hd : ∀ ys H',Pv xs.length ys H' → Qf ys H') :
  CompR (Itl K a) 1 σt (gName 0) tAll te Qf H:=by
 refine ⟨fun i m ys H'=>m = xs.length - i ∧ i ≤ xs.length ∧ Pv i ys H',⟨xs.length,by simp,Nat.zero_le _,h0⟩,?_⟩
 intro i m ys H' hq'
 refine opq fun Gq kq=>?_
 obtain ⟨rfl,hi,p⟩:=hq'
 refine kq ?_
 obtain ⟨hq,hy⟩:=hk i ys H' p
 by_cases hlt : i < xs.length
 ·refine .inr ⟨⟨xs,xs[i],hq,List.getElem?_eq_getElem hlt⟩,om58 hz hy hlt,Pv (i + 1),fun ys' H2 p'=>⟨xs.length - (i + 1),om2 hlt,rfl,hlt,p'⟩,fun v H2 ts hts y=>?_⟩
  obtain ⟨e,y⟩:=y
  subst e
  obtain ⟨w,rfl⟩:=len1 hts
  exact ⟨⟨[some _],rfl,rfl⟩,hs i v ys H2 (y xs hq) p⟩
 ·have e : i = xs.length:=om3 hi hlt
  subst e
  exact .inl ⟨⟨xs,hq,Nat.le_refl _⟩,hd ys H' p⟩
theorem compR_tup {K : PySem.W.Frag} {a : Addr} {xs : List V} {te : TE} {Qf : List V → Hp → Prop} {σt : L2.St} {H : Hp} (hz : xs.length ≤ sizeLine) (Pv : Nat → List V → Hp → Prop) (h0 : Pv 0 [] H)
  (hk : ∀ i ys H',Pv i ys H' → SqT K H' a xs ∧ ys.length ≤ i) (hs : ∀ i x ys H',xs[i]? = some x → Pv i ys H' → te (some x :: σt) H' fun y H2=>Pv (i + 1) (ys ++ [y]) H2) (hd : ∀ ys H',Pv xs.length ys H' → Qf ys H') :
  CompR (Itt K a) 1 σt (gName 0) tAll te Qf H:=by
 refine ⟨fun i m ys H'=>m = xs.length - i ∧ i ≤ xs.length ∧ Pv i ys H',⟨xs.length,by simp,Nat.zero_le _,h0⟩,?_⟩
 intro i m ys H' hq'
 refine opq fun Gq kq=>?_
 obtain ⟨rfl,hi,p⟩:=hq'
 refine kq ?_
 obtain ⟨hq,hy⟩:=hk i ys H' p
 by_cases hlt : i < xs.length
 ·refine .inr ⟨⟨xs,xs[i],hq,List.getElem?_eq_getElem hlt⟩,om58 hz hy hlt,Pv (i + 1),fun ys' H2 p'=>⟨xs.length - (i + 1),om2 hlt,rfl,hlt,p'⟩,fun v H2 ts hts y=>?_⟩
  obtain ⟨e,y⟩:=y
  subst e
  obtain ⟨w,rfl⟩:=len1 hts
  exact ⟨⟨[some _],rfl,rfl⟩,hs i v ys H2 (y xs hq) p⟩
 ·have e : i = xs.length:=om3 hi hlt
  subst e
  exact .inl ⟨⟨xs,hq,Nat.le_refl _⟩,hd ys H' p⟩
noncomputable abbrev sNumber : Stmt:=top 21
noncomputable abbrev sTerm : Stmt:=top 23
inductive Tm where
 | num (n : Int) | var (x : Str) | op (i : Nat) (a b : Tm)
noncomputable def Tm.depth : Tm → Nat
 | .num _=>0
 | .var _=>0
 | .op _ a b=>max a.depth b.depth + 1
noncomputable def sgns : Str:="+-*/<="
theorem sgns_len : sgns.length = 6:=by decide +kernel
noncomputable def sgn (i : Nat) : Str:=⟨#[sgns.cps.toList.getD i 0]⟩
theorem sgn_at {d : Int} (h0 : 0 ≤ d) (h1 : d < 6) : atI sgns.cps.toList d = some (sgns.cps.toList.getD d.toNat 0):=by
 have hl : sgns.cps.toList.length = 6:=by decide +kernel
 have hk : d.toNat < sgns.cps.toList.length:=om187 h1 hl
 have ek : d = ((d.toNat : Nat) : Int):=om6 h0
 have q : atI sgns.cps.toList ((d.toNat : Nat) : Int) = some (sgns.cps.toList.getD d.toNat 0):=atI_nat (by rw [List.getD_eq_getElem?_getD,List.getElem?_eq_getElem hk]; rfl)
 rw [← ek] at q
 exact q
noncomputable def Tm.Good (ys : List Str) : Tm → Prop
 | .num n=>0 ≤ n ∧ n < 1000000000000000000
 | .var x=>x ∈ ys
 | .op i a b=>i < 6 ∧ a.Good ys ∧ b.Good ys
noncomputable def TmAt (H : Hp) : Tm → Addr → Prop
 | .num n,p=>H p = some (.tup [.str "num",.int n])
 | .var x,p=>H p = some (.tup [.str "var",.str x])
 | .op i a b,p=>∃ q r,H p = some (.tup [.str "op",.str (sgn i),.ref q,.ref r]) ∧ TmAt H a q ∧ TmAt H b r
theorem TmAt.mono {H H' : Hp} (h : ∀ b xs,H b = some (.tup xs) → H' b = some (.tup xs)) : ∀ {t : Tm} {p : Addr},TmAt H t p → TmAt H' t p
 | .num _,_,e=>h _ _ e
 | .var _,_,e=>h _ _ e
 | .op _ _ _,_,⟨q,r,e,e1,e2⟩=>⟨q,r,h _ _ e,TmAt.mono h e1,TmAt.mono h e2⟩
theorem TmAt.same {H H' : Hp} (h : Same H H') {t : Tm} {p : Addr} (e : TmAt H t p) : TmAt H' t p:=e.mono fun b xs z=>h b _ z
theorem TmAt.but {H H' : Hp} {p : Addr} (B : BoxAt H p) (k : But p H H') {t : Tm} {a : Addr} (e : TmAt H t a) : TmAt H' t a:=e.mono fun b xs z=>by
 refine opq fun Gq kq=>?_
 obtain ⟨x,y,_,_,_,hp⟩:=B.ob
 refine kq ?_
 exact k b _ (ne_of z hp (by intro q; cases q)) z
theorem TmAt.new {H : Hp} {r : Addr} {o : HO} (n : H r = none) {t : Tm} {a : Addr} (e : TmAt H t a) : TmAt (upd H r o) t a:=e.mono fun b xs z=>keepN z n
noncomputable def spNum : Sp:=fun vs H Q _=>∃ p : Addr,vs = [.ref p] ∧ BoxAt H p ∧ ∀ (d : Int) (H' : Hp),0 ≤ d → d < 1000000000000000000 → BoxAt H' p → (∀ b,b ≠ p → H' b = H b) → Q (.int d) H'
noncomputable def spTerm (n : Nat) : Sp:=fun vs H Q _=>∃ (p g : Addr) (d : Int) (ys : List Str),vs = [.ref p,.ref g,.int d] ∧ BoxAt H p ∧ H g = some (.lst (ys.map V.str)) ∧ 1 ≤ ys.length ∧ ys.length ≤ 20 ∧ 0 ≤ d ∧ d < (n : Int) ∧
 ∀ (r : Addr) (T : Tm) (H' : Hp),TmAt H' T r → (T.depth : Int) ≤ d → T.Good ys → BoxAt H' p → But p H H' → Q (.ref r) H'
theorem box_ne {H : Hp} {p g : Addr} {ys : List Str} (B : BoxAt H p) (h : H g = some (.lst (ys.map V.str))) : g ≠ p:=by
 refine opq fun Gq kq=>?_
 obtain ⟨x,y,_,_,_,hp⟩:=B.ob
 refine kq ?_
 refine ne_of h hp fun z=>?_
 injection z with z
 match ys,z with
 | a :: r,z=>injection z with z1 _; cases z1
section
variable {P : Program} {w : World} {K : PySem.W.Frag} {mg : Str → Option Value} {base : Heap}
theorem scNumber : FnScope ["_law_box_here"] ["_law_box_here"] (defScope sNumber):=⟨rfl,rfl,rfl,by decide +kernel,rfl,by decide +kernel,by decide +kernel⟩
theorem ok_number {f  : Addr} {fd  : FuncData} (F : Fun K "_law_number" "_law_number" sNumber f fd) (GT : FnOk P w K mg base CX0 1 fT fdT ["_law_box_here", "_law_wide"] spTake) (bT : Binds K fdT ["_law_box_here", "_law_wide"] []) (kT : PySem.W.keepIn K (.ref fT) = true) (mT : mg "_law_take" = some (.ref fT)) : FnOk P w K mg base CX0 2 f fd ["_law_box_here"] spNum:=by
 refine F.ok scNumber (fun vs H Q E h=>?_) (fun cdv A outer s H vs Q E hr h=>?_)
 ·obtain ⟨p,rfl,_⟩:=h
  rfl
 refine opq fun Gq kq=>?_
 obtain ⟨p,rfl,B,q⟩:=h
 refine kq ?_
 refine ⟨_,(pss_cons (ps_if (@pt_cmpR _ _ _ _ _ _ _ _ op_eq (pe_call GT hr rfl mT kT bT .nil pass0 (pa_cons (pv 0) (pa_cons pe_int pa_nil))) pe_int (@nomark _ _ (by decide) (by decide))) (pss_one (ps_ret (pe_call GT hr rfl mT kT bT .nil pass0 (pa_cons (pv 0) (pa_cons (pe_op op_pow pe_int pe_int) pa_nil))))) pss_nil) (pss_one (ps_ret (pe_call GT hr rfl mT kT bT .nil pass0 (pa_cons (pv 0) (pa_cons pe_int pa_nil)))))),?_⟩
 try dsimp only [cxOf,Cx.nox,Cx.wish]
 refine ⟨_,rfl,p,4,rfl,B,by decide,by decide,fun d1 H1 d10 d11 B1 e1=>⟨rfl,_,rfl,?_⟩⟩
 refine ite2 (fun c=>?_) (fun c=>?_)
 ·refine ⟨_,rfl,_,_,rfl,rfl,⟨by decide,by decide,by decide⟩,p,_,rfl,B1,by decide,by decide,fun d2 H2 d20 d21 B2 e2=>?_⟩
  have z:=ten18
  exact q d2 H2 d20 (om188 d21 z) B2 fun b n=>(e2 b n).trans (e1 b n)
 ·refine ⟨_,rfl,p,9,rfl,B1,by decide,by decide,fun d2 H2 d20 d21 B2 e2=>?_⟩
  exact q d2 H2 d20 (om189 d21) B2 fun b n=>(e2 b n).trans (e1 b n)
theorem scTerm : FnScope ["_law_box_here", "_law_names_here", "_law_deep", "_law_kind", "_law_one"] ["_law_box_here", "_law_names_here", "_law_deep"] (defScope sTerm):=⟨rfl,rfl,rfl,by decide +kernel,rfl,by decide +kernel,by decide +kernel⟩
theorem ok_term {f  : Addr} {fd  : FuncData} (F : Fun K "_law_term" "_law_term" sTerm f fd) {n : Nat} (G : FnOk P w K mg base CX0 (n + 2) f fd ["_law_box_here", "_law_names_here", "_law_deep"] (spTerm n)) (bF : Binds K fd ["_law_box_here", "_law_names_here", "_law_deep"] []) (kF : PySem.W.keepIn K (.ref f) = true) (mF : mg "_law_term" = some (.ref f)) (GT : FnOk P w K mg base CX0 1 fT fdT ["_law_box_here", "_law_wide"] spTake) (bT : Binds K fdT ["_law_box_here", "_law_wide"] []) (kT : PySem.W.keepIn K (.ref fT) = true) (mT : mg "_law_take" = some (.ref fT)) (GN : FnOk P w K mg base CX0 2 fN fdN ["_law_box_here"] spNum) (bN : Binds K fdN ["_law_box_here"] []) (kN : PySem.W.keepIn K (.ref fN) = true) (mN : mg "_law_number" = some (.ref fN)) (ml : mg "len" = none) : FnOk P w K mg base CX0 (n + 3) f fd ["_law_box_here", "_law_names_here", "_law_deep"] (spTerm (n + 1)):=by
 refine F.ok scTerm (fun vs H Q E h=>?_) (fun cdv A outer s H vs Q E hr h=>?_)
 ·refine opq fun Gq kq=>?_
  obtain ⟨p,g,d,ys,rfl,_⟩:=h
  refine kq ?_
  rfl
 refine opq fun Gq kq=>?_
 obtain ⟨p,g,d,ys,rfl,B,hg,hy1,hy2,hd0,hd1,q⟩:=h
 refine kq ?_
 refine ⟨_,(pss_cons (ps_set (i:=3) scTerm.nd rfl (Or.inl rfl) (pe_call GT (hr.mono om27) rfl mT kT bT .nil pass0 (pa_cons (pv 0) (pa_cons pe_int pa_nil)))) (pss_cons (ps_mid (ps_if (@PW.pt _ _ _ (@pw_or _ _ _ _ _ _ _ (@pt_cmpR _ _ _ _ _ _ _ _ op_lt (pv 3) pe_int (@nomark _ _ (by decide) (by decide))) (@pw_or1 _ _ _ _ (@PW.pt _ _ _ (@pw_and _ _ _ _ _ _ _ (@pt_cmpR _ _ _ _ _ _ _ _ op_gt (pv 3) pe_int (@nomark _ _ (by decide) (by decide))) (@pw_and1 _ _ _ _ (@pt_cmpR _ _ _ _ _ _ _ _ op_eq (pv 2) pe_int (@nomark _ _ (by decide) (by decide))))))))) (pss_one (ps_ret (pe_tup (pa_cons pe_str (pa_cons (pe_call GN (hr.mono om190) rfl mN kN bN .nil pass0 (pa_cons (pv 0) pa_nil)) pa_nil))))) pss_nil)) (pss_cons (ps_if (@pt_cmpR _ _ _ _ _ _ _ _ op_lt (pv 3) pe_int (@nomark _ _ (by decide) (by decide))) (pss_one (ps_ret (pe_tup (pa_cons pe_str (pa_cons (@pe_ix _ _ _ _ _ _ _ ix_list (pv 1) (pe_call GT (hr.mono om27) rfl mT kT bT .nil pass0 (pa_cons (pv 0) (pa_cons (@pe_callB _ _ _ _ _ _ _ _ _ call_len_seq rfl ml PySem.boot_len (pa_cons (pv 1) pa_nil) (by decide) (by decide) (by rfl) (by rfl)) pa_nil))) (fun _ _=>rfl)) pa_nil))))) pss_nil) (pss_cons (ps_set (i:=4) scTerm.nd rfl (Or.inl rfl) (pe_call G hr rfl mF kF bF .nil pass0 (pa_cons (pv 0) (pa_cons (pv 1) (pa_cons (pe_op op_sub (pv 2) pe_int) pa_nil))))) (pss_one (ps_ret (pe_tup (pa_cons pe_str (pa_cons (@pe_ix _ _ _ _ _ _ _ ix_str pe_str (pe_call GT (hr.mono om27) rfl mT kT bT .nil pass0 (pa_cons (pv 0) (pa_cons pe_int pa_nil))) (fun _ _=>rfl)) (pa_cons (pv 4) (pa_cons (pe_call G hr rfl mF kF bF .nil pass0 (pa_cons (pv 0) (pa_cons (pv 1) (pa_cons (pe_op op_sub (pv 2) pe_int) pa_nil)))) pa_nil))))))))))),?_⟩
 try dsimp only [cxOf,Cx.nox,Cx.wish]
 have big:=line_big
 have hgp : g ≠ p:=box_ne B hg
 refine seqF fun F1 f1=>⟨_,rfl,p,6,rfl,B,by decide,by decide,fun kd H1 k0 k1 B1 e1=>f1 _ _ ?_⟩
 clear f1
 have hg1 : H1 g = some (.lst (ys.map V.str)):=by rw [e1 g hgp]; exact hg
 have K1 : But p H H1:=But.of_eq e1
 have num : ∀ (d2 : Int) (H2 : Hp) (r : Addr),0 ≤ d2 → d2 < 1000000000000000000 → BoxAt H2 p → (∀ b,b ≠ p → H2 b = H1 b) → H2 r = none → Q (.ref r) (upd H2 r (.tup [.str "num",.int d2])):=fun d2 H2 r d0 d1 B2 e2 nr =>
  q r (.num d2) _ upd_same (by show ((0 : Nat) : Int) ≤ d; exact om59 hd0) ⟨d0,d1⟩ (B2.upd_new nr) ((K1.trans (But.of_eq e2)).upd_new nr)
 refine seqF fun F1 f1=>midE (fun σ' H'=>σ' = [some (.ref p),some (.ref g),some (.int d),some (.int kd),none] ∧ H' = H1 ∧ (kd ≤ 3 ∨ d ≠ 0)) (fun E2 eR fm=>?_) fun σ' H' hq'=>?_
 ·clear f1
  refine ifG fun G' g'=>⟨_,rfl,_,_,rfl,rfl,_,rfl,?_⟩
  refine ite2 (fun c=>?_) (fun c=>?_)
  ·refine g' _ _ (iteT ?_)
   show tRet _ E2 _ _
   unfold tRet
   rw [eR]
   exact ⟨_,rfl,p,rfl,B1,fun d2 H2 d0 d1 B2 e2=>⟨(by exact sz2),fun r nr=>num d2 H2 r d0 d1 B2 e2 nr⟩⟩
  refine ⟨_,rfl,_,_,rfl,rfl,_,rfl,?_⟩
  refine ite2 (fun c2=>?_) (fun c2=>?_)
  ·refine ⟨_,rfl,rfl,_,rfl,g' _ _ ?_⟩
   refine ite2 (fun c3=>?_) (fun c3=>?_)
   ·show tRet _ E2 _ _
    unfold tRet
    rw [eR]
    exact ⟨_,rfl,p,rfl,B1,fun d2 H2 d0 d1 B2 e2=>⟨(by exact sz2),fun r nr=>num d2 H2 r d0 d1 B2 e2 nr⟩⟩
   ·exact fm _ _ ⟨rfl,rfl,.inr fun z=>c3 (by rw [z]; rfl)⟩
  ·have c2' : ¬ (3 : Int) < kd:=of_decide_eq_false (Bool.eq_false_iff.mpr c2)
   exact g' _ _ (iteF (fm _ _ ⟨rfl,rfl,.inl (om191 c2')⟩))
 obtain ⟨rfl,eH,hk⟩:=hq'
 rw [eH]
 refine f1 _ _ ?_
 clear f1
 refine seqF fun F1 f1=>ifG fun G' g'=>⟨_,rfl,_,_,rfl,rfl,_,rfl,g' _ _ ?_⟩
 clear g'
 refine ite2 (fun c=>?_) (fun c=>f1 _ _ ?_)
 ·-- a variable
  refine ⟨_,rfl,_,rfl,_,rfl,g,_,rfl,.inl (SqL.of hg1),p,_,rfl,B1,by rw [List.length_map]; exact om60 hy1,by rw [List.length_map]; exact om61 hy2,fun d2 H2 d20 d21 B2 e2=>?_⟩
  rw [List.length_map] at d21
  obtain ⟨y,hy,hat⟩:=txt_at (ys:=ys) d20 d21
  have hg2 : H2 g = some (.lst (ys.map V.str)):=by rw [e2 g hgp]; exact hg1
  refine ⟨g,_,_,_,rfl,rfl,SqL.of hg2,hat,(by exact sz2),fun r nr=>?_⟩
  exact q r (.var y) _ upd_same (by show ((0 : Nat) : Int) ≤ d; exact om59 hd0) hy (B2.upd_new nr) ((K1.trans (But.of_eq e2)).upd_new nr)
 ·have c' : ¬ kd < (4 : Int):=of_decide_eq_false (Bool.eq_false_iff.mpr c)
  have hd : d ≠ 0:=hk.resolve_left (om192 c')
  refine ⟨_,rfl,_,rfl,_,rfl,_,_,rfl,rfl,p,g,d - 1,ys,rfl,B1,hg1,hy1,hy2,om193 hd0 hd,om62 hd1,fun r1 T1 H2 t1 dp1 gd1 B2 k2=>?_⟩
  have hg2 : H2 g = some (.lst (ys.map V.str)):=k2 g _ hgp hg1
  refine ⟨_,rfl,p,6,rfl,B2,by decide,by decide,fun s3 H3 s30 s31 B3 e3=>?_⟩
  have hg3 : H3 g = some (.lst (ys.map V.str)):=by rw [e3 g hgp]; exact hg2
  have k3 : But p H2 H3:=But.of_eq e3
  refine ⟨sgns,_,_,rfl,rfl,(by rw [sgns_len]; exact om194 big),sgn_at s30 s31,?_⟩
  refine ⟨_,rfl,_,rfl,_,rfl,_,rfl,_,_,rfl,rfl,p,g,d - 1,ys,rfl,B3,hg3,hy1,hy2,om195 dp1,om62 hd1,fun r2 T2 H4 t2 dp2 gd2 B4 k4=>?_⟩
  refine ⟨(by exact sz4),fun r nr=>?_⟩
  have t1' : TmAt H4 T1 r1:=(t1.but B2 k3).but B3 k4
  refine q r (.op s3.toNat T1 T2) _ ⟨r1,r2,upd_same,t1'.new nr,t2.new nr⟩ ?_ ⟨om196 s31,gd1,gd2⟩ (B4.upd_new nr) (((K1.trans k2).trans (k3.trans k4)).upd_new nr)
  show ((max T1.depth T2.depth + 1 : Nat) : Int) ≤ d
  exact om197 dp1 dp2
theorem no_term {f : Addr} {fd : FuncData} : FnOk P w K mg base CX0 2 f fd ["_law_box_here", "_law_names_here", "_law_deep"] (spTerm 0):=by
 have no : ∀ vs H Q E,¬ spTerm 0 vs H Q E:=fun vs H Q E h=>by
  refine opq fun Gq kq=>?_
  obtain ⟨p,g,d,ys,_,_,_,_,_,h0,h1,_⟩:=h
  refine kq ?_
  have h1' : d < ((0 : Nat) : Int):=h1
  exact om198 h0 h1
 exact ⟨fun vs H Q E h=>absurd h (no vs H Q E),fun A outer s H args us vs Q E _ _ _ _ h=>absurd h (no vs H Q E)⟩
theorem terms {f fT fN : Addr} {fd fdT fdN : FuncData} (F : Fun K "_law_term" "_law_term" sTerm f fd) (bF : Binds K fd ["_law_box_here", "_law_names_here", "_law_deep"] []) (mF : mg "_law_term" = some (.ref f)) (GT : FnOk P w K mg base CX0 1 fT fdT ["_law_box_here", "_law_wide"] spTake) (bT : Binds K fdT ["_law_box_here", "_law_wide"] []) (kT : PySem.W.keepIn K (.ref fT) = true) (mT : mg "_law_take" = some (.ref fT)) (GN : FnOk P w K mg base CX0 2 fN fdN ["_law_box_here"] spNum) (bN : Binds K fdN ["_law_box_here"] []) (kN : PySem.W.keepIn K (.ref fN) = true) (mN : mg "_law_number" = some (.ref fN)) (ml : mg "len" = none) :
  ∀ n : Nat,FnOk P w K mg base CX0 (n + 2) f fd ["_law_box_here", "_law_names_here", "_law_deep"] (spTerm n)
 | 0=>no_term
 | n + 1=>ok_term F (terms F bF mF GT bT kT mT GN bN kN mN ml n) bF F.kp mF GT bT kT mT GN bN kN mN ml
end
end K17
namespace K17
open PySem PySem.Spec PyProof.Rows L2
noncomputable def Tm.vars : Tm → List Str
 | .num _=>[]
 | .var x=>[x]
 | .op _ a b=>a.vars ++ b.vars
theorem vars_in {ys : List Str} : ∀ {t : Tm},t.Good ys → ∀ x ∈ t.vars,x ∈ ys
 | .num _,_,_,h=>nomatch h
 | .var _,g,_,h=>by rw [List.mem_singleton.mp h]; exact g
 | .op _ _ _,g,_,h=>(List.mem_append.mp h).elim (vars_in g.2.1 _) (vars_in g.2.2 _)
theorem nodup_len : ∀ {l m : List Str},l.Nodup → (∀ x ∈ l,x ∈ m) → l.length ≤ m.length
 | [],_,_,_=>Nat.zero_le _
 | x :: l,m,nd,h=>by
  rw [List.nodup_cons] at nd
  have hx:=h x List.mem_cons_self
  have q:=nodup_len (l:=l) (m:=m.erase x) nd.2 fun y hy=>(List.mem_erase_of_ne (fun e=>nd.1 (by rw [← e]; exact hy))).mpr (h y (List.mem_cons_of_mem _ hy))
  rw [List.length_erase_of_mem hx] at q
  have : 0 < m.length:=List.length_pos_of_mem hx
  rw [List.length_cons]
  exact om199 q this
theorem nodup_perm : ∀ {l m : List Str},l.Nodup → m.Nodup → (∀ x,x ∈ l ↔ x ∈ m) → l.Perm m
 | [],[],_,_,_=>.nil
 | [],y :: m,_,_,h=>absurd ((h y).mpr List.mem_cons_self) (by simp)
 | x :: l,m,n1,n2,h=>by
  rw [List.nodup_cons] at n1
  have hx : x ∈ m:=(h x).mp List.mem_cons_self
  refine (List.Perm.cons x (nodup_perm n1.2 (n2.erase x) fun y=>?_)).trans (List.perm_cons_erase hx).symm
  rw [n2.mem_erase_iff]
  constructor
  ·intro hy
   exact ⟨fun e=>n1.1 (by rw [← e]; exact hy),(h y).mp (List.mem_cons_of_mem _ hy)⟩
  ·rintro ⟨ne,hy⟩
   exact (List.mem_cons.mp ((h y).mpr hy)).resolve_left ne
theorem rising_pw : ∀ {p : Str} {l : List Str},risingS p l = true → (p :: l).Pairwise fun a b=>a.cps.toList ≤ b.cps.toList
 | p,[],_=>by simp
 | p,x :: r,h=>by
  have h' : (!ltCps x.cps.toList p.cps.toList && risingS x r) = true:=h
  rw [Bool.and_eq_true] at h'
  have ih:=rising_pw h'.2
  have hx : p.cps.toList ≤ x.cps.toList:=by
   have z:=h'.1
   rw [ltCps_eq] at z
   simpa using z
  rw [List.pairwise_cons] at ih ⊢
  refine ⟨fun y hy=>?_,List.pairwise_cons.mpr ih⟩
  rcases List.mem_cons.mp hy with rfl | hy
  ·exact hx
  ·exact List.le_trans hx (ih.1 y hy)
theorem sorted_pw {l : List Str} (h : sortedS l = true) : l.Pairwise fun a b=>a.cps.toList ≤ b.cps.toList:=by
 cases l with
 | nil=>exact .nil
 | cons x r=>exact rising_pw h
theorem sorted_same {l m : List Str} (p : l.Perm m) (h1 : sortedS l = true) (h2 : sortedS m = true) : l = m:=by
 refine List.Perm.eq_of_pairwise (fun a b _ _ x y=>?_) (sorted_pw h1) (sorted_pw h2) p
 have e:=List.le_antisymm x y
 cases a
 cases b
 exact congrArg Str.mk (Array.toList_inj.mp e)
inductive Lf where
 | rd (x : Str) (t : Addr) (T : Tm)
 | st (x : Str) (t : Addr) (T : Tm)
 | wr (t u : Addr) (T U : Tm)
 | cl (x f : Str) (q : Addr) (ts : List (Addr × Tm))
 | gv (t : Addr) (T : Tm)
noncomputable def LfV (H : Hp) : Lf → List V → Prop
 | .rd x t T,vs=>vs = [.str "read",.str x,.ref t] ∧ TmAt H T t
 | .st x t T,vs=>vs = [.str "set",.str x,.ref t] ∧ TmAt H T t
 | .wr t u T U,vs=>vs = [.str "write",.ref t,.ref u] ∧ TmAt H T t ∧ TmAt H U u
 | .cl x f q ts,vs=>vs = [.str "call",.str x,.str f,.ref q] ∧ H q = some (.tup (ts.map fun c=>V.ref c.1)) ∧ ∀ c ∈ ts,TmAt H c.2 c.1
 | .gv t T,vs=>vs = [.str "give",.ref t] ∧ TmAt H T t
theorem LfV.mono {H H' : Hp} (k : TMono H H') {l : Lf} {vs : List V} (h : LfV H l vs) : LfV H' l vs:=by
 cases l with
 | rd x t T=>exact ⟨h.1,h.2.mono k⟩
 | st x t T=>exact ⟨h.1,h.2.mono k⟩
 | wr t u T U=>exact ⟨h.1,h.2.1.mono k,h.2.2.mono k⟩
 | cl x f q ts=>exact ⟨h.1,k _ _ h.2.1,fun c hc=>(h.2.2 c hc).mono k⟩
 | gv t T=>exact ⟨h.1,h.2.mono k⟩
inductive Bd where
 | nil
 | lf (p : Addr) (l : Lf) (r : Bd)
 | ite (p t : Addr) (T : Tm) (a b r : Bd)
 | loop (p t : Addr) (T : Tm) (a r : Bd)
noncomputable def Bd.app : Bd → Bd → Bd
 | .nil,s=>s
 | .lf p l r,s=>.lf p l (r.app s)
 | .ite p t T a b r,s=>.ite p t T a b (r.app s)
 | .loop p t T a r,s=>.loop p t T a (r.app s)
noncomputable def Bd.size : Bd → Nat
 | .nil=>0
 | .lf _ _ r=>r.size + 1
 | .ite _ _ _ a b r=>a.size + b.size + r.size + 1
 | .loop _ _ _ a r=>a.size + r.size + 1
noncomputable def Bd.dep : Bd → Nat
 | .nil=>0
 | .lf _ _ r=>r.dep
 | .ite _ _ _ a b r=>max (max a.dep b.dep + 1) r.dep
 | .loop _ _ _ a r=>max (a.dep + 1) r.dep
noncomputable def TmOk (ys : List Str) (T : Tm) : Prop:=T.Good ys ∧ T.depth < 5
noncomputable def Lf.Ok (ys : List Str) : Lf → Prop
 | .rd x _ T=>x ∈ ys ∧ TmOk ys T
 | .st x _ T=>x ∈ ys ∧ TmOk ys T
 | .wr _ _ T U=>TmOk ys T ∧ TmOk ys U
 | .cl x _ _ ts=>x ∈ ys ∧ ts.length ≤ 100 ∧ ∀ c ∈ ts,TmOk ys c.2
 | .gv _ T=>TmOk ys T
noncomputable def Bd.Ok (ys : List Str) : Bd → Prop
 | .nil=>True
 | .lf _ l r=>l.Ok ys ∧ r.Ok ys
 | .ite _ _ T a b r=>TmOk ys T ∧ a.Ok ys ∧ b.Ok ys ∧ r.Ok ys
 | .loop _ _ T a r=>TmOk ys T ∧ a.Ok ys ∧ r.Ok ys
theorem size_app : ∀ (a b : Bd),(a.app b).size = a.size + b.size
 | .nil,b=>by show b.size = 0 + b.size; exact om63
 | .lf _ _ r,b=>by have:=size_app r b; show (r.app b).size + 1 = r.size + 1 + b.size; exact om200 this
 | .ite _ _ _ x y r,b=>by have:=size_app r b; show x.size + y.size + (r.app b).size + 1 = x.size + y.size + r.size + 1 + b.size; exact om201 this
 | .loop _ _ _ x r,b=>by have:=size_app r b; show x.size + (r.app b).size + 1 = x.size + r.size + 1 + b.size; exact om202 this
theorem dep_app : ∀ (a b : Bd),(a.app b).dep = max a.dep b.dep
 | .nil,b=>(Nat.zero_max b.dep).symm
 | .lf _ _ r,b=>dep_app r b
 | .ite _ _ _ x y r,b=>by show max _ (r.app b).dep = max (max _ r.dep) b.dep; rw [dep_app r b,Nat.max_assoc]
 | .loop _ _ _ x r,b=>by show max _ (r.app b).dep = max (max _ r.dep) b.dep; rw [dep_app r b,Nat.max_assoc]
theorem ok_app {ys : List Str} : ∀ {a b : Bd},a.Ok ys → b.Ok ys → (a.app b).Ok ys
 | .nil,_,_,h=>h
 | .lf _ _ _,_,g,h=>⟨g.1,ok_app g.2 h⟩
 | .ite _ _ _ _ _ _,_,g,h=>⟨g.1,g.2.1,g.2.2.1,ok_app g.2.2.2 h⟩
 | .loop _ _ _ _ _,_,g,h=>⟨g.1,g.2.1,ok_app g.2.2 h⟩
noncomputable def BdV (H : Hp) : Bd → List V → Prop
 | .nil,xs=>xs = []
 | .lf p l r,xs=>∃ vs ys,xs = .ref p :: ys ∧ H p = some (.tup vs) ∧ LfV H l vs ∧ BdV H r ys
 | .ite p t T a b r,xs=>∃ qa qb as bs ys,xs = .ref p :: ys ∧ H p = some (.tup [.str "if",.ref t,.ref qa,.ref qb]) ∧ TmAt H T t ∧ H qa = some (.tup as) ∧ H qb = some (.tup bs) ∧ BdV H a as ∧ BdV H b bs ∧ BdV H r ys
 | .loop p t T a r,xs=>∃ qa as ys,xs = .ref p :: ys ∧ H p = some (.tup [.str "while",.ref t,.ref qa]) ∧ TmAt H T t ∧ H qa = some (.tup as) ∧ BdV H a as ∧ BdV H r ys
theorem BdV.mono {H H' : Hp} (k : TMono H H') {a : Bd} : ∀ {xs : List V},BdV H a xs → BdV H' a xs:=by
 induction a with
 | nil=>exact fun h=>h
 | lf p l r ih=>rintro xs ⟨vs,ys,e,h1,h2,h3⟩; exact ⟨vs,ys,e,k _ _ h1,h2.mono k,ih h3⟩
 | ite p t T a b r ia ib ir=>rintro xs ⟨qa,qb,as,bs,ys,e,h1,h0,h2,h3,h4,h5,h6⟩; exact ⟨qa,qb,as,bs,ys,e,k _ _ h1,h0.mono k,k _ _ h2,k _ _ h3,ia h4,ib h5,ir h6⟩
 | loop p t T a r ia ir=>rintro xs ⟨qa,as,ys,e,h1,h0,h2,h3,h4⟩; exact ⟨qa,as,ys,e,k _ _ h1,h0.mono k,k _ _ h2,ia h3,ir h4⟩
theorem BdV.app {H : Hp} {b : Bd} {ys : List V} (hb : BdV H b ys) {a : Bd} : ∀ {xs : List V},BdV H a xs → BdV H (a.app b) (xs ++ ys):=by
 induction a with
 | nil=>intro xs h; have e : xs = []:=h; rw [e]; exact hb
 | lf p l r ih=>rintro xs ⟨vs,zs,e,h1,h2,h3⟩; exact ⟨vs,zs ++ ys,by rw [e]; rfl,h1,h2,ih h3⟩
 | ite p t T a b r _ _ ir=>rintro xs ⟨qa,qb,as,bs,zs,e,h1,h0,h2,h3,h4,h5,h6⟩; exact ⟨qa,qb,as,bs,zs ++ ys,by rw [e]; rfl,h1,h0,h2,h3,h4,h5,ir h6⟩
 | loop p t T a r _ ir=>rintro xs ⟨qa,as,zs,e,h1,h0,h2,h3,h4⟩; exact ⟨qa,as,zs ++ ys,by rw [e]; rfl,h1,h0,h2,h3,ir h4⟩
theorem BdV.len {H : Hp} {a : Bd} : ∀ {xs : List V},BdV H a xs → xs.length ≤ a.size:=by
 induction a with
 | nil=>intro xs h; have e : xs = []:=h; rw [e]; exact Nat.le_refl 0
 | lf p l r ih=>rintro xs ⟨vs,ys,e,h1,h2,h3⟩; rw [e]; exact Nat.succ_le_succ (ih h3)
 | ite p t T a b r _ _ ir=>rintro xs ⟨qa,qb,as,bs,ys,e,h1,h0,h2,h3,h4,h5,h6⟩; rw [e]; exact Nat.succ_le_succ (Nat.le_trans (ir h6) (Nat.le_add_left _ _))
 | loop p t T a r _ ir=>rintro xs ⟨qa,as,ys,e,h1,h0,h2,h3,h4⟩; rw [e]; exact Nat.succ_le_succ (Nat.le_trans (ir h4) (Nat.le_add_left _ _))
inductive StV (H : Hp) : V → Bd → Prop
 | lf (p : Addr) (l : Lf) (vs : List V) (h1 : H p = some (.tup vs)) (h2 : LfV H l vs) : StV H (.ref p) (.lf p l .nil)
 | ite (p t : Addr) (T : Tm) (a b : Bd) (qa qb : Addr) (as bs : List V) (h1 : H p = some (.tup [.str "if",.ref t,.ref qa,.ref qb])) (h0 : TmAt H T t) (h2 : H qa = some (.tup as)) (h3 : H qb = some (.tup bs)) (h4 : BdV H a as) (h5 : BdV H b bs) : StV H (.ref p) (.ite p t T a b .nil)
 | loop (p t : Addr) (T : Tm) (a : Bd) (qa : Addr) (as : List V) (h1 : H p = some (.tup [.str "while",.ref t,.ref qa])) (h0 : TmAt H T t) (h2 : H qa = some (.tup as)) (h3 : BdV H a as) : StV H (.ref p) (.loop p t T a .nil)
theorem StV.bd {H : Hp} {v : V} {s : Bd} (h : StV H v s) : BdV H s [v]:=by
 cases h with
 | lf p l vs h1 h2=>exact ⟨vs,[],rfl,h1,h2,rfl⟩
 | ite p t T a b qa qb as bs h1 h0 h2 h3 h4 h5=>exact ⟨qa,qb,as,bs,[],rfl,h1,h0,h2,h3,h4,h5,rfl⟩
 | loop p t T a qa as h1 h0 h2 h3=>exact ⟨qa,as,[],rfl,h1,h0,h2,h3,rfl⟩
theorem StV.mono {H H' : Hp} (k : TMono H H') {v : V} {s : Bd} (h : StV H v s) : StV H' v s:=by
 cases h with
 | lf p l vs h1 h2=>exact .lf p l vs (k _ _ h1) (h2.mono k)
 | ite p t T a b qa qb as bs h1 h0 h2 h3 h4 h5=>exact .ite p t T a b qa qb as bs (k _ _ h1) (h0.mono k) (k _ _ h2) (k _ _ h3) (h4.mono k) (h5.mono k)
 | loop p t T a qa as h1 h0 h2 h3=>exact .loop p t T a qa as (k _ _ h1) (h0.mono k) (k _ _ h2) (h3.mono k)
theorem BdV.last {H : Hp} {a : Bd} : ∀ {xs : List V},BdV H a xs → xs = [] ∧ a = .nil ∨ ∃ zs v b s,xs = zs ++ [v] ∧ a = b.app s ∧ BdV H b zs ∧ StV H v s:=by
 induction a with
 | nil=>exact fun h=>.inl ⟨h,rfl⟩
 | lf p l r ih =>
  rintro xs ⟨vs,ys,e,h1,h2,h3⟩
  rcases ih h3 with ⟨e1,e2⟩ | ⟨zs,v,b,s,e1,e2,h4,h5⟩
  ·exact .inr ⟨[],.ref p,.nil,.lf p l .nil,by rw [e,e1]; rfl,by rw [e2]; rfl,rfl,.lf p l vs h1 h2⟩
  ·exact .inr ⟨.ref p :: zs,v,.lf p l b,s,by rw [e,e1]; rfl,by rw [e2]; rfl,⟨vs,zs,rfl,h1,h2,h4⟩,h5⟩
 | ite p t T a b r _ _ ih =>
  rintro xs ⟨qa,qb,as,bs,ys,e,h1,h0,h2,h3,g1,g2,h6⟩
  rcases ih h6 with ⟨e1,e2⟩ | ⟨zs,v,c,s,e1,e2,h4,h5⟩
  ·exact .inr ⟨[],.ref p,.nil,.ite p t T a b .nil,by rw [e,e1]; rfl,by rw [e2]; rfl,rfl,.ite p t T a b qa qb as bs h1 h0 h2 h3 g1 g2⟩
  ·exact .inr ⟨.ref p :: zs,v,.ite p t T a b c,s,by rw [e,e1]; rfl,by rw [e2]; rfl,⟨qa,qb,as,bs,zs,rfl,h1,h0,h2,h3,g1,g2,h4⟩,h5⟩
 | loop p t T a r _ ih =>
  rintro xs ⟨qa,as,ys,e,h1,h0,h2,g1,h6⟩
  rcases ih h6 with ⟨e1,e2⟩ | ⟨zs,v,c,s,e1,e2,h4,h5⟩
  ·exact .inr ⟨[],.ref p,.nil,.loop p t T a .nil,by rw [e,e1]; rfl,by rw [e2]; rfl,rfl,.loop p t T a qa as h1 h0 h2 g1⟩
  ·exact .inr ⟨.ref p :: zs,v,.loop p t T a c,s,by rw [e,e1]; rfl,by rw [e2]; rfl,⟨qa,as,zs,rfl,h1,h0,h2,g1,h4⟩,h5⟩
theorem BdV.first {H : Hp} {a : Bd} {x : V} {xs : List V} (h : BdV H a (x :: xs)) : ∃ s b,a = s.app b ∧ StV H x s ∧ BdV H b xs:=by
 cases a with
 | nil=>cases (show x :: xs = [] from h)
 | lf p l r=>obtain ⟨vs,ys,e,h1,h2,h3⟩:=h; cases e; exact ⟨.lf p l .nil,r,rfl,.lf p l vs h1 h2,h3⟩
 | ite p t T a b r=>obtain ⟨qa,qb,as,bs,ys,e,h1,h0,h2,h3,h4,h5,h6⟩:=h; cases e; exact ⟨.ite p t T a b .nil,r,rfl,.ite p t T a b qa qb as bs h1 h0 h2 h3 h4 h5,h6⟩
 | loop p t T a r=>obtain ⟨qa,as,ys,e,h1,h0,h2,h3,h4⟩:=h; cases e; exact ⟨.loop p t T a .nil,r,rfl,.loop p t T a qa as h1 h0 h2 h3,h4⟩
theorem app_ok {ys : List Str} : ∀ {a b : Bd},(a.app b).Ok ys → a.Ok ys ∧ b.Ok ys
 | .nil,_,h=>⟨trivial,h⟩
 | .lf _ _ _,_,h=>⟨⟨h.1,(app_ok h.2).1⟩,(app_ok h.2).2⟩
 | .ite _ _ _ _ _ _,_,h=>⟨⟨h.1,h.2.1,h.2.2.1,(app_ok h.2.2.2).1⟩,(app_ok h.2.2.2).2⟩
 | .loop _ _ _ _ _,_,h=>⟨⟨h.1,h.2.1,(app_ok h.2.2).1⟩,(app_ok h.2.2).2⟩
structure Nm (ss : List Str) (M : Str → Prop) : Prop where
 nd : ss.Nodup
 so : sortedS ss = true
 mem : ∀ x,x ∈ ss ↔ M x
theorem Nm.uniq {ss ss' : List Str} {M : Str → Prop} (h : Nm ss M) (g : Nm ss' M) : ss = ss':=sorted_same (nodup_perm h.nd g.nd fun x=>(h.mem x).trans (g.mem x).symm) h.so g.so
open Classical in
noncomputable def canon (M : Str → Prop) : List Str:=if h : ∃ ss,Nm ss M then Classical.choose h else []
theorem Nm.canon {ss : List Str} {M : Str → Prop} (h : Nm ss M) : ss = canon M:=by
 have e : ∃ ss,Nm ss M:=⟨ss,h⟩
 unfold K17.canon
 rw [dif_pos e]
 exact h.uniq (Classical.choose_spec e)
theorem Nm.len {ss ys : List Str} {M : Str → Prop} (h : Nm ss M) (hs : ∀ x,M x → x ∈ ys) : ss.length ≤ ys.length:=nodup_len h.nd fun x hx=>hs x ((h.mem x).mp hx)
noncomputable def Lf.use (M : Str → Prop) : Lf → Str → Prop
 | .rd x _ T,y=>(M y ∧ y ≠ x) ∨ y ∈ T.vars
 | .st x _ T,y=>(M y ∧ y ≠ x) ∨ y ∈ T.vars
 | .wr _ _ T U,y=>M y ∨ y ∈ T.vars ∨ y ∈ U.vars
 | .cl x _ _ ts,y=>(M y ∧ y ≠ x) ∨ ∃ c ∈ ts,y ∈ c.2.vars
 | .gv _ T,y=>y ∈ T.vars
noncomputable def Bd.use : Bd → (Str → Prop) → Str → Prop
 | .nil,M=>M
 | .lf _ l r,M=>l.use (r.use M)
 | .ite _ _ T a b r,M=>fun y=>(a.use (r.use M) y ∨ b.use (r.use M) y) ∨ y ∈ T.vars
 | .loop _ _ T a r,M=>fun y=>(a.use (fun _=>False) y ∨ r.use M y) ∨ y ∈ T.vars
theorem use_app : ∀ (a b : Bd) (M : Str → Prop),(a.app b).use M = a.use (b.use M)
 | .nil,_,_=>rfl
 | .lf _ l r,b,M=>by show l.use ((r.app b).use M) = l.use (r.use (b.use M)); rw [use_app r b M]
 | .ite _ _ T x y r,b,M=>by show (fun z=>(x.use ((r.app b).use M) z ∨ y.use ((r.app b).use M) z) ∨ z ∈ T.vars) = fun z=>(x.use (r.use (b.use M)) z ∨ y.use (r.use (b.use M)) z) ∨ z ∈ T.vars; rw [use_app r b M]
 | .loop _ _ T x r,b,M=>by show (fun z=>(x.use (fun _=>False) z ∨ (r.app b).use M z) ∨ z ∈ T.vars) = fun z=>(x.use (fun _=>False) z ∨ r.use (b.use M) z) ∨ z ∈ T.vars; rw [use_app r b M]
theorem Lf.use_in {ys : List Str} {M : Str → Prop} {l : Lf} (h : l.Ok ys) (hM : ∀ x,M x → x ∈ ys) : ∀ y,l.use M y → y ∈ ys:=by
 intro y hy
 cases l with
 | rd x t T=>exact hy.elim (fun z=>hM y z.1) (vars_in h.2.1 y)
 | st x t T=>exact hy.elim (fun z=>hM y z.1) (vars_in h.2.1 y)
 | wr t u T U=>exact hy.elim (hM y) fun z=>z.elim (vars_in h.1.1 y) (vars_in h.2.1 y)
 | cl x f q ts=>exact hy.elim (fun z=>hM y z.1) fun ⟨c,hc,z⟩=>vars_in (h.2.2 c hc).1 y z
 | gv t T=>exact vars_in h.1 y hy
theorem Bd.use_in {ys : List Str} : ∀ {b : Bd} {M : Str → Prop},b.Ok ys → (∀ x,M x → x ∈ ys) → ∀ y,b.use M y → y ∈ ys
 | .nil,_,_,hM,y,hy=>hM y hy
 | .lf _ l r,_,h,hM,y,hy=>Lf.use_in h.1 (Bd.use_in h.2 hM) y hy
 | .ite _ _ T a b r,_,h,hM,y,hy=>hy.elim (fun z=>z.elim (Bd.use_in h.2.1 (Bd.use_in h.2.2.2 hM) y) (Bd.use_in h.2.2.1 (Bd.use_in h.2.2.2 hM) y)) (vars_in h.1.1 y)
 | .loop _ _ T a r,_,h,hM,y,hy=>hy.elim (fun z=>z.elim (Bd.use_in h.2.1 (fun _ w=>w.elim) y) (Bd.use_in h.2.2 hM y)) (vars_in h.1.1 y)
end K17
namespace K17
open PySem PySem.Spec PyProof.Rows L2
noncomputable abbrev sNamesIn : Stmt:=top 1
noncomputable abbrev sOwn : Stmt:=top 3
noncomputable abbrev sUbt : Stmt:=top 4
noncomputable abbrev sUof : Stmt:=top 5
noncomputable abbrev sUah : Stmt:=top 6
noncomputable def spNmIn (n : Nat) : Sp:=fun vs H Q _=>∃ (a : Addr) (T : Tm) (ys : List Str),vs = [.ref a] ∧ TmAt H T a ∧ T.depth < n ∧ T.Good ys ∧ ys.length ≤ 20 ∧
 ∀ (r : Addr) (ss : List Str) (H' : Hp),H r = none → H' r = some (.lst (ss.map V.str)) → ss.Nodup → (∀ x,x ∈ ss ↔ x ∈ T.vars) → sortedS ss = true → Same H H' → Q (.ref r) H'
section
variable {P : Program} {w : World} {K : PySem.W.Frag} {mg : Str → Option Value} {base : Heap}
theorem scNmIn : FnScope ["term"] ["term"] (defScope sNamesIn):=⟨rfl,rfl,rfl,by decide +kernel,rfl,by decide +kernel,by decide +kernel⟩
theorem ok_nmin {f  : Addr} {fd  : FuncData} (F : Fun K "names_in" "names_in" sNamesIn f fd) {n : Nat} (G : FnOk P w K mg base CX0 (n + 1) f fd ["term"] (spNmIn n)) (bF : Binds K fd ["term"] []) (kF : PySem.W.keepIn K (.ref f) = true) (mF : mg "names_in" = some (.ref f)) (mse : mg "set" = none) (mso : mg "sorted" = none) : FnOk P w K mg base CX0 (n + 2) f fd ["term"] (spNmIn (n + 1)):=by
 refine F.ok scNmIn (fun vs H Q E h=>?_) (fun cdv A outer s H vs Q E hr h=>?_)
 ·obtain ⟨a,T,ys,rfl,_⟩:=h
  rfl
 obtain ⟨a,T,ys,rfl,ta,dp,gd,hy,q⟩:=h
 refine ⟨_,(pss_cons (ps_if (@pt_cmpR _ _ _ _ _ _ _ _ op_eq (@pe_ix _ _ _ _ _ _ _ ix_tup (pv 0) pe_int (fun _ _=>rfl)) pe_str (@nomark _ _ (by decide) (by decide))) (pss_one (ps_ret (pe_lst pa_nil))) pss_nil) (pss_cons (ps_if (@pt_cmpR _ _ _ _ _ _ _ _ op_eq (@pe_ix _ _ _ _ _ _ _ ix_tup (pv 0) pe_int (fun _ _=>rfl)) pe_str (@nomark _ _ (by decide) (by decide))) (pss_one (ps_ret (pe_lst (pa_cons (@pe_ix _ _ _ _ _ _ _ ix_tup (pv 0) pe_int (fun _ _=>rfl)) pa_nil)))) pss_nil) (pss_one (ps_ret (@pe_callB _ _ _ _ _ _ _ _ _ (call_sortedS rfl) rfl mso PyProof.Rows.boot_sorted (pa_cons (@pe_callTy _ _ _ _ _ _ _ _ _ (call_setT rfl) rfl mse PyProof.Rows.boot_set (pa_cons (pe_op op_cat (pe_call G hr rfl mF kF bF .nil pass0 (pa_cons (@pe_ix _ _ _ _ _ _ _ ix_tup (pv 0) pe_int (fun _ _=>rfl)) pa_nil)) (pe_call G hr rfl mF kF bF .nil pass0 (pa_cons (@pe_ix _ _ _ _ _ _ _ ix_tup (pv 0) pe_int (fun _ _=>rfl)) pa_nil))) pa_nil) (by decide) (by decide) (by rfl) (by rfl)) pa_nil) (by decide) (by decide) (by rfl) (by rfl)))))),?_⟩
 cases T with
 | num m =>
  have ha : H a = some (.tup [.str "num",.int m]):=ta
  refine ⟨_,rfl,a,_,_,_,rfl,rfl,SqT.of ha,rfl,rfl,_,rfl,ifY (by decide +kernel) ?_⟩
  exact ⟨(by decide),fun r nr=>q r [] _ nr upd_same List.nodup_nil (fun x=>Iff.rfl) rfl (same_upd nr)⟩
 | var x =>
  have ha : H a = some (.tup [.str "var",.str x]):=ta
  refine ⟨_,rfl,a,_,_,_,rfl,rfl,SqT.of ha,rfl,rfl,_,rfl,ifX (by decide +kernel) ?_⟩
  refine ⟨_,rfl,a,_,_,_,rfl,rfl,SqT.of ha,rfl,rfl,_,rfl,ifY (by decide +kernel) ?_⟩
  exact ⟨_,rfl,a,_,_,_,rfl,rfl,SqT.of ha,rfl,(by exact sz1),fun r nr=>q r [x] _ nr upd_same (by simp) (fun y=>Iff.rfl) rfl (same_upd nr)⟩
 | op i t1 t2 =>
  obtain ⟨p1,p2,ha,h1,h2⟩:=ta
  have dp' : max t1.depth t2.depth + 1 < n + 1:=dp
  refine ⟨_,rfl,a,_,_,_,rfl,rfl,SqT.of ha,rfl,rfl,_,rfl,ifX (by decide +kernel) ?_⟩
  refine ⟨_,rfl,a,_,_,_,rfl,rfl,SqT.of ha,rfl,rfl,_,rfl,ifX (by decide +kernel) ?_⟩
  refine ⟨_,rfl,a,_,_,_,rfl,rfl,SqT.of ha,rfl,p1,t1,ys,rfl,h1,om203 dp',gd.2.1,hy,fun r1 s1 H1 n1 e1 d1 m1 o1 k1=>?_⟩
  refine ⟨_,rfl,a,_,_,_,rfl,rfl,SqT.of (k1 _ _ ha),rfl,p2,t2,ys,rfl,h2.same k1,om204 dp',gd.2.2,hy,fun r2 s2 H2 n2 e2 d2 m2 o2 k2=>?_⟩
  have l1 : s1.length ≤ 20:=Nat.le_trans (nodup_len d1 fun x hx=>vars_in gd.2.1 x ((m1 x).mp hx)) hy
  have l2 : s2.length ≤ 20:=Nat.le_trans (nodup_len d2 fun x hx=>vars_in gd.2.2 x ((m2 x).mp hx)) hy
  have big:=line_big
  refine ⟨r1,r2,_,_,rfl,rfl,k2 _ _ e1,e2,(by rw [List.length_map,List.length_map]; exact om64 l1 l2 big),fun c nc=>?_⟩
  refine ⟨c,s1 ++ s2,rfl,SqL.of (by rw [upd_same,List.map_append]),(by rw [List.length_append]; show s1.length + s2.length + 1 < 4096; exact om205 l1 l2),fun l L nl mL lL=>?_⟩
  rw [List.length_append] at lL
  refine ⟨l,L,rfl,upd_same,om206 l1 l2 lL,fun z ss nz pz dz oz=>?_⟩
  have kk : Same H (upd (upd H2 c (.lst (s1.map V.str ++ s2.map V.str))) l (TsO P w l L)):=(k1.trans k2).trans ((same_upd nc).trans (same_upd nl))
  refine q z ss _ (kk.free nz) upd_same (pz.nodup_iff.mpr dz) (fun x=>?_) oz (kk.trans (same_upd nz))
  rw [pz.mem_iff,mL x,List.mem_append,m1 x,m2 x]
  exact List.mem_append.symm
theorem no_nmin {f : Addr} {fd : FuncData} : FnOk P w K mg base CX0 1 f fd ["term"] (spNmIn 0):=by
 have no : ∀ vs H Q E,¬ spNmIn 0 vs H Q E:=fun vs H Q E h=>by
  obtain ⟨a,T,ys,_,_,h1,_⟩:=h
  exact absurd h1 (Nat.not_lt_zero _)
 exact ⟨fun vs H Q E h=>absurd h (no vs H Q E),fun A outer s H args us vs Q E _ _ _ _ h=>absurd h (no vs H Q E)⟩
theorem nmins {f : Addr} {fd : FuncData} (F : Fun K "names_in" "names_in" sNamesIn f fd) (bF : Binds K fd ["term"] []) (mF : mg "names_in" = some (.ref f)) (mse : mg "set" = none) (mso : mg "sorted" = none) :
  ∀ n : Nat,FnOk P w K mg base CX0 (n + 1) f fd ["term"] (spNmIn n)
 | 0=>no_nmin
 | n + 1=>ok_nmin F (nmins F bF mF mse mso n) bF F.kp mF mse mso
end
noncomputable def Lf.own : Lf → List (Addr × Tm)
 | .rd _ t T=>[(t,T)]
 | .st _ t T=>[(t,T)]
 | .wr t u T U=>[(t,T),(u,U)]
 | .cl _ _ _ ts=>ts
 | .gv t T=>[(t,T)]
noncomputable def Bd.own : Bd → List (Addr × Tm)
 | .nil=>[]
 | .lf _ l _=>l.own
 | .ite _ t T _ _ _=>[(t,T)]
 | .loop _ t T _ _=>[(t,T)]
noncomputable def rT (c : Addr × Tm) : V:=.ref c.1
noncomputable def spOwn : Sp:=fun vs H Q _=>∃ (v : V) (s : Bd),vs = [v] ∧ StV H v s ∧ ∀ (r : Addr) (H' : Hp),H' r = some (.tup (s.own.map rT)) → Same H H' → Q (.ref r) H'
theorem cutT_12 {a b : V} {r : List V} : cutV (a :: b :: r) (some 1) (some 2) = [b]:=by
 unfold cutV
 have e1 : (1 : Int) = ((1 : Nat) : Int):=rfl
 have e2 : (2 : Int) = ((2 : Nat) : Int):=rfl
 rw [e2,e1,HT.sIx_nat,HT.sIx_nat,List.length_cons,List.length_cons]
 have e3 : min 1 (r.length + 1 + 1) = 1:=om207
 have e4 : min 2 (r.length + 1 + 1) - 1 = 1:=om208
 rw [e3,e4]
 rfl
section
variable {P : Program} {w : World} {K : PySem.W.Frag} {mg : Str → Option Value} {base : Heap}
theorem scOwn : FnScope ["statement", "word"] ["statement"] (defScope sOwn):=⟨rfl,rfl,rfl,by decide +kernel,rfl,by decide +kernel,by decide +kernel⟩
theorem ok_own {f : Addr} {fd : FuncData}  (F : Fun K "own_terms" "own_terms" sOwn f fd)  : FnOk P w K mg base CX0 1 f fd ["statement"] spOwn:=by
 refine F.ok scOwn (fun vs H Q E h=>?_) (fun cdv A outer s H vs Q E hr h=>?_)
 ·refine opq fun Gq kq=>?_
  obtain ⟨v,s,rfl,_⟩:=h
  refine kq ?_
  rfl
 refine opq fun Gq kq=>?_
 obtain ⟨v,st,rfl,hs,q⟩:=h
 refine kq ?_
 refine ⟨_,(pss_cons (ps_set (i:=1) scOwn.nd rfl (Or.inl rfl) (@pe_ix _ _ _ _ _ _ _ ix_tup (pv 0) pe_int (fun _ _=>rfl))) (pss_cons (ps_if (@pt_cmpR _ _ _ _ _ _ _ _ op_in_seq (pv 1) (pe_tup (pa_cons pe_str (pa_cons pe_str pa_nil))) rfl) (pss_one (ps_ret (@pe_slice _ _ _ _ _ _ _ _ _ _ sl_tupA (pv 0) (@po_some _ _ _ pe_int) (@po_none _)))) pss_nil) (pss_cons (ps_if (@pt_cmpR _ _ _ _ _ _ _ _ op_eq (pv 1) pe_str (@nomark _ _ (by decide) (by decide))) (pss_one (ps_ret (@pe_slice _ _ _ _ _ _ _ _ _ _ sl_tupA (pv 0) (@po_some _ _ _ pe_int) (@po_none _)))) pss_nil) (pss_cons (ps_if (@pt_cmpR _ _ _ _ _ _ _ _ op_eq (pv 1) pe_str (@nomark _ _ (by decide) (by decide))) (pss_one (ps_ret (@pe_ix _ _ _ _ _ _ _ ix_tup (pv 0) pe_int (fun _ _=>rfl)))) pss_nil) (pss_one (ps_ret (@pe_slice _ _ _ _ _ _ _ _ _ _ sl_tupA (pv 0) (@po_some _ _ _ pe_int) (@po_some _ _ _ pe_int)))))))),?_⟩
 try dsimp only [cxOf,Cx.nox,Cx.wish]
 cases hs with
 | lf p l vs h1 h2 =>
  cases l with
  | rd x t T =>
   obtain ⟨rfl,hT⟩:=h2
   refine ⟨_,rfl,p,_,_,_,rfl,rfl,SqT.of h1,rfl,_,rfl,(by exact sz2),fun l nl=>⟨l,_,rfl,.inr (SqT.of upd_same),rfl,rfl,_,rfl,ifY (by decide +kernel) ?_⟩⟩
   exact ⟨_,rfl,_,rfl,p,_,rfl,keepN h1 nl,fun r H' hr s=>q r H' hr ((same_upd nl).trans s)⟩
  | st x t T =>
   obtain ⟨rfl,hT⟩:=h2
   refine ⟨_,rfl,p,_,_,_,rfl,rfl,SqT.of h1,rfl,_,rfl,(by exact sz2),fun l nl=>⟨l,_,rfl,.inr (SqT.of upd_same),rfl,rfl,_,rfl,ifY (by decide +kernel) ?_⟩⟩
   exact ⟨_,rfl,_,rfl,p,_,rfl,keepN h1 nl,fun r H' hr s=>q r H' hr ((same_upd nl).trans s)⟩
  | wr t u T U =>
   obtain ⟨rfl,hT,hU⟩:=h2
   refine ⟨_,rfl,p,_,_,_,rfl,rfl,SqT.of h1,rfl,_,rfl,(by exact sz2),fun l nl=>⟨l,_,rfl,.inr (SqT.of upd_same),rfl,rfl,_,rfl,ifX (by decide +kernel) ?_⟩⟩
   refine ⟨_,rfl,rfl,_,rfl,ifY (by decide +kernel) ?_⟩
   exact ⟨_,rfl,_,rfl,p,_,rfl,keepN h1 nl,fun r H' hr s=>q r H' hr ((same_upd nl).trans s)⟩
  | cl x f' q' ts =>
   obtain ⟨rfl,hq,hT⟩:=h2
   refine ⟨_,rfl,p,_,_,_,rfl,rfl,SqT.of h1,rfl,_,rfl,(by exact sz2),fun l nl=>⟨l,_,rfl,.inr (SqT.of upd_same),rfl,rfl,_,rfl,ifX (by decide +kernel) ?_⟩⟩
   refine ⟨_,rfl,rfl,_,rfl,ifX (by decide +kernel) ?_⟩
   refine ⟨_,rfl,rfl,_,rfl,ifY (by decide +kernel) ?_⟩
   exact ⟨_,rfl,p,_,_,_,rfl,rfl,SqT.of (keepN h1 nl),rfl,q q' _ (keepN hq nl) (same_upd nl)⟩
  | gv t T =>
   obtain ⟨rfl,hT⟩:=h2
   refine ⟨_,rfl,p,_,_,_,rfl,rfl,SqT.of h1,rfl,_,rfl,(by exact sz2),fun l nl=>⟨l,_,rfl,.inr (SqT.of upd_same),rfl,rfl,_,rfl,ifX (by decide +kernel) ?_⟩⟩
   refine ⟨_,rfl,rfl,_,rfl,ifX (by decide +kernel) ?_⟩
   refine ⟨_,rfl,rfl,_,rfl,ifX (by decide +kernel) ?_⟩
   exact ⟨_,rfl,_,rfl,_,rfl,p,_,rfl,keepN h1 nl,fun r H' hr s=>q r H' (by rw [cutT_12] at hr; exact hr) ((same_upd nl).trans s)⟩
 | ite p t T a b qa qb as bs h1 h0 h2 h3 h4 h5 =>
  refine ⟨_,rfl,p,_,_,_,rfl,rfl,SqT.of h1,rfl,_,rfl,(by exact sz2),fun l nl=>⟨l,_,rfl,.inr (SqT.of upd_same),rfl,rfl,_,rfl,ifX (by decide +kernel) ?_⟩⟩
  refine ⟨_,rfl,rfl,_,rfl,ifX (by decide +kernel) ?_⟩
  refine ⟨_,rfl,rfl,_,rfl,ifX (by decide +kernel) ?_⟩
  exact ⟨_,rfl,_,rfl,_,rfl,p,_,rfl,keepN h1 nl,fun r H' hr s=>q r H' (by rw [cutT_12] at hr; exact hr) ((same_upd nl).trans s)⟩
 | loop p t T a qa as h1 h0 h2 h3 =>
  refine ⟨_,rfl,p,_,_,_,rfl,rfl,SqT.of h1,rfl,_,rfl,(by exact sz2),fun l nl=>⟨l,_,rfl,.inr (SqT.of upd_same),rfl,rfl,_,rfl,ifX (by decide +kernel) ?_⟩⟩
  refine ⟨_,rfl,rfl,_,rfl,ifX (by decide +kernel) ?_⟩
  refine ⟨_,rfl,rfl,_,rfl,ifX (by decide +kernel) ?_⟩
  exact ⟨_,rfl,_,rfl,_,rfl,p,_,rfl,keepN h1 nl,fun r H' hr s=>q r H' (by rw [cutT_12] at hr; exact hr) ((same_upd nl).trans s)⟩
end
end K17
namespace K17
open PySem PySem.Spec PyProof.Rows L2
theorem compR_keep {K : PySem.W.Frag} {a : Addr} {ys : List Str} {tt : TT} {te : TE} {Qf : List V → Hp → Prop} {σt : L2.St} {H : Hp} (f : Str → Bool) (hz : ys.length ≤ 1000) (hq : H a = some (.lst (ys.map V.str)))
  (ht : ∀ y H1 (Q : Bool → Hp → Prop),y ∈ ys → Same H H1 → (∀ H2,Same H1 H2 → Q (f y) H2) → tt (some (.str y) :: σt) H1 Q)
  (he : ∀ y H1 (Q : VK),y ∈ ys → Q (.str y) H1 → te (some (.str y) :: σt) H1 Q) (hd : ∀ H',Same H H' → Qf ((ys.filter f).map V.str) H') : CompR (Itl K a) 1 σt (gName 0) tt te Qf H:=by
 have big:=line_big
 refine ⟨fun i m zs H'=>m = ys.length - i ∧ i ≤ ys.length ∧ zs = ((ys.take i).filter f).map V.str ∧ Same H H',⟨ys.length,by simp,Nat.zero_le _,by simp,Same.refl H⟩,?_⟩
 rintro i m zs H' ⟨rfl,hi,rfl,k⟩
 have hq' : SqL K H' a (ys.map V.str):=SqL.of (k _ _ hq)
 by_cases hlt : i < ys.length
 ·have hx : (ys.map V.str)[i]? = some (.str ys[i]):=by rw [List.getElem?_map,List.getElem?_eq_getElem hlt]; rfl
  refine .inr ⟨⟨_,_,hq',hx⟩,?_,fun zs' H2=>zs' = ((ys.take (i + 1)).filter f).map V.str ∧ Same H H2,fun zs' H2 ⟨p1,p2⟩=>⟨ys.length - (i + 1),om2 hlt,rfl,hlt,p1,p2⟩,fun v H2 ts hts y=>?_⟩
  ·rw [List.length_map]
   have:=List.length_filter_le f (ys.take i)
   rw [List.length_take] at this
   exact om209 hz big this
  obtain ⟨e,y⟩:=y
  subst e
  have hv:=y _ hq'
  rw [hx] at hv
  cases hv
  obtain ⟨w,rfl⟩:=len1 hts
  have hm : ys[i] ∈ ys:=List.getElem_mem hlt
  have et : ys.take (i + 1) = ys.take i ++ [ys[i]]:=by rw [List.take_add_one,List.getElem?_eq_getElem hlt]; rfl
  refine ⟨⟨[some _],rfl,rfl⟩,ht ys[i] _ _ hm k fun H3 k3=>?_⟩
  cases ef : f ys[i] with
  | true =>
   refine ifY rfl (he ys[i] H3 _ hm ⟨?_,k.trans k3⟩)
   rw [et,List.filter_append,List.map_append]
   have e1 : [ys[i]].filter f = [ys[i]]:=by simp [ef]
   rw [e1]
   rfl
  | false =>
   refine ifX rfl ⟨?_,k.trans k3⟩
   rw [et,List.filter_append,List.map_append]
   have e1 : [ys[i]].filter f = []:=by simp [ef]
   rw [e1]
   simp
 ·have e : i = ys.length:=om3 hi hlt
  subst e
  refine .inl ⟨⟨_,hq',by simp⟩,?_⟩
  rw [List.take_of_length_le (Nat.le_refl _)]
  exact hd H' k
noncomputable def Lf.bt (M : Str → Prop) : Lf → Str → Prop
 | .rd x _ _,y=>M y ∧ y ≠ x
 | .st x _ _,y=>M y ∧ y ≠ x
 | .wr _ _ _ _,y=>M y
 | .cl x _ _ _,y=>M y ∧ y ≠ x
 | .gv _ _,_=>False
noncomputable def Bd.bt (M : Str → Prop) : Bd → Str → Prop
 | .nil,y=>M y
 | .lf _ l _,y=>l.bt M y
 | .ite _ _ _ a b _,y=>a.use M y ∨ b.use M y
 | .loop _ _ _ a _,y=>a.use (fun _=>False) y ∨ M y
theorem use_st {H : Hp} {v : V} {s : Bd} (h : StV H v s) (M : Str → Prop) (y : Str) : s.use M y ↔ s.bt M y ∨ ∃ c ∈ s.own,y ∈ c.2.vars:=by
 cases h with
 | lf p l vs _ _ =>
  cases l with
  | rd x t T=>exact ⟨fun z=>z.elim .inl fun w=>.inr ⟨_,List.mem_singleton.mpr rfl,w⟩,fun z=>z.elim .inl fun ⟨c,hc,w⟩=>.inr (by rw [List.mem_singleton.mp hc] at w; exact w)⟩
  | st x t T=>exact ⟨fun z=>z.elim .inl fun w=>.inr ⟨_,List.mem_singleton.mpr rfl,w⟩,fun z=>z.elim .inl fun ⟨c,hc,w⟩=>.inr (by rw [List.mem_singleton.mp hc] at w; exact w)⟩
  | wr t u T U =>
   refine ⟨fun z=>z.elim .inl fun w=>.inr (w.elim (fun w=>⟨_,List.mem_cons_self ..,w⟩) fun w=>⟨_,List.mem_cons_of_mem _ (List.mem_singleton.mpr rfl),w⟩),fun z=>z.elim .inl fun ⟨c,hc,w⟩=>.inr ?_⟩
   rcases List.mem_cons.mp hc with e | hc
   ·rw [e] at w; exact .inl w
   ·rw [List.mem_singleton.mp hc] at w; exact .inr w
  | cl x f q ts=>exact Iff.rfl
  | gv t T=>exact ⟨fun w=>.inr ⟨_,List.mem_singleton.mpr rfl,w⟩,fun z=>z.elim False.elim fun ⟨c,hc,w⟩=>by rw [List.mem_singleton.mp hc] at w; exact w⟩
 | ite p t T a b qa qb as bs _ _ _ _ _ _=>exact ⟨fun z=>z.elim .inl fun w=>.inr ⟨_,List.mem_singleton.mpr rfl,w⟩,fun z=>z.elim .inl fun ⟨c,hc,w⟩=>.inr (by rw [List.mem_singleton.mp hc] at w; exact w)⟩
 | loop p t T a qa as _ _ _ _=>exact ⟨fun z=>z.elim .inl fun w=>.inr ⟨_,List.mem_singleton.mpr rfl,w⟩,fun z=>z.elim .inl fun ⟨c,hc,w⟩=>.inr (by rw [List.mem_singleton.mp hc] at w; exact w)⟩
structure NL (H : Hp) (g : Addr) (ss : List Str) (M : Str → Prop) (ys : List Str) : Prop where
 at' : H g = some (.lst (ss.map V.str))
 nm : Nm ss M
 sub : ∀ x,M x → x ∈ ys
 y20 : ys.length ≤ 20
theorem NL.len {H : Hp} {g : Addr} {ss : List Str} {M : Str → Prop} {ys : List Str} (h : NL H g ss M ys) : ss.length ≤ 20:=Nat.le_trans (h.nm.len h.sub) h.y20
theorem NL.same {H H' : Hp} {g : Addr} {ss : List Str} {M : Str → Prop} {ys : List Str} (h : NL H g ss M ys) (s : Same H H') : NL H' g ss M ys:=⟨s _ _ h.at',h.nm,h.sub,h.y20⟩
noncomputable def spUbt (n : Nat) : Sp:=fun vs H Q _=>∃ (v : V) (g : Addr) (s : Bd) (ss : List Str) (M : Str → Prop) (ys : List Str),vs = [v,.ref g] ∧ StV H v s ∧ NL H g ss M ys ∧ s.Ok ys ∧ s.dep < n + 1 ∧ s.size ≤ 10000000 ∧
 ∀ (r : Addr) (zs : List Str) (H' : Hp),H' r = some (.lst (zs.map V.str)) → (∀ y,y ∈ zs ↔ s.bt M y) → zs.length ≤ 40 → Same H H' → Q (.ref r) H'
noncomputable def spUof (n : Nat) : Sp:=fun vs H Q _=>∃ (v : V) (g : Addr) (s : Bd) (ss : List Str) (M : Str → Prop) (ys : List Str),vs = [v,.ref g] ∧ StV H v s ∧ NL H g ss M ys ∧ s.Ok ys ∧ s.dep < n + 1 ∧ s.size ≤ 10000000 ∧
 ∀ (r : Addr) (zs : List Str) (H' : Hp),H r = none → NL H' r zs (s.use M) ys → Same H H' → Q (.ref r) H'
noncomputable def spUah (n : Nat) : Sp:=fun vs H Q _=>∃ (a g : Addr) (b : Bd) (xs : List V) (ss : List Str) (M : Str → Prop) (ys : List Str),vs = [.ref a,.ref g] ∧ H a = some (.tup xs) ∧ BdV H b xs ∧ NL H g ss M ys ∧ b.Ok ys ∧ b.dep < n ∧ b.size ≤ 10000000 ∧
 ∀ (r : Addr) (zs : List Str) (H' : Hp),NL H' r zs (b.use M) ys → Same H H' → Q (.ref r) H'
theorem Nm.empty : Nm [] (fun _=>False):=⟨List.nodup_nil,rfl,fun x=>⟨fun h=>absurd h List.not_mem_nil,False.elim⟩⟩
section
variable {P : Program} {w : World} {K : PySem.W.Frag} {mg : Str → Option Value} {base : Heap}
theorem scUbt : FnScope ["statement", "behind", "word"] ["statement", "behind"] (defScope sUbt):=⟨rfl,rfl,rfl,by decide +kernel,rfl,by decide +kernel,by decide +kernel⟩
noncomputable def scope_u1 : Scope:={ kind:=.function,names:=[(".0",.local),("name",.local),("statement",.free)],isGenerator:=false,isCoroutine:=false }
theorem nd_u1 : (["name", "statement"] : List Str).Nodup:=by decide +kernel
theorem cs_u1 : CompSc ["statement", "behind", "word"] (defScope sUbt) scope_u1 ["name", "statement"] 1 [0]:=⟨by decide +kernel,rfl,by decide +kernel,by decide +kernel,by decide +kernel,rfl,by decide +kernel⟩
theorem ok_ubt {f : Addr} {fd : FuncData} {L n : Nat} {fA : Addr} {fdA : FuncData} (F : Fun K "used_behind_terms" "used_behind_terms" sUbt f fd) (GA : FnOk P w K mg base CX0 L fA fdA ["body", "behind"] (spUah n)) (bA : Binds K fdA ["body", "behind"] []) (kA : PySem.W.keepIn K (.ref fA) = true) (mA : mg "used_ahead" = some (.ref fA)) : FnOk P w K mg base CX0 (L + 1) f fd ["statement", "behind"] (spUbt n):=by
 refine F.ok scUbt (fun vs H Q E h=>?_) (fun cdv A outer s H vs Q E hr h=>?_)
 ·refine opq fun Gq kq=>?_
  obtain ⟨v,g,s,ss,M,ys,rfl,_⟩:=h
  refine kq ?_
  rfl
 refine opq fun Gq kq=>?_
 obtain ⟨v,g,st,ss,M,ys,rfl,hs,hg,ho,hd,hz,q⟩:=h
 refine kq ?_
 refine ⟨_,(pss_cons (ps_set (i:=2) scUbt.nd rfl (Or.inl rfl) (@pe_ix _ _ _ _ _ _ _ ix_tup (pv 0) pe_int (fun _ _=>rfl))) (pss_cons (ps_if (@pt_cmpR _ _ _ _ _ _ _ _ op_in_seq (pv 2) (pe_tup (pa_cons pe_str (pa_cons pe_str (pa_cons pe_str pa_nil)))) rfl) (pss_one (ps_ret (@pe_comp _ _ _ _ _ _ _ (["name", "statement"]) (1) ([0]) _ _ _ _ rfl (@pi_list _ _ _ _ (pv 1)) cs_u1 (fun _ _ _ _ _=>(pg_name (i:=0) nd_u1 rfl (Or.inl rfl))) (fun _ _ _ _ _=>(@pf_one _ _ _ (@pt_cmpR _ _ _ _ _ _ _ _ op_ne (pv 0) (@pe_ix _ _ _ _ _ _ (rIxT K) ix_tup (pv 1) pe_int (fun _ _=>rfl)) (@nomark _ _ (by decide) (by decide))))) (fun _ _ _ _ _=>(pv 0)) (by intro _; rfl)))) pss_nil) (pss_cons (ps_if (@pt_cmpR _ _ _ _ _ _ _ _ op_eq (pv 2) pe_str (@nomark _ _ (by decide) (by decide))) (pss_one (ps_ret (pe_op op_cat (pe_call GA (hr.mono om28) rfl mA kA bA .nil pass0 (pa_cons (@pe_ix _ _ _ _ _ _ _ ix_tup (pv 0) pe_int (fun _ _=>rfl)) (pa_cons (pv 1) pa_nil))) (pe_call GA (hr.mono om28) rfl mA kA bA .nil pass0 (pa_cons (@pe_ix _ _ _ _ _ _ _ ix_tup (pv 0) pe_int (fun _ _=>rfl)) (pa_cons (pv 1) pa_nil)))))) pss_nil) (pss_cons (ps_if (@pt_cmpR _ _ _ _ _ _ _ _ op_eq (pv 2) pe_str (@nomark _ _ (by decide) (by decide))) (pss_one (ps_ret (pe_op op_cat (pe_call GA (hr.mono om28) rfl mA kA bA .nil pass0 (pa_cons (@pe_ix _ _ _ _ _ _ _ ix_tup (pv 0) pe_int (fun _ _=>rfl)) (pa_cons (pe_lst pa_nil) pa_nil))) (pv 1)))) pss_nil) (pss_cons (ps_if (@pt_cmpR _ _ _ _ _ _ _ _ op_eq (pv 2) pe_str (@nomark _ _ (by decide) (by decide))) (pss_one (ps_ret (pe_lst pa_nil))) pss_nil) (pss_one (ps_ret (pv 1)))))))),?_⟩
 try dsimp only [cxOf,Cx.nox,Cx.wish]
 have g20:=hg.len
 cases hs with
 | lf p l vs h1 h2 =>
  cases l with
  | rd x t T =>
   obtain ⟨rfl,hT⟩:=h2
   refine ⟨_,rfl,p,_,_,_,rfl,rfl,SqT.of h1,rfl,_,rfl,(by exact sz3),fun l nl=>⟨l,_,rfl,.inr (SqT.of upd_same),rfl,rfl,_,rfl,ifY (by decide +kernel) ?_⟩⟩
   have s1 : Same H (upd H l (.tup [.str "set",.str "read",.str "call"])):=same_upd nl
   refine ⟨_,rfl,g,rfl,⟨_,SqL.of (s1 _ _ hg.at')⟩,compR_keep (fun y=>!decide (V.str y = V.str x)) (om29 g20) (s1 _ _ hg.at') (fun y H1 Q' hy k hq=>?_) (fun y H1 Q' hy hq=>⟨_,rfl,hq⟩) fun H' k r nr=>?_⟩
   ·exact ⟨_,rfl,_,rfl,p,_,_,_,rfl,rfl,SqT.of (k _ _ (s1 _ _ h1)),rfl,rfl,_,rfl,hq _ (Same.refl _)⟩
   ·refine q r _ _ upd_same (fun y=>?_) (Nat.le_trans (List.length_filter_le ..) (om15 g20)) ((s1.trans k).trans (same_upd nr))
    rw [List.mem_filter,hg.nm.mem y]
    exact and_congr_right fun _=>by simp
  | st x t T =>
   obtain ⟨rfl,hT⟩:=h2
   refine ⟨_,rfl,p,_,_,_,rfl,rfl,SqT.of h1,rfl,_,rfl,(by exact sz3),fun l nl=>⟨l,_,rfl,.inr (SqT.of upd_same),rfl,rfl,_,rfl,ifY (by decide +kernel) ?_⟩⟩
   have s1 : Same H (upd H l (.tup [.str "set",.str "read",.str "call"])):=same_upd nl
   refine ⟨_,rfl,g,rfl,⟨_,SqL.of (s1 _ _ hg.at')⟩,compR_keep (fun y=>!decide (V.str y = V.str x)) (om29 g20) (s1 _ _ hg.at') (fun y H1 Q' hy k hq=>?_) (fun y H1 Q' hy hq=>⟨_,rfl,hq⟩) fun H' k r nr=>?_⟩
   ·exact ⟨_,rfl,_,rfl,p,_,_,_,rfl,rfl,SqT.of (k _ _ (s1 _ _ h1)),rfl,rfl,_,rfl,hq _ (Same.refl _)⟩
   ·refine q r _ _ upd_same (fun y=>?_) (Nat.le_trans (List.length_filter_le ..) (om15 g20)) ((s1.trans k).trans (same_upd nr))
    rw [List.mem_filter,hg.nm.mem y]
    exact and_congr_right fun _=>by simp
  | wr t u T U =>
   obtain ⟨rfl,hT,hU⟩:=h2
   refine ⟨_,rfl,p,_,_,_,rfl,rfl,SqT.of h1,rfl,_,rfl,(by exact sz3),fun l nl=>⟨l,_,rfl,.inr (SqT.of upd_same),rfl,rfl,_,rfl,ifX (by decide +kernel) ?_⟩⟩
   refine ⟨_,rfl,rfl,_,rfl,ifX (by decide +kernel) ?_⟩
   refine ⟨_,rfl,rfl,_,rfl,ifX (by decide +kernel) ?_⟩
   refine ⟨_,rfl,rfl,_,rfl,ifX (by decide +kernel) ?_⟩
   exact ⟨_,rfl,q g ss _ (keepN hg.at' nl) hg.nm.mem (om15 g20) (same_upd nl)⟩
  | cl x f' q' ts =>
   obtain ⟨rfl,hq',hT⟩:=h2
   refine ⟨_,rfl,p,_,_,_,rfl,rfl,SqT.of h1,rfl,_,rfl,(by exact sz3),fun l nl=>⟨l,_,rfl,.inr (SqT.of upd_same),rfl,rfl,_,rfl,ifY (by decide +kernel) ?_⟩⟩
   have s1 : Same H (upd H l (.tup [.str "set",.str "read",.str "call"])):=same_upd nl
   refine ⟨_,rfl,g,rfl,⟨_,SqL.of (s1 _ _ hg.at')⟩,compR_keep (fun y=>!decide (V.str y = V.str x)) (om29 g20) (s1 _ _ hg.at') (fun y H1 Q' hy k hq=>?_) (fun y H1 Q' hy hq=>⟨_,rfl,hq⟩) fun H' k r nr=>?_⟩
   ·exact ⟨_,rfl,_,rfl,p,_,_,_,rfl,rfl,SqT.of (k _ _ (s1 _ _ h1)),rfl,rfl,_,rfl,hq _ (Same.refl _)⟩
   ·refine q r _ _ upd_same (fun y=>?_) (Nat.le_trans (List.length_filter_le ..) (om15 g20)) ((s1.trans k).trans (same_upd nr))
    rw [List.mem_filter,hg.nm.mem y]
    exact and_congr_right fun _=>by simp
  | gv t T =>
   obtain ⟨rfl,hT⟩:=h2
   refine ⟨_,rfl,p,_,_,_,rfl,rfl,SqT.of h1,rfl,_,rfl,(by exact sz3),fun l nl=>⟨l,_,rfl,.inr (SqT.of upd_same),rfl,rfl,_,rfl,ifX (by decide +kernel) ?_⟩⟩
   refine ⟨_,rfl,rfl,_,rfl,ifX (by decide +kernel) ?_⟩
   refine ⟨_,rfl,rfl,_,rfl,ifX (by decide +kernel) ?_⟩
   refine ⟨_,rfl,rfl,_,rfl,ifY (by decide +kernel) ?_⟩
   exact ⟨(by exact sz0),fun r nr=>q r [] _ upd_same (fun y=>⟨fun h=>absurd h List.not_mem_nil,fun h=>(show False from h).elim⟩) (Nat.zero_le _) ((same_upd nl).trans (same_upd nr))⟩
 | ite p t T a b qa qb as bs h1 h0 h2 h3 h4 h5 =>
  refine ⟨_,rfl,p,_,_,_,rfl,rfl,SqT.of h1,rfl,_,rfl,(by exact sz3),fun l nl=>⟨l,_,rfl,.inr (SqT.of upd_same),rfl,rfl,_,rfl,ifX (by decide +kernel) ?_⟩⟩
  refine ⟨_,rfl,rfl,_,rfl,ifY (by decide +kernel) ?_⟩
  have s1 : Same H (upd H l (.tup [.str "set",.str "read",.str "call"])):=same_upd nl
  have hd' : max (max a.dep b.dep + 1) 0 < n + 1:=hd
  have hz' : a.size + b.size + 0 + 1 ≤ 10000000:=hz
  refine ⟨_,rfl,p,_,_,_,rfl,rfl,SqT.of (s1 _ _ h1),rfl,_,rfl,qa,g,a,as,ss,M,ys,rfl,s1 _ _ h2,h4.mono (Same.tm s1),hg.same s1,ho.2.1,om65 hd',om210 hz',fun r1 z1 H1 n1 k1=>?_⟩
  have s2:=s1.trans k1
  refine ⟨_,rfl,p,_,_,_,rfl,rfl,SqT.of (s2 _ _ h1),rfl,_,rfl,qb,g,b,bs,ss,M,ys,rfl,s2 _ _ h3,h5.mono (Same.tm s2),hg.same s2,ho.2.2.1,om66 hd',om211 hz',fun r2 z2 H2 n2 k2=>?_⟩
  have l1:=n1.len
  have l2:=n2.len
  have big:=line_big
  refine ⟨r1,r2,_,_,rfl,rfl,k2 _ _ n1.at',n2.at',by rw [List.length_map,List.length_map]; exact om64 l1 l2 big,fun r nr=>q r (z1 ++ z2) _ (by rw [upd_same,List.map_append]) (fun y=>?_) (by rw [List.length_append]; exact om212 l1 l2) ((s2.trans k2).trans (same_upd nr))⟩
  rw [List.mem_append,n1.nm.mem y,n2.nm.mem y]
  exact Iff.rfl
 | loop p t T a qa as h1 h0 h2 h3 =>
  refine ⟨_,rfl,p,_,_,_,rfl,rfl,SqT.of h1,rfl,_,rfl,(by exact sz3),fun l nl=>⟨l,_,rfl,.inr (SqT.of upd_same),rfl,rfl,_,rfl,ifX (by decide +kernel) ?_⟩⟩
  refine ⟨_,rfl,rfl,_,rfl,ifX (by decide +kernel) ?_⟩
  refine ⟨_,rfl,rfl,_,rfl,ifY (by decide +kernel) ?_⟩
  have s1 : Same H (upd H l (.tup [.str "set",.str "read",.str "call"])):=same_upd nl
  have hd' : max (a.dep + 1) 0 < n + 1:=hd
  have hz' : a.size + 0 + 1 ≤ 10000000:=hz
  refine ⟨_,rfl,p,_,_,_,rfl,rfl,SqT.of (s1 _ _ h1),rfl,(by exact sz0),fun e ne=>?_⟩
  have s2:=s1.trans (same_upd (o:=.lst []) ne)
  refine ⟨qa,e,a,as,[],fun _=>False,ys,rfl,s2 _ _ h2,h3.mono (Same.tm s2),⟨upd_same,Nm.empty,fun _ w=>w.elim,hg.y20⟩,ho.2.1,om67 hd',om213 hz',fun r1 z1 H1 n1 k1=>?_⟩
  have l1:=n1.len
  have s3:=s2.trans k1
  have big:=line_big
  refine ⟨_,rfl,r1,g,_,_,rfl,rfl,n1.at',s3 _ _ hg.at',by rw [List.length_map,List.length_map]; exact om214 g20 l1 big,fun r nr=>q r (z1 ++ ss) _ (by rw [upd_same,List.map_append]) (fun y=>?_) (by rw [List.length_append]; exact om215 g20 l1) (s3.trans (same_upd nr))⟩
  rw [List.mem_append,n1.nm.mem y,hg.nm.mem y]
  exact Iff.rfl
end
end K17
namespace K17
open PySem PySem.Spec PyProof.Rows L2
theorem own_at {H : Hp} {v : V} {s : Bd} (h : StV H v s) : ∀ c ∈ s.own,TmAt H c.2 c.1:=by
 cases h with
 | lf p l vs _ h2 =>
  cases l with
  | rd x t T=>intro c hc; rw [List.mem_singleton.mp hc]; exact h2.2
  | st x t T=>intro c hc; rw [List.mem_singleton.mp hc]; exact h2.2
  | wr t u T U =>
   intro c hc
   rcases List.mem_cons.mp hc with e | hc
   ·rw [e]; exact h2.2.1
   ·rw [List.mem_singleton.mp hc]; exact h2.2.2
  | cl x f q ts=>exact h2.2.2
  | gv t T=>intro c hc; rw [List.mem_singleton.mp hc]; exact h2.2
 | ite p t T a b qa qb as bs _ h0 _ _ _ _=>intro c hc; rw [List.mem_singleton.mp hc]; exact h0
 | loop p t T a qa as _ h0 _ _=>intro c hc; rw [List.mem_singleton.mp hc]; exact h0
theorem own_ok {H : Hp} {v : V} {s : Bd} {ys : List Str} (h : StV H v s) (o : s.Ok ys) : s.own.length ≤ 100 ∧ ∀ c ∈ s.own,TmOk ys c.2:=by
 have one : ∀ (t : Addr) (T : Tm),TmOk ys T → [(t,T)].length ≤ 100 ∧ ∀ c ∈ [(t,T)],TmOk ys c.2:=fun t T h=>⟨by show 1 ≤ 100; exact om216,fun c hc=>by rw [List.mem_singleton.mp hc]; exact h⟩
 cases h with
 | lf p l vs _ h2 =>
  cases l with
  | rd x t T=>exact one t T o.1.2
  | st x t T=>exact one t T o.1.2
  | wr t u T U =>
   refine ⟨by show 2 ≤ 100; exact om217,fun c hc=>?_⟩
   rcases List.mem_cons.mp hc with e | hc
   ·rw [e]; exact o.1.1
   ·rw [List.mem_singleton.mp hc]; exact o.1.2
  | cl x f q ts=>exact o.1.2
  | gv t T=>exact one t T o.1
 | ite p t T a b qa qb as bs _ h0 _ _ _ _=>exact one t T o.1
 | loop p t T a qa as _ h0 _ _=>exact one t T o.1
theorem app_assoc : ∀ (a b c : Bd),(a.app b).app c = a.app (b.app c)
 | .nil,_,_=>rfl
 | .lf p l r,b,c=>by show Bd.lf p l ((r.app b).app c) = _; rw [app_assoc r b c]; rfl
 | .ite p t T x y r,b,c=>by show Bd.ite p t T x y ((r.app b).app c) = _; rw [app_assoc r b c]; rfl
 | .loop p t T x r,b,c=>by show Bd.loop p t T x ((r.app b).app c) = _; rw [app_assoc r b c]; rfl
theorem app_nil : ∀ (a : Bd),a.app .nil = a
 | .nil=>rfl
 | .lf p l r=>by show Bd.lf p l (r.app .nil) = _; rw [app_nil r]
 | .ite p t T x y r=>by show Bd.ite p t T x y (r.app .nil) = _; rw [app_nil r]
 | .loop p t T x r=>by show Bd.loop p t T x (r.app .nil) = _; rw [app_nil r]
inductive OI (v : V) (g r nl : Addr) (s : Bd) (M : Str → Prop) (H1 : Hp) (i : Nat) (σ : L2.St) (H' : Hp) : Prop
 | mk (o3 : Option V) (zs : List Str) (e0 : σ = [some v,some (.ref g),some (.ref nl),o3]) (e1 : H' nl = some (.lst (zs.map V.str))) (e2 : ∀ y,y ∈ zs ↔ s.bt M y ∨ ∃ c ∈ s.own.take i,y ∈ c.2.vars) (e3 : zs.length ≤ 40 + 20 * i) (e4 : But nl H1 H') : OI v g r nl s M H1 i σ H'
section
variable {P : Program} {w : World} {K : PySem.W.Frag} {mg : Str → Option Value} {base : Heap}
theorem scUof : FnScope ["statement", "behind", "names", "term"] ["statement", "behind"] (defScope sUof):=⟨rfl,rfl,rfl,by decide +kernel,rfl,by decide +kernel,by decide +kernel⟩
theorem ok_uof {f : Addr} {fd : FuncData} {L n : Nat} {fB fO fN : Addr} {fdB fdO fdN : FuncData} (F : Fun K "used_ahead_of" "used_ahead_of" sUof f fd) (GB : FnOk P w K mg base CX0 (L + 9) fB fdB ["statement", "behind"] (spUbt n)) (bB : Binds K fdB ["statement", "behind"] []) (kB : PySem.W.keepIn K (.ref fB) = true) (mB : mg "used_behind_terms" = some (.ref fB)) (GO : FnOk P w K mg base CX0 1 fO fdO ["statement"] spOwn) (bO : Binds K fdO ["statement"] []) (kO : PySem.W.keepIn K (.ref fO) = true) (mO : mg "own_terms" = some (.ref fO)) (GN : FnOk P w K mg base CX0 6 fN fdN ["term"] (spNmIn 5)) (bN : Binds K fdN ["term"] []) (kN : PySem.W.keepIn K (.ref fN) = true) (mN : mg "names_in" = some (.ref fN)) (mli : mg "list" = none) (mse : mg "set" = none) (mso : mg "sorted" = none) : FnOk P w K mg base CX0 (L + 10) f fd ["statement", "behind"] (spUof n):=by
 refine F.ok scUof (fun vs H Q E h=>?_) (fun cdv A outer s H vs Q E hr h=>?_)
 ·refine opq fun Gq kq=>?_
  obtain ⟨v,g,s,ss,M,ys,rfl,_⟩:=h
  refine kq ?_
  rfl
 refine opq fun Gq kq=>?_
 obtain ⟨v,g,st,ss,M,ys,rfl,hs,hg,ho,hd,hz,q⟩:=h
 refine kq ?_
 refine ⟨_,(pss_cons (ps_set (i:=2) scUof.nd rfl (Or.inl rfl) (@pe_callTy _ _ _ _ _ _ _ _ _ call_list_of rfl mli PyProof.Rows.boot_list (pa_cons (pe_call GB (hr.mono om218) rfl mB kB bB .nil pass0 (pa_cons (pv 0) (pa_cons (pv 1) pa_nil))) pa_nil) (by decide) (by decide) (by rfl) (by rfl))) (pss_cons (@ps_for _ _ _ _ _ _ _ _ PassesOwn.never rfl (@pi_tup _ _ _ _ (pe_call GO (hr.mono om16) rfl mO kO bO .nil pass0 (pa_cons (pv 0) pa_nil))) (pg_name (i:=3) scUof.nd rfl (Or.inl rfl)) (pss_one (ps_expr (@pe_bm _ _ _ _ _ _ _ _ _ _ _ _ PySem.F.plainAttrs_list PySem.F.slot_list_extend PySem.F.type_list_extend mt_extend (pv 2) (pa_cons (pe_call GN (hr.mono om4) rfl mN kN bN .nil pass0 (pa_cons (pv 3) pa_nil)) pa_nil) (by rfl) (by rfl) (by rfl) (by rfl) (by rfl)))) (by intro _; rfl)) (pss_one (ps_ret (@pe_callB _ _ _ _ _ _ _ _ _ (call_sortedS rfl) rfl mso PyProof.Rows.boot_sorted (pa_cons (@pe_callTy _ _ _ _ _ _ _ _ _ (call_setN rfl) rfl mse PyProof.Rows.boot_set (pa_cons (pv 2) pa_nil) (by decide) (by decide) (by rfl) (by rfl)) pa_nil) (by decide) (by decide) (by rfl) (by rfl)))))),?_⟩
 try dsimp only [cxOf,Cx.nox,Cx.wish]
 refine seqF fun F1 f1=>⟨_,rfl,_,rfl,v,g,st,ss,M,ys,rfl,hs,hg,ho,hd,hz,fun r1 z1 H1 e1 m1 l1 k1=>⟨r1,_,rfl,.inl (SqL.of e1),fun nl nnl=>f1 _ _ ?_⟩⟩
 clear f1
 have s2 : Same H (upd H1 nl (.lst (z1.map V.str))):=k1.trans (same_upd nnl)
 have hs2:=hs.mono (Same.tm s2)
 obtain ⟨o100,ook⟩:=own_ok hs ho
 have hn2 : upd H1 nl (.lst (z1.map V.str)) nl = some (.lst (z1.map V.str)):=upd_same
 have hn0 : H nl = none:=k1.free nnl
 generalize upd H1 nl (.lst (z1.map V.str)) = H2 at s2 hs2 hn2
 refine seqF fun F1 f1=>?_
 refine forE fun F kF=>⟨_,rfl,v,st,rfl,hs2,fun r H3 hr k3=>⟨r,rfl,⟨_,SqT.of hr⟩,kF _ _ ?_⟩⟩
 clear kF
 have rnl : r ≠ nl:=ne_of hr (k3 _ _ hn2) (by intro z; cases z)
 have s3:=s2.trans k3
 have big:=line_big
 refine for_tupE (K:=K) (xs:=st.own.map rT) (OI v g r nl st M H3) ⟨_,z1,rfl,k3 _ _ hn2,fun y=>?_,om219 l1,But.refl⟩ (fun i σ H' hi h=>?_) ?_ (fun σ H' h=>f1 _ _ ?_)
 ·rw [m1 y]
  exact ⟨.inl,fun z=>z.elim (fun w=>w) fun ⟨c,hc,_⟩=>absurd hc List.not_mem_nil⟩
 ·obtain ⟨_,_,_,_,_,_,k⟩:=h
  exact SqT.of (k _ _ rnl hr)
 ·clear f1
  intro E _ i x σ H4 hx fE Gq kq h
  obtain ⟨o3,zs,rfl,h1,h2,h3,k4⟩:=h
  rw [List.getElem?_map] at hx
  cases hc : st.own[i]? with
  | none=>rw [hc] at hx; cases hx
  | some c =>
   rw [hc] at hx
   cases hx
   refine kq ?_
   have cm:=List.mem_of_getElem? hc
   have hi : i < st.own.length:=by
    rcases Nat.lt_or_ge i st.own.length with z | z
    ·exact z
    ·rw [List.getElem?_eq_none z] at hc; cases hc
   have tm : TMono H3 H4:=fun b xs e=>k4 b _ (ne_of e (k3 _ _ hn2) (by intro z; cases z)) e
   show tDrop _ E [some v,some (.ref g),some (.ref nl),some (.ref c.1)] H4
   refine ⟨_,rfl,.inl ⟨rfl,_,SqL.of h1⟩,_,rfl,c.1,c.2,ys,rfl,((own_at hs c cm).mono (Same.tm s3)).mono tm,(ook c cm).2,(ook c cm).1,hg.y20,fun r5 s5 H5 n5 e5 d5 m5 o5 k5=>?_⟩
   have l5 : s5.length ≤ 20:=Nat.le_trans (nodup_len d5 fun x hx=>vars_in (ook c cm).1 x ((m5 x).mp hx)) hg.y20
   refine ⟨nl,r5,_,_,rfl,rfl,k5 _ _ h1,e5,by rw [List.length_map,List.length_map]; exact om220 o100 big h3 hi l5,fE _ _ ⟨_,zs ++ s5,rfl,by rw [upd_same,List.map_append],fun y=>?_,by rw [List.length_append]; exact om221 h3 l5,fun b o nb e=>?_⟩⟩
   ·rw [List.mem_append,h2 y,m5 y,List.take_add_one,hc]
    refine ⟨fun z=>z.elim (fun z=>z.elim .inl fun ⟨d,hd,w⟩=>.inr ⟨d,List.mem_append_left _ hd,w⟩) fun w=>.inr ⟨c,List.mem_append_right _ (List.mem_singleton.mpr rfl),w⟩,fun z=>z.elim (fun w=>.inl (.inl w)) fun hq_=>?_⟩; obtain ⟨d,hd,w⟩:=hq_
    rcases List.mem_append.mp hd with hd | hd
    ·exact .inl (.inr ⟨d,hd,w⟩)
    ·have ed : d = c:=List.mem_singleton.mp hd
     rw [ed] at w
     exact .inr w
   ·rw [upd_ne nb]
    exact k5 _ _ (k4 b o nb e)
 ·obtain ⟨o3,zs,rfl,h1,h2,h3,k4⟩:=h
  clear f1
  rw [List.length_map] at h2 h3
  have s4 : Same H H':=fun b o e=>k4 b o (ne_of_none e hn0) (s3 _ _ e)
  refine ⟨_,rfl,nl,zs,rfl,SqL.of h1,(by show zs.length + 1 < 4096; exact om222 o100 h3),fun l L nl' hnd hm=>?_⟩
  have sub : ∀ y ∈ L,y ∈ ys:=fun y hy=>Bd.use_in ho hg.sub y ((use_st hs M y).mpr (by have:=(h2 y).mp ((hm y).mp hy); rwa [List.take_length] at this))
  have lL:=Nat.le_trans (nodup_len hnd sub) hg.y20
  refine ⟨l,L,rfl,upd_same,om68 lL,fun r' ss' nr' pm nd so=>?_⟩
  refine q r' ss' _ ((s4.trans (same_upd nl')).free nr') ⟨upd_same,⟨pm.nodup_iff.mpr nd,so,fun y=>?_⟩,Bd.use_in ho hg.sub,hg.y20⟩ ((s4.trans (same_upd nl')).trans (same_upd nr'))
  rw [pm.mem_iff,hm y,h2 y,use_st hs M y,List.take_length]
end
inductive UI (a g : Addr) (b : Bd) (xs : List V) (M : Str → Prop) (ys : List Str) (H : Hp) (i : Nat) (σ : L2.St) (H' : Hp) : Prop
 | mk (g' : Addr) (o3 : Option V) (pre suf : Bd) (zs : List Str) (e0 : σ = [some (.ref a),some (.ref g),some (.ref g'),o3]) (e1 : b = pre.app suf) (e2 : BdV H pre (xs.take (xs.length - i))) (e3 : NL H' g' zs (suf.use M) ys) (e4 : Same H H') : UI a g b xs M ys H i σ H'
section
variable {P : Program} {w : World} {K : PySem.W.Frag} {mg : Str → Option Value} {base : Heap}
theorem scUah : FnScope ["body", "behind", "names", "statement"] ["body", "behind"] (defScope sUah):=⟨rfl,rfl,rfl,by decide +kernel,rfl,by decide +kernel,by decide +kernel⟩
theorem ok_uah {f : Addr} {fd : FuncData} {L n : Nat} {fU : Addr} {fdU : FuncData} (F : Fun K "used_ahead" "used_ahead" sUah f fd) (GU : FnOk P w K mg base CX0 (L + 10) fU fdU ["statement", "behind"] (spUof n)) (bU : Binds K fdU ["statement", "behind"] []) (kU : PySem.W.keepIn K (.ref fU) = true) (mU : mg "used_ahead_of" = some (.ref fU)) (mso : mg "sorted" = none) (mre : mg "reversed" = none) : FnOk P w K mg base CX0 (L + 11) f fd ["body", "behind"] (spUah (n + 1)):=by
 refine F.ok scUah (fun vs H Q E h=>?_) (fun cdv A outer s H vs Q E hr h=>?_)
 ·refine opq fun Gq kq=>?_
  obtain ⟨a,g,b,xs,ss,M,ys,rfl,_⟩:=h
  refine kq ?_
  rfl
 refine opq fun Gq kq=>?_
 obtain ⟨a,g,b,xs,ss,M,ys,rfl,ha,hb,hg,ho,hd,hz,q⟩:=h
 refine kq ?_
 refine ⟨_,(pss_cons (ps_set (i:=2) scUah.nd rfl (Or.inl rfl) (@pe_callB _ _ _ _ _ _ _ _ _ call_sortedL rfl mso PyProof.Rows.boot_sorted (pa_cons (pv 1) pa_nil) (by decide) (by decide) (by rfl) (by rfl))) (pss_cons (@ps_for _ _ _ _ _ _ _ _ PassesOwn.never rfl (@pi_rev _ _ _ _ _ _ _ rfl mre PyProof.Rows.boot_reversed (pv 0) (by decide) (by decide) (by rfl) (by rfl)) (pg_name (i:=3) scUah.nd rfl (Or.inl rfl)) (pss_one (ps_set (i:=2) scUah.nd rfl (Or.inl rfl) (pe_call GU (hr.mono om223) rfl mU kU bU .nil pass0 (pa_cons (pv 3) (pa_cons (pv 2) pa_nil))))) (by intro _; rfl)) (pss_one (ps_ret (pv 2))))),?_⟩
 try dsimp only [cxOf,Cx.nox,Cx.wish]
 have g20:=hg.len
 have big:=line24
 refine seqF fun F1 f1=>⟨_,rfl,g,ss,rfl,SqL.of hg.at',om68 g20,fun l ss' nl pm so=>f1 _ _ ?_⟩
 clear f1
 have es : ss' = ss:=sorted_same pm so hg.nm.so
 subst es
 have s1 : Same H (upd H l (.lst (ss'.map V.str))):=same_upd nl
 have hl1 : NL (upd H l (.lst (ss'.map V.str))) l ss' M ys:=⟨upd_same,hg.nm,hg.sub,hg.y20⟩
 generalize upd H l (.lst (ss'.map V.str)) = H1 at s1 hl1
 have xl:=hb.len
 refine seqF fun F1 f1=>?_
 refine forE fun F kF=>⟨_,rfl,a,xs,rfl,SqT.of (s1 _ _ ha),kF _ _ ?_⟩
 clear kF
 refine for_revE (K:=K) (xs:=xs) (UI a g b xs M ys H) ⟨l,_,b,.nil,ss',rfl,(app_nil b).symm,by rw [Nat.sub_zero,List.take_length]; exact hb,hl1,s1⟩ (fun i σ H' hi h=>?_) ?_ (fun σ H' h=>f1 _ _ ?_)
 ·obtain ⟨_,_,_,_,_,_,_,_,_,k⟩:=h
  exact SqT.of (k _ _ ha)
 ·clear f1
  intro E _ i x σ H2 hx fE Gq kq h
  obtain ⟨g',o3,pre,suf,zs,rfl,h1,h2,h3,k2⟩:=h
  have hi : i < xs.length:=by
   rcases Nat.lt_or_ge i xs.length with z | z
   ·exact z
   ·rw [List.getElem?_eq_none (by simpa using z)] at hx; cases hx
  rw [List.getElem?_reverse hi] at hx
  have et : xs.take (xs.length - i) = xs.take (xs.length - (i + 1)) ++ [x]:=by
   have e1 : xs.length - i = (xs.length - 1 - i) + 1:=om69 hi
   have e2 : xs.length - (i + 1) = xs.length - 1 - i:=om70
   rw [e1,e2,List.take_add_one,hx]
   rfl
  rw [et] at h2
  rcases h2.last with ⟨e,_⟩ | ⟨ws,v,b1,s1',e1,e2,h4,h5⟩
  ·exact absurd e (by simp)
  obtain ⟨ew,ev⟩:=List.append_inj' e1 rfl
  cases ev
  subst e2
  have hok:=app_ok (h1 ▸ ho)
  have hok1:=app_ok hok.1
  have a1 : b.dep = max (b1.app s1').dep suf.dep:=by rw [h1,dep_app]
  have a2 : (b1.app s1').dep = max b1.dep s1'.dep:=dep_app ..
  have hde : s1'.dep ≤ b.dep:=by rw [a1,a2]; exact Nat.le_trans (Nat.le_max_right ..) (Nat.le_max_left ..)
  clear a1 a2
  have hsz : s1'.size ≤ b.size:=by rw [h1,size_app,size_app]; exact om224
  refine kq ?_
  show tAsg _ _ E [some (.ref a),some (.ref g),some (.ref g'),some x] H2
  refine ⟨_,rfl,_,rfl,x,g',s1',zs,suf.use M,ys,rfl,h5.mono (Same.tm k2),h3,hok1.2,om71 hd hde,om225 hz hsz,fun r z H3 _ n3 k3=>fE _ _ ⟨r,_,b1,s1'.app suf,z,rfl,by rw [h1,app_assoc],?_,by rw [use_app]; exact n3,k2.trans k3⟩⟩
  rw [ew]
  exact h4
 ·obtain ⟨g',o3,pre,suf,zs,rfl,h1,h2,h3,k2⟩:=h
  rw [Nat.sub_self] at h2
  have ep : pre = .nil:=by
   rcases h2.last with ⟨_,e⟩ | ⟨ws,v,b1,s1',e1,_⟩
   ·exact e
   ·exact absurd e1 (by simp)
  rw [ep] at h1
  refine ⟨_,rfl,q g' zs H' ?_ k2⟩
  rw [h1]
  exact h3
theorem no_uah {f : Addr} {fd : FuncData} {k : Nat} : FnOk P w K mg base CX0 k f fd ["body", "behind"] (spUah 0):=by
 have no : ∀ vs H Q E,¬ spUah 0 vs H Q E:=fun vs H Q E h=>by
  obtain ⟨a,g,b,xs,ss,M,ys,_,_,_,_,_,hd,_⟩:=h
  exact absurd hd (Nat.not_lt_zero _)
 exact ⟨fun vs H Q E h=>absurd h (no vs H Q E),fun A outer s H args us vs Q E _ _ _ _ h=>absurd h (no vs H Q E)⟩
theorem uahs {f fB fU fO fN : Addr} {fd fdB fdU fdO fdN : FuncData} (F : Fun K "used_ahead" "used_ahead" sUah f fd) (FB : Fun K "used_behind_terms" "used_behind_terms" sUbt fB fdB) (FU : Fun K "used_ahead_of" "used_ahead_of" sUof fU fdU)
  (bF : Binds K fd ["body", "behind"] []) (mF : mg "used_ahead" = some (.ref f)) (bB : Binds K fdB ["statement", "behind"] []) (mB : mg "used_behind_terms" = some (.ref fB)) (bU : Binds K fdU ["statement", "behind"] []) (mU : mg "used_ahead_of" = some (.ref fU)) (GO : FnOk P w K mg base CX0 1 fO fdO ["statement"] spOwn) (bO : Binds K fdO ["statement"] []) (kO : PySem.W.keepIn K (.ref fO) = true) (mO : mg "own_terms" = some (.ref fO)) (GN : FnOk P w K mg base CX0 6 fN fdN ["term"] (spNmIn 5)) (bN : Binds K fdN ["term"] []) (kN : PySem.W.keepIn K (.ref fN) = true) (mN : mg "names_in" = some (.ref fN)) (mli : mg "list" = none) (mse : mg "set" = none) (mso : mg "sorted" = none) (mre : mg "reversed" = none) :
  ∀ n : Nat,FnOk P w K mg base CX0 (3 * n + 8) f fd ["body", "behind"] (spUah n) ∧ FnOk P w K mg base CX0 (3 * n + 10) fU fdU ["statement", "behind"] (spUof n)
 | 0=>by
  have h0 : FnOk P w K mg base CX0 8 f fd ["body", "behind"] (spUah 0):=no_uah
  have h1:=ok_ubt (L:=8) (n:=0) FB h0 bF F.kp mF
  exact ⟨h0,ok_uof (L:=0) FU h1 bB FB.kp mB GO bO kO mO GN bN kN mN mli mse mso⟩
 | n + 1=>by
  have ih:=(uahs F FB FU bF mF bB mB bU mU GO bO kO mO GN bN kN mN mli mse mso mre n).2
  have h0:=ok_uah (L:=3 * n) F ih bU FU.kp mU mso mre
  have e0 : 3 * n + 11 = 3 * (n + 1) + 8:=om226
  rw [e0] at h0
  have h1:=ok_ubt (L:=3 * (n + 1) + 8) (n:=n + 1) FB h0 bF F.kp mF
  exact ⟨h0,ok_uof (L:=3 * (n + 1)) FU h1 bB FB.kp mB GO bO kO mO GN bN kN mN mli mse mso⟩
end
end K17
namespace K17
open PySem PySem.Spec PyProof.Rows L2
noncomputable abbrev sBin : Stmt:=top 8
noncomputable abbrev sMany : Stmt:=top 11
noncomputable abbrev sDeed : Stmt:=top 12
noncomputable abbrev sPgive : Stmt:=top 13
noncomputable abbrev sPset : Stmt:=top 14
noncomputable def Lf.cut : Lf → Nat
 | .st _ _ _=>0
 | .gv _ _=>0
 | _=>1
noncomputable def Bd.cuts : Bd → Nat
 | .nil=>0
 | .lf _ l r=>l.cut + r.cuts
 | .ite _ _ _ a b r=>1 + a.cuts + b.cuts + r.cuts
 | .loop _ _ _ a r=>1 + a.cuts + r.cuts
noncomputable def Bd.inn : Bd → Bd
 | .ite _ _ _ a b _=>a.app b
 | .loop _ _ _ a _=>a
 | _=>.nil
theorem cuts_app : ∀ (a b : Bd),(a.app b).cuts = a.cuts + b.cuts
 | .nil,b=>by show b.cuts = 0 + b.cuts; exact om63
 | .lf _ l r,b=>by have:=cuts_app r b; show l.cut + (r.app b).cuts = l.cut + r.cuts + b.cuts; exact om227 this
 | .ite _ _ _ x y r,b=>by have:=cuts_app r b; show 1 + x.cuts + y.cuts + (r.app b).cuts = 1 + x.cuts + y.cuts + r.cuts + b.cuts; exact om228 this
 | .loop _ _ _ x r,b=>by have:=cuts_app r b; show 1 + x.cuts + (r.app b).cuts = 1 + x.cuts + r.cuts + b.cuts; exact om229 this
noncomputable def spBin : Sp:=fun vs H Q _=>∃ (v : V) (s : Bd),vs = [v] ∧ StV H v s ∧ s.size ≤ 10000000 ∧ ∀ (r : Addr) (xs : List V) (H' : Hp),H' r = some (.tup xs) → BdV H' s.inn xs → Same H H' → Q (.ref r) H'
noncomputable def spMany : Sp:=fun vs H Q _=>∃ (a : Addr) (b : Bd) (xs : List V),vs = [.ref a] ∧ H a = some (.tup xs) ∧ BdV H b xs ∧ b.size ≤ 10000000 ∧ ∀ H',Same H H' → Q (.int (b.cuts : Int)) H'
section
variable {P : Program} {w : World} {K : PySem.W.Frag} {mg : Str → Option Value} {base : Heap}
theorem scBin : FnScope ["statement"] ["statement"] (defScope sBin):=⟨rfl,rfl,rfl,by decide +kernel,rfl,by decide +kernel,by decide +kernel⟩
theorem ok_bin {f : Addr} {fd : FuncData}  (F : Fun K "bodies_in" "bodies_in" sBin f fd)  : FnOk P w K mg base CX0 1 f fd ["statement"] spBin:=by
 refine F.ok scBin (fun vs H Q E h=>?_) (fun cdv A outer s H vs Q E hr h=>?_)
 ·refine opq fun Gq kq=>?_
  obtain ⟨v,s,rfl,_⟩:=h
  refine kq ?_
  rfl
 refine opq fun Gq kq=>?_
 obtain ⟨v,st,rfl,hs,hz,q⟩:=h
 refine kq ?_
 refine ⟨_,(pss_cons (ps_if (@pt_cmpR _ _ _ _ _ _ _ _ op_eq (@pe_ix _ _ _ _ _ _ _ ix_tup (pv 0) pe_int (fun _ _=>rfl)) pe_str (@nomark _ _ (by decide) (by decide))) (pss_one (ps_ret (pe_op op_catH (@pe_ix _ _ _ _ _ _ _ ix_tup (pv 0) pe_int (fun _ _=>rfl)) (@pe_ix _ _ _ _ _ _ _ ix_tup (pv 0) pe_int (fun _ _=>rfl))))) pss_nil) (pss_cons (ps_if (@pt_cmpR _ _ _ _ _ _ _ _ op_eq (@pe_ix _ _ _ _ _ _ _ ix_tup (pv 0) pe_int (fun _ _=>rfl)) pe_str (@nomark _ _ (by decide) (by decide))) (pss_one (ps_ret (@pe_ix _ _ _ _ _ _ _ ix_tup (pv 0) pe_int (fun _ _=>rfl)))) pss_nil) (pss_one (ps_ret (pe_tup pa_nil))))),?_⟩
 try dsimp only [cxOf,Cx.nox,Cx.wish]
 have big:=line24
 cases hs with
 | lf p l vs h1 h2 =>
  cases l with
  | rd x t T =>
   obtain ⟨rfl,_⟩:=h2
   refine ⟨_,rfl,p,_,_,_,rfl,rfl,SqT.of h1,rfl,rfl,_,rfl,ifX (by decide +kernel) ?_⟩
   refine ⟨_,rfl,p,_,_,_,rfl,rfl,SqT.of h1,rfl,rfl,_,rfl,ifX (by decide +kernel) ?_⟩
   exact ⟨(by exact sz0),fun r nr=>q r [] _ upd_same rfl (same_upd nr)⟩
  | st x t T =>
   obtain ⟨rfl,_⟩:=h2
   refine ⟨_,rfl,p,_,_,_,rfl,rfl,SqT.of h1,rfl,rfl,_,rfl,ifX (by decide +kernel) ?_⟩
   refine ⟨_,rfl,p,_,_,_,rfl,rfl,SqT.of h1,rfl,rfl,_,rfl,ifX (by decide +kernel) ?_⟩
   exact ⟨(by exact sz0),fun r nr=>q r [] _ upd_same rfl (same_upd nr)⟩
  | wr t u T U =>
   obtain ⟨rfl,_⟩:=h2
   refine ⟨_,rfl,p,_,_,_,rfl,rfl,SqT.of h1,rfl,rfl,_,rfl,ifX (by decide +kernel) ?_⟩
   refine ⟨_,rfl,p,_,_,_,rfl,rfl,SqT.of h1,rfl,rfl,_,rfl,ifX (by decide +kernel) ?_⟩
   exact ⟨(by exact sz0),fun r nr=>q r [] _ upd_same rfl (same_upd nr)⟩
  | cl x f q2 ts =>
   obtain ⟨rfl,_⟩:=h2
   refine ⟨_,rfl,p,_,_,_,rfl,rfl,SqT.of h1,rfl,rfl,_,rfl,ifX (by decide +kernel) ?_⟩
   refine ⟨_,rfl,p,_,_,_,rfl,rfl,SqT.of h1,rfl,rfl,_,rfl,ifX (by decide +kernel) ?_⟩
   exact ⟨(by exact sz0),fun r nr=>q r [] _ upd_same rfl (same_upd nr)⟩
  | gv t T =>
   obtain ⟨rfl,_⟩:=h2
   refine ⟨_,rfl,p,_,_,_,rfl,rfl,SqT.of h1,rfl,rfl,_,rfl,ifX (by decide +kernel) ?_⟩
   refine ⟨_,rfl,p,_,_,_,rfl,rfl,SqT.of h1,rfl,rfl,_,rfl,ifX (by decide +kernel) ?_⟩
   exact ⟨(by exact sz0),fun r nr=>q r [] _ upd_same rfl (same_upd nr)⟩
 | ite p t T a b qa qb as bs h1 h0 h2 h3 h4 h5 =>
  refine ⟨_,rfl,p,_,_,_,rfl,rfl,SqT.of h1,rfl,rfl,_,rfl,ifY (by decide +kernel) ?_⟩
  have hz' : a.size + b.size + 0 + 1 ≤ 10000000:=hz
  have l1:=h4.len
  have l2:=h5.len
  exact ⟨_,rfl,p,_,_,_,rfl,rfl,SqT.of h1,rfl,_,rfl,p,_,_,_,rfl,rfl,SqT.of h1,rfl,qa,qb,as,bs,rfl,rfl,h2,h3,om230 big hz' l1 l2,fun r H' hr s=>q r _ H' hr ((h5.mono (Same.tm s)).app (h4.mono (Same.tm s))) s⟩
 | loop p t T a qa as h1 h0 h2 h3 =>
  refine ⟨_,rfl,p,_,_,_,rfl,rfl,SqT.of h1,rfl,rfl,_,rfl,ifX (by decide +kernel) ?_⟩
  refine ⟨_,rfl,p,_,_,_,rfl,rfl,SqT.of h1,rfl,rfl,_,rfl,ifY (by decide +kernel) ?_⟩
  exact ⟨_,rfl,p,_,_,_,rfl,rfl,SqT.of h1,rfl,q qa as H h2 h3 (Same.refl H)⟩
end
theorem st_cuts {H : Hp} {v : V} {s : Bd} (h : StV H v s) : s.inn.size < s.size ∧ ∃ (p : Addr) (w : Str) (r : List V),v = .ref p ∧ H p = some (.tup (.str w :: r)) ∧ s.cuts = (if inV (.str w) [.str "set",.str "give"] = true then 0 else 1) + s.inn.cuts:=by
 cases h with
 | lf p l vs h1 h2 =>
  refine ⟨Nat.zero_lt_succ _,?_⟩
  cases l with
  | rd x t T=>obtain ⟨rfl,_⟩:=h2; exact ⟨p,_,_,rfl,h1,by rw [if_neg (by decide +kernel)]; rfl⟩
  | st x t T=>obtain ⟨rfl,_⟩:=h2; exact ⟨p,_,_,rfl,h1,by rw [if_pos (by decide +kernel)]; rfl⟩
  | wr t u T U=>obtain ⟨rfl,_⟩:=h2; exact ⟨p,_,_,rfl,h1,by rw [if_neg (by decide +kernel)]; rfl⟩
  | cl x f q2 ts=>obtain ⟨rfl,_⟩:=h2; exact ⟨p,_,_,rfl,h1,by rw [if_neg (by decide +kernel)]; rfl⟩
  | gv t T=>obtain ⟨rfl,_⟩:=h2; exact ⟨p,_,_,rfl,h1,by rw [if_pos (by decide +kernel)]; rfl⟩
 | ite p t T a b qa qb as bs h1 h0 h2 h3 h4 h5 =>
  refine ⟨by show (a.app b).size < a.size + b.size + 0 + 1; rw [size_app]; exact om231,p,_,_,rfl,h1,?_⟩
  rw [if_neg (by decide +kernel)]
  show 1 + a.cuts + b.cuts + 0 = 1 + (a.app b).cuts
  rw [cuts_app]
  exact om232
 | loop p t T a qa as h1 h0 h2 h3 =>
  refine ⟨by show a.size < a.size + 0 + 1; exact om233,p,_,_,rfl,h1,?_⟩
  rw [if_neg (by decide +kernel)]
  show 1 + a.cuts + 0 = 1 + a.cuts
  exact om234
theorem at0 {v : V} {ys : List V} : atI (v :: ys) 0 = some v:=atI_nat (j:=0) rfl
inductive MI (a td : Addr) (b : Bd) (H : Hp) (m : Nat) (σ : L2.St) (H' : Hp) : Prop
 | mk (o3 : Option V) (W : Bd) (zs : List V) (k : Nat) (e0 : m = W.size) (e1 : σ = [some (.ref a),some (.int (k : Int)),some (.ref td),o3]) (e2 : H' td = some (.lst zs)) (e3 : BdV H' W zs) (e4 : k + W.cuts = b.cuts) (e5 : W.size ≤ 10000000) (e6 : But td H H') : MI a td b H m σ H'
section
variable {P : Program} {w : World} {K : PySem.W.Frag} {mg : Str → Option Value} {base : Heap}
theorem scMany : FnScope ["body", "many", "todo", "statement"] ["body"] (defScope sMany):=⟨rfl,rfl,rfl,by decide +kernel,rfl,by decide +kernel,by decide +kernel⟩
theorem ok_many {f : Addr} {fd : FuncData} {fB : Addr} {fdB : FuncData} (F : Fun K "many_cuts" "many_cuts" sMany f fd) (GB : FnOk P w K mg base CX0 1 fB fdB ["statement"] spBin) (bB : Binds K fdB ["statement"] []) (kB : PySem.W.keepIn K (.ref fB) = true) (mB : mg "bodies_in" = some (.ref fB)) (mli : mg "list" = none) : FnOk P w K mg base CX0 2 f fd ["body"] spMany:=by
 refine F.ok scMany (fun vs H Q E h=>?_) (fun cdv A outer s H vs Q E hr h=>?_)
 ·refine opq fun Gq kq=>?_
  obtain ⟨a,b,xs,rfl,_⟩:=h
  refine kq ?_
  rfl
 refine opq fun Gq kq=>?_
 obtain ⟨a,b,xs,rfl,ha,hb,hz,q⟩:=h
 refine kq ?_
 refine ⟨_,(pss_cons (ps_set (i:=1) scMany.nd rfl (Or.inl rfl) pe_int) (pss_cons (ps_set (i:=2) scMany.nd rfl (Or.inl rfl) (@pe_callTy _ _ _ _ _ _ _ _ _ call_list_of rfl mli PyProof.Rows.boot_list (pa_cons (pv 0) pa_nil) (by decide) (by decide) (by rfl) (by rfl))) (pss_cons (@ps_while _ _ _ _ _ _ PassesOwn.never (@pt_truth _ _ _ (pv 2) (fun _=>rfl)) (pss_cons (ps_set (i:=3) scMany.nd rfl (Or.inl rfl) (@pe_bm0 _ _ _ _ _ _ _ _ _ PySem.F.plainAttrs_list PySem.F.slot_list_pop PySem.F.type_list_pop mt_pop (pv 2) (by rfl) (by rfl))) (pss_cons (ps_mid (ps_if (@pt_cmpR _ _ _ _ _ _ _ _ op_notIn_seq (@pe_ix _ _ _ _ _ _ _ ix_tup (pv 3) pe_int (fun _ _=>rfl)) (pe_tup (pa_cons pe_str (pa_cons pe_str pa_nil))) rfl) (pss_one (@ps_aug _ _ (1) _ _ _ _ _ _ scMany.nd rfl (Or.inl rfl) pe_int ip_add (by first | exact .inl rfl | exact .inr rfl))) pss_nil)) (pss_one (ps_expr (@pe_bm _ _ _ _ _ _ _ _ _ _ _ _ PySem.F.plainAttrs_list PySem.F.slot_list_extend PySem.F.type_list_extend mt_extendT (pv 2) (pa_cons (pe_call GB (hr.mono (by decide)) rfl mB kB bB .nil pass0 (pa_cons (pv 3) pa_nil)) pa_nil) (by rfl) (by rfl) (by rfl) (by rfl) (by rfl))))))) (pss_one (ps_ret (pv 1)))))),?_⟩
 try dsimp only [cxOf,Cx.nox,Cx.wish]
 have big:=line24
 refine seqF fun F1 f1=>f1 _ _ ?_
 clear f1
 refine seqF fun F1 f1=>⟨_,rfl,a,_,rfl,.inr (SqT.of ha),fun td ntd=>f1 _ _ ?_⟩
 clear f1
 have s0 : Same H (upd H td (.lst xs)):=same_upd ntd
 refine seqF fun F1 f1=>?_
 refine whileE (MI a td b H) b.size ⟨_,b,xs,0,rfl,rfl,upd_same,hb.mono (Same.tm s0),om235,hz,fun c o nc e=>s0 _ _ e⟩ ?_
 intro m σ H1 E _ fE F kT kF Gq kq h
 obtain ⟨o3,W,zs,k,rfl,rfl,h1,h2,h3,h4,h5⟩:=h
 refine kq ⟨_,rfl,!zs.isEmpty,.inl ⟨zs,SqL.of h1,rfl⟩,?_⟩
 rcases h2.last with ⟨e1,e2⟩ | ⟨ws,v,b1,s1,e1,e2,g1,g2⟩
 ·rw [e1]
  refine kF _ (f1 _ _ ⟨_,rfl,?_⟩)
  rw [e2] at h3
  have e3 : k = b.cuts:=by have : k + 0 = b.cuts:=h3; exact om236 this
  rw [e3]
  exact q _ fun c o e=>h5 c o (ne_of_none e ntd) e
 ·rw [e1]
  have ne : (!(ws ++ [v]).isEmpty) = true:=by cases ws <;> rfl
  rw [ne]
  refine kT _ ?_
  clear kF kT f1
  have hsz : W.size = b1.size + s1.size:=by rw [e2,size_app]
  have hct : W.cuts = b1.cuts + s1.cuts:=by rw [e2,cuts_app]
  obtain ⟨hin,p,w',r,rfl,hp,hc⟩:=st_cuts g2
  rw [e1] at h1
  refine seqF fun F1 f1=>⟨_,rfl,.inl ⟨rfl,_,SqL.of h1⟩,td,_,.ref p,rfl,rfl,h1,by simp,f1 _ _ ?_⟩
  clear f1
  rw [List.dropLast_concat]
  have tm2 : TMono H1 (upd H1 td (.lst ws)):=fun c ys e=>by rw [upd_ne (ne_of e h1 (by intro z; cases z))]; exact e
  have t2 : upd H1 td (.lst ws) td = some (.lst ws):=upd_same
  have g1':=g1.mono tm2
  have g2':=g2.mono tm2
  have hp':=tm2 _ _ hp
  have k2 : But td H (upd H1 td (.lst ws)):=fun c o nc e=>by rw [upd_ne nc]; exact h5 c o nc e
  generalize upd H1 td (.lst ws) = H2 at t2 g1' g2' hp' k2
  clear tm2 h1 h2 h5 g1 g2 hp
  have rest : ∀ (k' : Nat) (H3 : Hp),Same H2 H3 → k' + b1.cuts + s1.inn.cuts = b.cuts → tDrop (tBM K "list" (rExtendT K) (tVar 2) (tCons (tCall spBin [] E0 (tCons (tVar 3) tNil)) tNil)) E [some (.ref a),some (.int (k' : Int)),some (.ref td),some (.ref p)] H3:=fun k' H3 s3 hk=>by
   have g23:=g2'.mono (Same.tm s3)
   refine ⟨_,rfl,.inl ⟨rfl,_,SqL.of (s3 _ _ t2)⟩,_,rfl,.ref p,s1,rfl,g23,om237 h4 hsz,fun r' ys H4 hr' hy s4=>?_⟩
   have s24:=s3.trans s4
   have l1:=g1'.len
   have l2:=hy.len
   refine ⟨td,r',ws,ys,rfl,rfl,s24 _ _ t2,SqT.of hr',om238 big h4 hsz hin l1 l2,fE (b1.app s1.inn).size _ _ (by rw [size_app]; exact om239 hsz hin) ⟨_,b1.app s1.inn,ws ++ ys,k',rfl,rfl,upd_same,?_,by rw [cuts_app]; exact om240 hk,by rw [size_app]; exact om241 h4 hsz hin,fun c o nc e=>?_⟩⟩
   ·have tm4 : TMono H4 (upd H4 td (.lst (ws ++ ys))):=fun c zs' e=>by rw [upd_ne (ne_of e (s24 _ _ t2) (by intro z; cases z))]; exact e
    exact (hy.mono tm4).app ((g1'.mono (Same.tm s24)).mono tm4)
   ·rw [upd_ne nc]
    exact s24 _ _ (k2 c o nc e)
  refine seqF fun F1 f1=>midE (fun σ' H'=>∃ k' : Nat,σ' = [some (.ref a),some (.int (k' : Int)),some (.ref td),some (.ref p)] ∧ Same H2 H' ∧ k' + b1.cuts + s1.inn.cuts = b.cuts) (fun E2 _ fm=>?_) fun σ' H' h=>?_
  ·clear f1 fE
   refine ifE fun G kT kF=>⟨_,rfl,p,_,_,_,rfl,rfl,SqT.of hp',at0,(by exact sz2),fun l nl=>⟨l,_,rfl,.inr (SqT.of upd_same),rfl,rfl,_,rfl,?_⟩⟩
   cases hv : inV (.str w') [.str "set",.str "give"] with
   | true =>
    rw [hv,if_pos rfl] at hc
    exact kF _ (fm _ _ ⟨k,rfl,same_upd nl,om242 h3 hct hc⟩)
   | false =>
    rw [hv,if_neg Bool.false_ne_true] at hc
    refine kT _ ⟨_,rfl,_,_,rfl,rfl,fm _ _ ⟨k + 1,?_,same_upd nl,om243 h3 hct hc⟩⟩
    show [_,some (V.int ((k : Int) + 1)),_,_] = [_,some (V.int ((k + 1 : Nat) : Int)),_,_]
    rfl
  ·obtain ⟨k',rfl,s3,hk⟩:=h
   exact f1 _ _ (rest k' H' s3 hk)
end
end K17
namespace K17
open PySem PySem.Spec PyProof.Rows L2
inductive Gol where
 | go (n : Int) | give (t : Addr)
structure Wy where
 sets : List (Str × Addr)
 goal : Gol
inductive Dd where
 | st (p : Addr) | ask (t : Addr)
structure Ct where
 M : Str → Prop
 d : Dd
 ws : List Wy
structure Pc where
 M : Str → Prop
 w : Wy
noncomputable def TrH (H : Hp) : Tr → V → List V → Prop
 | .lf v,x,_=>x = v ∧ okV v = true
 | .tp l,x,_=>l.isL = true ∧ ∃ a xs,x = .ref a ∧ H a = some (.tup xs) ∧ TrH H l .non xs
 | .nil,_,xs=>xs = []
 | .cons h t,_,xs=>h.isL = false ∧ t.isL = true ∧ ∃ y ys,xs = y :: ys ∧ TrH H h y [] ∧ TrH H t .non ys
theorem TrH.at {K : PySem.W.Frag} {H : Hp} : ∀ {t : Tr} {x : V} {xs : List V},TrH H t x xs → TrAt K H t x xs:=by
 intro t
 induction t with
 | lf v=>exact fun h=>h
 | tp l ih=>rintro x xs ⟨h,a,ys,e,h1,h2⟩; exact ⟨h,a,ys,e,SqT.of h1,ih h2⟩
 | nil=>exact fun h=>h
 | cons h t ih1 ih2=>rintro x xs ⟨e1,e2,y,ys,e,h1,h2⟩; exact ⟨e1,e2,y,ys,e,ih1 h1,ih2 h2⟩
theorem TrH.mono {H H' : Hp} (k : TMono H H') : ∀ {t : Tr} {x : V} {xs : List V},TrH H t x xs → TrH H' t x xs:=by
 intro t
 induction t with
 | lf v=>exact fun h=>h
 | tp l ih=>rintro x xs ⟨h,a,ys,e,h1,h2⟩; exact ⟨h,a,ys,e,k _ _ h1,ih h2⟩
 | nil=>exact fun h=>h
 | cons h t ih1 ih2=>rintro x xs ⟨e1,e2,y,ys,e,h1,h2⟩; exact ⟨e1,e2,y,ys,e,ih1 h1,ih2 h2⟩
noncomputable def listT : List Tr → Tr
 | []=>.nil
 | t :: ts=>.cons t (listT ts)
theorem listT_isL : ∀ ts : List Tr,(listT ts).isL = true
 | []=>rfl
 | _ :: _=>rfl
noncomputable def tupT (ts : List Tr) : Tr:=.tp (listT ts)
noncomputable def strT (x : Str) : Tr:=.lf (.str x)
noncomputable def refT (a : Addr) : Tr:=.lf (.ref a)
noncomputable def intT (n : Int) : Tr:=.lf (.int n)
section
variable {H : Hp}
theorem trs_nil : TrH H (listT []) .non []:=rfl
theorem trs_cons {t : Tr} {ts : List Tr} {y : V} {ys : List V} (h : t.isL = false) (h1 : TrH H t y []) (h2 : TrH H (listT ts) .non ys) : TrH H (listT (t :: ts)) .non (y :: ys):=⟨h,listT_isL ts,y,ys,rfl,h1,h2⟩
theorem tr_tup {ts : List Tr} {a : Addr} {xs : List V} (h : H a = some (.tup xs)) (h2 : TrH H (listT ts) .non xs) : TrH H (tupT ts) (.ref a) []:=⟨listT_isL ts,a,xs,rfl,h,h2⟩
theorem tr_str {x : Str} : TrH H (strT x) (.str x) []:=⟨rfl,rfl⟩
theorem tr_ref {a : Addr} : TrH H (refT a) (.ref a) []:=⟨rfl,rfl⟩
theorem tr_int {n : Int} : TrH H (intT n) (.int n) []:=⟨rfl,rfl⟩
theorem trs_app {ss : List Tr} {ys : List V} (h2 : TrH H (listT ss) .non ys) : ∀ {ts : List Tr} {xs : List V},TrH H (listT ts) .non xs → TrH H (listT (ts ++ ss)) .non (xs ++ ys)
 | [],xs,h=>by have e : xs = []:=h; rw [e]; exact h2
 | t :: ts,xs,h=>by obtain ⟨e1,_,y,zs,e,h1,h3⟩:=h; rw [e]; exact trs_cons e1 h1 (trs_app h2 h3)
theorem trs_len : ∀ {ts : List Tr} {xs : List V},TrH H (listT ts) .non xs → xs.length = ts.length
 | [],xs,h=>by have e : xs = []:=h; rw [e]; rfl
 | t :: ts,xs,h=>by obtain ⟨_,_,y,zs,e,_,h3⟩:=h; rw [e,List.length_cons,List.length_cons,trs_len h3]
theorem trs_strs : ∀ (ss : List Str),TrH H (listT (ss.map strT)) .non (ss.map V.str)
 | []=>rfl
 | s :: ss=>trs_cons rfl tr_str (trs_strs ss)
theorem trs_rev : ∀ {ts : List Tr} {xs : List V},TrH H (listT ts) .non xs → TrH H (listT ts.reverse) .non xs.reverse
 | [],xs,h=>by have e : xs = []:=h; rw [e]; rfl
 | t :: ts,xs,h=>by
  obtain ⟨e1,_,y,zs,e,h1,h3⟩:=h
  rw [e,List.reverse_cons,List.reverse_cons]
  exact trs_app (trs_cons e1 h1 trs_nil) (trs_rev h3)
theorem trs_at : ∀ {ts : List Tr} {xs : List V},TrH H (listT ts) .non xs → ∀ (i : Nat) (x : V),xs[i]? = some x → ∃ t,ts[i]? = some t ∧ TrH H t x []
 | [],xs,h,i,x,hx=>by have e : xs = []:=h; rw [e] at hx; simp at hx
 | t :: ts,xs,h,0,x,hx=>by obtain ⟨_,_,y,zs,e,h1,h3⟩:=h; rw [e] at hx; cases hx; exact ⟨t,rfl,h1⟩
 | t :: ts,xs,h,i + 1,x,hx=>by obtain ⟨_,_,y,zs,e,h1,h3⟩:=h; rw [e] at hx; simpa using trs_at h3 i x (by simpa using hx)
end
noncomputable def setT (s : Str × Addr) : Tr:=tupT [strT s.1,refT s.2]
noncomputable def golT : Gol → Tr
 | .go n=>tupT [strT "go",intT n]
 | .give t=>tupT [strT "give",refT t]
noncomputable def wayT (w : Wy) : Tr:=tupT [tupT (w.sets.map setT),golT w.goal]
noncomputable def ddT : Dd → Tr
 | .st p=>refT p
 | .ask t=>tupT [strT "ask",refT t]
noncomputable def ctT (c : Ct) : Tr:=tupT [tupT ((canon c.M).map strT),ddT c.d,tupT (c.ws.map wayT)]
theorem golT_l (g : Gol) : (golT g).isL = false:=by cases g <;> rfl
theorem ddT_l (d : Dd) : (ddT d).isL = false:=by cases d <;> rfl
noncomputable def PcG (H : Hp) (pc : Pc) (v : V) (g : Addr) (ys : List Str) : Prop:=∃ (r : Addr) (ss : List Str) (wv : V),v = .ref r ∧ H r = some (.tup [.ref g,wv]) ∧ NL H g ss pc.M ys ∧ TrH H (wayT pc.w) wv []
theorem PcG.same {H H' : Hp} {pc : Pc} {v : V} {g : Addr} {ys : List Str} (h : PcG H pc v g ys) (s : Same H H') : PcG H' pc v g ys:=by
 obtain ⟨r,ss,wv,e,h1,h2,h3⟩:=h
 exact ⟨r,ss,wv,e,s _ _ h1,h2.same s,h3.mono (Same.tm s)⟩
theorem PcG.but {H H' : Hp} {pc : Pc} {v : V} {g fa : Addr} {ys : List Str} {cs : List V} (h : PcG H pc v g ys) (k : But fa H H') (hf : H fa = some (.lst cs)) (ng : g ≠ fa) : PcG H' pc v g ys:=by
 obtain ⟨r,ss,wv,e,h1,h2,h3⟩:=h
 have tm : TMono H H':=fun b xs e=>k b _ (ne_of e hf (by intro z; cases z)) e
 exact ⟨r,ss,wv,e,tm _ _ h1,⟨k _ _ ng h2.at',h2.nm,h2.sub,h2.y20⟩,h3.mono tm⟩
noncomputable def Lf.isCut : Lf → Bool
 | .st _ _ _=>false
 | .gv _ _=>false
 | _=>true
noncomputable def Bd.deed : Bd → Dd
 | .lf p _ _=>.st p
 | .ite _ t _ _ _ _=>.ask t
 | .loop _ t _ _ _=>.ask t
 | .nil=>.st 0
noncomputable def spDeed : Sp:=fun vs H Q _=>∃ (v : V) (s : Bd),vs = [v] ∧ StV H v s ∧ ∀ (d : V) (H' : Hp),TrH H' (ddT s.deed) d [] → Same H H' → Q d H'
noncomputable def spPgive : Sp:=fun vs H Q _=>∃ (t : Addr) (T : Tm) (ys : List Str),vs = [.ref t] ∧ TmAt H T t ∧ TmOk ys T ∧ ys.length ≤ 20 ∧ ∀ (v : V) (g : Addr) (H' : Hp),PcG H' ⟨fun x=>x ∈ T.vars,⟨[],.give t⟩⟩ v g ys → H g = none → Same H H' → Q v H'
noncomputable def spNmC (K : PySem.W.Frag) : Sp:=fun vs H Q _=>∃ a : Addr,vs = [.ref a] ∧ SqT K H a [.str "num",.int 0] ∧ ∀ (r : Addr),H r = none → Q (.ref r) (upd H r (.lst []))
noncomputable def spPgC (K : PySem.W.Frag) : Sp:=fun vs H Q _=>∃ (t : Addr) (ys : List Str),vs = [.ref t] ∧ SqT K H t [.str "num",.int 0] ∧ ys.length ≤ 20 ∧ ∀ (v : V) (g : Addr) (H' : Hp),PcG H' ⟨fun x=>x ∈ (Tm.num 0).vars,⟨[],.give t⟩⟩ v g ys → H g = none → Same H H' → Q v H'
open Classical in
noncomputable def setW (x : Str) (t : Addr) (pc : Pc) : Wy:=if pc.M x then ⟨(x,t) :: pc.w.sets,pc.w.goal⟩ else pc.w
noncomputable def spPset : Sp:=fun vs H Q _=>∃ (v bv : V) (p t : Addr) (x : Str) (T : Tm) (pc : Pc) (g : Addr) (ys : List Str),vs = [v,bv] ∧ StV H v (.lf p (.st x t T) .nil) ∧ PcG H pc bv g ys ∧ x ∈ ys ∧ TmOk ys T ∧ pc.w.sets.length ≤ 10000000 ∧
 ∀ (v' : V) (g' : Addr) (H' : Hp),PcG H' ⟨(Lf.st x t T).use pc.M,setW x t pc⟩ v' g' ys → H g' = none → Same H H' → Q v' H'
section
variable {P : Program} {w : World} {K : PySem.W.Frag} {mg : Str → Option Value} {base : Heap}
theorem scDeed : FnScope ["statement"] ["statement"] (defScope sDeed):=⟨rfl,rfl,rfl,by decide +kernel,rfl,by decide +kernel,by decide +kernel⟩
theorem ok_deed {f : Addr} {fd : FuncData}  (F : Fun K "deed_of" "deed_of" sDeed f fd)  : FnOk P w K mg base CX0 1 f fd ["statement"] spDeed:=by
 refine F.ok scDeed (fun vs H Q E h=>?_) (fun cdv A outer s H vs Q E hr h=>?_)
 ·refine opq fun Gq kq=>?_
  obtain ⟨v,s,rfl,_⟩:=h
  refine kq ?_
  rfl
 refine opq fun Gq kq=>?_
 obtain ⟨v,st,rfl,hs,q⟩:=h
 refine kq ?_
 refine ⟨_,(pss_cons (ps_if (@pt_cmpR _ _ _ _ _ _ _ _ op_in_seq (@pe_ix _ _ _ _ _ _ _ ix_tup (pv 0) pe_int (fun _ _=>rfl)) (pe_tup (pa_cons pe_str (pa_cons pe_str pa_nil))) rfl) (pss_one (ps_ret (pe_tup (pa_cons pe_str (pa_cons (@pe_ix _ _ _ _ _ _ _ ix_tup (pv 0) pe_int (fun _ _=>rfl)) pa_nil))))) pss_nil) (pss_one (ps_ret (pv 0)))),?_⟩
 try dsimp only [cxOf,Cx.nox,Cx.wish]
 cases hs with
 | lf p l vs h1 h2 =>
  cases l with
  | rd x t T =>
   obtain ⟨rfl,_⟩:=h2
   refine ⟨_,rfl,p,_,_,_,rfl,rfl,SqT.of h1,rfl,(by exact sz2),fun l nl=>⟨l,_,rfl,.inr (SqT.of upd_same),rfl,rfl,_,rfl,ifX (by decide +kernel) ?_⟩⟩
   exact ⟨_,rfl,q _ _ tr_ref (same_upd nl)⟩
  | st x t T =>
   obtain ⟨rfl,_⟩:=h2
   refine ⟨_,rfl,p,_,_,_,rfl,rfl,SqT.of h1,rfl,(by exact sz2),fun l nl=>⟨l,_,rfl,.inr (SqT.of upd_same),rfl,rfl,_,rfl,ifX (by decide +kernel) ?_⟩⟩
   exact ⟨_,rfl,q _ _ tr_ref (same_upd nl)⟩
  | wr t u T U =>
   obtain ⟨rfl,_⟩:=h2
   refine ⟨_,rfl,p,_,_,_,rfl,rfl,SqT.of h1,rfl,(by exact sz2),fun l nl=>⟨l,_,rfl,.inr (SqT.of upd_same),rfl,rfl,_,rfl,ifX (by decide +kernel) ?_⟩⟩
   exact ⟨_,rfl,q _ _ tr_ref (same_upd nl)⟩
  | cl x f q2 ts =>
   obtain ⟨rfl,_⟩:=h2
   refine ⟨_,rfl,p,_,_,_,rfl,rfl,SqT.of h1,rfl,(by exact sz2),fun l nl=>⟨l,_,rfl,.inr (SqT.of upd_same),rfl,rfl,_,rfl,ifX (by decide +kernel) ?_⟩⟩
   exact ⟨_,rfl,q _ _ tr_ref (same_upd nl)⟩
  | gv t T =>
   obtain ⟨rfl,_⟩:=h2
   refine ⟨_,rfl,p,_,_,_,rfl,rfl,SqT.of h1,rfl,(by exact sz2),fun l nl=>⟨l,_,rfl,.inr (SqT.of upd_same),rfl,rfl,_,rfl,ifX (by decide +kernel) ?_⟩⟩
   exact ⟨_,rfl,q _ _ tr_ref (same_upd nl)⟩
 | ite p t T a b qa qb as bs h1 h0 h2 h3 h4 h5 =>
  refine ⟨_,rfl,p,_,_,_,rfl,rfl,SqT.of h1,rfl,(by exact sz2),fun l nl=>⟨l,_,rfl,.inr (SqT.of upd_same),rfl,rfl,_,rfl,ifY (by decide +kernel) ?_⟩⟩
  refine ⟨_,rfl,p,_,_,_,rfl,rfl,SqT.of (keepN h1 nl),rfl,(by exact sz2),fun r nr=>?_⟩
  exact q _ _ (tr_tup upd_same (trs_cons rfl tr_str (trs_cons rfl tr_ref trs_nil))) ((same_upd nl).trans (same_upd nr))
 | loop p t T a qa as h1 h0 h2 h3 =>
  refine ⟨_,rfl,p,_,_,_,rfl,rfl,SqT.of h1,rfl,(by exact sz2),fun l nl=>⟨l,_,rfl,.inr (SqT.of upd_same),rfl,rfl,_,rfl,ifY (by decide +kernel) ?_⟩⟩
  refine ⟨_,rfl,p,_,_,_,rfl,rfl,SqT.of (keepN h1 nl),rfl,(by exact sz2),fun r nr=>?_⟩
  exact q _ _ (tr_tup upd_same (trs_cons rfl tr_str (trs_cons rfl tr_ref trs_nil))) ((same_upd nl).trans (same_upd nr))
theorem ok_nmC {f fN : Addr} {fd fdN : FuncData} (F : Fun K "names_in" "names_in" sNamesIn f fd) {n : Nat} (G : FnOk P w K mg base CX0 (n + 1) f fd ["term"] (spNmIn n)) (bF : Binds K fd ["term"] []) (kF : PySem.W.keepIn K (.ref f) = true) (mF : mg "names_in" = some (.ref f)) (mse : mg "set" = none) (mso : mg "sorted" = none) : FnOk P w K mg base CX0 (n + 2) f fd ["term"] (spNmC K):=by
 refine F.ok scNmIn (fun vs H Q E h=>?_) (fun cdv A outer s H vs Q E hr h=>?_)
 ·obtain ⟨a,rfl,_⟩:=h
  rfl
 obtain ⟨a,rfl,ha,q⟩:=h
 refine ⟨_,(pss_cons (ps_if (@pt_cmpR _ _ _ _ _ _ _ _ op_eq (@pe_ix _ _ _ _ _ _ _ ix_tup (pv 0) pe_int (fun _ _=>rfl)) pe_str (@nomark _ _ (by decide) (by decide))) (pss_one (ps_ret (pe_lst pa_nil))) pss_nil) (pss_cons (ps_if (@pt_cmpR _ _ _ _ _ _ _ _ op_eq (@pe_ix _ _ _ _ _ _ _ ix_tup (pv 0) pe_int (fun _ _=>rfl)) pe_str (@nomark _ _ (by decide) (by decide))) (pss_one (ps_ret (pe_lst (pa_cons (@pe_ix _ _ _ _ _ _ _ ix_tup (pv 0) pe_int (fun _ _=>rfl)) pa_nil)))) pss_nil) (pss_one (ps_ret (@pe_callB _ _ _ _ _ _ _ _ _ (call_sortedS rfl) rfl mso PyProof.Rows.boot_sorted (pa_cons (@pe_callTy _ _ _ _ _ _ _ _ _ (call_setT rfl) rfl mse PyProof.Rows.boot_set (pa_cons (pe_op op_cat (pe_call G hr rfl mF kF bF .nil pass0 (pa_cons (@pe_ix _ _ _ _ _ _ _ ix_tup (pv 0) pe_int (fun _ _=>rfl)) pa_nil)) (pe_call G hr rfl mF kF bF .nil pass0 (pa_cons (@pe_ix _ _ _ _ _ _ _ ix_tup (pv 0) pe_int (fun _ _=>rfl)) pa_nil))) pa_nil) (by decide) (by decide) (by rfl) (by rfl)) pa_nil) (by decide) (by decide) (by rfl) (by rfl)))))),?_⟩
 try dsimp only [cxOf,Cx.nox,Cx.wish]
 refine ⟨_,rfl,a,_,_,_,rfl,rfl,ha,rfl,rfl,_,rfl,ifY (by decide +kernel) ?_⟩
 exact ⟨(by exact sz0),fun r nr=>q r nr⟩
theorem scPgive : FnScope ["term"] ["term"] (defScope sPgive):=⟨rfl,rfl,rfl,by decide +kernel,rfl,by decide +kernel,by decide +kernel⟩
theorem ok_pgive {f : Addr} {fd : FuncData} {fN : Addr} {fdN : FuncData} (F : Fun K "place_of_give" "place_of_give" sPgive f fd) (GN : FnOk P w K mg base CX0 6 fN fdN ["term"] (spNmIn 5)) (bN : Binds K fdN ["term"] []) (kN : PySem.W.keepIn K (.ref fN) = true) (mN : mg "names_in" = some (.ref fN)) : FnOk P w K mg base CX0 7 f fd ["term"] spPgive:=by
 refine F.ok scPgive (fun vs H Q E h=>?_) (fun cdv A outer s H vs Q E hr h=>?_)
 ·refine opq fun Gq kq=>?_
  obtain ⟨t,T,ys,rfl,_⟩:=h
  refine kq ?_
  rfl
 refine opq fun Gq kq=>?_
 obtain ⟨t,T,ys,rfl,hT,ok,hy,q⟩:=h
 refine kq ?_
 refine ⟨_,(pss_one (ps_ret (pe_tup (pa_cons (pe_call GN (hr.mono (by decide)) rfl mN kN bN .nil pass0 (pa_cons (pv 0) pa_nil)) (pa_cons (pe_tup (pa_cons (pe_tup pa_nil) (pa_cons (pe_tup (pa_cons pe_str (pa_cons (pv 0) pa_nil))) pa_nil))) pa_nil))))),?_⟩
 try dsimp only [cxOf,Cx.nox,Cx.wish]
 refine ⟨_,rfl,t,T,ys,rfl,hT,ok.2,ok.1,hy,fun g ss H1 n1 e1 d1 m1 o1 k1=>?_⟩
 have N1 : NL H1 g ss (fun x=>x ∈ T.vars) ys:=⟨e1,⟨d1,o1,m1⟩,vars_in ok.1,hy⟩
 refine ⟨(by exact sz0),fun e ne=>⟨_,rfl,(by exact sz2),fun u nu=>⟨(by exact sz2),fun x nx=>⟨(by exact sz2),fun r nr=>?_⟩⟩⟩⟩
 have s1 : Same H1 (upd (upd (upd (upd H1 e (.tup [])) u (.tup [.str "give",.ref t])) x (.tup [.ref e,.ref u])) r (.tup [.ref g,.ref x])):=(((same_upd ne).trans (same_upd nu)).trans (same_upd nx)).trans (same_upd nr)
 refine q _ g _ ⟨r,_,.ref x,rfl,upd_same,N1.same s1,?_⟩ n1 (k1.trans s1)
 exact tr_tup (keepN upd_same nr) (trs_cons rfl (tr_tup (keepN (keepN (keepN upd_same nu) nx) nr) trs_nil) (trs_cons rfl (tr_tup (keepN (keepN upd_same nx) nr) (trs_cons rfl tr_str (trs_cons rfl tr_ref trs_nil))) trs_nil))
theorem ok_pgC {f : Addr} {fd : FuncData} {fN : Addr} {fdN : FuncData} (F : Fun K "place_of_give" "place_of_give" sPgive f fd) (GN : FnOk P w K mg base CX0 6 fN fdN ["term"] (spNmC K)) (bN : Binds K fdN ["term"] []) (kN : PySem.W.keepIn K (.ref fN) = true) (mN : mg "names_in" = some (.ref fN)) : FnOk P w K mg base CX0 7 f fd ["term"] (spPgC K):=by
 refine F.ok scPgive (fun vs H Q E h=>?_) (fun cdv A outer s H vs Q E hr h=>?_)
 ·refine opq fun Gq kq=>?_
  obtain ⟨t,ys,rfl,_⟩:=h
  refine kq ?_
  rfl
 refine opq fun Gq kq=>?_
 obtain ⟨t,ys,rfl,hT,hy,q⟩:=h
 refine kq ?_
 refine ⟨_,(pss_one (ps_ret (pe_tup (pa_cons (pe_call GN (hr.mono (by decide)) rfl mN kN bN .nil pass0 (pa_cons (pv 0) pa_nil)) (pa_cons (pe_tup (pa_cons (pe_tup pa_nil) (pa_cons (pe_tup (pa_cons pe_str (pa_cons (pv 0) pa_nil))) pa_nil))) pa_nil))))),?_⟩
 try dsimp only [cxOf,Cx.nox,Cx.wish]
 refine ⟨_,rfl,t,rfl,hT,fun g n1=>?_⟩
 have k1 : Same H (upd H g (.lst [])):=same_upd n1
 have N1 : NL (upd H g (.lst [])) g [] (fun x=>x ∈ (Tm.num 0).vars) ys:=⟨upd_same,⟨List.nodup_nil,rfl,fun x=>Iff.rfl⟩,fun x h=>absurd h List.not_mem_nil,hy⟩
 generalize upd H g (.lst []) = H1 at k1 N1
 refine ⟨(by exact sz0),fun e ne=>⟨_,rfl,(by exact sz2),fun u nu=>⟨(by exact sz2),fun x nx=>⟨(by exact sz2),fun r nr=>?_⟩⟩⟩⟩
 have s1 : Same H1 (upd (upd (upd (upd H1 e (.tup [])) u (.tup [.str "give",.ref t])) x (.tup [.ref e,.ref u])) r (.tup [.ref g,.ref x])):=(((same_upd ne).trans (same_upd nu)).trans (same_upd nx)).trans (same_upd nr)
 refine q _ g _ ⟨r,_,.ref x,rfl,upd_same,N1.same s1,?_⟩ n1 (k1.trans s1)
 exact tr_tup (keepN upd_same nr) (trs_cons rfl (tr_tup (keepN (keepN (keepN upd_same nu) nx) nr) trs_nil) (trs_cons rfl (tr_tup (keepN (keepN upd_same nx) nr) (trs_cons rfl tr_str (trs_cons rfl tr_ref trs_nil))) trs_nil))
end
end K17
namespace K17
open PySem PySem.Spec PyProof.Rows L2
theorem inV_str {x : Str} {ys : List Str} : inV (.str x) (ys.map V.str) = decide (x ∈ ys):=by
 by_cases h : x ∈ ys
 ·rw [decide_eq_true h]
  unfold inV
  rw [List.any_eq_true]
  exact ⟨.str x,List.mem_map.mpr ⟨x,h,rfl⟩,by simp [eqV]⟩
 ·rw [decide_eq_false h]
  unfold inV
  rw [Bool.eq_false_iff]
  intro z
  rw [List.any_eq_true] at z
  obtain ⟨v,hv,e⟩:=z
  obtain ⟨y,hy,rfl⟩:=List.mem_map.mp hv
  have e' : x = y ∨ y = x:=by
   first
    | exact .inl (by simpa [eqV] using e)
    | exact .inr (by simpa [eqV] using e)
  rcases e' with rfl | rfl
  ·exact h hy
  ·exact h hy
theorem way_at {H : Hp} {w : Wy} {v : V} (h : TrH H (wayT w) v []) : ∃ (wa sa : Addr) (sx : List V) (y : V),v = .ref wa ∧ H wa = some (.tup [.ref sa,y]) ∧ H sa = some (.tup sx) ∧ TrH H (listT (w.sets.map setT)) .non sx ∧ TrH H (golT w.goal) y []:=by
 obtain ⟨_,wa,xs,rfl,h1,_,_,y1,ys1,e1,⟨_,sa,sx,e2,h2,h3⟩,_,_,y2,ys2,e3,h4,e4⟩:=h
 have e5 : ys2 = []:=e4
 rw [e5] at e3
 rw [e3] at e1
 rw [e1,e2] at h1
 exact ⟨wa,sa,sx,y2,rfl,h1,h2,h3,h4⟩
section
variable {P : Program} {w : World} {K : PySem.W.Frag} {mg : Str → Option Value} {base : Heap}
theorem scPset : FnScope ["statement", "behind", "way"] ["statement", "behind"] (defScope sPset):=⟨rfl,rfl,rfl,by decide +kernel,rfl,by decide +kernel,by decide +kernel⟩
theorem ok_pset {f : Addr} {fd : FuncData} {fU : Addr} {fdU : FuncData} (F : Fun K "place_of_set" "place_of_set" sPset f fd) (GU : FnOk P w K mg base CX0 10 fU fdU ["statement", "behind"] (spUof 0)) (bU : Binds K fdU ["statement", "behind"] []) (kU : PySem.W.keepIn K (.ref fU) = true) (mU : mg "used_ahead_of" = some (.ref fU)) : FnOk P w K mg base CX0 11 f fd ["statement", "behind"] spPset:=by
 refine F.ok scPset (fun vs H Q E h=>?_) (fun cdv A outer s H vs Q E hr h=>?_)
 ·refine opq fun Gq kq=>?_
  obtain ⟨v,bv,p,t,x,T,pc,g,ys,rfl,_⟩:=h
  refine kq ?_
  rfl
 refine opq fun Gq kq=>?_
 obtain ⟨v,bv,p,t,x,T,pc,g,ys,rfl,hs,hp,hx,ok,hl,q⟩:=h
 refine kq ?_
 refine ⟨_,(pss_cons (ps_set (i:=2) scPset.nd rfl (Or.inl rfl) (@pe_ix _ _ _ _ _ _ _ ix_tup (pv 1) pe_int (fun _ _=>rfl))) (pss_cons (ps_mid (ps_if (@pt_cmpR _ _ _ _ _ _ _ _ op_in_seq (@pe_ix _ _ _ _ _ _ _ ix_tup (pv 0) pe_int (fun _ _=>rfl)) (@pe_ix _ _ _ _ _ _ _ ix_tup (pv 1) pe_int (fun _ _=>rfl)) rfl) (pss_one (ps_set (i:=2) scPset.nd rfl (Or.inl rfl) (pe_tup (pa_cons (pe_op op_catH (pe_tup (pa_cons (@pe_slice _ _ _ _ _ _ _ _ _ _ sl_tupA (pv 0) (@po_some _ _ _ pe_int) (@po_none _)) pa_nil)) (@pe_ix _ _ _ _ _ _ _ ix_tup (pv 2) pe_int (fun _ _=>rfl))) (pa_cons (@pe_ix _ _ _ _ _ _ _ ix_tup (pv 2) pe_int (fun _ _=>rfl)) pa_nil))))) pss_nil)) (pss_one (ps_ret (pe_tup (pa_cons (pe_call GU (hr.mono (by decide)) rfl mU kU bU .nil pass0 (pa_cons (pv 0) (pa_cons (@pe_ix _ _ _ _ _ _ _ ix_tup (pv 1) pe_int (fun _ _=>rfl)) pa_nil))) (pa_cons (pv 2) pa_nil))))))),?_⟩
 try dsimp only [cxOf,Cx.nox,Cx.wish]
 have big:=line24
 obtain ⟨r,ss,wv,rfl,hr',hN,hW⟩:=hp
 have h0:=hs
 cases hs with
 | lf _ _ vs h1 h2 =>
  obtain ⟨rfl,hT⟩:=h2
  obtain ⟨wa,sa,sx,y,rfl,hwa,hsa,hsx,hy⟩:=way_at hW
  refine seqF fun F1 f1=>⟨_,rfl,r,_,_,_,rfl,rfl,SqT.of hr',rfl,f1 _ _ ?_⟩
  clear f1
  have sl:=trs_len hsx
  rw [List.length_map] at sl
  refine seqF fun F1 f1=>midE (fun σ' H'=>∃ wv' : V,σ' = [some (.ref p),some (.ref r),some wv'] ∧ TrH H' (wayT (setW x t pc)) wv' [] ∧ Same H H') (fun E2 _ fm=>?_) fun σ' H' h=>?_
  ·clear f1
   refine ifE fun G kT kF=>⟨_,rfl,p,_,_,_,rfl,rfl,SqT.of h1,rfl,_,rfl,r,_,_,_,rfl,rfl,SqT.of hr',rfl,g,_,rfl,.inl (SqL.of hN.at'),rfl,flat_strs _,_,rfl,?_⟩
   rw [inV_str]
   by_cases hx' : x ∈ ss
   ·rw [decide_eq_true hx']
    refine kT _ ⟨_,rfl,_,rfl,p,_,rfl,h1,fun s1 H1 hs1 k1=>⟨(by exact sz1),fun u nu=>?_⟩⟩
    have k2:=k1.trans (same_upd (o:=.tup [.ref s1]) nu)
    refine ⟨_,rfl,wa,_,_,_,rfl,rfl,SqT.of (k2 _ _ hwa),rfl,u,sa,_,_,rfl,rfl,upd_same,k2 _ _ hsa,by show 1 + sx.length ≤ _; exact om244 hl big sl,fun c H2 hc k3=>?_⟩
    have k4:=k2.trans k3
    refine ⟨_,rfl,wa,_,_,_,rfl,rfl,SqT.of (k4 _ _ hwa),rfl,(by exact sz2),fun nw nnw=>fm _ _ ⟨.ref nw,rfl,?_,k4.trans (same_upd nnw)⟩⟩
    have tm:=Same.tm (k4.trans (same_upd (o:=.tup [.ref c,y]) nnw))
    unfold setW
    rw [if_pos ((hN.nm.mem x).mp hx')]
    refine tr_tup upd_same (trs_cons rfl (tr_tup (keepN hc nnw) (trs_cons rfl ?_ (hsx.mono tm))) (trs_cons (golT_l _) (hy.mono tm) trs_nil))
    exact tr_tup (keepN (k3 _ _ (keepN hs1 nu)) nnw) (trs_cons rfl tr_str (trs_cons rfl tr_ref trs_nil))
   ·rw [decide_eq_false hx']
    refine kF _ (fm _ _ ⟨_,rfl,?_,Same.refl _⟩)
    unfold setW
    rw [if_neg fun w=>hx' ((hN.nm.mem x).mpr w)]
    exact hW
  ·obtain ⟨wv',rfl,hw',k⟩:=h
   refine f1 _ _ ?_
   clear f1
   refine ⟨_,rfl,_,rfl,r,_,_,_,rfl,rfl,SqT.of (k _ _ hr'),rfl,.ref p,g,.lf p (.st x t T) .nil,ss,pc.M,ys,rfl,h0.mono (Same.tm k),hN.same k,⟨⟨hx,ok⟩,trivial⟩,(by show 0 < 1; decide),(by show 0 + 1 ≤ 10000000; decide),fun g' zs H3 n3 N3 k3=>?_⟩
   refine ⟨_,rfl,(by exact sz2),fun r' nr'=>q _ g' _ ⟨r',zs,wv',rfl,upd_same,N3.same (same_upd nr'),hw'.mono (Same.tm (k3.trans (same_upd nr')))⟩ (k.free n3) ((k.trans k3).trans (same_upd nr'))⟩
end
end K17
namespace K17
open PySem PySem.Spec PyProof.Rows L2
noncomputable abbrev sBoM : Stmt:=inClass (top 15) 1
noncomputable abbrev sPlM : Stmt:=inClass (top 15) 2
noncomputable abbrev sCuM : Stmt:=inClass (top 15) 3
noncomputable abbrev sWaM : Stmt:=inClass (top 15) 4
noncomputable abbrev sIniM : Stmt:=inClass (top 15) 0
noncomputable def pL (m : Int) (p : Addr) (l : Lf) (q : Pc × List Ct) : Pc × List Ct:=match l with
 | .gv t T=>(⟨fun x=>x ∈ T.vars,⟨[],.give t⟩⟩,q.2)
 | .st x t T=>(⟨(Lf.st x t T).use q.1.M,setW x t q.1⟩,q.2)
 | .rd x t T=>(⟨(Lf.rd x t T).use q.1.M,⟨[],.go (m - (q.2.length : Int) - 1)⟩⟩,q.2 ++ [⟨(Lf.rd x t T).use q.1.M,.st p,[q.1.w]⟩])
 | .wr t u T U=>(⟨(Lf.wr t u T U).use q.1.M,⟨[],.go (m - (q.2.length : Int) - 1)⟩⟩,q.2 ++ [⟨(Lf.wr t u T U).use q.1.M,.st p,[q.1.w]⟩])
 | .cl x f a ts=>(⟨(Lf.cl x f a ts).use q.1.M,⟨[],.go (m - (q.2.length : Int) - 1)⟩⟩,q.2 ++ [⟨(Lf.cl x f a ts).use q.1.M,.st p,[q.1.w]⟩])
noncomputable def pB (m : Int) : Bd → Pc → List Ct → Pc × List Ct
 | .nil,pc,fs=>(pc,fs)
 | .lf p l r,pc,fs=>pL m p l (pB m r pc fs)
 | .ite p t T a b r,pc,fs =>
  let q:=pB m r pc fs
  let o:=pB m b q.1 q.2
  let s:=pB m a q.1 o.2
  (⟨(Bd.ite p t T a b .nil).use q.1.M,⟨[],.go (m - (q.2.length : Int) - ((Bd.ite p t T a b .nil).cuts : Int))⟩⟩,s.2 ++ [⟨(Bd.ite p t T a b .nil).use q.1.M,.ask t,[s.1.w,o.1.w]⟩])
 | .loop p t T a r,pc,fs =>
  let q:=pB m r pc fs
  let pl : Pc:=⟨(Bd.loop p t T a .nil).use q.1.M,⟨[],.go (m - (q.2.length : Int) - ((Bd.loop p t T a .nil).cuts : Int))⟩⟩
  let s:=pB m a pl q.2
  (pl,s.2 ++ [⟨(Bd.loop p t T a .nil).use q.1.M,.ask t,[s.1.w,q.1.w]⟩])
theorem pB_app (m : Int) : ∀ (a b : Bd) (pc : Pc) (fs : List Ct),pB m (a.app b) pc fs = pB m a (pB m b pc fs).1 (pB m b pc fs).2
 | .nil,_,_,_=>rfl
 | .lf p l r,b,pc,fs=>by show pL m p l (pB m (r.app b) pc fs) = pL m p l (pB m r _ _); rw [pB_app m r b pc fs]
 | .ite p t T x y r,b,pc,fs=>by
  have e:=pB_app m r b pc fs
  show pB m (.ite p t T x y (r.app b)) pc fs = _
  unfold pB
  rw [e]
 | .loop p t T x r,b,pc,fs=>by
  have e:=pB_app m r b pc fs
  show pB m (.loop p t T x (r.app b)) pc fs = _
  unfold pB
  rw [e]
theorem pB_len (m : Int) : ∀ (b : Bd) (pc : Pc) (fs : List Ct),(pB m b pc fs).2.length = fs.length + b.cuts
 | .nil,_,_=>rfl
 | .lf p l r,pc,fs=>by
  have e:=pB_len m r pc fs
  show (pL m p l (pB m r pc fs)).2.length = fs.length + (l.cut + r.cuts)
  cases l with
  | rd x t T=>show ((pB m r pc fs).2 ++ [_]).length = fs.length + (1 + r.cuts); rw [List.length_append,e]; show _ + 1 = _; exact om30
  | st x t T=>show (pB m r pc fs).2.length = fs.length + (0 + r.cuts); exact om72 e
  | wr t u T U=>show ((pB m r pc fs).2 ++ [_]).length = fs.length + (1 + r.cuts); rw [List.length_append,e]; show _ + 1 = _; exact om30
  | cl x f a ts=>show ((pB m r pc fs).2 ++ [_]).length = fs.length + (1 + r.cuts); rw [List.length_append,e]; show _ + 1 = _; exact om30
  | gv t T=>show (pB m r pc fs).2.length = fs.length + (0 + r.cuts); exact om72 e
 | .ite p t T x y r,pc,fs=>by
  have e:=pB_len m r pc fs
  show ((pB m x _ (pB m y _ _).2).2 ++ [_]).length = _
  rw [List.length_append,pB_len m x,pB_len m y,e]
  show _ + 1 = fs.length + (1 + x.cuts + y.cuts + r.cuts)
  exact om245
 | .loop p t T x r,pc,fs=>by
  have e:=pB_len m r pc fs
  show ((pB m x _ _).2 ++ [_]).length = _
  rw [List.length_append,pB_len m x,e]
  show _ + 1 = fs.length + (1 + x.cuts + r.cuts)
  exact om246
theorem setW_len (x : Str) (t : Addr) (pc : Pc) : (setW x t pc).sets.length ≤ pc.w.sets.length + 1:=by
 unfold setW
 split
 ·exact Nat.le_refl _
 ·exact Nat.le_succ _
theorem pB_sets (m : Int) : ∀ (b : Bd) (pc : Pc) (fs : List Ct),(pB m b pc fs).1.w.sets.length ≤ pc.w.sets.length + b.size
 | .nil,_,_=>Nat.le_refl _
 | .lf p l r,pc,fs=>by
  have e:=pB_sets m r pc fs
  show (pL m p l (pB m r pc fs)).1.w.sets.length ≤ pc.w.sets.length + (r.size + 1)
  cases l with
  | st x t T=>have:=setW_len x t (pB m r pc fs).1; show (setW x t (pB m r pc fs).1).sets.length ≤ _; exact om247 e this
  | _=>exact Nat.zero_le _
 | .ite p t T x y r,pc,fs=>Nat.zero_le _
 | .loop p t T x r,pc,fs=>Nat.zero_le _
theorem cuts_le : ∀ b : Bd,b.cuts ≤ b.size
 | .nil=>Nat.le_refl _
 | .lf _ l r=>by
  have:=cuts_le r
  have h : l.cut ≤ 1:=by cases l <;> first | exact Nat.le_refl _ | exact Nat.zero_le _
  show l.cut + r.cuts ≤ r.size + 1
  exact om248 this h
 | .ite _ _ _ a b r=>by have:=cuts_le a; have:=cuts_le b; have:=cuts_le r; show 1 + a.cuts + b.cuts + r.cuts ≤ a.size + b.size + r.size + 1; omega
 | .loop _ _ _ a r=>by have:=cuts_le a; have:=cuts_le r; show 1 + a.cuts + r.cuts ≤ a.size + r.size + 1; omega
structure CK (K : PySem.W.Frag) (C : Addr) : Prop where
 cl : Cls K C
 nm : NoAttr K C "many"
 nf : NoAttr K C "found"
structure Cg (H : Hp) (C ia dx fa : Addr) (m : Int) (cts : List Ct) (cs : List V) : Prop where
 ins : H ia = some (.ins C dx [("many",.int m),("found",.ref fa)])
 fd : H fa = some (.lst cs)
 tr : TrH H (listT (cts.map ctT)) .non cs
theorem Cg.same {H H' : Hp} {C ia dx fa : Addr} {m : Int} {cts : List Ct} {cs : List V} (h : Cg H C ia dx fa m cts cs) (s : Same H H') : Cg H' C ia dx fa m cts cs:=⟨s _ _ h.ins,s _ _ h.fd,h.tr.mono (Same.tm s)⟩
theorem Cg.len {H : Hp} {C ia dx fa : Addr} {m : Int} {cts : List Ct} {cs : List V} (h : Cg H C ia dx fa m cts cs) : cs.length = cts.length:=by rw [trs_len h.tr,List.length_map]
theorem Cg.tm {H H' : Hp} {C ia dx fa : Addr} {m : Int} {cts : List Ct} {cs : List V} (h : Cg H C ia dx fa m cts cs) (k : But fa H H') : TMono H H':=fun b xs e=>k b _ (ne_of e h.fd (by intro z; cases z)) e
structure In17 (H : Hp) (C ia dx fa : Addr) (m : Int) (cts : List Ct) (cs : List V) (pc : Pc) (bv : V) (g : Addr) (ys : List Str) (b : Bd) : Prop where
 c : Cg H C ia dx fa m cts cs
 p : PcG H pc bv g ys
 ng : g ≠ fa
 ok : b.Ok ys
 sz : cts.length + pc.w.sets.length + b.size ≤ 10000000
noncomputable def Out17 (H : Hp) (C ia dx fa : Addr) (m : Int) (ys : List Str) (q : Pc × List Ct) (Q : VK) : Prop:=∀ (v' : V) (g' : Addr) (cs' : List V) (H' : Hp),PcG H' q.1 v' g' ys → g' ≠ fa → Cg H' C ia dx fa m q.2 cs' → But fa H H' → Q v' H'
noncomputable def spPB (C : Addr) (n : Nat) : Sp:=fun vs H Q _=>∃ (ia dx fa a g : Addr) (m : Int) (cts : List Ct) (cs xs : List V) (pc : Pc) (bv : V) (ys : List Str) (b : Bd),vs = [.ref ia,.ref a,bv] ∧ In17 H C ia dx fa m cts cs pc bv g ys b ∧ H a = some (.tup xs) ∧ BdV H b xs ∧ b.dep < n ∧ Out17 H C ia dx fa m ys (pB m b pc cts) Q
noncomputable def spPO (C : Addr) (n : Nat) : Sp:=fun vs H Q _=>∃ (ia dx fa g : Addr) (m : Int) (cts : List Ct) (cs : List V) (pc : Pc) (v bv : V) (ys : List Str) (s : Bd),vs = [.ref ia,v,bv] ∧ In17 H C ia dx fa m cts cs pc bv g ys s ∧ StV H v s ∧ s.dep < n + 1 ∧ Out17 H C ia dx fa m ys (pB m s pc cts) Q
noncomputable def Bd.isCut : Bd → Bool
 | .lf _ l _=>l.isCut
 | .nil=>false
 | _=>true
noncomputable def spPC (C : Addr) (n : Nat) : Sp:=fun vs H Q _=>∃ (ia dx fa g : Addr) (m : Int) (cts : List Ct) (cs : List V) (pc : Pc) (v bv : V) (ys : List Str) (s : Bd),vs = [.ref ia,v,bv] ∧ In17 H C ia dx fa m cts cs pc bv g ys s ∧ StV H v s ∧ s.dep < n + 1 ∧ s.isCut = true ∧ Out17 H C ia dx fa m ys (pB m s pc cts) Q
noncomputable def waysOf (m : Int) (pl : Pc) (pc : Pc) (fs : List Ct) : Bd → List Wy × List Ct
 | .ite _ _ _ a b _=>([(pB m a pc (pB m b pc fs).2).1.w,(pB m b pc fs).1.w],(pB m a pc (pB m b pc fs).2).2)
 | .loop _ _ _ a _=>([(pB m a pl fs).1.w,pc.w],(pB m a pl fs).2)
 | _=>([pc.w],fs)
noncomputable def spWO (C : Addr) (n : Nat) : Sp:=fun vs H Q _=>∃ (ia dx fa g g2 : Addr) (m : Int) (cts : List Ct) (cs : List V) (pc pl : Pc) (v bv pv : V) (ys : List Str) (s : Bd),vs = [.ref ia,v,pv,bv] ∧ In17 H C ia dx fa m cts cs pc bv g ys s ∧ PcG H pl pv g2 ys ∧ g2 ≠ fa ∧ pl.w.sets = [] ∧ StV H v s ∧ s.dep < n + 1 ∧
 ∀ (wv : V) (cs' : List V) (H' : Hp),TrH H' (tupT ((waysOf m pl pc cts s).1.map wayT)) wv [] → Cg H' C ia dx fa m (waysOf m pl pc cts s).2 cs' → But fa H H' → Q wv H'
theorem pB_cut {H : Hp} {v : V} {s : Bd} (h : StV H v s) (hc : s.isCut = true) (m : Int) (pc : Pc) (fs : List Ct) :
  pB m s pc fs = (⟨s.use pc.M,⟨[],.go (m - (fs.length : Int) - (s.cuts : Int))⟩⟩,(waysOf m ⟨s.use pc.M,⟨[],.go (m - (fs.length : Int) - (s.cuts : Int))⟩⟩ pc fs s).2 ++ [⟨s.use pc.M,s.deed,(waysOf m ⟨s.use pc.M,⟨[],.go (m - (fs.length : Int) - (s.cuts : Int))⟩⟩ pc fs s).1⟩]):=by
 cases h with
 | lf p l vs h1 h2 =>
  cases l with
  | rd x t T=>rfl
  | st x t T=>cases hc
  | wr t u T U=>rfl
  | cl x f a ts=>rfl
  | gv t T=>cases hc
 | ite p t T a b qa qb as bs h1 h0 h2 h3 h4 h5=>rfl
 | loop p t T a qa as h1 h0 h2 h3=>rfl
end K17
namespace K17
open PySem PySem.Spec PyProof.Rows L2
theorem way1 {H : Hp} {pc : Pc} {v : V} {g : Addr} {ys : List Str} (h : PcG H pc v g ys) : ∃ (r : Addr) (wv : V),v = .ref r ∧ H r = some (.tup [.ref g,wv]) ∧ TrH H (wayT pc.w) wv []:=by
 obtain ⟨r,ss,wv,e,h1,h2,h3⟩:=h
 exact ⟨r,wv,e,h1,h3⟩
section
variable {P : Program} {w : World} {K : PySem.W.Frag} {mg : Str → Option Value} {base : Heap}
theorem scWa : FnScope ["self", "statement", "place", "behind", "other"] ["self", "statement", "place", "behind"] (defScope sWaM):=⟨rfl,rfl,rfl,by decide +kernel,rfl,by decide +kernel,by decide +kernel⟩
theorem ok_wa {f : Addr} {fd : FuncData} {C fB : Addr} {fdB : FuncData} {n : Nat} (F : Fun K "ways_of" "Cutting.ways_of" sWaM f fd) (ck : CK K C) (GB : FnOk P w K mg base CX0 (4 * n + 31) fB fdB ["self", "body", "behind"] (spPB C n)) (bB : Binds K fdB ["self", "body", "behind"] []) (hB : Meth K C "place_of_body" fB) : FnOk P w K mg base CX0 (4 * n + 32) f fd ["self", "statement", "place", "behind"] (spWO C n):=by
 refine F.ok scWa (fun vs H Q E h=>?_) (fun cdv A outer s H vs Q E hr h=>?_)
 ·refine opq fun Gq kq=>?_
  obtain ⟨ia,dx,fa,g,g2,m,cts,cs,pc,pl,v,bv,pv,ys,s,rfl,_⟩:=h
  refine kq ?_
  rfl
 refine opq fun Gq kq=>?_
 obtain ⟨ia,dx,fa,g,g2,m,cts,cs,pc,pl,v,bv,plv,ys,st,rfl,I,hpl,ng2,hps,hs,hd,q⟩:=h
 refine kq ?_
 refine ⟨_,(pss_cons (ps_if (@pt_cmpR _ _ _ _ _ _ _ _ op_eq (@pe_ix _ _ _ _ _ _ _ ix_tup (pv 1) pe_int (fun _ _=>rfl)) pe_str (@nomark _ _ (by decide) (by decide))) (pss_cons (ps_set (i:=4) scWa.nd rfl (Or.inl rfl) (@pe_meth _ _ _ _ _ _ _ _ _ _ _ _ _ _ _ _ _ _ _ _ (pv 0) ck.cl hB GB (hr.mono om31) bB .nil pass0 (pa_cons (@pe_ix _ _ _ _ _ _ _ ix_tup (pv 1) pe_int (fun _ _=>rfl)) (pa_cons (pv 3) pa_nil)) (by rfl) (by rfl) (by rfl))) (pss_one (ps_ret (pe_tup (pa_cons (@pe_ix _ _ _ _ _ _ _ ix_tup (@pe_meth _ _ _ _ _ _ _ _ _ _ _ _ _ _ _ _ _ _ _ _ (pv 0) ck.cl hB GB (hr.mono om31) bB .nil pass0 (pa_cons (@pe_ix _ _ _ _ _ _ _ ix_tup (pv 1) pe_int (fun _ _=>rfl)) (pa_cons (pv 3) pa_nil)) (by rfl) (by rfl) (by rfl)) pe_int (fun _ _=>rfl)) (pa_cons (@pe_ix _ _ _ _ _ _ _ ix_tup (pv 4) pe_int (fun _ _=>rfl)) pa_nil)))))) pss_nil) (pss_cons (ps_if (@pt_cmpR _ _ _ _ _ _ _ _ op_eq (@pe_ix _ _ _ _ _ _ _ ix_tup (pv 1) pe_int (fun _ _=>rfl)) pe_str (@nomark _ _ (by decide) (by decide))) (pss_one (ps_ret (pe_tup (pa_cons (@pe_ix _ _ _ _ _ _ _ ix_tup (@pe_meth _ _ _ _ _ _ _ _ _ _ _ _ _ _ _ _ _ _ _ _ (pv 0) ck.cl hB GB (hr.mono om31) bB .nil pass0 (pa_cons (@pe_ix _ _ _ _ _ _ _ ix_tup (pv 1) pe_int (fun _ _=>rfl)) (pa_cons (pv 2) pa_nil)) (by rfl) (by rfl) (by rfl)) pe_int (fun _ _=>rfl)) (pa_cons (@pe_ix _ _ _ _ _ _ _ ix_tup (pv 3) pe_int (fun _ _=>rfl)) pa_nil))))) pss_nil) (pss_one (ps_ret (pe_tup (pa_cons (@pe_ix _ _ _ _ _ _ _ ix_tup (pv 3) pe_int (fun _ _=>rfl)) pa_nil)))))),?_⟩
 try dsimp only [cxOf,Cx.nox,Cx.wish]
 have big:=line24
 obtain ⟨br,bw,rfl,hbr,hbw⟩:=way1 I.p
 cases hs with
 | lf p l vs h1 h2 =>
  have fin : tRet (tTup (tCons (tOp (rIxT K) (tVar 3) (tC (V.int 1))) tNil)) { nx:=fun x H'=>Q V.non H',rt:=Q } [some (.ref ia),some (.ref p),some plv,some (.ref br),none] H:=by
   refine ⟨_,rfl,br,_,_,_,rfl,rfl,SqT.of hbr,rfl,(by exact sz1),fun r nr=>q (.ref r) cs _ (tr_tup upd_same (trs_cons rfl (hbw.mono (Same.tm (same_upd nr))) trs_nil)) (I.c.same (same_upd nr)) (But.of_same (same_upd nr))⟩
  cases l with
  | rd x t T =>
   obtain ⟨rfl,_⟩:=h2
   refine ⟨_,rfl,p,_,_,_,rfl,rfl,SqT.of h1,rfl,rfl,_,rfl,ifX (by decide +kernel) ?_⟩
   refine ⟨_,rfl,p,_,_,_,rfl,rfl,SqT.of h1,rfl,rfl,_,rfl,ifX (by decide +kernel) ?_⟩
   exact fin
  | st x t T =>
   obtain ⟨rfl,_⟩:=h2
   refine ⟨_,rfl,p,_,_,_,rfl,rfl,SqT.of h1,rfl,rfl,_,rfl,ifX (by decide +kernel) ?_⟩
   refine ⟨_,rfl,p,_,_,_,rfl,rfl,SqT.of h1,rfl,rfl,_,rfl,ifX (by decide +kernel) ?_⟩
   exact fin
  | wr t u T U =>
   obtain ⟨rfl,_⟩:=h2
   refine ⟨_,rfl,p,_,_,_,rfl,rfl,SqT.of h1,rfl,rfl,_,rfl,ifX (by decide +kernel) ?_⟩
   refine ⟨_,rfl,p,_,_,_,rfl,rfl,SqT.of h1,rfl,rfl,_,rfl,ifX (by decide +kernel) ?_⟩
   exact fin
  | cl x f q2 ts =>
   obtain ⟨rfl,_⟩:=h2
   refine ⟨_,rfl,p,_,_,_,rfl,rfl,SqT.of h1,rfl,rfl,_,rfl,ifX (by decide +kernel) ?_⟩
   refine ⟨_,rfl,p,_,_,_,rfl,rfl,SqT.of h1,rfl,rfl,_,rfl,ifX (by decide +kernel) ?_⟩
   exact fin
  | gv t T =>
   obtain ⟨rfl,_⟩:=h2
   refine ⟨_,rfl,p,_,_,_,rfl,rfl,SqT.of h1,rfl,rfl,_,rfl,ifX (by decide +kernel) ?_⟩
   refine ⟨_,rfl,p,_,_,_,rfl,rfl,SqT.of h1,rfl,rfl,_,rfl,ifX (by decide +kernel) ?_⟩
   exact fin
 | ite p t T a b qa qb as bs h1 h0 h2 h3 h4 h5 =>
  refine ⟨_,rfl,p,_,_,_,rfl,rfl,SqT.of h1,rfl,rfl,_,rfl,ifY (by decide +kernel) ?_⟩
  have hd' : max (max a.dep b.dep + 1) 0 < n + 1:=hd
  have hz : cts.length + pc.w.sets.length + (a.size + b.size + 0 + 1) ≤ 10000000:=I.sz
  have ok:=I.ok
  refine seqF fun F1 f1=>⟨_,rfl,ia,dx,_,rfl,I.c.ins,rfl,_,rfl,p,_,_,_,rfl,rfl,SqT.of h1,rfl,_,rfl,ia,dx,fa,qb,g,m,cts,cs,bs,pc,.ref br,ys,b,rfl,⟨I.c,I.p,I.ng,ok.2.2.1,om249 hz⟩,h3,h5,om66 hd',fun v1 g1 cs1 H1 p1 n1 c1 k1=>f1 _ _ ?_⟩
  clear f1
  have tm:=I.c.tm k1
  have lc:=pB_len m b pc cts
  have cb:=cuts_le b
  refine ⟨_,rfl,ia,dx,_,rfl,c1.ins,rfl,_,rfl,p,_,_,_,rfl,rfl,SqT.of (tm _ _ h1),rfl,_,rfl,ia,dx,fa,qa,g,m,_,cs1,as,pc,.ref br,ys,a,rfl,⟨c1,I.p.but k1 I.c.fd I.ng,I.ng,ok.2.1,om250 hz lc cb⟩,tm _ _ h2,h4.mono tm,om65 hd',fun v2 g2 cs2 H2 p2 n2 c2 k2=>?_⟩
  obtain ⟨r2,w2,rfl,hr2,hw2⟩:=way1 p2
  obtain ⟨r1,w1,rfl,hr1,hw1⟩:=way1 (p1.but k2 c1.fd n1)
  refine ⟨r2,_,_,_,rfl,rfl,SqT.of hr2,rfl,_,rfl,r1,_,_,_,rfl,rfl,SqT.of hr1,rfl,(by exact sz2),fun r nr=>q (.ref r) cs2 _ (tr_tup upd_same (trs_cons rfl (hw2.mono (Same.tm (same_upd nr))) (trs_cons rfl (hw1.mono (Same.tm (same_upd nr))) trs_nil))) (c2.same (same_upd nr)) ((k1.trans k2).trans (But.of_same (same_upd nr)))⟩
 | loop p t T a qa as h1 h0 h2 h3 =>
  refine ⟨_,rfl,p,_,_,_,rfl,rfl,SqT.of h1,rfl,rfl,_,rfl,ifX (by decide +kernel) ?_⟩
  refine ⟨_,rfl,p,_,_,_,rfl,rfl,SqT.of h1,rfl,rfl,_,rfl,ifY (by decide +kernel) ?_⟩
  have hd' : max (a.dep + 1) 0 < n + 1:=hd
  have hz : cts.length + pc.w.sets.length + (a.size + 0 + 1) ≤ 10000000:=I.sz
  have ok:=I.ok
  refine ⟨_,rfl,ia,dx,_,rfl,I.c.ins,rfl,_,rfl,p,_,_,_,rfl,rfl,SqT.of h1,rfl,_,rfl,ia,dx,fa,qa,g2,m,cts,cs,as,pl,plv,ys,a,rfl,⟨I.c,hpl,ng2,ok.2.1,by rw [hps]; show cts.length + 0 + a.size ≤ _; exact om251 hz⟩,h2,h3,om67 hd',fun v1 g1 cs1 H1 p1 n1 c1 k1=>?_⟩
  obtain ⟨r1,w1,rfl,hr1,hw1⟩:=way1 p1
  have tm:=I.c.tm k1
  refine ⟨r1,_,_,_,rfl,rfl,SqT.of hr1,rfl,_,rfl,br,_,_,_,rfl,rfl,SqT.of (tm _ _ hbr),rfl,(by exact sz2),fun r nr=>q (.ref r) cs1 _ (tr_tup upd_same (trs_cons rfl (hw1.mono (Same.tm (same_upd nr))) (trs_cons rfl ((hbw.mono tm).mono (Same.tm (same_upd nr))) trs_nil))) (c1.same (same_upd nr)) (k1.trans (But.of_same (same_upd nr)))⟩
end
end K17
namespace K17
open PySem PySem.Spec PyProof.Rows L2
section
variable {P : Program} {w : World} {K : PySem.W.Frag} {mg : Str → Option Value} {base : Heap}
theorem scCu : FnScope ["self", "statement", "behind", "n", "names", "place", "ways"] ["self", "statement", "behind"] (defScope sCuM):=⟨rfl,rfl,rfl,by decide +kernel,rfl,by decide +kernel,by decide +kernel⟩
theorem ok_cu {f : Addr} {fd : FuncData} {C fW fM fU fD : Addr} {fdW fdM fdU fdD : FuncData} {n : Nat} (F : Fun K "place_of_cut" "Cutting.place_of_cut" sCuM f fd) (ck : CK K C) (h7 : n ≤ 7) (GW : FnOk P w K mg base CX0 (4 * n + 32) fW fdW ["self", "statement", "place", "behind"] (spWO C n)) (bW : Binds K fdW ["self", "statement", "place", "behind"] []) (hW : Meth K C "ways_of" fW) (GM : FnOk P w K mg base CX0 2 fM fdM ["body"] spMany) (bM : Binds K fdM ["body"] []) (kM : PySem.W.keepIn K (.ref fM) = true) (mM : mg "many_cuts" = some (.ref fM)) (GU : FnOk P w K mg base CX0 31 fU fdU ["statement", "behind"] (spUof 7)) (bU : Binds K fdU ["statement", "behind"] []) (kU : PySem.W.keepIn K (.ref fU) = true) (mU : mg "used_ahead_of" = some (.ref fU)) (GD : FnOk P w K mg base CX0 1 fD fdD ["statement"] spDeed) (bD : Binds K fdD ["statement"] []) (kD : PySem.W.keepIn K (.ref fD) = true) (mD : mg "deed_of" = some (.ref fD)) (ml : mg "len" = none) (mtu : mg "tuple" = none) : FnOk P w K mg base CX0 (4 * n + 33) f fd ["self", "statement", "behind"] (spPC C n):=by
 refine F.ok scCu (fun vs H Q E h=>?_) (fun cdv A outer s H vs Q E hr h=>?_)
 ·refine opq fun Gq kq=>?_
  obtain ⟨ia,dx,fa,g,m,cts,cs,pc,v,bv,ys,s,rfl,_⟩:=h
  refine kq ?_
  rfl
 refine opq fun Gq kq=>?_
 obtain ⟨ia,dx,fa,g,m,cts,cs,pc,v,bv,ys,st,rfl,I,hs,hd,hc,q⟩:=h
 refine kq ?_
 refine ⟨_,(pss_cons (ps_set (i:=3) scCu.nd rfl (Or.inl rfl) (pe_op op_sub (pe_op op_sub (@pe_fld _ _ _ _ _ (pv 0) rfl) (@pe_callB _ _ _ _ _ _ _ _ _ call_len_seq rfl ml PySem.boot_len (pa_cons (@pe_fld _ _ _ _ _ (pv 0) rfl) pa_nil) (by decide) (by decide) (by rfl) (by rfl))) (pe_call GM (hr.mono om252) rfl mM kM bM .nil pass0 (pa_cons (pe_tup (pa_cons (pv 1) pa_nil)) pa_nil)))) (pss_cons (ps_set (i:=4) scCu.nd rfl (Or.inl rfl) (pe_call GU (hr.mono om253) rfl mU kU bU .nil pass0 (pa_cons (pv 1) (pa_cons (@pe_ix _ _ _ _ _ _ _ ix_tup (pv 2) pe_int (fun _ _=>rfl)) pa_nil)))) (pss_cons (ps_set (i:=5) scCu.nd rfl (Or.inl rfl) (pe_tup (pa_cons (pv 4) (pa_cons (pe_tup (pa_cons (pe_tup pa_nil) (pa_cons (pe_tup (pa_cons pe_str (pa_cons (pv 3) pa_nil))) pa_nil))) pa_nil)))) (pss_cons (ps_set (i:=6) scCu.nd rfl (Or.inl rfl) (@pe_meth _ _ _ _ _ _ _ _ _ _ _ _ _ _ _ _ _ _ _ _ (pv 0) ck.cl hW GW (hr.mono om254) bW .nil pass0 (pa_cons (pv 1) (pa_cons (pv 5) (pa_cons (pv 2) pa_nil))) (by rfl) (by rfl) (by rfl))) (pss_cons (ps_expr (@pe_bm _ _ _ _ _ _ _ _ _ _ _ _ PySem.F.plainAttrs_list PySem.F.slot_list_append PySem.F.type_list_append mt_append (@pe_fld _ _ _ _ _ (pv 0) rfl) (pa_cons (pe_tup (pa_cons (@pe_callTy _ _ _ _ _ _ _ _ _ call_tuple_of rfl mtu PyProof.Rows.boot_tuple (pa_cons (pv 4) pa_nil) (by decide) (by decide) (by rfl) (by rfl)) (pa_cons (pe_call GD (hr.mono om255) rfl mD kD bD .nil pass0 (pa_cons (pv 1) pa_nil)) (pa_cons (pv 6) pa_nil)))) pa_nil) (by rfl) (by rfl) (by rfl) (by rfl) (by rfl))) (pss_one (ps_ret (pv 5)))))))),?_⟩
 try dsimp only [cxOf,Cx.nox,Cx.wish]
 have big:=line24
 obtain ⟨br,ss,bw,rfl,hbr,hN,hbw⟩:=id I.p
 have hz:=I.sz
 have lc:=I.c.len
 refine seqF fun F1 f1=>⟨_,rfl,ia,C,dx,_,_,rfl,I.c.ins,ck.cl,ck.nm,rfl,_,rfl,ia,C,dx,_,_,rfl,I.c.ins,ck.cl,ck.nf,rfl,fa,_,rfl,.inl (SqL.of I.c.fd),_,_,rfl,rfl,_,rfl,(by exact sz1),fun u nu=>?_⟩
 have s1 : Same H (upd H u (.tup [v])):=same_upd nu
 refine ⟨u,st,_,rfl,upd_same,(hs.mono (Same.tm s1)).bd,om73 hz,fun H1 k1=>⟨_,_,rfl,rfl,f1 _ _ ?_⟩⟩
 clear f1
 have s2:=s1.trans k1
 rw [lc]
 refine seqF fun F1 f1=>⟨_,rfl,_,rfl,br,_,_,_,rfl,rfl,SqT.of (s2 _ _ hbr),rfl,v,g,st,ss,pc.M,ys,rfl,hs.mono (Same.tm s2),hN.same s2,I.ok,om256 h7 hd,om73 hz,fun g2 zs H2 n2 N2 k2=>f1 _ _ ?_⟩
 clear f1
 have s3:=s2.trans k2
 have ng2 : g2 ≠ fa:=fun e=>by rw [e,s2 _ _ I.c.fd] at n2; cases n2
 refine seqF fun F1 f1=>⟨_,rfl,(by exact sz0),fun e ne=>⟨_,rfl,(by exact sz2),fun u2 nu2=>⟨(by exact sz2),fun x nx=>⟨(by exact sz2),fun r nr=>f1 _ _ ?_⟩⟩⟩⟩
 clear f1
 have s4 : Same H2 (upd (upd (upd (upd H2 e (.tup [])) u2 (.tup [.str "go",.int (m - (cts.length : Int) - (st.cuts : Int))])) x (.tup [.ref e,.ref u2])) r (.tup [.ref g2,.ref x])):=(((same_upd ne).trans (same_upd nu2)).trans (same_upd nx)).trans (same_upd nr)
 have P4 : PcG (upd (upd (upd (upd H2 e (.tup [])) u2 (.tup [.str "go",.int (m - (cts.length : Int) - (st.cuts : Int))])) x (.tup [.ref e,.ref u2])) r (.tup [.ref g2,.ref x])) ⟨st.use pc.M,⟨[],.go (m - (cts.length : Int) - (st.cuts : Int))⟩⟩ (.ref r) g2 ys :=
  ⟨r,zs,.ref x,rfl,upd_same,N2.same s4,tr_tup (keepN upd_same nr) (trs_cons rfl (tr_tup (keepN (keepN (keepN upd_same nu2) nx) nr) trs_nil) (trs_cons rfl (tr_tup (keepN (keepN upd_same nx) nr) (trs_cons rfl tr_str (trs_cons rfl tr_int trs_nil))) trs_nil))⟩
 generalize upd (upd (upd (upd H2 e (.tup [])) u2 (.tup [.str "go",.int (m - (cts.length : Int) - (st.cuts : Int))])) x (.tup [.ref e,.ref u2])) r (.tup [.ref g2,.ref x]) = H4 at s4 P4
 have s5:=s3.trans s4
 have c5:=I.c.same s5
 refine seqF fun F1 f1=>⟨_,rfl,ia,dx,_,rfl,c5.ins,rfl,_,rfl,_,rfl,_,rfl,ia,dx,fa,g,g2,m,cts,cs,pc,_,v,.ref br,.ref r,ys,st,rfl,⟨c5,I.p.same s5,I.ng,I.ok,I.sz⟩,P4,ng2,rfl,hs.mono (Same.tm s5),hd,fun wv cs6 H6 w6 c6 k6=>f1 _ _ ?_⟩
 clear f1
 have tm6:=c5.tm k6
 have p6:=P4.but k6 c5.fd ng2
 have z6 : H6 g2 = some (.lst (zs.map V.str)):=k6 _ _ ng2 (s4 _ _ N2.at')
 have ez:=N2.nm.canon
 have l6:=c6.len
 have lw : (waysOf m ⟨st.use pc.M,⟨[],.go (m - (cts.length : Int) - (st.cuts : Int))⟩⟩ pc cts st).2.length + 1 = cts.length + st.cuts:=by
  have:=pB_len m st pc cts
  rw [pB_cut hs hc m pc cts,List.length_append] at this
  exact this
 have cl:=cuts_le st
 refine seqF fun F1 f1=>⟨_,rfl,ia,C,dx,_,_,rfl,c6.ins,ck.cl,ck.nf,rfl,.inl ⟨rfl,_,SqL.of c6.fd⟩,_,rfl,g2,_,rfl,.inl ⟨SqL.of z6,fun nt nnt=>?_⟩⟩
 have s7 : Same H6 (upd H6 nt (.tup (zs.map V.str))):=same_upd nnt
 refine ⟨_,rfl,v,st,rfl,((hs.mono (Same.tm s5)).mono tm6).mono (Same.tm s7),fun d H8 d8 k8=>⟨_,rfl,(by exact sz3),fun ct nct=>?_⟩⟩
 have s9:=(s7.trans k8).trans (same_upd (o:=.tup [.ref nt,d,wv]) nct)
 have c9:=c6.same s9
 refine ⟨fa,cs6,_,rfl,rfl,c9.fd,om257 big hz l6 lw cl,f1 _ _ ?_⟩
 clear f1
 have T9 : TrH (upd H8 ct (.tup [.ref nt,d,wv])) (ctT ⟨st.use pc.M,st.deed,(waysOf m ⟨st.use pc.M,⟨[],.go (m - (cts.length : Int) - (st.cuts : Int))⟩⟩ pc cts st).1⟩) (.ref ct) []:=by
  refine tr_tup upd_same (trs_cons rfl (tr_tup (keepN (k8 _ _ upd_same) nct) ?_) (trs_cons (ddT_l _) (d8.mono (Same.tm (same_upd nct))) (trs_cons rfl (w6.mono (Same.tm s9)) trs_nil)))
  rw [← ez]
  exact trs_strs zs
 have p9:=p6.same s9
 generalize upd H8 ct (.tup [.ref nt,d,wv]) = H9 at s9 c9 T9 p9
 have k10 : But fa H9 (upd H9 fa (.lst (cs6 ++ [.ref ct]))):=fun b o nb e=>by rw [upd_ne nb]; exact e
 have tm10:=c9.tm k10
 have nia : ia ≠ fa:=fun e=>by have:=c9.ins; rw [e,c9.fd] at this; cases this
 refine ⟨_,rfl,q (.ref r) g2 (cs6 ++ [.ref ct]) _ ?_ ng2 ?_ (fun b o nb e=>k10 b o nb (s9 _ _ (k6 b o nb (s5 _ _ e))))⟩
 ·rw [pB_cut hs hc m pc cts]
  exact p9.but k10 c9.fd ng2
 ·rw [pB_cut hs hc m pc cts]
  refine ⟨k10 _ _ nia c9.ins,upd_same,?_⟩
  rw [List.map_append]
  exact trs_app (trs_cons rfl (T9.mono tm10) trs_nil) (c9.tr.mono tm10)
end
end K17
namespace K17
open PySem PySem.Spec PyProof.Rows L2
inductive BI (C ia dx fa a : Addr) (m : Int) (cts : List Ct) (pc : Pc) (bv : V) (ys : List Str) (b : Bd) (xs : List V) (H : Hp) (i : Nat) (σ : L2.St) (H' : Hp) : Prop
 | mk (pre suf : Bd) (v : V) (g : Addr) (cs : List V) (o4 : Option V) (e0 : σ = [some (.ref ia),some (.ref a),some bv,some v,o4]) (e1 : b = pre.app suf) (e2 : BdV H pre (xs.take (xs.length - i))) (e3 : PcG H' (pB m suf pc cts).1 v g ys) (e4 : g ≠ fa) (e5 : Cg H' C ia dx fa m (pB m suf pc cts).2 cs) (e6 : But fa H H') : BI C ia dx fa a m cts pc bv ys b xs H i σ H'
theorem pB_both (m : Int) : ∀ (b : Bd) (pc : Pc) (fs : List Ct),(pB m b pc fs).2.length + (pB m b pc fs).1.w.sets.length ≤ fs.length + pc.w.sets.length + b.size
 | .nil,_,_=>Nat.le_refl _
 | .lf p l r,pc,fs=>by
  have e:=pB_both m r pc fs
  show (pL m p l (pB m r pc fs)).2.length + (pL m p l (pB m r pc fs)).1.w.sets.length ≤ fs.length + pc.w.sets.length + (r.size + 1)
  cases l with
  | st x t T=>have:=setW_len x t (pB m r pc fs).1; show (pB m r pc fs).2.length + (setW x t (pB m r pc fs).1).sets.length ≤ _; exact om258 e this
  | gv t T=>show (pB m r pc fs).2.length + 0 ≤ _; exact om259 e
  | rd x t T=>show ((pB m r pc fs).2 ++ [_]).length + 0 ≤ _; rw [List.length_append]; show _ + 1 + 0 ≤ _; exact om32 e
  | wr t u T U=>show ((pB m r pc fs).2 ++ [_]).length + 0 ≤ _; rw [List.length_append]; show _ + 1 + 0 ≤ _; exact om32 e
  | cl x f a ts=>show ((pB m r pc fs).2 ++ [_]).length + 0 ≤ _; rw [List.length_append]; show _ + 1 + 0 ≤ _; exact om32 e
 | .ite p t T x y r,pc,fs=>by
  have e:=pB_both m r pc fs
  have h1:=cuts_le x
  have h2:=cuts_le y
  show ((pB m x _ (pB m y _ _).2).2 ++ [_]).length + 0 ≤ fs.length + pc.w.sets.length + (x.size + y.size + r.size + 1)
  rw [List.length_append,pB_len m x,pB_len m y]
  show _ + 1 + 0 ≤ _
  exact om260 e h1 h2
 | .loop p t T x r,pc,fs=>by
  have e:=pB_both m r pc fs
  have h1:=cuts_le x
  show ((pB m x _ _).2 ++ [_]).length + 0 ≤ fs.length + pc.w.sets.length + (x.size + r.size + 1)
  rw [List.length_append,pB_len m x]
  show _ + 1 + 0 ≤ _
  exact om261 e h1
section
variable {P : Program} {w : World} {K : PySem.W.Frag} {mg : Str → Option Value} {base : Heap}
theorem scPl : FnScope ["self", "statement", "behind"] ["self", "statement", "behind"] (defScope sPlM):=⟨rfl,rfl,rfl,by decide +kernel,rfl,by decide +kernel,by decide +kernel⟩
theorem ok_pl {f : Addr} {fd : FuncData} {C fC fG fS : Addr} {fdC fdG fdS : FuncData} {n : Nat} (F : Fun K "place_of" "Cutting.place_of" sPlM f fd) (ck : CK K C) (GC : FnOk P w K mg base CX0 (4 * n + 33) fC fdC ["self", "statement", "behind"] (spPC C n)) (bC : Binds K fdC ["self", "statement", "behind"] []) (hC : Meth K C "place_of_cut" fC) (GG : FnOk P w K mg base CX0 7 fG fdG ["term"] spPgive) (bG : Binds K fdG ["term"] []) (kG : PySem.W.keepIn K (.ref fG) = true) (mG : mg "place_of_give" = some (.ref fG)) (GS : FnOk P w K mg base CX0 11 fS fdS ["statement", "behind"] spPset) (bS : Binds K fdS ["statement", "behind"] []) (kS : PySem.W.keepIn K (.ref fS) = true) (mS : mg "place_of_set" = some (.ref fS)) : FnOk P w K mg base CX0 (4 * n + 34) f fd ["self", "statement", "behind"] (spPO C n):=by
 refine F.ok scPl (fun vs H Q E h=>?_) (fun cdv A outer s H vs Q E hr h=>?_)
 ·refine opq fun Gq kq=>?_
  obtain ⟨ia,dx,fa,g,m,cts,cs,pc,v,bv,ys,s,rfl,_⟩:=h
  refine kq ?_
  rfl
 refine opq fun Gq kq=>?_
 obtain ⟨ia,dx,fa,g,m,cts,cs,pc,v,bv,ys,st,rfl,I,hs,hd,q⟩:=h
 refine kq ?_
 refine ⟨_,(pss_cons (ps_if (@pt_cmpR _ _ _ _ _ _ _ _ op_eq (@pe_ix _ _ _ _ _ _ _ ix_tup (pv 1) pe_int (fun _ _=>rfl)) pe_str (@nomark _ _ (by decide) (by decide))) (pss_one (ps_ret (pe_call GG (hr.mono om262) rfl mG kG bG .nil pass0 (pa_cons (@pe_ix _ _ _ _ _ _ _ ix_tup (pv 1) pe_int (fun _ _=>rfl)) pa_nil)))) pss_nil) (pss_cons (ps_if (@pt_cmpR _ _ _ _ _ _ _ _ op_eq (@pe_ix _ _ _ _ _ _ _ ix_tup (pv 1) pe_int (fun _ _=>rfl)) pe_str (@nomark _ _ (by decide) (by decide))) (pss_one (ps_ret (pe_call GS (hr.mono om263) rfl mS kS bS .nil pass0 (pa_cons (pv 1) (pa_cons (pv 2) pa_nil))))) pss_nil) (pss_one (ps_ret (@pe_meth _ _ _ _ _ _ _ _ _ _ _ _ _ _ _ _ _ _ _ _ (pv 0) ck.cl hC GC (hr.mono om264) bC .nil pass0 (pa_cons (pv 1) (pa_cons (pv 2) pa_nil)) (by rfl) (by rfl) (by rfl)))))),?_⟩
 try dsimp only [cxOf,Cx.nox,Cx.wish]
 have hz:=I.sz
 have hs':=hs
 have cut : st.isCut = true → tRet (tMeth C "place_of_cut" (spPC C n) [] E0 (tVar 0) (tCons (tVar 1) (tCons (tVar 2) tNil))) { nx:=fun x H'=>Q V.non H',rt:=Q } [some (.ref ia),some v,some bv] H:=fun hc =>
  ⟨_,rfl,ia,dx,_,rfl,I.c.ins,rfl,_,rfl,_,rfl,ia,dx,fa,g,m,cts,cs,pc,v,bv,ys,st,rfl,I,hs,hd,hc,q⟩
 cases hs with
 | lf p l vs h1 h2 =>
  cases l with
  | rd x t T =>
   obtain ⟨rfl,_⟩:=h2
   refine ⟨_,rfl,p,_,_,_,rfl,rfl,SqT.of h1,rfl,rfl,_,rfl,ifX (by decide +kernel) ?_⟩
   refine ⟨_,rfl,p,_,_,_,rfl,rfl,SqT.of h1,rfl,rfl,_,rfl,ifX (by decide +kernel) ?_⟩
   exact cut rfl
  | wr t u T U =>
   obtain ⟨rfl,_⟩:=h2
   refine ⟨_,rfl,p,_,_,_,rfl,rfl,SqT.of h1,rfl,rfl,_,rfl,ifX (by decide +kernel) ?_⟩
   refine ⟨_,rfl,p,_,_,_,rfl,rfl,SqT.of h1,rfl,rfl,_,rfl,ifX (by decide +kernel) ?_⟩
   exact cut rfl
  | cl x f q2 ts =>
   obtain ⟨rfl,_⟩:=h2
   refine ⟨_,rfl,p,_,_,_,rfl,rfl,SqT.of h1,rfl,rfl,_,rfl,ifX (by decide +kernel) ?_⟩
   refine ⟨_,rfl,p,_,_,_,rfl,rfl,SqT.of h1,rfl,rfl,_,rfl,ifX (by decide +kernel) ?_⟩
   exact cut rfl
  | gv t T =>
   obtain ⟨rfl,hT⟩:=h2
   refine ⟨_,rfl,p,_,_,_,rfl,rfl,SqT.of h1,rfl,rfl,_,rfl,ifY (by decide +kernel) ?_⟩
   clear cut
   have y20 : ys.length ≤ 20:=by obtain ⟨_,_,_,_,_,hN,_⟩:=I.p; exact hN.y20
   exact ⟨_,rfl,p,_,_,_,rfl,rfl,SqT.of h1,rfl,t,T,ys,rfl,hT,I.ok.1,y20,fun v' g' H' p' n' s'=>q v' g' cs H' p' (fun e=>by rw [e,I.c.fd] at n'; cases n') (I.c.same s') (But.of_same s')⟩
  | st x t T =>
   obtain ⟨rfl,hT⟩:=h2
   refine ⟨_,rfl,p,_,_,_,rfl,rfl,SqT.of h1,rfl,rfl,_,rfl,ifX (by decide +kernel) ?_⟩
   refine ⟨_,rfl,p,_,_,_,rfl,rfl,SqT.of h1,rfl,rfl,_,rfl,ifY (by decide +kernel) ?_⟩
   clear cut
   exact ⟨_,rfl,_,rfl,.ref p,bv,p,t,x,T,pc,g,ys,rfl,hs',I.p,I.ok.1.1,I.ok.1.2,om265 hz,fun v' g' H' p' n' s'=>q v' g' cs H' p' (fun e=>by rw [e,I.c.fd] at n'; cases n') (I.c.same s') (But.of_same s')⟩
 | ite p t T a b qa qb as bs h1 h0 h2 h3 h4 h5 =>
  refine ⟨_,rfl,p,_,_,_,rfl,rfl,SqT.of h1,rfl,rfl,_,rfl,ifX (by decide +kernel) ?_⟩
  refine ⟨_,rfl,p,_,_,_,rfl,rfl,SqT.of h1,rfl,rfl,_,rfl,ifX (by decide +kernel) ?_⟩
  exact cut rfl
 | loop p t T a qa as h1 h0 h2 h3 =>
  refine ⟨_,rfl,p,_,_,_,rfl,rfl,SqT.of h1,rfl,rfl,_,rfl,ifX (by decide +kernel) ?_⟩
  refine ⟨_,rfl,p,_,_,_,rfl,rfl,SqT.of h1,rfl,rfl,_,rfl,ifX (by decide +kernel) ?_⟩
  exact cut rfl
theorem scBo : FnScope ["self", "body", "behind", "place", "statement"] ["self", "body", "behind"] (defScope sBoM):=⟨rfl,rfl,rfl,by decide +kernel,rfl,by decide +kernel,by decide +kernel⟩
theorem ok_bo {f : Addr} {fd : FuncData} {C fO : Addr} {fdO : FuncData} {n : Nat} (F : Fun K "place_of_body" "Cutting.place_of_body" sBoM f fd) (ck : CK K C) (GO : FnOk P w K mg base CX0 (4 * n + 34) fO fdO ["self", "statement", "behind"] (spPO C n)) (bO : Binds K fdO ["self", "statement", "behind"] []) (hO : Meth K C "place_of" fO) (mre : mg "reversed" = none) : FnOk P w K mg base CX0 (4 * n + 35) f fd ["self", "body", "behind"] (spPB C (n + 1)):=by
 refine F.ok scBo (fun vs H Q E h=>?_) (fun cdv A outer s H vs Q E hr h=>?_)
 ·refine opq fun Gq kq=>?_
  obtain ⟨ia,dx,fa,a,g,m,cts,cs,xs,pc,bv,ys,b,rfl,_⟩:=h
  refine kq ?_
  rfl
 refine opq fun Gq kq=>?_
 obtain ⟨ia,dx,fa,a,g,m,cts,cs,xs,pc,bv,ys,b,rfl,I,ha,hb,hd,q⟩:=h
 refine kq ?_
 refine ⟨_,(pss_cons (ps_set (i:=3) scBo.nd rfl (Or.inl rfl) (pv 2)) (pss_cons (@ps_for _ _ _ _ _ _ _ _ PassesOwn.never rfl (@pi_rev _ _ _ _ _ _ _ rfl mre PyProof.Rows.boot_reversed (pv 1) (by decide) (by decide) (by rfl) (by rfl)) (pg_name (i:=4) scBo.nd rfl (Or.inl rfl)) (pss_one (ps_set (i:=3) scBo.nd rfl (Or.inl rfl) (@pe_meth _ _ _ _ _ _ _ _ _ _ _ _ _ _ _ _ _ _ _ _ (pv 0) ck.cl hO GO (hr.mono om266) bO .nil pass0 (pa_cons (pv 4) (pa_cons (pv 3) pa_nil)) (by rfl) (by rfl) (by rfl)))) (by intro _; rfl)) (pss_one (ps_ret (pv 3))))),?_⟩
 try dsimp only [cxOf,Cx.nox,Cx.wish]
 have big:=line24
 have hz:=I.sz
 have xl:=hb.len
 refine seqF fun F1 f1=>⟨_,rfl,f1 _ _ ?_⟩
 clear f1
 refine seqF fun F1 f1=>?_
 refine forE fun F kF=>⟨_,rfl,a,xs,rfl,SqT.of ha,kF _ _ ?_⟩
 clear kF
 refine for_revE (K:=K) (xs:=xs) (BI C ia dx fa a m cts pc bv ys b xs H) ⟨b,.nil,bv,g,cs,_,rfl,(app_nil b).symm,by rw [Nat.sub_zero,List.take_length]; exact hb,I.p,I.ng,I.c,But.refl⟩ (fun i σ H' hi h=>?_) ?_ (fun σ H' h=>f1 _ _ ?_)
 ·obtain ⟨_,_,_,_,_,_,_,_,_,_,_,_,k⟩:=h
  exact SqT.of (I.c.tm k _ _ ha)
 ·clear f1
  intro E _ i x σ H2 hx fE Gq kq h
  obtain ⟨pre,suf,v,g1,cs1,o4,rfl,h1,h2,h3,h4,h5,k2⟩:=h
  have hi : i < xs.length:=by
   rcases Nat.lt_or_ge i xs.length with z | z
   ·exact z
   ·rw [List.getElem?_eq_none (by simpa using z)] at hx; cases hx
  rw [List.getElem?_reverse hi] at hx
  have et : xs.take (xs.length - i) = xs.take (xs.length - (i + 1)) ++ [x]:=by
   have e1 : xs.length - i = (xs.length - 1 - i) + 1:=om69 hi
   have e2 : xs.length - (i + 1) = xs.length - 1 - i:=om70
   rw [e1,e2,List.take_add_one,hx]
   rfl
  rw [et] at h2
  rcases h2.last with ⟨e,_⟩ | ⟨ws,v',b1,s1',e1,e2,h6,h7⟩
  ·exact absurd e (by simp)
  obtain ⟨ew,ev⟩:=List.append_inj' e1 rfl
  cases ev
  subst e2
  have hok:=app_ok (h1 ▸ I.ok)
  have hok1:=app_ok hok.1
  have a1 : b.dep = max (b1.app s1').dep suf.dep:=by rw [h1,dep_app]
  have a2 : (b1.app s1').dep = max b1.dep s1'.dep:=dep_app ..
  have hde : s1'.dep ≤ b.dep:=by rw [a1,a2]; exact Nat.le_trans (Nat.le_max_right ..) (Nat.le_max_left ..)
  clear a1 a2
  have hsz : b.size = b1.size + s1'.size + suf.size:=by rw [h1,size_app,size_app]
  have hl:=pB_len m suf pc cts
  have hcl:=cuts_le suf
  have hst:=pB_sets m suf pc cts
  have hct : (pB m suf pc cts).1.w.sets.length + (pB m suf pc cts).2.length + s1'.size ≤ 10000000:=by have:=pB_both m suf pc cts; exact om267 hz hsz this
  refine kq ?_
  have tm:=I.c.tm k2
  show tAsg _ _ E [some (.ref ia),some (.ref a),some bv,some v,some x] H2
  refine ⟨_,rfl,ia,dx,_,rfl,h5.ins,rfl,_,rfl,_,rfl,ia,dx,fa,g1,m,_,cs1,_,x,v,ys,s1',rfl,⟨h5,h3,h4,hok1.2,om268 hct⟩,h7.mono tm,om71 hd hde,fun v3 g3 cs3 H3 p3 n3 c3 k3=>fE _ _ ⟨b1,s1'.app suf,v3,g3,cs3,_,rfl,by rw [h1,app_assoc],?_,by rw [pB_app]; exact p3,n3,by rw [pB_app]; exact c3,k2.trans k3⟩⟩
  rw [ew]
  exact h6
 ·obtain ⟨pre,suf,v,g1,cs1,o4,rfl,h1,h2,h3,h4,h5,k2⟩:=h
  rw [Nat.sub_self] at h2
  have ep : pre = .nil:=by
   rcases h2.last with ⟨_,e⟩ | ⟨ws,v,b1,s1',e1,_⟩
   ·exact e
   ·exact absurd e1 (by simp)
  rw [ep] at h1
  refine ⟨_,rfl,q v g1 cs1 H' ?_ h4 ?_ k2⟩
  ·rw [h1]; exact h3
  ·rw [h1]; exact h5
theorem no_pb {C f : Addr} {fd : FuncData} {k : Nat} : FnOk P w K mg base CX0 k f fd ["self", "body", "behind"] (spPB C 0):=by
 have no : ∀ vs H Q E,¬ spPB C 0 vs H Q E:=fun vs H Q E h=>by
  obtain ⟨ia,dx,fa,a,g,m,cts,cs,xs,pc,bv,ys,b,_,_,_,_,hd,_⟩:=h
  exact absurd hd (Nat.not_lt_zero _)
 exact ⟨fun vs H Q E h=>absurd h (no vs H Q E),fun A outer s H args us vs Q E _ _ _ _ h=>absurd h (no vs H Q E)⟩
theorem pbs {C fB fO fC fW fM fU fD fG fS : Addr} {fdB fdO fdC fdW fdM fdU fdD fdG fdS : FuncData} (ck : CK K C) (FB : Fun K "place_of_body" "Cutting.place_of_body" sBoM fB fdB) (FO : Fun K "place_of" "Cutting.place_of" sPlM fO fdO) (FC : Fun K "place_of_cut" "Cutting.place_of_cut" sCuM fC fdC) (FW : Fun K "ways_of" "Cutting.ways_of" sWaM fW fdW)
  (bB : Binds K fdB ["self", "body", "behind"] []) (hB : Meth K C "place_of_body" fB) (bO : Binds K fdO ["self", "statement", "behind"] []) (hO : Meth K C "place_of" fO) (bC : Binds K fdC ["self", "statement", "behind"] []) (hC : Meth K C "place_of_cut" fC) (bW : Binds K fdW ["self", "statement", "place", "behind"] []) (hW : Meth K C "ways_of" fW)
  (GM : FnOk P w K mg base CX0 2 fM fdM ["body"] spMany) (bM : Binds K fdM ["body"] []) (kM : PySem.W.keepIn K (.ref fM) = true) (mM : mg "many_cuts" = some (.ref fM)) (GU : FnOk P w K mg base CX0 31 fU fdU ["statement", "behind"] (spUof 7)) (bU : Binds K fdU ["statement", "behind"] []) (kU : PySem.W.keepIn K (.ref fU) = true) (mU : mg "used_ahead_of" = some (.ref fU)) (GD : FnOk P w K mg base CX0 1 fD fdD ["statement"] spDeed) (bD : Binds K fdD ["statement"] []) (kD : PySem.W.keepIn K (.ref fD) = true) (mD : mg "deed_of" = some (.ref fD)) (GG : FnOk P w K mg base CX0 7 fG fdG ["term"] spPgive) (bG : Binds K fdG ["term"] []) (kG : PySem.W.keepIn K (.ref fG) = true) (mG : mg "place_of_give" = some (.ref fG)) (GS : FnOk P w K mg base CX0 11 fS fdS ["statement", "behind"] spPset) (bS : Binds K fdS ["statement", "behind"] []) (kS : PySem.W.keepIn K (.ref fS) = true) (mS : mg "place_of_set" = some (.ref fS)) (ml : mg "len" = none) (mtu : mg "tuple" = none) (mre : mg "reversed" = none) :
  ∀ n : Nat,n ≤ 8 → FnOk P w K mg base CX0 (4 * n + 31) fB fdB ["self", "body", "behind"] (spPB C n)
 | 0,_=>no_pb
 | n + 1,h=>by
  have ih:=pbs ck FB FO FC FW bB hB bO hO bC hC bW hW GM bM kM mM GU bU kU mU GD bD kD mD GG bG kG mG GS bS kS mS ml mtu mre n (om269 h)
  have h1:=ok_wa FW ck ih bB hB
  have h2:=ok_cu FC ck (om270 h) h1 bW hW GM bM kM mM GU bU kU mU GD bD kD mD ml mtu
  have h3:=ok_pl FO ck h2 bC hC GG bG kG mG GS bS kS mS
  have h4:=ok_bo FB ck h3 bO hO mre
  have e : 4 * n + 35 = 4 * (n + 1) + 31:=om271
  rw [e] at h4
  exact h4
end
end K17
namespace K17
open PySem PySem.Spec PyProof.Rows L2
theorem pg_tupK {X : Cx} {K : PySem.W.Frag} {pos : Pos} {es : List Expr} {k : Nat} {t : TGs} {n : Nat} (hK : X.K = K) (hc : X.calm = true) (h : PGs X es t)
  (hn : (assignEach es X.env).length = n) (hst : (assignEach es X.env).findIdx? (·.1) = none) : PG X (.Tuple es k pos) (gTup K n t):=by
 subst hK
 exact pg_tup hc h hn hst
noncomputable abbrev g3 (K : PySem.W.Frag) (i j k : Nat) : TG:=gTup K 3 (gCons (gName i) (gCons (gName j) (gCons (gName k) gNil)))
theorem len3 {ts : L2.St} (h : ts.length = 3) : ∃ a b c,ts = [a,b,c]:=by
 match ts,h with
 | [a,b,c],_=>exact ⟨a,b,c,rfl⟩
noncomputable abbrev sPart : Stmt:=top 16
noncomputable abbrev sMade : Stmt:=top 17
structure Df where
 f : Str
 p : Addr
 pa : Addr
 pb : Addr
 b : Bd
noncomputable def DfV (H : Hp) (d : Df) (v : V) : Prop:=∃ bs,v = .ref d.p ∧ H d.p = some (.tup [.str d.f,.ref d.pa,.ref d.pb]) ∧ H d.pb = some (.tup bs) ∧ BdV H d.b bs
noncomputable def DfsV (H : Hp) : List Df → List V → Prop
 | [],vs=>vs = []
 | d :: ds,vs=>∃ v r,vs = v :: r ∧ DfV H d v ∧ DfsV H ds r
theorem DfV.mono {H H' : Hp} (k : TMono H H') {d : Df} {v : V} (h : DfV H d v) : DfV H' d v:=by
 obtain ⟨bs,e1,h1,h3,h5⟩:=h
 exact ⟨bs,e1,k _ _ h1,k _ _ h3,h5.mono k⟩
theorem DfsV.mono {H H' : Hp} (k : TMono H H') {ds : List Df} : ∀ {vs : List V},DfsV H ds vs → DfsV H' ds vs:=by
 induction ds with
 | nil=>exact fun h=>h
 | cons d ds ih=>rintro vs ⟨v,r,e,h1,h4⟩; exact ⟨v,r,e,h1.mono k,ih h4⟩
theorem DfsV.snoc {H : Hp} {d : Df} {v : V} (hv : DfV H d v) : ∀ {ds : List Df} {vs : List V},DfsV H ds vs → DfsV H (ds ++ [d]) (vs ++ [v])
 | [],_,h=>by have e : _ = []:=h; rw [e]; exact ⟨v,[],rfl,hv,rfl⟩
 | _ :: _,_,⟨u,r,e,h1,h4⟩=>⟨u,r ++ [v],by rw [e]; rfl,h1,DfsV.snoc hv h4⟩
theorem DfsV.len {H : Hp} : ∀ {ds : List Df} {vs : List V},DfsV H ds vs → vs.length = ds.length
 | [],_,h=>by have e : _ = []:=h; rw [e]; rfl
 | _ :: _,_,⟨u,r,e,h1,h4⟩=>by rw [e,List.length_cons,List.length_cons,DfsV.len h4]
theorem DfsV.at {H : Hp} : ∀ {ds : List Df} {vs : List V},DfsV H ds vs → ∀ (i : Nat) (v : V),vs[i]? = some v → ∃ d,ds[i]? = some d ∧ DfV H d v
 | [],_,h,i,v,hv=>by have e : _ = []:=h; rw [e] at hv; simp at hv
 | d :: _,_,⟨u,r,e,h1,h4⟩,0,v,hv=>by rw [e] at hv; cases hv; exact ⟨d,rfl,h1⟩
 | _ :: ds,_,⟨u,r,e,h1,h4⟩,i + 1,v,hv=>by rw [e] at hv; simpa using DfsV.at h4 i v (by simpa using hv)
noncomputable def DfOk (d : Df) : Prop:=(∃ ys : List Str,ys.length ≤ 20 ∧ d.b.Ok ys) ∧ d.b.dep < 8 ∧ d.b.size ≤ 5000000
noncomputable def pc0 (nA : Addr) : Pc:=⟨fun x=>x ∈ (Tm.num 0).vars,⟨[],.give nA⟩⟩
noncomputable def run17 (nA : Addr) (d : Df) : Pc × List Ct:=pB (d.b.cuts : Int) d.b (pc0 nA) []
noncomputable def partT (nA : Addr) (d : Df) : Tr:=tupT [strT d.f,refT d.pa,wayT (run17 nA d).1.w,tupT ((run17 nA d).2.reverse.map ctT)]
noncomputable def Nought (K : PySem.W.Frag) (nA : Addr) : Prop:=∀ H : Hp,SqT K H nA [.str "num",.int 0]
noncomputable def spIni (C : Addr) : Sp:=fun vs H Q _=>∃ (ia dx a : Addr) (b : Bd) (xs : List V),vs = [.ref ia,.ref a] ∧ H ia = some (.ins C dx []) ∧ H a = some (.tup xs) ∧ BdV H b xs ∧ b.size ≤ 10000000 ∧
 ∀ (fa : Addr) (H' : Hp),H fa = none → Cg H' C ia dx fa (b.cuts : Int) [] [] → But ia H H' → Q .non H'
noncomputable def spPart (K : PySem.W.Frag) (nA : Addr) : Sp:=fun vs H Q _=>∃ (d : Df) (bs : List V),vs = [.str d.f,.ref d.pa,.ref d.pb] ∧ H d.pb = some (.tup bs) ∧ BdV H d.b bs ∧ DfOk d ∧ ∀ (v : V) (H' : Hp),TrH H' (partT nA d) v [] → Same H H' → Q v H'
noncomputable def spMade (K : PySem.W.Frag) (nA : Addr) : Sp:=fun vs H Q _=>∃ (a : Addr) (ds : List Df) (xs : List V),vs = [.ref a] ∧ H a = some (.tup xs) ∧ DfsV H ds xs ∧ ds.length ≤ 1000 ∧ (∀ d ∈ ds,DfOk d) ∧ ∀ (v : V) (H' : Hp),TrH H' (tupT (ds.map (partT nA))) v [] → Same H H' → Q v H'
theorem compR_dfs {K : PySem.W.Frag} {a : Addr} {ds : List Df} {vs : List V} {te : TE} {Qf : List V → Hp → Prop} {σt : L2.St} {H : Hp} (hq : H a = some (.tup vs)) (hD : DfsV H ds vs) (hz : ds.length ≤ 1000)
  (Pv : Nat → List V → Hp → Prop) (h0 : Pv 0 [] H) (hk : ∀ i ys H',Pv i ys H' → Same H H' ∧ ys.length ≤ i)
  (hs : ∀ i d bs ys H',ds[i]? = some d → H' d.pb = some (.tup bs) → BdV H' d.b bs → Pv i ys H' → te (some (.str d.f) :: some (.ref d.pa) :: some (.ref d.pb) :: σt) H' fun y H2=>Pv (i + 1) (ys ++ [y]) H2)
  (hd : ∀ ys H',Pv ds.length ys H' → Qf ys H') : CompR (Itt K a) 3 σt (g3 K 0 1 2) tAll te Qf H:=by
 have big:=line24
 have hl:=hD.len
 refine ⟨fun i m ys H'=>m = ds.length - i ∧ i ≤ ds.length ∧ Pv i ys H',⟨ds.length,by simp,Nat.zero_le _,h0⟩,?_⟩
 intro i m ys H' hq'
 refine opq fun Gq kq=>?_
 obtain ⟨rfl,hi,p⟩:=hq'
 refine kq ?_
 obtain ⟨s,hy⟩:=hk i ys H' p
 have hq' : SqT K H' a vs:=SqT.of (s _ _ hq)
 by_cases hlt : i < ds.length
 ·have hv : i < vs.length:=om25 hl hlt
  refine .inr ⟨⟨vs,vs[i],hq',List.getElem?_eq_getElem hv⟩,om272 hz big hy hlt,Pv (i + 1),fun ys' H2 p'=>⟨ds.length - (i + 1),om2 hlt,rfl,hlt,p'⟩,fun v H2 ts hts y=>?_⟩
  obtain ⟨e,y⟩:=y
  subst e
  have hv':=y vs hq'
  refine opq fun Gq kq=>?_
  obtain ⟨d,hd',bs,rfl,h1,h3,h4⟩:=(hD.mono (Same.tm s)).at i v hv'
  refine kq ?_
  refine opq fun Gq kq=>?_
  obtain ⟨t1,t2,t3,rfl⟩:=len3 hts
  refine kq ?_
  refine ⟨d.p,_,rfl,SqT.of h1,rfl,_,_,rfl,_,_,rfl,_,_,rfl,rfl,⟨[some _,some _,some _],rfl,rfl⟩,?_⟩
  exact hs i d bs ys H2 hd' h3 h4 p
 ·have e : i = ds.length:=om3 hi hlt
  subst e
  exact .inl ⟨⟨vs,hq',om48 hl⟩,hd ys H' p⟩
section
variable {P : Program} {w : World} {K : PySem.W.Frag} {mg : Str → Option Value} {base : Heap}
theorem scIni : FnScope ["self", "body"] ["self", "body"] (defScope sIniM):=⟨rfl,rfl,rfl,by decide +kernel,rfl,by decide +kernel,by decide +kernel⟩
theorem ok_ini {f : Addr} {fd : FuncData} {C fM : Addr} {fdM : FuncData} (F : Fun K "__init__" "Cutting.__init__" sIniM f fd) (ck : CK K C) (GM : FnOk P w K mg base CX0 2 fM fdM ["body"] spMany) (bM : Binds K fdM ["body"] []) (kM : PySem.W.keepIn K (.ref fM) = true) (mM : mg "many_cuts" = some (.ref fM)) : FnOk P w K mg base CX0 3 f fd ["self", "body"] (spIni C):=by
 refine F.ok scIni (fun vs H Q E h=>?_) (fun cdv A outer s H vs Q E hr h=>?_)
 ·refine opq fun Gq kq=>?_
  obtain ⟨ia,dx,a,b,xs,rfl,_⟩:=h
  refine kq ?_
  rfl
 refine opq fun Gq kq=>?_
 obtain ⟨ia,dx,a,b,xs,rfl,hi,ha,hb,hz,q⟩:=h
 refine kq ?_
 refine ⟨_,(pss_cons (@ps_fld _ _ _ _ _ _ _ _ (pv 0) (pe_call GM (hr.mono om273) rfl mM kM bM .nil pass0 (pa_cons (pv 1) pa_nil)) rfl) (pss_one (@ps_fld _ _ _ _ _ _ _ _ (pv 0) (pe_lst pa_nil) rfl))),?_⟩
 try dsimp only [cxOf,Cx.nox,Cx.wish]
 refine seqF fun F1 f1=>⟨_,rfl,a,b,xs,rfl,ha,hb,hz,fun H1 k1=>⟨_,rfl,ia,C,dx,_,rfl,k1 _ _ hi,ck.cl,ck.nm,by decide,f1 _ _ ?_⟩⟩
 clear f1
 refine ⟨(by exact sz0),fun fa nf=>⟨_,rfl,ia,C,dx,_,rfl,keepN upd_same nf,ck.cl,ck.nf,(by show 1 < 1000; decide),?_⟩⟩
 have nia : fa ≠ ia:=fun e=>by rw [e,upd_same] at nf; cases nf
 have n0 : H fa = none:=by
  cases e : H fa with
  | none=>rfl
  | some o=>rw [upd_ne nia,k1 _ _ e] at nf; cases nf
 refine q fa _ n0 ⟨upd_same,by rw [upd_ne nia,upd_same],rfl⟩ fun c o nc e=>?_
 rw [upd_ne nc,upd_ne (fun z=>by rw [z,n0] at e; cases e),upd_ne nc]
 exact k1 _ _ e
theorem scPart : FnScope ["name", "params", "body", "cutting", "first"] ["name", "params", "body"] (defScope sPart):=⟨rfl,rfl,rfl,by decide +kernel,rfl,by decide +kernel,by decide +kernel⟩
theorem ok_part {f : Addr} {fd : FuncData} {C fI fB fG nA : Addr} {fdI fdB fdG : FuncData} (F : Fun K "part_made" "part_made" sPart f fd) (ck : CK K C) (mk : Mk K C fI) (GI : FnOk P w K mg base CX0 3 fI fdI ["self", "body"] (spIni C)) (bI : Binds K fdI ["self", "body"] []) (mC : mg "Cutting" = some (.ref C)) (mNo : mg "NOUGHT" = some (.ref nA)) (no : Nought K nA) (GB : FnOk P w K mg base CX0 63 fB fdB ["self", "body", "behind"] (spPB C 8)) (bB : Binds K fdB ["self", "body", "behind"] []) (hB : Meth K C "place_of_body" fB) (GG : FnOk P w K mg base CX0 7 fG fdG ["term"] (spPgC K)) (bG : Binds K fdG ["term"] []) (kG : PySem.W.keepIn K (.ref fG) = true) (mG : mg "place_of_give" = some (.ref fG)) (mtu : mg "tuple" = none) (mre : mg "reversed" = none) : FnOk P w K mg base CX0 64 f fd ["name", "params", "body"] (spPart K nA):=by
 refine F.ok scPart (fun vs H Q E h=>?_) (fun cdv A outer s H vs Q E hr h=>?_)
 ·refine opq fun Gq kq=>?_
  obtain ⟨d,bs,rfl,_⟩:=h
  refine kq ?_
  rfl
 refine opq fun Gq kq=>?_
 obtain ⟨d,bs,rfl,hb,hB',hok,q⟩:=h
 refine kq ?_
 refine ⟨_,(pss_cons (ps_set (i:=3) scPart.nd rfl (Or.inl rfl) (@pe_make _ _ _ _ _ _ _ _ _ _ _ _ _ _ _ _ _ mk GI (hr.mono om274) rfl mC bI .nil pass0 (pa_cons (pv 2) pa_nil) (by decide) (by rfl) (by rfl))) (pss_cons (ps_set (i:=4) scPart.nd rfl (Or.inl rfl) (@pe_meth _ _ _ _ _ _ _ _ _ _ _ _ _ _ _ _ _ _ _ _ (pv 3) ck.cl hB GB (hr.mono om275) bB .nil pass0 (pa_cons (pv 2) (pa_cons (pe_call GG (hr.mono om276) rfl mG kG bG .nil pass0 (pa_cons (@pe_glob _ _ (.ref nA) _ _ rfl mNo rfl (by decide)) pa_nil)) pa_nil)) (by rfl) (by rfl) (by rfl))) (pss_one (ps_ret (pe_tup (pa_cons (pv 0) (pa_cons (pv 1) (pa_cons (@pe_ix _ _ _ _ _ _ _ ix_tup (pv 4) pe_int (fun _ _=>rfl)) (pa_cons (@pe_tuprev _ _ _ _ _ _ _ _ _ rfl rfl mtu PyProof.Rows.boot_tuple rfl mre PyProof.Rows.boot_reversed (@pe_fld _ _ _ _ _ (pv 3) rfl) (by decide) (by decide) (by decide) (by decide) (by rfl) (by rfl) (by rfl) (by rfl)) pa_nil))))))))),?_⟩
 try dsimp only [cxOf,Cx.nox,Cx.wish]
 have big:=line24
 obtain ⟨⟨ys,y20,ok⟩,hdp,hz⟩:=hok
 refine seqF fun F1 f1=>⟨_,rfl,fun ia dx nia ndx nne=>?_⟩
 have s0 : Same H (upd (upd H dx (.own ia)) ia (.ins C dx [])):=fun c o e=>by rw [upd_ne (ne_of_none e nia),upd_ne (ne_of_none e ndx)]; exact e
 refine ⟨ia,dx,d.pb,d.b,bs,rfl,upd_same,s0 _ _ hb,hB'.mono (Same.tm s0),om74 hz,fun fa H1 nf c1 k1=>⟨rfl,f1 _ _ ?_⟩⟩
 clear f1
 have s1 : Same H H1:=fun c o e=>k1 c o (ne_of_none e nia) (s0 _ _ e)
 have nf0 : H fa = none:=s0.free nf
 refine seqF fun F1 f1=>⟨_,rfl,ia,dx,_,rfl,c1.ins,rfl,_,rfl,nA,ys,rfl,no _,y20,fun v g H2 p2 n2 k2=>?_⟩
 have ng : g ≠ fa:=fun e=>by rw [e,c1.fd] at n2; cases n2
 have s2:=s1.trans k2
 refine ⟨ia,dx,fa,d.pb,g,_,[],[],bs,pc0 nA,v,ys,d.b,rfl,⟨c1.same k2,p2,ng,ok,by show 0 + 0 + d.b.size ≤ _; exact om277 hz⟩,s2 _ _ hb,hB'.mono (Same.tm s2),hdp,fun v3 g3 cs3 H3 p3 n3 c3 k3=>f1 _ _ ?_⟩
 clear f1
 obtain ⟨r3,w3,rfl,hr3,hw3⟩:=way1 p3
 have s3 : Same H H3:=fun c o e=>k3 c o (ne_of_none e nf0) (s2 _ _ e)
 refine ⟨_,rfl,_,rfl,_,rfl,r3,_,_,_,rfl,rfl,SqT.of hr3,rfl,_,rfl,ia,C,dx,_,_,rfl,c3.ins,ck.cl,ck.nf,rfl,fa,cs3,rfl,SqL.of c3.fd,fun l nl=>⟨(by exact sz4),fun r nr=>?_⟩⟩
 have s5 : Same H3 (upd (upd H3 l (.tup cs3.reverse)) r (.tup [.str d.f,.ref d.pa,w3,.ref l])):=(same_upd nl).trans (same_upd nr)
 refine q (.ref r) _ ?_ (s3.trans s5)
 refine tr_tup upd_same (trs_cons rfl tr_str (trs_cons rfl tr_ref (trs_cons rfl (hw3.mono (Same.tm s5)) (trs_cons rfl (tr_tup (keepN upd_same nr) ?_) trs_nil))))
 have e:=trs_rev (c3.tr.mono (Same.tm s5))
 rw [← List.map_reverse] at e
 exact e
theorem scMade : FnScope ["program"] ["program"] (defScope sMade):=⟨rfl,rfl,rfl,by decide +kernel,rfl,by decide +kernel,by decide +kernel⟩
noncomputable def scope_m1 : Scope:={ kind:=.function,names:=[(".0",.local),("name",.local),("params",.local),("body",.local),("part_made",.globalImplicit)],isGenerator:=false,isCoroutine:=false }
theorem nd_m1 : (["name", "params", "body"] : List Str).Nodup:=by decide +kernel
theorem cs_m1 : CompSc ["program"] (defScope sMade) scope_m1 ["name", "params", "body"] 3 []:=⟨by decide +kernel,rfl,by decide +kernel,by decide +kernel,by decide +kernel,rfl,by decide +kernel⟩
theorem ok_made {f : Addr} {fd : FuncData} {nA fP : Addr} {fdP : FuncData} (F : Fun K "made" "made" sMade f fd) (GP : FnOk P w K mg base CX0 64 fP fdP ["name", "params", "body"] (spPart K nA)) (bP : Binds K fdP ["name", "params", "body"] []) (kP : PySem.W.keepIn K (.ref fP) = true) (mP : mg "part_made" = some (.ref fP)) (mtu : mg "tuple" = none) : FnOk P w K mg base CX0 65 f fd ["program"] (spMade K nA):=by
 refine F.ok scMade (fun vs H Q E h=>?_) (fun cdv A outer s H vs Q E hr h=>?_)
 ·refine opq fun Gq kq=>?_
  obtain ⟨a,ds,xs,rfl,_⟩:=h
  refine kq ?_
  rfl
 refine opq fun Gq kq=>?_
 obtain ⟨a,ds,xs,rfl,ha,hD,hl,ok,q⟩:=h
 refine kq ?_
 refine ⟨_,(pss_one (ps_ret (@pe_callTy _ _ _ _ _ _ _ _ _ call_tuple_of rfl mtu PyProof.Rows.boot_tuple (pa_cons (@pe_comp _ _ _ _ _ _ _ (["name", "params", "body"]) (3) ([]) _ _ _ _ rfl (@pi_tup _ _ _ _ (pv 0)) cs_m1 (fun _ _ _ _ _=>(pg_tupK (K:=K) (n:=3) rfl rfl (pgs_cons (pg_name (i:=0) nd_m1 rfl (Or.inl rfl)) (pgs_cons (pg_name (i:=1) nd_m1 rfl (Or.inl rfl)) (pgs_cons (pg_name (i:=2) nd_m1 rfl (Or.inl rfl)) pgs_nil))) rfl rfl)) (fun _ _ _ _ _=>(@pf_nil _)) (fun _ _ _ _ _=>(pe_call GP (hr.mono om278) rfl mP kP bP .nil pass0 (pa_cons (pv 0) (pa_cons (pv 1) (pa_cons (pv 2) pa_nil))))) (by intro _; rfl)) pa_nil) (by decide) (by decide) (by rfl) (by rfl)))),?_⟩
 try dsimp only [cxOf,Cx.nox,Cx.wish]
 refine ⟨_,rfl,a,rfl,⟨_,SqT.of ha⟩,?_⟩
 refine compR_dfs ha hD hl (fun i vs H'=>TrH H' (listT ((ds.take i).map (partT nA))) .non vs ∧ Same H H' ∧ i ≤ ds.length) ⟨rfl,Same.refl _,Nat.zero_le _⟩ (fun i vs H' h=>⟨h.2.1,?_⟩) (fun i d bs vs H' hd h1 h2 h=>?_) (fun vs H' h l nl=>?_)
 ·rw [trs_len h.1,List.length_map,List.length_take]
  exact Nat.min_le_left ..
 ·have hi : i < ds.length:=by
   rcases Nat.lt_or_ge i ds.length with z | z
   ·exact z
   ·rw [List.getElem?_eq_none z] at hd; cases hd
  refine ⟨_,rfl,_,rfl,_,rfl,d,bs,rfl,h1,h2,ok d (List.mem_of_getElem? hd),fun v H2 t2 k2=>⟨?_,h.2.1.trans k2,hi⟩⟩
  rw [List.take_add_one,hd,List.map_append]
  exact trs_app (trs_cons rfl t2 trs_nil) (h.1.mono (Same.tm k2))
 ·refine ⟨l,vs,rfl,.inl ⟨SqL.of upd_same,fun r nr=>?_⟩⟩
  have s : Same H' (upd (upd H' l (.lst vs)) r (.tup vs)):=(same_upd nl).trans (same_upd nr)
  refine q (.ref r) _ (tr_tup upd_same ?_) (h.2.1.trans s)
  have e:=h.1
  rw [List.take_length] at e
  exact e.mono (Same.tm s)
end
end K17
namespace K17
open PySem PySem.Spec PyProof.Rows L2
noncomputable abbrev sSpot : Stmt:=top 24
noncomputable abbrev sStm : Stmt:=top 25
noncomputable abbrev sBody : Stmt:=top 26
noncomputable def But2 (p q : Addr) (H H' : Hp) : Prop:=∀ b o,b ≠ p → b ≠ q → H b = some o → H' b = some o
theorem But2.refl {p q : Addr} {H : Hp} : But2 p q H H:=fun _ _ _ _ h=>h
theorem But2.trans {p q : Addr} {H H1 H2 : Hp} (a : But2 p q H H1) (b : But2 p q H1 H2) : But2 p q H H2:=fun c o n m h=>b c o n m (a c o n m h)
theorem But.two {p q : Addr} {H H' : Hp} (a : But p H H') : But2 p q H H':=fun c o n _ h=>a c o n h
theorem But2.of_same {p q : Addr} {H H' : Hp} (a : Same H H') : But2 p q H H':=fun c o _ _ h=>a c o h
theorem But2.at {p q : Addr} {H : Hp} {o : HO} : But2 p q H (upd H q o):=fun b u _ m e=>by rw [upd_ne m]; exact e
noncomputable def SpAt (H : Hp) (q : Addr) : Prop:=∃ k : Int,H q = some (.lst [.int k])
theorem SpAt.new {H : Hp} {q r : Addr} {o : HO} (h : SpAt H q) (n : H r = none) : SpAt (upd H r o) q:=let ⟨k,e⟩:=h; ⟨k,keepN e n⟩
theorem SpAt.ne {H : Hp} {p q : Addr} (h : SpAt H q) (B : BoxAt H p) : q ≠ p:=by
 obtain ⟨k,e⟩:=h
 refine opq fun Gq kq=>?_
 obtain ⟨a,b,_,_,_,hp⟩:=B.ob
 refine kq ?_
 exact ne_of e hp (by intro z; cases z)
theorem SpAt.but {H H' : Hp} {p q : Addr} (h : SpAt H q) (B : BoxAt H p) (k : But p H H') : SpAt H' q:=by
 have n:=h.ne B
 obtain ⟨z,e⟩:=h
 exact ⟨z,k _ _ n e⟩
theorem But2.tm {p q : Addr} {H H' : Hp} (k : But2 p q H H') (B : BoxAt H p) (s : SpAt H q) : TMono H H':=fun b xs e=>by
 refine opq fun Gq kq=>?_
 obtain ⟨a,c,_,_,_,hp⟩:=B.ob
 refine kq ?_
 obtain ⟨z,hs⟩:=s
 exact k b _ (ne_of e hp (by intro w; cases w)) (ne_of e hs (by intro w; cases w)) e
noncomputable def HdV (H : Hp) (c : Str × List Str) (v : V) : Prop:=∃ p t,v = .ref p ∧ H p = some (.tup [.str c.1,.ref t]) ∧ H t = some (.tup (c.2.map V.str))
noncomputable def HdsV (H : Hp) : List (Str × List Str) → List V → Prop
 | [],vs=>vs = []
 | c :: cs,vs=>∃ v r,vs = v :: r ∧ HdV H c v ∧ HdsV H cs r
theorem HdsV.mono {H H' : Hp} (k : TMono H H') : ∀ {cs : List (Str × List Str)} {vs : List V},HdsV H cs vs → HdsV H' cs vs
 | [],_,h=>h
 | _ :: _,_,⟨v,r,e,⟨p,t,e1,h1,h2⟩,h4⟩=>⟨v,r,e,⟨p,t,e1,k _ _ h1,k _ _ h2⟩,HdsV.mono k h4⟩
theorem HdsV.snoc {H : Hp} {c : Str × List Str} {v : V} (hv : HdV H c v) : ∀ {cs : List (Str × List Str)} {vs : List V},HdsV H cs vs → HdsV H (cs ++ [c]) (vs ++ [v])
 | [],_,h=>by have e : _ = []:=h; rw [e]; exact ⟨v,[],rfl,hv,rfl⟩
 | _ :: _,_,⟨u,r,e,h1,h4⟩=>⟨u,r ++ [v],by rw [e]; rfl,h1,HdsV.snoc hv h4⟩
theorem HdsV.len {H : Hp} : ∀ {cs : List (Str × List Str)} {vs : List V},HdsV H cs vs → vs.length = cs.length
 | [],_,h=>by have e : _ = []:=h; rw [e]; rfl
 | _ :: _,_,⟨u,r,e,h1,h4⟩=>by rw [e,List.length_cons,List.length_cons,HdsV.len h4]
theorem HdsV.at {H : Hp} : ∀ {cs : List (Str × List Str)} {vs : List V},HdsV H cs vs → ∀ (i : Nat) (v : V),vs[i]? = some v → ∃ c,cs[i]? = some c ∧ HdV H c v
 | [],_,h,i,v,hv=>by have e : _ = []:=h; rw [e] at hv; simp at hv
 | c :: _,_,⟨u,r,e,h1,h4⟩,0,v,hv=>by rw [e] at hv; cases hv; exact ⟨c,rfl,h1⟩
 | _ :: cs,_,⟨u,r,e,h1,h4⟩,i + 1,v,hv=>by rw [e] at hv; simpa using HdsV.at h4 i v (by simpa using hv)
theorem ref_at {H : Hp} {cs : List (Str × List Str)} {vs : List V} (h : HdsV H cs vs) {k : Int} (h0 : 0 ≤ k) (h1 : k < (vs.length : Int)) : ∃ v c,atI vs k = some v ∧ c ∈ cs ∧ HdV H c v:=by
 have hk : k.toNat < vs.length:=om14 h0 h1
 have ek : k = ((k.toNat : Nat) : Int):=om6 h0
 have e1 : vs[k.toNat]? = some vs[k.toNat]:=List.getElem?_eq_getElem hk
 have e : atI vs ((k.toNat : Nat) : Int) = some vs[k.toNat]:=atI_nat e1
 rw [← ek] at e
 obtain ⟨c,hc,hv⟩:=h.at _ _ e1
 exact ⟨_,c,e,List.mem_of_getElem? hc,hv⟩
noncomputable def Bd.fit (ys : List Str) (d : Nat) (b : Bd) : Prop:=b.Ok ys ∧ b.dep ≤ d
theorem fit_nil {ys : List Str} {d : Nat} : Bd.fit ys d .nil:=⟨trivial,Nat.zero_le _⟩
theorem fit_lf {ys : List Str} {d : Nat} {p : Addr} {l : Lf} (h : l.Ok ys) : Bd.fit ys d (.lf p l .nil):=⟨⟨h,trivial⟩,Nat.zero_le _⟩
theorem fit_app {ys : List Str} {d : Nat} {a b : Bd} (h : a.fit ys d) (k : b.fit ys d) : (a.app b).fit ys d:=⟨ok_app h.1 k.1,by rw [dep_app]; have:=h.2; have:=k.2; omega⟩
theorem fit_ite {ys : List Str} {d : Nat} {p t : Addr} {T : Tm} {a b : Bd} (hT : TmOk ys T) (h : a.fit ys d) (k : b.fit ys d) : Bd.fit ys (d + 1) (.ite p t T a b .nil):=⟨⟨hT,h.1,k.1,trivial⟩,by show max (max a.dep b.dep + 1) 0 ≤ d + 1; have:=h.2; have:=k.2; omega⟩
theorem fit_loop {ys : List Str} {d : Nat} {p t : Addr} {T : Tm} {a : Bd} (hT : TmOk ys T) (h : a.fit ys d) : Bd.fit ys (d + 1) (.loop p t T a .nil):=⟨⟨hT,h.1,trivial⟩,by show max (a.dep + 1) 0 ≤ d + 1; have:=h.2; exact om279 this⟩
noncomputable def szS : Nat → Nat
 | 0=>1
 | d + 1=>1 + 2 * (5 * szS d)
theorem szS_pos : ∀ d,1 ≤ szS d
 | 0=>Nat.le_refl 1
 | d + 1=>by show 1 ≤ 1 + _; exact om280
noncomputable def spSpot : Sp:=fun vs H Q _=>∃ (p g : Addr) (ys : List Str),vs = [.ref p,.ref g] ∧ BoxAt H p ∧ H g = some (.lst (ys.map V.str)) ∧ 1 ≤ ys.length ∧ ys.length ≤ 20 ∧ ∀ (r : Addr) (T : Tm) (H' : Hp),TmAt H' T r → TmOk ys T → BoxAt H' p → But p H H' → Q (.ref r) H'
structure Gen (H : Hp) (p g h sp : Addr) (ys : List Str) (hs : List (Str × List Str)) : Prop where
 B : BoxAt H p
 g : H g = some (.lst (ys.map V.str))
 y1 : 1 ≤ ys.length
 y2 : ys.length ≤ 20
 h : ∃ hv,H h = some (.lst hv) ∧ HdsV H hs hv
 h1 : 1 ≤ hs.length
 h2 : hs.length ≤ 20
 h3 : ∀ c ∈ hs,c.2.length ≤ 100
 s : SpAt H sp
theorem Gen.gsp {H : Hp} {p g h sp : Addr} {ys : List Str} {hs : List (Str × List Str)} (G : Gen H p g h sp ys hs) : g ≠ sp:=by
 obtain ⟨k,e⟩:=G.s
 refine ne_of G.g e fun z=>?_
 injection z with z
 have hy:=G.y1
 match ys,hy,z with
 | a :: r,_,z=>injection z with z1 _; cases z1
theorem Gen.hsp {H : Hp} {p g h sp : Addr} {ys : List Str} {hs : List (Str × List Str)} (G : Gen H p g h sp ys hs) : h ≠ sp ∧ h ≠ p:=by
 obtain ⟨k,e⟩:=G.s
 obtain ⟨hv,e1,e2⟩:=G.h
 refine opq fun Gq kq=>?_
 obtain ⟨a,b,_,_,_,hp⟩:=G.B.ob
 refine kq ?_
 have hl:=G.h1
 have : ∃ q r,hv = .ref q :: r:=by
  match hs,hl,e2 with
  | c :: cs,_,⟨v,r,e,⟨q,t,e3,_⟩,_⟩=>exact ⟨q,r,by rw [e,e3]⟩
 obtain ⟨q,r,rfl⟩:=this
 refine ⟨ne_of e1 e fun z=>?_,ne_of e1 hp fun z=>?_⟩
 ·injection z with z
  injection z with z1 _
  cases z1
 ·injection z with z
  injection z with z1 _
  cases z1
theorem Gen.but2 {H H' : Hp} {p g h sp : Addr} {ys : List Str} {hs : List (Str × List Str)} (G : Gen H p g h sp ys hs) (B : BoxAt H' p) (s : SpAt H' sp) (k : But2 p sp H H') : Gen H' p g h sp ys hs:=by
 obtain ⟨hv,e1,e2⟩:=G.h
 exact ⟨B,k _ _ (box_ne G.B G.g) G.gsp G.g,G.y1,G.y2,⟨hv,k _ _ G.hsp.2 G.hsp.1 e1,e2.mono (k.tm G.B G.s)⟩,G.h1,G.h2,G.h3,s⟩
theorem Gen.but {H H' : Hp} {p g h sp : Addr} {ys : List Str} {hs : List (Str × List Str)} (G : Gen H p g h sp ys hs) (B : BoxAt H' p) (k : But p H H') : Gen H' p g h sp ys hs:=G.but2 B (G.s.but G.B k) k.two
noncomputable def spStm (n : Nat) : Sp:=fun vs H Q _=>∃ (p g h sp : Addr) (d : Nat) (ys : List Str) (hs : List (Str × List Str)),vs = [.ref p,.ref g,.ref h,.ref sp,.int (d : Int)] ∧ Gen H p g h sp ys hs ∧ d < n ∧
 ∀ (r : Addr) (b : Bd) (H' : Hp),BdV H' b [.ref r] → b.size ≤ szS d → b.fit ys d → BoxAt H' p → SpAt H' sp → But2 p sp H H' → Q (.ref r) H'
noncomputable def spBody (n : Nat) : Sp:=fun vs H Q _=>∃ (p g h sp : Addr) (d : Nat) (ys : List Str) (hs : List (Str × List Str)),vs = [.ref p,.ref g,.ref h,.ref sp,.int (d : Int)] ∧ Gen H p g h sp ys hs ∧ d < n ∧
 ∀ (r : Addr) (b : Bd) (bs : List V) (H' : Hp),H' r = some (.tup bs) → BdV H' b bs → b.size ≤ 5 * szS d → b.fit ys d → BoxAt H' p → SpAt H' sp → But2 p sp H H' → Q (.ref r) H'
section
variable {P : Program} {w : World} {K : PySem.W.Frag} {mg : Str → Option Value} {base : Heap}
theorem scSpot : FnScope ["_law_box_here", "_law_names_here", "_law_kind"] ["_law_box_here", "_law_names_here"] (defScope sSpot):=⟨rfl,rfl,rfl,by decide +kernel,rfl,by decide +kernel,by decide +kernel⟩
theorem ok_spot {f  : Addr} {fd  : FuncData} (F : Fun K "_law_spot" "_law_spot" sSpot f fd) (GT : FnOk P w K mg base CX0 1 fT fdT ["_law_box_here", "_law_wide"] spTake) (bT : Binds K fdT ["_law_box_here", "_law_wide"] []) (kT : PySem.W.keepIn K (.ref fT) = true) (mT : mg "_law_take" = some (.ref fT)) (GM : FnOk P w K mg base CX0 6 fM fdM ["_law_box_here", "_law_names_here", "_law_deep"] (spTerm 4)) (bM : Binds K fdM ["_law_box_here", "_law_names_here", "_law_deep"] []) (kM : PySem.W.keepIn K (.ref fM) = true) (mM : mg "_law_term" = some (.ref fM)) : FnOk P w K mg base CX0 7 f fd ["_law_box_here", "_law_names_here"] spSpot:=by
 refine F.ok scSpot (fun vs H Q E h=>?_) (fun cdv A outer s H vs Q E hr h=>?_)
 ·refine opq fun Gq kq=>?_
  obtain ⟨p,g,ys,rfl,_⟩:=h
  refine kq ?_
  rfl
 refine opq fun Gq kq=>?_
 obtain ⟨p,g,ys,rfl,B,hg,hy1,hy2,q⟩:=h
 refine kq ?_
 refine ⟨_,(pss_cons (ps_set (i:=2) scSpot.nd rfl (Or.inl rfl) (pe_call GT (hr.mono (by decide)) rfl mT kT bT .nil pass0 (pa_cons (pv 0) (pa_cons pe_int pa_nil)))) (pss_cons (ps_if (@pt_cmpR _ _ _ _ _ _ _ _ op_lt (pv 2) pe_int (@nomark _ _ (by decide) (by decide))) (pss_one (ps_ret (pe_call GM hr rfl mM kM bM .nil pass0 (pa_cons (pv 0) (pa_cons (pv 1) (pa_cons pe_int pa_nil)))))) pss_nil) (pss_cons (ps_if (@pt_cmpR _ _ _ _ _ _ _ _ op_eq (pv 2) pe_int (@nomark _ _ (by decide) (by decide))) (pss_one (ps_ret (pe_tup (pa_cons pe_str (pa_cons (pe_op op_sub (pe_op op_sub (pe_op op_pow pe_int pe_int) pe_int) (pe_call GT (hr.mono (by decide)) rfl mT kT bT .nil pass0 (pa_cons (pv 0) (pa_cons pe_int pa_nil)))) pa_nil))))) pss_nil) (pss_one (ps_ret (pe_tup (pa_cons pe_str (pa_cons (pe_call GT (hr.mono (by decide)) rfl mT kT bT .nil pass0 (pa_cons (pv 0) (pa_cons pe_int pa_nil))) pa_nil)))))))),?_⟩
 try dsimp only [cxOf,Cx.nox,Cx.wish]
 have hgp : g ≠ p:=box_ne B hg
 refine ⟨_,rfl,p,8,rfl,B,by decide,by decide,fun kd H1 k0 k1 B1 e1=>?_⟩
 have hg1 : H1 g = some (.lst (ys.map V.str)):=by rw [e1 g hgp]; exact hg
 have K1 : But p H H1:=But.of_eq e1
 refine ⟨_,rfl,_,_,rfl,rfl,_,rfl,?_⟩
 refine ite2 (fun c=>?_) (fun c=>?_)
 ·exact ⟨_,rfl,_,rfl,p,g,1,ys,rfl,B1,hg1,hy1,hy2,by decide,by decide,fun r T H2 tT dT gT B2 k2=>q r T H2 tT ⟨gT,om75 dT⟩ B2 (K1.trans k2)⟩
 refine ⟨_,rfl,rfl,_,rfl,?_⟩
 refine ite2 (fun c=>?_) (fun c=>?_)
 ·refine ⟨_,_,rfl,rfl,⟨by decide,by decide,by decide⟩,_,_,rfl,rfl,_,rfl,p,4,rfl,B1,by decide,by decide,fun d2 H2 d20 d21 B2 e2=>⟨_,_,rfl,rfl,(by exact sz2),fun r nr=>?_⟩⟩
  exact q r (.num (1000000000000000000 - 1 - d2)) _ upd_same ⟨⟨om281 d21,om282 d20⟩,(by show 0 < 5; decide)⟩ (B2.upd_new nr) ((K1.trans (But.of_eq e2)).upd_new nr)
 ·refine ⟨_,rfl,p,12,rfl,B1,by decide,by decide,fun d2 H2 d20 d21 B2 e2=>⟨(by exact sz2),fun r nr=>?_⟩⟩
  exact q r (.num d2) _ upd_same ⟨⟨d20,om283 d21⟩,(by show 0 < 5; decide)⟩ (B2.upd_new nr) ((K1.trans (But.of_eq e2)).upd_new nr)
theorem scStm : FnScope ["_law_box_here", "_law_names_here", "_law_heads", "_law_spare", "_law_deep", "_law_kind", "_law_x", "_law_f", "_law_params", "_law_body_here"] ["_law_box_here", "_law_names_here", "_law_heads", "_law_spare", "_law_deep"] (defScope sStm):=⟨rfl,rfl,rfl,by decide +kernel,rfl,by decide +kernel,by decide +kernel⟩
noncomputable def scope_stm : Scope:={ kind:=.function,names:=[(".0",.local),("_law_one",.local),("_law_term",.globalImplicit),("_law_box_here",.free),("_law_names_here",.free)],isGenerator:=false,isCoroutine:=false }
theorem nd_stm : (["_law_one", "_law_box_here", "_law_names_here"] : List Str).Nodup:=by decide +kernel
theorem cs_stm : CompSc ["_law_box_here", "_law_names_here", "_law_heads", "_law_spare", "_law_deep", "_law_kind", "_law_x", "_law_f", "_law_params", "_law_body_here"] (defScope sStm) scope_stm ["_law_one", "_law_box_here", "_law_names_here"] 1 [0,1]:=⟨by decide +kernel,rfl,by decide +kernel,by decide +kernel,by decide +kernel,rfl,by decide +kernel⟩
noncomputable def RH (p g h sp : Addr) (d : Nat) (kd : Int) (y : Str) (H3 : Hp) (σ' : L2.St) (H' : Hp) : Prop:=σ' = [some (.ref p),some (.ref g),some (.ref h),some (.ref sp),some (.int (d : Int)),some (.int kd),some (.str y),none,none,none] ∧ H' = H3
theorem ok_stm {f  : Addr} {fd  : FuncData} (F : Fun K "_law_statement" "_law_statement" sStm f fd) (GT : FnOk P w K mg base CX0 1 fT fdT ["_law_box_here", "_law_wide"] spTake) (bT : Binds K fdT ["_law_box_here", "_law_wide"] []) (kT : PySem.W.keepIn K (.ref fT) = true) (mT : mg "_law_take" = some (.ref fT)) (GM : FnOk P w K mg base CX0 6 fM fdM ["_law_box_here", "_law_names_here", "_law_deep"] (spTerm 4)) (bM : Binds K fdM ["_law_box_here", "_law_names_here", "_law_deep"] []) (kM : PySem.W.keepIn K (.ref fM) = true) (mM : mg "_law_term" = some (.ref fM)) (GP : FnOk P w K mg base CX0 7 fP fdP ["_law_box_here", "_law_names_here"] spSpot) (bP : Binds K fdP ["_law_box_here", "_law_names_here"] []) (kP : PySem.W.keepIn K (.ref fP) = true) (mP : mg "_law_spot" = some (.ref fP)) {L n : Nat} (GB : FnOk P w K mg base CX0 (L + 9) fB fdB ["_law_box_here", "_law_names_here", "_law_heads", "_law_spare", "_law_deep"] (spBody n)) (bB : Binds K fdB ["_law_box_here", "_law_names_here", "_law_heads", "_law_spare", "_law_deep"] []) (kB : PySem.W.keepIn K (.ref fB) = true) (mB : mg "_law_body" = some (.ref fB)) (ml : mg "len" = none) (mtu : mg "tuple" = none) : FnOk P w K mg base CX0 (L + 10) f fd ["_law_box_here", "_law_names_here", "_law_heads", "_law_spare", "_law_deep"] (spStm (n + 1)):=by
 refine F.ok scStm (fun vs H Q E h=>?_) (fun cdv A outer s H vs Q E hr h=>?_)
 ·refine opq fun Gq kq=>?_
  obtain ⟨p,g,h,sp,d,ys,hs,rfl,_⟩:=h
  refine kq ?_
  rfl
 refine opq fun Gq kq=>?_
 obtain ⟨p,g,h,sp,d,ys,hs,rfl,G0,hd,q⟩:=h
 refine kq ?_
 refine ⟨_,(pss_cons (ps_set (i:=5) scStm.nd rfl (Or.inl rfl) (pe_call GT (hr.mono om16) rfl mT kT bT .nil pass0 (pa_cons (pv 0) (pa_cons pe_int pa_nil)))) (pss_cons (ps_set (i:=6) scStm.nd rfl (Or.inl rfl) (@pe_ix _ _ _ _ _ _ _ ix_list (pv 1) (pe_call GT (hr.mono om16) rfl mT kT bT .nil pass0 (pa_cons (pv 0) (pa_cons (@pe_callB _ _ _ _ _ _ _ _ _ call_len_seq rfl ml PySem.boot_len (pa_cons (pv 1) pa_nil) (by decide) (by decide) (by rfl) (by rfl)) pa_nil))) (fun _ _=>rfl))) (pss_cons (@ps_asg _ _ _ _ _ _ (pe_op op_sub (@pe_ix _ _ _ _ _ _ _ ix_list (pv 3) pe_int (fun _ _=>rfl)) pe_int) (@pg_sub _ _ _ _ _ _ _ (pv 3) pe_int set_list (by intro _; rfl)) (by rfl) (by rfl) (by rfl)) (pss_cons (ps_if (@pt_cmpR _ _ _ _ _ _ _ _ op_lt (pv 5) pe_int (@nomark _ _ (by decide) (by decide))) (pss_one (ps_ret (pe_tup (pa_cons pe_str (pa_cons (pv 6) (pa_cons (pe_call GP (hr.mono om76) rfl mP kP bP .nil pass0 (pa_cons (pv 0) (pa_cons (pv 1) pa_nil))) pa_nil)))))) pss_nil) (pss_cons (ps_if (@PW.pt _ _ _ (@pw_or _ _ _ _ _ _ _ (@pt_cmpR _ _ _ _ _ _ _ _ op_eq (pv 5) pe_int (@nomark _ _ (by decide) (by decide))) (@pw_or1 _ _ _ _ (@pt_cmpR _ _ _ _ _ _ _ _ op_eq (pv 5) pe_int (@nomark _ _ (by decide) (by decide)))))) (pss_one (ps_ret (pe_tup (pa_cons pe_str (pa_cons (pe_call GP (hr.mono om76) rfl mP kP bP .nil pass0 (pa_cons (pv 0) (pa_cons (pv 1) pa_nil))) (pa_cons (pe_call GM (hr.mono om4) rfl mM kM bM .nil pass0 (pa_cons (pv 0) (pa_cons (pv 1) (pa_cons pe_int pa_nil)))) pa_nil)))))) pss_nil) (pss_cons (ps_if (@PW.pt _ _ _ (@pw_or _ _ _ _ _ _ _ (@pt_cmpR _ _ _ _ _ _ _ _ op_eq (pv 5) pe_int (@nomark _ _ (by decide) (by decide))) (@pw_or1 _ _ _ _ (@pt_cmpR _ _ _ _ _ _ _ _ op_eq (pv 5) pe_int (@nomark _ _ (by decide) (by decide)))))) (pss_cons (@ps_asg _ _ _ _ _ _ (@pe_ix _ _ _ _ _ _ _ ix_list (pv 2) (pe_call GT (hr.mono om16) rfl mT kT bT .nil pass0 (pa_cons (pv 0) (pa_cons (@pe_callB _ _ _ _ _ _ _ _ _ call_len_seq rfl ml PySem.boot_len (pa_cons (pv 2) pa_nil) (by decide) (by decide) (by rfl) (by rfl)) pa_nil))) (fun _ _=>rfl)) (@pg_tup _ _ _ _ _ 2 rfl (pgs_cons (pg_name (i:=7) scStm.nd rfl (Or.inl rfl)) (pgs_cons (pg_name (i:=8) scStm.nd rfl (Or.inl rfl)) pgs_nil)) (by rfl) (by rfl)) (by rfl) (by rfl) (by rfl)) (pss_one (ps_ret (pe_tup (pa_cons pe_str (pa_cons (pv 6) (pa_cons (pv 7) (pa_cons (@pe_callTy _ _ _ _ _ _ _ _ _ call_tuple_of rfl mtu PyProof.Rows.boot_tuple (pa_cons (@pe_comp _ _ _ _ _ _ _ (["_law_one", "_law_box_here", "_law_names_here"]) (1) ([0,1]) _ _ _ _ rfl (@pi_tup _ _ _ _ (pv 8)) cs_stm (fun _ _ _ _ _=>(pg_name (i:=0) nd_stm rfl (Or.inl rfl))) (fun _ _ _ _ _=>(@pf_nil _)) (fun _ _ _ _ _=>(pe_call GM (hr.mono om4) rfl mM kM bM .nil pass0 (pa_cons (pv 1) (pa_cons (pv 2) (pa_cons pe_int pa_nil))))) (by intro _; rfl)) pa_nil) (by decide) (by decide) (by rfl) (by rfl)) pa_nil)))))))) pss_nil) (pss_cons (ps_mid (ps_if (@PW.pt _ _ _ (@pw_and _ _ _ _ _ _ _ (@pt_cmpR _ _ _ _ _ _ _ _ op_eq (pv 5) pe_int (@nomark _ _ (by decide) (by decide))) (@pw_and1 _ _ _ _ (@pt_cmpR _ _ _ _ _ _ _ _ op_gt (pv 4) pe_int (@nomark _ _ (by decide) (by decide)))))) (pss_cons (ps_set (i:=9) scStm.nd rfl (Or.inl rfl) (pe_call GB hr rfl mB kB bB .nil pass0 (pa_cons (pv 0) (pa_cons (pv 1) (pa_cons (pv 2) (pa_cons (pv 3) (pa_cons (pe_op op_sub (pv 4) pe_int) pa_nil))))))) (pss_one (ps_ret (pe_tup (pa_cons pe_str (pa_cons (pe_call GM (hr.mono om4) rfl mM kM bM .nil pass0 (pa_cons (pv 0) (pa_cons (pv 1) (pa_cons pe_int pa_nil)))) (pa_cons (pv 9) (pa_cons (pe_call GB hr rfl mB kB bB .nil pass0 (pa_cons (pv 0) (pa_cons (pv 1) (pa_cons (pv 2) (pa_cons (pv 3) (pa_cons (pe_op op_sub (pv 4) pe_int) pa_nil)))))) pa_nil)))))))) pss_nil)) (pss_cons (ps_mid (ps_if (@PW.pt _ _ _ (@pw_and _ _ _ _ _ _ _ (@pt_cmpR _ _ _ _ _ _ _ _ op_eq (pv 5) pe_int (@nomark _ _ (by decide) (by decide))) (@pw_and1 _ _ _ _ (@pt_cmpR _ _ _ _ _ _ _ _ op_gt (pv 4) pe_int (@nomark _ _ (by decide) (by decide)))))) (pss_one (ps_ret (pe_tup (pa_cons pe_str (pa_cons (pe_call GM (hr.mono om4) rfl mM kM bM .nil pass0 (pa_cons (pv 0) (pa_cons (pv 1) (pa_cons pe_int pa_nil)))) (pa_cons (pe_call GB hr rfl mB kB bB .nil pass0 (pa_cons (pv 0) (pa_cons (pv 1) (pa_cons (pv 2) (pa_cons (pv 3) (pa_cons (pe_op op_sub (pv 4) pe_int) pa_nil)))))) pa_nil)))))) pss_nil)) (pss_cons (ps_if (@pt_cmpR _ _ _ _ _ _ _ _ op_eq (pv 5) pe_int (@nomark _ _ (by decide) (by decide))) (pss_one (ps_ret (pe_tup (pa_cons pe_str (pa_cons (pe_call GM (hr.mono om4) rfl mM kM bM .nil pass0 (pa_cons (pv 0) (pa_cons (pv 1) (pa_cons pe_int pa_nil)))) pa_nil))))) pss_nil) (pss_one (ps_ret (pe_tup (pa_cons pe_str (pa_cons (pv 6) (pa_cons (pe_call GM (hr.mono om4) rfl mM kM bM .nil pass0 (pa_cons (pv 0) (pa_cons (pv 1) (pa_cons pe_int pa_nil)))) pa_nil))))))))))))))),?_⟩
 try dsimp only [cxOf,Cx.nox,Cx.wish]
 have big:=line24
 have B:=G0.B
 have hgp : g ≠ p:=box_ne B G0.g
 have spos:=szS_pos d
 refine seqF fun F1 f1=>⟨_,rfl,p,10,rfl,B,by decide,by decide,fun kd H1 k0 k1 B1 e1=>f1 _ _ ?_⟩
 clear f1
 have G1:=G0.but B1 (But.of_eq e1)
 have y1:=G0.y1
 have y2:=G0.y2
 refine seqF fun F1 f1=>⟨_,rfl,_,rfl,_,rfl,g,_,rfl,.inl (SqL.of G1.g),p,_,rfl,B1,by rw [List.length_map]; exact om60 y1,by rw [List.length_map]; exact om61 y2,fun d2 H2 d20 d21 B2 e2=>?_⟩
 rw [List.length_map] at d21
 have G2:=G1.but B2 (But.of_eq e2)
 obtain ⟨y,hy,hat⟩:=txt_at (ys:=ys) d20 d21
 refine ⟨g,_,_,_,rfl,rfl,SqL.of G2.g,hat,f1 _ _ ?_⟩
 clear f1
 obtain ⟨k,hk⟩:=G2.s
 refine seqF fun F1 f1=>⟨_,rfl,sp,_,_,_,rfl,rfl,SqL.of hk,rfl,_,_,rfl,rfl,_,rfl,sp,_,_,0,rfl,rfl,hk,rfl,f1 _ _ ?_⟩
 clear f1
 have spp:=G2.s.ne B2
 have B3 : BoxAt (upd H2 sp (.lst ([.int k].set 0 (.int (k - 1))))) p:=B2.eq (upd_ne (Ne.symm spp))
 have s3 : SpAt (upd H2 sp (.lst ([.int k].set 0 (.int (k - 1))))) sp:=⟨k - 1,upd_same⟩
 have K3 : But2 p sp H (upd H2 sp (.lst ([.int k].set 0 (.int (k - 1))))):=((But.of_eq e1).trans (But.of_eq e2)).two.trans But2.at
 have G3:=G0.but2 B3 s3 K3
 generalize upd H2 sp (.lst ([.int k].set 0 (.int (k - 1)))) = H3 at B3 s3 K3 G3
 have lfq : ∀ (l : Lf) (zs : List V) (H4 : Hp) (r : Addr),LfV H4 l zs → l.Ok ys → Gen H4 p g h sp ys hs → But2 p sp H H4 → H4 r = none → Q (.ref r) (upd H4 r (.tup zs)):=fun l zs H4 r hl ok G4 K4 nr =>
  q r (.lf r l .nil) _ ⟨zs,[],rfl,upd_same,hl.mono (Same.tm (same_upd nr)),rfl⟩ (by show 0 + 1 ≤ _; exact om284 spos) (fit_lf ok) (G4.B.upd_new nr) (G4.s.new nr) (K4.trans (But2.of_same (same_upd nr)))
 refine seqF fun F1 f1=>ifG fun G' g'=>⟨_,rfl,_,_,rfl,rfl,_,rfl,g' _ _ ?_⟩
 clear g'
 refine ite2 (fun c=>?_) (fun c=>f1 _ _ ?_)
 ·refine ⟨_,rfl,_,rfl,_,rfl,p,g,ys,rfl,G3.B,G3.g,y1,y2,fun r T H4 hT oT B4 k4=>⟨(by exact sz3),fun t nt=>?_⟩⟩
  exact lfq (.rd y r T) _ H4 t ⟨rfl,hT⟩ ⟨hy,oT⟩ (G3.but B4 k4) (K3.trans k4.two) nt
 have wr : ∀ (r : Addr) (T0 : Tm) (H4 : Hp),TmAt H4 T0 r → TmOk ys T0 → BoxAt H4 p → But p H3 H4 → tCall (spTerm 4) [] E0 (tCons (tVar 0) (tCons (tVar 1) (tCons (tC (.int 2)) tNil))) [some (.ref p),some (.ref g),some (.ref h),some (.ref sp),some (.int (d : Int)),some (.int kd),some (.str y),none,none,none] H4 (fun v H5=>3 ≤ sizeLine ∧ ∀ t,H5 t = none → Q (.ref t) (upd H5 t (.tup [.str "write",.ref r,v]))):=fun r T0 H4 hT0 oT0 B4 k4=>by
  refine ⟨_,rfl,_,rfl,p,g,2,ys,rfl,B4,(G3.but B4 k4).g,y1,y2,by decide,by decide,fun r2 T H5 hT dT gT B5 k5=>⟨(by decide),fun t nt=>?_⟩⟩
  exact lfq (.wr r r2 T0 T) _ H5 t ⟨rfl,hT0.but B4 k5,hT⟩ ⟨oT0,gT,om17 dT⟩ (G3.but B5 (k4.trans k5)) (K3.trans (k4.trans k5).two) nt
 refine seqF fun F1 f1=>ifG fun G' g'=>?_
 have yes : G' true H3:=g' _ _ (iteT ⟨_,rfl,_,rfl,p,g,ys,rfl,G3.B,G3.g,y1,y2,fun r T0 H4 hT0 oT0 B4 k4=>wr r T0 H4 hT0 oT0 B4 k4⟩)
 refine ⟨_,rfl,rfl,_,rfl,ite2 (fun c=>yes) (fun c=>⟨_,rfl,rfl,_,rfl,boolC yes fun c2=>g' _ _ (ifX c2 (f1 _ _ ?_))⟩)⟩
 clear yes g' f1
 obtain ⟨hv,hh,hH⟩:=G3.h
 have hl:=hH.len
 have h1:=G0.h1
 have h2:=G0.h2
 have cal : ∀ (f' : Str) (ps : List Str) (t : Addr) (H4 : Hp),Gen H4 p g h sp ys hs → But2 p sp H H4 → H4 t = some (.tup (ps.map V.str)) → ps.length ≤ 100 →
   CompR (Itt K t) 1 [some (.ref p),some (.ref g)] (gName 0) tAll (tCall (spTerm 4) [] E0 (tCons (tVar 1) (tCons (tVar 2) (tCons (tC (.int 1)) tNil)))) (fun zs H5=>∀ l,H5 l = none → ∃ p' ys',[V.ref l] = [.ref p'] ∧ ((SqL K (upd H5 l (.lst zs)) p' ys' ∧ ∀ l2,upd H5 l (.lst zs) l2 = none → 4 ≤ sizeLine ∧ ∀ r,upd (upd H5 l (.lst zs)) l2 (.tup ys') r = none → Q (.ref r) (upd (upd (upd H5 l (.lst zs)) l2 (.tup ys')) r (.tup [.str "call",.str y,.str f',.ref l2]))) ∨ (SqT K (upd H5 l (.lst zs)) p' ys' ∧ 4 ≤ sizeLine ∧ ∀ r,upd H5 l (.lst zs) r = none → Q (.ref r) (upd (upd H5 l (.lst zs)) r (.tup [.str "call",.str y,.str f',.ref p']))))) H4:=fun f' ps t H4 G4 K4 ht hpl=>by
  refine compR_tup (K:=K) (xs:=ps.map V.str) (by rw [List.length_map]; exact om77 big hpl) (fun i zs H5=>∃ ts : List (Addr × Tm),zs = ts.map (fun c=>V.ref c.1) ∧ ts.length = i ∧ (∀ c ∈ ts,TmAt H5 c.2 c.1 ∧ TmOk ys c.2) ∧ BoxAt H5 p ∧ But p H4 H5) ⟨[],rfl,rfl,(fun _ h=>absurd h List.not_mem_nil),G4.B,But.refl⟩ (fun i zs H5 h5=>?_) ?_ ?_
  ·obtain ⟨ts,rfl,e5,_,_,k5⟩:=h5
   exact ⟨SqT.of (k5.tm G4.B _ _ ht),by rw [List.length_map,e5]; exact Nat.le_refl _⟩
  ·intro i x zs H5 hx hq'
   refine opq fun Gq kq=>?_
   obtain ⟨ts,rfl,e5,h5,B5,k5⟩:=hq'
   refine kq ?_
   refine ⟨_,rfl,_,rfl,p,g,1,ys,rfl,B5,(G4.but B5 k5).g,y1,y2,by decide,by decide,fun r2 T H6 hT dT gT B6 k6=>⟨ts ++ [(r2,T)],by rw [List.map_append]; rfl,by rw [List.length_append,e5]; rfl,fun c hc=>?_,B6,k5.trans k6⟩⟩
   rcases List.mem_append.mp hc with hc | hc
   ·exact ⟨(h5 c hc).1.but B5 k6,(h5 c hc).2⟩
   ·rw [List.mem_singleton.mp hc]
    exact ⟨hT,gT,(by show T.depth < 5; exact om75 dT)⟩
  ·rintro zs H5 ⟨ts,rfl,e5,h5,B5,k5⟩ l nl
   refine ⟨l,_,rfl,.inl ⟨SqL.of upd_same,fun l2 nl2=>⟨(by decide),fun r nr=>?_⟩⟩⟩
   have G5:=G4.but B5 k5
   have s6 : Same H5 (upd (upd H5 l (.lst (ts.map fun c=>V.ref c.1))) l2 (.tup (ts.map fun c=>V.ref c.1))):=(same_upd nl).trans (same_upd nl2)
   rw [List.length_map] at e5
   exact lfq (.cl y f' l2 ts) _ _ r ⟨rfl,upd_same,fun c hc=>(h5 c hc).1.same s6⟩ ⟨hy,om285 hpl e5,fun c hc=>(h5 c hc).2⟩ (G5.but2 ((G5.B.upd_new nl).upd_new nl2) ((G5.s.new nl).new nl2) (But2.of_same s6)) ((K4.trans k5.two).trans (But2.of_same s6)) nr
 refine seqF fun F1 f1=>ifG fun G' g'=>?_
 have yes : G' true H3:=by
  refine g' _ _ (iteT ?_)
  clear f1 g'
  refine seqF fun F2 f2=>⟨_,rfl,_,rfl,_,rfl,h,_,rfl,.inl (SqL.of hh),p,_,rfl,G3.B,om286 hl h1,om287 hl h2,fun d4 H4 d40 d41 B4 e4=>?_⟩
  have G4:=G3.but B4 (But.of_eq e4)
  have k4 : But p H3 H4:=But.of_eq e4
  have hH4:=hH.mono (k4.tm G3.B)
  refine opq fun Gq kq=>?_
  obtain ⟨v,c0,hva,hc0,p4,t4,rfl,z1,z2⟩:=ref_at hH4 d40 d41
  refine kq ?_
  refine ⟨h,_,_,_,rfl,rfl,SqL.of (k4 _ _ G3.hsp.2 hh),hva,p4,_,rfl,SqT.of z1,rfl,_,_,rfl,_,_,rfl,rfl,f2 _ _ ?_⟩
  clear f2
  refine ⟨_,rfl,_,rfl,_,rfl,t4,rfl,⟨_,SqT.of z2⟩,?_⟩
  exact cal c0.1 c0.2 t4 H4 G4 (K3.trans k4.two) z2 (G0.h3 c0 hc0)
 refine ⟨_,rfl,rfl,_,rfl,ite2 (fun c=>yes) (fun c=>⟨_,rfl,rfl,_,rfl,boolC yes fun c2=>g' _ _ (ifX c2 (f1 _ _ ?_))⟩)⟩
 clear yes g' f1
 have low : ∀ (c : (0 : Int) < (d : Int)),∃ d' : Nat,d = d' + 1:=fun c=>⟨d - 1,om288 c⟩
 refine seqF fun F1 f1=>midE (RH p g h sp d kd y H3) (fun E6 eR f6=>?_) fun σ' H' z=>?_
 ·clear f1
  refine ifG fun G' g'=>⟨_,rfl,rfl,_,rfl,?_⟩
  refine ite2 (fun c=>?_) (fun c=>g' _ _ (iteF (f6 _ _ ⟨rfl,rfl⟩)))
  refine ⟨_,rfl,_,_,rfl,rfl,_,rfl,g' _ _ ?_⟩
  clear g'
  refine ite2 (fun c2=>?_) (fun c2=>f6 _ _ ⟨rfl,rfl⟩)
  clear f6
  obtain ⟨d',rfl⟩:=low (of_decide_eq_true c2)
  have ed : (((d' + 1 : Nat) : Int) - 1) = ((d' : Nat) : Int):=om78
  have es : szS (d' + 1) = 1 + 2 * (5 * szS d'):=rfl
  refine ⟨_,rfl,_,rfl,_,rfl,_,rfl,_,rfl,_,_,rfl,rfl,p,g,h,sp,d',ys,hs,(by show [V.ref p,V.ref g,V.ref h,V.ref sp,V.int (((d' + 1 : Nat) : Int) - 1)] = _; rw [ed]),G3,om33 hd,fun r b bs H4 hr4 hb4 hsz hdp B4 s4 k4=>?_⟩
  have G4:=G3.but2 B4 s4 k4
  refine ⟨_,rfl,_,rfl,p,g,2,ys,rfl,G4.B,G4.g,y1,y2,by decide,by decide,fun r2 T H5 hT dT gT B5 k5=>?_⟩
  have G5:=G4.but B5 k5
  refine ⟨_,rfl,_,rfl,_,rfl,_,rfl,_,rfl,_,rfl,_,_,rfl,rfl,p,g,h,sp,d',ys,hs,(by show [V.ref p,V.ref g,V.ref h,V.ref sp,V.int (((d' + 1 : Nat) : Int) - 1)] = _; rw [ed]),G5,om33 hd,fun r3 b3 bs3 H6 hr6 hb6 hsz6 hdp6 B6 s6 k6=>⟨(by exact sz4),fun t nt=>?_⟩⟩
  have G6:=G5.but2 B6 s6 k6
  have tm : TMono H4 H6:=fun b' xs e=>k6.tm G5.B G5.s _ _ (k5.tm G4.B _ _ e)
  have tmn : TMono H6 (upd H6 t (.tup [.str "if",.ref r2,.ref r,.ref r3])):=Same.tm (same_upd nt)
  rw [eR]
  refine q t (.ite t r2 T b b3 .nil) _ ⟨r,r3,bs,bs3,[],rfl,upd_same,(hT.mono (k6.tm G5.B G5.s)).mono tmn,tmn _ _ (tm _ _ hr4),tmn _ _ hr6,(hb4.mono tm).mono tmn,hb6.mono tmn,rfl⟩ (by rw [es]; show b.size + b3.size + 0 + 1 ≤ _; exact om289 hsz hsz6) (fit_ite ⟨gT,om17 dT⟩ hdp hdp6) (G6.B.upd_new nt) (G6.s.new nt) (((K3.trans k4).trans (k5.two.trans k6)).trans (But2.of_same (same_upd nt)))
 obtain ⟨rfl,e⟩:=z
 rw [e]
 refine f1 _ _ ?_
 clear f1
 refine seqF fun F1 f1=>midE (RH p g h sp d kd y H3) (fun E6 eR f6=>?_) fun σ' H' z=>?_
 ·clear f1
  refine ifG fun G' g'=>⟨_,rfl,rfl,_,rfl,?_⟩
  refine ite2 (fun c=>?_) (fun c=>g' _ _ (iteF (f6 _ _ ⟨rfl,rfl⟩)))
  refine ⟨_,rfl,_,_,rfl,rfl,_,rfl,g' _ _ ?_⟩
  clear g'
  refine ite2 (fun c2=>?_) (fun c2=>f6 _ _ ⟨rfl,rfl⟩)
  clear f6
  obtain ⟨d',rfl⟩:=low (of_decide_eq_true c2)
  have ed : (((d' + 1 : Nat) : Int) - 1) = ((d' : Nat) : Int):=om78
  have es : szS (d' + 1) = 1 + 2 * (5 * szS d'):=rfl
  refine ⟨_,rfl,_,rfl,p,g,2,ys,rfl,G3.B,G3.g,y1,y2,by decide,by decide,fun r2 T H5 hT dT gT B5 k5=>?_⟩
  have G5:=G3.but B5 k5
  refine ⟨_,rfl,_,rfl,_,rfl,_,rfl,_,rfl,_,_,rfl,rfl,p,g,h,sp,d',ys,hs,(by show [V.ref p,V.ref g,V.ref h,V.ref sp,V.int (((d' + 1 : Nat) : Int) - 1)] = _; rw [ed]),G5,om33 hd,fun r3 b3 bs3 H6 hr6 hb6 hsz6 hdp6 B6 s6 k6=>⟨(by exact sz3),fun t nt=>?_⟩⟩
  have G6:=G5.but2 B6 s6 k6
  have tmn : TMono H6 (upd H6 t (.tup [.str "while",.ref r2,.ref r3])):=Same.tm (same_upd nt)
  rw [eR]
  refine q t (.loop t r2 T b3 .nil) _ ⟨r3,bs3,[],rfl,upd_same,(hT.mono (k6.tm G5.B G5.s)).mono tmn,tmn _ _ hr6,hb6.mono tmn,rfl⟩ (by rw [es]; show b3.size + 0 + 1 ≤ _; exact om290 hsz6) (fit_loop ⟨gT,om17 dT⟩ hdp6) (G6.B.upd_new nt) (G6.s.new nt) ((K3.trans (k5.two.trans k6)).trans (But2.of_same (same_upd nt)))
 obtain ⟨rfl,e⟩:=z
 rw [e]
 refine f1 _ _ ?_
 clear f1
 refine seqF fun F1 f1=>ifG fun G' g'=>⟨_,rfl,rfl,_,rfl,g' _ _ ?_⟩
 clear g'
 refine ite2 (fun c=>?_) (fun c=>f1 _ _ ?_)
 ·refine ⟨_,rfl,_,rfl,p,g,2,ys,rfl,G3.B,G3.g,y1,y2,by decide,by decide,fun r2 T H5 hT dT gT B5 k5=>⟨(by exact sz2),fun t nt=>?_⟩⟩
  exact lfq (.gv r2 T) _ H5 t ⟨rfl,hT⟩ ⟨gT,om17 dT⟩ (G3.but B5 k5) (K3.trans k5.two) nt
 ·refine ⟨_,rfl,_,rfl,_,rfl,p,g,3,ys,rfl,G3.B,G3.g,y1,y2,by decide,by decide,fun r2 T H5 hT dT gT B5 k5=>⟨(by exact sz3),fun t nt=>?_⟩⟩
  exact lfq (.st y r2 T) _ H5 t ⟨rfl,hT⟩ ⟨hy,gT,om291 dT⟩ (G3.but B5 k5) (K3.trans k5.two) nt
theorem scBody : FnScope ["_law_box_here", "_law_names_here", "_law_heads", "_law_spare", "_law_deep", "_law_body_here", "_law_k"] ["_law_box_here", "_law_names_here", "_law_heads", "_law_spare", "_law_deep"] (defScope sBody):=⟨rfl,rfl,rfl,by decide +kernel,rfl,by decide +kernel,by decide +kernel⟩
theorem ok_body {f  : Addr} {fd  : FuncData} (F : Fun K "_law_body" "_law_body" sBody f fd) (GT : FnOk P w K mg base CX0 1 fT fdT ["_law_box_here", "_law_wide"] spTake) (bT : Binds K fdT ["_law_box_here", "_law_wide"] []) (kT : PySem.W.keepIn K (.ref fT) = true) (mT : mg "_law_take" = some (.ref fT)) {L n : Nat} (GS : FnOk P w K mg base CX0 (L + 8) fS fdS ["_law_box_here", "_law_names_here", "_law_heads", "_law_spare", "_law_deep"] (spStm n)) (bS : Binds K fdS ["_law_box_here", "_law_names_here", "_law_heads", "_law_spare", "_law_deep"] []) (kS : PySem.W.keepIn K (.ref fS) = true) (mS : mg "_law_statement" = some (.ref fS)) (mr : mg "range" = none) (mtu : mg "tuple" = none) : FnOk P w K mg base CX0 (L + 9) f fd ["_law_box_here", "_law_names_here", "_law_heads", "_law_spare", "_law_deep"] (spBody n):=by
 refine F.ok scBody (fun vs H Q E h=>?_) (fun cdv A outer s H vs Q E hr h=>?_)
 ·refine opq fun Gq kq=>?_
  obtain ⟨p,g,h,sp,d,ys,hs,rfl,_⟩:=h
  refine kq ?_
  rfl
 refine opq fun Gq kq=>?_
 obtain ⟨p,g,h,sp,d,ys,hs,rfl,G0,hd,q⟩:=h
 refine kq ?_
 refine ⟨_,(pss_cons (ps_set (i:=5) scBody.nd rfl (Or.inl rfl) (pe_lst pa_nil)) (pss_cons (@ps_for _ _ _ _ _ _ _ _ PassesOwn.never rfl (@pi_range1 _ _ _ _ _ _ rfl mr (pa_cons (pe_call GT (hr.mono om292) rfl mT kT bT .nil pass0 (pa_cons (pv 0) (pa_cons pe_int pa_nil))) pa_nil) (by rfl)) (pg_name (i:=6) scBody.nd rfl (Or.inl rfl)) (pss_one (ps_if (@pt_cmpR _ _ _ _ _ _ _ _ op_gt (@pe_ix _ _ _ _ _ _ _ ix_list (pv 3) pe_int (fun _ _=>rfl)) pe_int (@nomark _ _ (by decide) (by decide))) (pss_one (ps_expr (@pe_bm _ _ _ _ _ _ _ _ _ _ _ _ PySem.F.plainAttrs_list PySem.F.slot_list_append PySem.F.type_list_append mt_append (pv 5) (pa_cons (pe_call GS hr rfl mS kS bS .nil pass0 (pa_cons (pv 0) (pa_cons (pv 1) (pa_cons (pv 2) (pa_cons (pv 3) (pa_cons (pv 4) pa_nil)))))) pa_nil) (by rfl) (by rfl) (by rfl) (by rfl) (by rfl)))) pss_nil)) (by intro _; rfl)) (pss_one (ps_ret (@pe_callTy _ _ _ _ _ _ _ _ _ call_tuple_of rfl mtu PyProof.Rows.boot_tuple (pa_cons (pv 5) pa_nil) (by decide) (by decide) (by rfl) (by rfl)))))),?_⟩
 try dsimp only [cxOf,Cx.nox,Cx.wish]
 have big:=line24
 refine ⟨Nat.zero_le _,fun l nl=>?_⟩
 have s0 : Same H (upd H l (.lst [])):=same_upd nl
 have G1 : Gen (upd H l (.lst [])) p g h sp ys hs:=G0.but2 (G0.B.upd_new nl) (G0.s.new nl) (But2.of_same s0)
 have l1 : upd H l (.lst []) l = some (.lst []):=upd_same
 have lp : l ≠ p:=G0.B.ne nl
 have lsp : l ≠ sp:=fun e=>by obtain ⟨k,z⟩:=G0.s; rw [← e,nl] at z; cases z
 have k1 : But2 p sp H (upd H l (.lst [])):=But2.of_same s0
 generalize upd H l (.lst []) = H1 at G1 l1 k1
 refine ⟨_,rfl,p,6,rfl,G1.B,by decide,by decide,fun m H2 m0 m1 B2 e2=>⟨_,rfl,by omega,by omega,?_⟩⟩
 have G2:=G1.but B2 (But.of_eq e2)
 refine for_range (lo:=0) (fun i σ H'=>∃ (o6 : Option V) (vs : List V) (b : Bd),σ = [some (.ref p),some (.ref g),some (.ref h),some (.ref sp),some (.int (d : Int)),some (.ref l),o6] ∧ H' l = some (.lst vs) ∧ BdV H' b vs ∧ b.size ≤ i * szS d ∧ b.fit ys d ∧ vs.length ≤ i ∧ BoxAt H' p ∧ SpAt H' sp ∧ But2 p sp H H')
  ⟨none,[],.nil,rfl,by rw [e2 l lp]; exact l1,rfl,Nat.zero_le _,fit_nil,Nat.zero_le _,B2,G2.s,k1.trans (But.of_eq e2).two⟩ ?_ ?_
 ·intro i σ H3 hi hq'
  refine opq fun Gq kq=>?_
  obtain ⟨o6,vs,b,rfl,hl3,hb3,hz3,hd3,hvl,B3,s3,k3⟩:=hq'
  refine kq ?_
  have G3:=G0.but2 B3 s3 k3
  obtain ⟨kk,hkk⟩:=id s3
  refine ⟨_,rfl,sp,_,_,_,rfl,rfl,SqL.of hkk,rfl,_,_,rfl,rfl,_,rfl,?_⟩
  refine ite2 (fun c=>?_) (fun c=>?_)
  ·refine ⟨_,rfl,.inl ⟨rfl,_,SqL.of hl3⟩,_,rfl,_,rfl,_,rfl,_,rfl,_,rfl,p,g,h,sp,d,ys,hs,rfl,G3,hd,fun r b4 H4 hb4 hz4 hd4 B4 s4 k4=>?_⟩
   have hl4 : H4 l = some (.lst vs):=k4 _ _ lp lsp hl3
   refine ⟨l,_,_,rfl,rfl,hl4,om293 big m1 hi hvl,?_⟩
   have tm : TMono H4 (upd H4 l (.lst (vs ++ [.ref r]))):=fun b' xs e=>by rw [upd_ne (ne_of e hl4 (by intro z; cases z))]; exact e
   have tm34 : TMono H3 H4:=k4.tm B3 s3
   refine ⟨_,_,b.app b4,rfl,upd_same,(hb4.mono tm).app ((hb3.mono tm34).mono tm),?_,fit_app hd3 hd4,by rw [List.length_append]; show vs.length + 1 ≤ i + 1; exact om20 hvl,B4.eq (upd_ne (Ne.symm lp)),?_,fun b' o n1 n2 e=>?_⟩
   ·rw [size_app,Nat.succ_mul]
    exact om294 hz3 hz4
   ·obtain ⟨z,hz⟩:=s4
    exact ⟨z,by rw [upd_ne (Ne.symm lsp)]; exact hz⟩
   ·rw [upd_ne (ne_of_none e nl)]
    exact k4 _ _ n1 n2 (k3 _ _ n1 n2 e)
  ·exact ⟨_,vs,b,rfl,hl3,hb3,by rw [Nat.succ_mul]; exact om295 hz3,hd3,om46 hvl,B3,s3,k3⟩
 ·intro σ H3 hq'
  refine opq fun Gq kq=>?_
  obtain ⟨o6,vs,b,rfl,hl3,hb3,hz3,hd3,hvl,B3,s3,k3⟩:=hq'
  refine kq ?_
  refine ⟨_,rfl,l,vs,rfl,.inl ⟨SqL.of hl3,fun t nt=>?_⟩⟩
  have hm : (m).toNat ≤ 5:=om296 m1
  have hm2 : m.toNat * szS d ≤ 5 * szS d:=Nat.mul_le_mul_right _ hm
  refine q t b vs _ upd_same (hb3.mono (Same.tm (same_upd nt))) (by first | exact om297 hz3 hm2 | exact Nat.le_trans hz3 hm2) hd3 (B3.upd_new nt) (s3.new nt) (k3.trans (But2.of_same (same_upd nt)))
theorem no_stm {f : Addr} {fd : FuncData} : FnOk P w K mg base CX0 8 f fd ["_law_box_here", "_law_names_here", "_law_heads", "_law_spare", "_law_deep"] (spStm 0):=by
 have no : ∀ vs H Q E,¬ spStm 0 vs H Q E:=fun vs H Q E h=>by
  refine opq fun Gq kq=>?_
  obtain ⟨p,g,h,sp,d,ys,hs,_,_,h0,_⟩:=h
  refine kq ?_
  exact absurd h0 (Nat.not_lt_zero _)
 exact ⟨fun vs H Q E h=>absurd h (no vs H Q E),fun A outer s H args us vs Q E _ _ _ _ h=>absurd h (no vs H Q E)⟩
theorem stms {f fT fM fP fB : Addr} {fd fdT fdM fdP fdB : FuncData} (F : Fun K "_law_statement" "_law_statement" sStm f fd) (FB : Fun K "_law_body" "_law_body" sBody fB fdB) (GT : FnOk P w K mg base CX0 1 fT fdT ["_law_box_here", "_law_wide"] spTake) (bT : Binds K fdT ["_law_box_here", "_law_wide"] []) (kT : PySem.W.keepIn K (.ref fT) = true) (mT : mg "_law_take" = some (.ref fT)) (GM : FnOk P w K mg base CX0 6 fM fdM ["_law_box_here", "_law_names_here", "_law_deep"] (spTerm 4)) (bM : Binds K fdM ["_law_box_here", "_law_names_here", "_law_deep"] []) (kM : PySem.W.keepIn K (.ref fM) = true) (mM : mg "_law_term" = some (.ref fM)) (GP : FnOk P w K mg base CX0 7 fP fdP ["_law_box_here", "_law_names_here"] spSpot) (bP : Binds K fdP ["_law_box_here", "_law_names_here"] []) (kP : PySem.W.keepIn K (.ref fP) = true) (mP : mg "_law_spot" = some (.ref fP)) (bS : Binds K fd ["_law_box_here", "_law_names_here", "_law_heads", "_law_spare", "_law_deep"] []) (mS : mg "_law_statement" = some (.ref f)) (bB : Binds K fdB ["_law_box_here", "_law_names_here", "_law_heads", "_law_spare", "_law_deep"] []) (mB : mg "_law_body" = some (.ref fB)) (ml : mg "len" = none) (mtu : mg "tuple" = none) (mr : mg "range" = none) :
  ∀ n : Nat,FnOk P w K mg base CX0 (n + n + 8) f fd ["_law_box_here", "_law_names_here", "_law_heads", "_law_spare", "_law_deep"] (spStm n) ∧ FnOk P w K mg base CX0 (n + n + 9) fB fdB ["_law_box_here", "_law_names_here", "_law_heads", "_law_spare", "_law_deep"] (spBody n)
 | 0=>⟨no_stm,ok_body (L:=0) FB GT bT kT mT no_stm bS F.kp mS mr mtu⟩
 | n + 1=>by
  have ih:=stms F FB GT bT kT mT GM bM kM mM GP bP kP mP bS mS bB mB ml mtu mr n
  have e1 : n + n + 10 = n + 1 + (n + 1) + 8:=om298
  have e2 : n + n + 2 + 9 = n + 1 + (n + 1) + 9:=om299
  have h1:=ok_stm (L:=n + n) F GT bT kT mT GM bM kM mM GP bP kP mP ih.2 bB FB.kp mB ml mtu
  have h2:=ok_body (L:=n + n + 2) FB GT bT kT mT h1 bS F.kp mS mr mtu
  rw [← e1,← e2]
  exact ⟨h1,h2⟩
end
end K17
namespace K17
open PySem PySem.Spec PyProof.Rows L2
theorem cutN {xs : List V} {k : Nat} (h : k ≤ xs.length) : cutV xs none (some (k : Int)) = xs.take k:=by
 unfold cutV
 rw [HT.sIx_nat,HT.sIx_none]
 have e2 : min k xs.length = k:=om300 h
 rw [e2]
 simp
noncomputable abbrev sAny : Stmt:=top 27
theorem deep_at {d : Int} (h0 : 0 ≤ d) (h1 : d < 4) : ∃ dp : Nat,atI [V.int 3,.int 3,.int 3,.int 5] d = some (.int (dp : Int)) ∧ dp < 6 ∧ szS dp ≤ 111111 ∧ dp ≤ 5:=by
 rcases (om34 h0 h1 : d = 0 ∨ d = 1 ∨ d = 2 ∨ d = 3) with rfl | rfl | rfl | rfl
 ·exact ⟨3,rfl,by decide,by decide,by decide⟩
 ·exact ⟨3,rfl,by decide,by decide,by decide⟩
 ·exact ⟨3,rfl,by decide,by decide,by decide⟩
 ·exact ⟨5,rfl,by decide,by decide,by decide⟩
theorem cutS_mid {ys : List Str} {k : Int} (hl : ys.length = 20) (h0 : 14 ≤ k) (h1 : k ≤ 20) : 1 ≤ (cutS ys (some 8) (some k)).length ∧ (cutS ys (some 8) (some k)).length ≤ 20:=by
 refine ⟨?_,by have:=cutS_len ys (some 8) (some k); exact om301 hl this⟩
 have e8 : (8 : Int) = ((8 : Nat) : Int):=rfl
 have ek : k = ((k.toNat : Nat) : Int):=om302 h0
 unfold cutS
 rw [e8,ek,HT.sIx_nat,HT.sIx_nat,List.length_take,List.length_drop]
 exact om303 hl h0
theorem seqO {t u : TS} {D : Ends} {σ : L2.St} {H : Hp} (h : ∀ E : Ends,(∀ σ' H',u D σ' H' → E.nx σ' H') → t E σ H) : tSeq t u D σ H:=h { D with nx:=u D } fun _ _ h=>h
noncomputable def HdsOk (hs : List (Str × List Str)) : Prop:=∀ c ∈ hs,c.1.length ≤ 20 ∧ c.2.length ≤ 100
noncomputable def DfsOk (ds : List Df) : Prop:=∀ d ∈ ds,DfOk d
noncomputable def PaV (H : Hp) (ds : List Df) : Prop:=∀ d ∈ ds,∃ ps : List V,H d.pa = some (.tup ps) ∧ ps.length ≤ 100
theorem PaV.mono {H H' : Hp} {ds : List Df} (h : PaV H ds) (k : TMono H H') : PaV H' ds:=fun d hd=>let ⟨ps,e,l⟩:=h d hd; ⟨ps,k _ _ e,l⟩
theorem mem_snoc {α : Type} {P : α → Prop} {xs : List α} {x : α} (h : ∀ c ∈ xs,P c) (hx : P x) : ∀ c ∈ xs ++ [x],P c:=fun c hc=>by
 rcases List.mem_append.mp hc with h1 | h1
 ·exact h c h1
 ·rw [List.mem_singleton.mp h1]; exact hx
noncomputable def spAny : Sp:=fun vs H Q _=>∃ (p : Addr) (T rm : Int),vs = [.ref p,.int T,.int rm] ∧ BoxAt H p ∧ 1 ≤ T ∧ T ≤ 8 ∧
 ∀ (r : Addr) (ds : List Df) (xs : List V) (H' : Hp),H' r = some (.tup xs) → DfsV H' ds xs → (ds.length : Int) = T → DfsOk ds → PaV H' ds → BoxAt H' p → But p H H' → Q (.ref r) H'
section
variable {P : Program} {w : World} {K : PySem.W.Frag} {mg : Str → Option Value} {base : Heap}
theorem scAny : FnScope ["_law_box_here", "_law_total", "_law_room", "_law_words", "_law_most", "_law_heads", "_law_k", "_law_turn", "_law_row", "_law_some", "_law_deep", "_law_defs", "_law_f", "_law_params", "_law_spare", "_law_body_here"] ["_law_box_here", "_law_total", "_law_room"] (defScope sAny):=⟨rfl,rfl,rfl,by decide +kernel,rfl,by decide +kernel,by decide +kernel⟩
inductive AJ (p wl : Addr) (T rm : Int) (H : Hp) (σ' : L2.St) (H' : Hp) : Prop
 | mk (ys' : List Str) (e0 : σ' = [some (.ref p),some (.int T),some (.int rm),some (.ref wl),none,none,none,none,none,none,none,none,none,none,none,none]) (e1 : H' wl = some (.lst (ys'.map V.str))) (e2 : ys'.length = 20) (e3 : (∀ y ∈ ys',y.length ≤ 20)) (e4 : BoxAt H' p) (e5 : But p H H') : AJ p wl T rm H σ' H'
inductive AI (p wl hl : Addr) (T rm m : Int) (ys : List Str) (H : Hp) (i : Nat) (σ : L2.St) (H' : Hp) : Prop
 | mk (o6 o7 o8 : Option V) (hs : List (Str × List Str)) (hv : List V) (e0 : σ = [some (.ref p),some (.int T),some (.int rm),some (.ref wl),some (.int m),some (.ref hl),o6,o7,o8,none,none,none,none,none,none,none]) (e1 : H' hl = some (.lst hv)) (e2 : HdsV H' hs hv) (e3 : hs.length = i) (e4 : HdsOk hs) (e5 : H' wl = some (.lst (ys.map V.str))) (e6 : BoxAt H' p) (e7 : But p H H') : AI p wl hl T rm m ys H i σ H'
inductive AK (p wl hl sm dl : Addr) (T rm m : Int) (dp : Nat) (zs : List Str) (hs : List (Str × List Str)) (hv : List V) (H : Hp) (i : Nat) (σ : L2.St) (H' : Hp) : Prop
 | mk (o6 o7 o8 o12 o13 o14 o15 : Option V) (ds : List Df) (dv : List V) (e0 : σ = [some (.ref p),some (.int T),some (.int rm),some (.ref wl),some (.int m),some (.ref hl),o6,o7,o8,some (.ref sm),some (.int (dp : Int)),some (.ref dl),o12,o13,o14,o15]) (e1 : H' dl = some (.lst dv)) (e2 : DfsV H' ds dv) (e3 : ds.length = i) (e4 : DfsOk ds) (e5 : H' hl = some (.lst hv)) (e6 : HdsV H' hs hv) (e7 : H' sm = some (.lst (zs.map V.str))) (e8 : BoxAt H' p) (e9 : But p H H') (e10 : PaV H' ds) : AK p wl hl sm dl T rm m dp zs hs hv H i σ H'
inductive AL (zs : List Str) (p wl hl sm dl t0 sp : Addr) (T rm m : Int) (dp : Nat) (o7 o8 : Option V) (c : Str × List Str) (H9 : Hp) (j : Nat) (σ : L2.St) (H' : Hp) : Prop
 | mk (o6' : Option V) (bb : Addr) (Bb : Bd) (bs : List V) (e0 : σ = [some (.ref p),some (.int T),some (.int rm),some (.ref wl),some (.int m),some (.ref hl),o6',o7,o8,some (.ref sm),some (.int (dp : Int)),some (.ref dl),some (.str c.1),some (.ref t0),some (.ref sp),some (.ref bb)]) (e1 : H' bb = some (.tup bs)) (e2 : BdV H' Bb bs) (e3 : Bb.size ≤ j * 555555) (e4 : Bb.fit zs dp) (e5 : BoxAt H' p) (e6 : SpAt H' sp) (e7 : But2 p sp H9 H') : AL zs p wl hl sm dl t0 sp T rm m dp o7 o8 c H9 j σ H'
theorem ok_any {f  : Addr} {fd  : FuncData} (F : Fun K "_law_any" "_law_any" sAny f fd) (GT : FnOk P w K mg base CX0 1 fT fdT ["_law_box_here", "_law_wide"] spTake) (bT : Binds K fdT ["_law_box_here", "_law_wide"] []) (kT : PySem.W.keepIn K (.ref fT) = true) (mT : mg "_law_take" = some (.ref fT)) (GA : FnOk P w K mg base CX0 2 fA fdA ["_law_box_here", "_law_total"] spNames) (bA : Binds K fdA ["_law_box_here", "_law_total"] []) (kA : PySem.W.keepIn K (.ref fA) = true) (mA : mg "_law_names" = some (.ref fA)) (GB : FnOk P w K mg base CX0 21 fB fdB ["_law_box_here", "_law_names_here", "_law_heads", "_law_spare", "_law_deep"] (spBody 6)) (bB : Binds K fdB ["_law_box_here", "_law_names_here", "_law_heads", "_law_spare", "_law_deep"] []) (kB : PySem.W.keepIn K (.ref fB) = true) (mB : mg "_law_body" = some (.ref fB)) (ml : mg "len" = none) (mr : mg "range" = none) (mtu : mg "tuple" = none) (mi : mg "int" = none) : FnOk P w K mg base CX0 22 f fd ["_law_box_here", "_law_total", "_law_room"] spAny:=by
 refine F.ok scAny (fun vs H Q E h=>?_) (fun cdv A outer s H vs Q E hr h=>?_)
 ·refine opq fun Gq kq=>?_
  obtain ⟨p,T,rm,rfl,_⟩:=h
  refine kq ?_
  rfl
 refine opq fun Gq kq=>?_
 obtain ⟨p,T,rm,rfl,B,hT1,hT2,q⟩:=h
 refine kq ?_
 refine ⟨_,(pss_cons (ps_set (i:=3) scAny.nd rfl (Or.inl rfl) (pe_call GA (hr.mono (by decide)) rfl mA kA bA .nil pass0 (pa_cons (pv 0) (pa_cons pe_int pa_nil)))) (pss_cons (ps_mid (ps_if (@pt_cmpR _ _ _ _ _ _ _ _ op_eq (pe_call GT (hr.mono (by decide)) rfl mT kT bT .nil pass0 (pa_cons (pv 0) (pa_cons pe_int pa_nil))) pe_int (@nomark _ _ (by decide) (by decide))) (pss_one (@ps_asg _ _ _ _ _ _ (@pe_slice _ _ _ _ _ _ _ _ _ _ sl_list (pv 3) (@po_none _) (@po_some _ _ _ pe_int)) (@pg_slice _ _ _ _ _ _ _ _ _ (pv 3) pe_int pe_int (by intro _; rfl)) (by rfl) (by rfl) (by rfl))) pss_nil)) (pss_cons (ps_set (i:=4) scAny.nd rfl (Or.inl rfl) (@pe_ix _ _ _ _ _ _ _ ix_list (pe_lst (pa_cons pe_int (pa_cons pe_int pa_nil))) (@pe_callTy _ _ _ _ _ _ _ _ _ call_int1 rfl mi PyProof.Rows.boot_int (pa_cons (@pe_cmpR _ _ _ _ _ _ _ _ op_eq (pe_call GT (hr.mono (by decide)) rfl mT kT bT .nil pass0 (pa_cons (pv 0) (pa_cons pe_int pa_nil))) pe_int (@nomark _ _ (by decide) (by decide))) pa_nil) (by decide) (by decide) (by rfl) (by rfl)) (fun _ _=>rfl))) (pss_cons (ps_set (i:=5) scAny.nd rfl (Or.inl rfl) (pe_lst pa_nil)) (pss_cons (@ps_for _ _ _ _ _ _ _ _ PassesOwn.never rfl (@pi_range1 _ _ _ _ _ _ rfl mr (pa_cons (pv 1) pa_nil) (by rfl)) (pg_name (i:=6) scAny.nd rfl (Or.inl rfl)) (pss_cons (ps_set (i:=7) scAny.nd rfl (Or.inl rfl) (pe_op op_add pe_int (pe_call GT (hr.mono (by decide)) rfl mT kT bT .nil pass0 (pa_cons (pv 0) (pa_cons pe_int pa_nil))))) (pss_cons (ps_set (i:=8) scAny.nd rfl (Or.inl rfl) (pe_op op_cat (@pe_slice _ _ _ _ _ _ _ _ _ _ sl_list (pv 3) (@po_some _ _ _ (pv 7)) (@po_some _ _ _ pe_int)) (@pe_slice _ _ _ _ _ _ _ _ _ _ sl_list (pv 3) (@po_some _ _ _ pe_int) (@po_some _ _ _ (pv 7))))) (pss_one (ps_expr (@pe_bm _ _ _ _ _ _ _ _ _ _ _ _ PySem.F.plainAttrs_list PySem.F.slot_list_append PySem.F.type_list_append mt_append (pv 5) (pa_cons (pe_tup (pa_cons (@pe_ix _ _ _ _ _ _ _ ix_list (pv 3) (pv 6) (fun _ _=>rfl)) (pa_cons (@pe_callTy _ _ _ _ _ _ _ _ _ call_tuple_of rfl mtu PyProof.Rows.boot_tuple (pa_cons (@pe_slice _ _ _ _ _ _ _ _ _ _ sl_list (pv 8) (@po_none _) (@po_some _ _ _ (pe_call GT (hr.mono (by decide)) rfl mT kT bT .nil pass0 (pa_cons (pv 0) (pa_cons (pv 4) pa_nil))))) pa_nil) (by decide) (by decide) (by rfl) (by rfl)) pa_nil))) pa_nil) (by rfl) (by rfl) (by rfl) (by rfl) (by rfl)))))) (by intro _; rfl)) (pss_cons (ps_set (i:=9) scAny.nd rfl (Or.inl rfl) (@pe_slice _ _ _ _ _ _ _ _ _ _ sl_list (pv 3) (@po_some _ _ _ pe_int) (@po_some _ _ _ (pe_op op_add pe_int (pe_call GT (hr.mono (by decide)) rfl mT kT bT .nil pass0 (pa_cons (pv 0) (pa_cons pe_int pa_nil))))))) (pss_cons (ps_set (i:=10) scAny.nd rfl (Or.inl rfl) (@pe_ix _ _ _ _ _ _ _ ix_list (pe_lst (pa_cons pe_int (pa_cons pe_int (pa_cons pe_int (pa_cons pe_int pa_nil))))) (pe_call GT (hr.mono (by decide)) rfl mT kT bT .nil pass0 (pa_cons (pv 0) (pa_cons pe_int pa_nil))) (fun _ _=>rfl))) (pss_cons (ps_set (i:=11) scAny.nd rfl (Or.inl rfl) (pe_lst pa_nil)) (pss_cons (@ps_for _ _ _ _ _ _ _ _ PassesOwn.never rfl (@pi_list _ _ _ _ (pv 5)) (@pg_tup _ _ _ _ _ 2 rfl (pgs_cons (pg_name (i:=12) scAny.nd rfl (Or.inl rfl)) (pgs_cons (pg_name (i:=13) scAny.nd rfl (Or.inl rfl)) pgs_nil)) (by rfl) (by rfl)) (pss_cons (ps_set (i:=14) scAny.nd rfl (Or.inl rfl) (pe_lst (pa_cons (pv 2) pa_nil))) (pss_cons (ps_set (i:=15) scAny.nd rfl (Or.inl rfl) (pe_tup pa_nil)) (pss_cons (@ps_for _ _ _ _ _ _ _ _ PassesOwn.never rfl (@pi_range1 _ _ _ _ _ _ rfl mr (pa_cons pe_int pa_nil) (by rfl)) (pg_name (i:=6) scAny.nd rfl (Or.inl rfl)) (pss_one (ps_set (i:=15) scAny.nd rfl (Or.inl rfl) (pe_op op_catH (pv 15) (pe_call GB hr rfl mB kB bB .nil pass0 (pa_cons (pv 0) (pa_cons (pv 9) (pa_cons (pv 5) (pa_cons (pv 14) (pa_cons (pv 10) pa_nil))))))))) (by intro _; rfl)) (pss_one (ps_expr (@pe_bm _ _ _ _ _ _ _ _ _ _ _ _ PySem.F.plainAttrs_list PySem.F.slot_list_append PySem.F.type_list_append mt_append (pv 11) (pa_cons (pe_tup (pa_cons (pv 12) (pa_cons (pv 13) (pa_cons (pv 15) pa_nil)))) pa_nil) (by rfl) (by rfl) (by rfl) (by rfl) (by rfl))))))) (by intro _; rfl)) (pss_one (ps_ret (@pe_callTy _ _ _ _ _ _ _ _ _ call_tuple_of rfl mtu PyProof.Rows.boot_tuple (pa_cons (pv 11) pa_nil) (by decide) (by decide) (by rfl) (by rfl))))))))))))),?_⟩
 try dsimp only [cxOf,Cx.nox,Cx.wish]
 have big:=line24
 refine seqO fun E1 m1=>?_
 refine ⟨_,rfl,p,20,rfl,B,by decide,by decide,fun wl ys H1 nwl hw1 hyl hys B1 k1=>?_⟩
 refine m1 _ _ ?_
 refine seqO fun E2 m2=>?_
 have wp : wl ≠ p:=B.ne nwl
 refine midE (AJ p wl T rm H) (fun E0 _ fm=>?_) fun σ' H2 hq'=>?_
 ·clear m2
  refine ifG fun G' g'=>⟨_,rfl,p,2,rfl,B1,by decide,by decide,fun d1 H2 d10 d11 B2 e2=>?_⟩
  have hw2 : H2 wl = some (.lst (ys.map V.str)):=by rw [e2 wl wp]; exact hw1
  have k2:=k1.trans (But.of_eq e2)
  refine ⟨rfl,_,rfl,g' _ _ ?_⟩
  clear g'
  refine ite2 (fun c=>?_) (fun c=>fm _ _ ⟨ys,rfl,hw2,om304 hyl,hys,B2,k2⟩)
  refine ⟨_,rfl,_,rfl,wl,_,rfl,SqL.of hw2,fun sl nsl=>?_⟩
  have hwn : wl ≠ sl:=fun e=>by rw [← e,hw2] at nsl; cases nsl
  have hp2:=B2.ne nsl
  refine ⟨_,rfl,wl,sl,_,_,_,_,rfl,rfl,rfl,rfl,keepN hw2 nsl,upd_same,hwn,by decide,by decide,by rw [List.length_map]; exact om305 hyl,?_,?_⟩
  ·have:=cutV_length (ys.map V.str) none (some 2)
   rw [List.length_map] at this ⊢
   exact om306 big hyl this
  have e2 : cutV (ys.map V.str) none (some 2) = (ys.take 2).map V.str:=by
   rw [show (2 : Int) = ((2 : Nat) : Int) from rfl,cutN (by rw [List.length_map]; exact om307 hyl),List.map_take]
  refine fm _ _ ⟨ys.take 8 ++ ys.take 2 ++ ys.drop 10,rfl,?_,?_,?_,(B2.upd_new nsl).eq (upd_ne (Ne.symm wp)),?_⟩
  ·rw [upd_same,e2,List.map_append,List.map_append,List.map_take,List.map_drop,List.map_take]
   rfl
  ·rw [List.length_append,List.length_append,List.length_take,List.length_take,List.length_drop]
   exact om308 hyl
  ·intro y hy
   rcases List.mem_append.mp hy with h | h
   ·rcases List.mem_append.mp h with h | h
    ·exact hys y (List.mem_of_mem_take h)
    ·exact hys y (List.mem_of_mem_take h)
   ·exact hys y (List.mem_of_mem_drop h)
  ·exact (k2.upd_new nsl).upd_own nwl
 obtain ⟨ys,rfl,hw2,hyl,hys,B2,k2⟩:=hq'
 refine m2 _ _ ?_
 clear m1 m2
 refine seqO fun E3 m3=>?_
 refine ⟨(by exact sz2),fun l1 nl1=>?_⟩
 refine ⟨_,rfl,p,3,rfl,B2.upd_new nl1,by decide,by decide,fun d2 H3 d20 d21 B3 e3=>?_⟩
 have k3 : But p H2 H3:=((But.refl).upd_new nl1).trans (But.of_eq e3)
 have l1p:=B2.ne nl1
 have hl1 : H3 l1 = some (.lst [.int 4,.int 7]):=by rw [e3 l1 l1p]; exact upd_same
 refine ⟨rfl,.inr ⟨_,rfl,?_⟩⟩
 have hat : ∀ c : Bool,∃ m : Int,atI [V.int 4,V.int 7] (if c then 1 else 0) = some (.int m) ∧ 4 ≤ m ∧ m ≤ 7:=fun c=>by
  cases c
  ·exact ⟨4,rfl,by decide,by decide⟩
  ·exact ⟨7,rfl,by decide,by decide⟩
 obtain ⟨m,hm,m4,m7⟩:=hat _
 refine ⟨l1,_,_,_,rfl,rfl,SqL.of hl1,hm,?_⟩
 refine m3 _ _ ?_
 refine seqO fun E4 m4=>?_
 have hw3 : H3 wl = some (.lst (ys.map V.str)):=k3 _ _ wp hw2
 have k3':=k2.trans k3
 refine ⟨Nat.zero_le _,fun hl nhl=>?_⟩
 refine m4 _ _ ?_
 refine seqO fun E5 m5=>?_
 have hlp:=B3.ne nhl
 have nhl0 : H hl = none:=by
  cases z : H hl with
  | none=>rfl
  | some o=>have:=k3' _ _ hlp z; rw [nhl] at this; cases this
 have wh : wl ≠ hl:=fun e=>by rw [← e,hw3] at nhl; cases nhl
 refine forE fun J j=>⟨_,rfl,T,rfl,by omega,by omega,j _ _ ?_⟩
 clear j
 refine for_rangeE (lo:=0) (AI p wl hl T rm m ys H)
  ⟨none,none,none,[],[],rfl,upd_same,rfl,rfl,(fun c hc=>nomatch hc),keepN hw3 nhl,B3.upd_new nhl,k3'.upd_own nhl0⟩ ?_ ?_
 ·intro D' _ i σ H4 hi fin Gq kq hq'
  obtain ⟨o6,o7,o8,hs,hv,rfl,hh4,hd4,hsl,hok,hw4,B4,k4⟩:=hq'
  refine kq ?_
  clear kq m5 m3 m4
  show tSeq (tAsg _ _) _ D' _ _
  refine seqO fun F1 f1=>?_
  refine ⟨_,rfl,p,6,rfl,B4,by decide,by decide,fun d5 H5 d50 d51 B5 e5=>?_⟩
  have k5 : But p H4 H5:=But.of_eq e5
  have hw5:=k5 _ _ wp hw4
  have hh5:=k5 _ _ hlp hh4
  have hd5:=hd4.mono (k5.tm B4)
  refine ⟨_,_,rfl,rfl,?_⟩
  refine f1 _ _ ?_
  show tSeq (tAsg _ _) _ D' _ _
  refine seqO fun F2 f2=>?_
  refine ⟨_,rfl,_,rfl,_,rfl,_,rfl,wl,_,rfl,SqL.of hw5,fun s1 ns1=>?_⟩
  refine ⟨_,rfl,_,rfl,_,rfl,_,rfl,wl,_,rfl,SqL.of (keepN hw5 ns1),fun s2 ns2=>?_⟩
  have L1:=cutS_len ys (some (8 + d5)) (some 14)
  have L2':=cutS_len ys (some 8) (some (8 + d5))
  have L3:=cutV_length (ys.map V.str) (some (8 + d5)) (some 14)
  have L4:=cutV_length (ys.map V.str) (some 8) (some (8 + d5))
  rw [List.length_map] at L3 L4
  refine ⟨s1,s2,_,_,rfl,rfl,keepN upd_same ns2,upd_same,om309 big hyl L3 L4,fun rl nrl=>?_⟩
  refine f2 _ _ ?_
  have er : cutV (ys.map V.str) (some (8 + d5)) (some 14) ++ cutV (ys.map V.str) (some 8) (some (8 + d5)) = (cutS ys (some (8 + d5)) (some 14) ++ cutS ys (some 8) (some (8 + d5))).map V.str:=by
   rw [cut_strs,cut_strs,List.map_append]
  have s6 : Same H5 (upd (upd (upd H5 s1 (.lst (cutV (ys.map V.str) (some (8 + d5)) (some 14)))) s2 (.lst (cutV (ys.map V.str) (some 8) (some (8 + d5))))) rl (.lst (cutV (ys.map V.str) (some (8 + d5)) (some 14) ++ cutV (ys.map V.str) (some 8) (some (8 + d5))))):=((same_upd ns1).trans (same_upd ns2)).trans (same_upd nrl)
  have r6 : upd (upd (upd H5 s1 (.lst (cutV (ys.map V.str) (some (8 + d5)) (some 14)))) s2 (.lst (cutV (ys.map V.str) (some 8) (some (8 + d5))))) rl (.lst (cutV (ys.map V.str) (some (8 + d5)) (some 14) ++ cutV (ys.map V.str) (some 8) (some (8 + d5)))) rl = some (.lst ((cutS ys (some (8 + d5)) (some 14) ++ cutS ys (some 8) (some (8 + d5))).map V.str)):=by rw [upd_same,er]
  have B6 : BoxAt (upd (upd (upd H5 s1 (.lst (cutV (ys.map V.str) (some (8 + d5)) (some 14)))) s2 (.lst (cutV (ys.map V.str) (some 8) (some (8 + d5))))) rl (.lst (cutV (ys.map V.str) (some (8 + d5)) (some 14) ++ cutV (ys.map V.str) (some 8) (some (8 + d5))))) p:=((B5.upd_new ns1).upd_new ns2).upd_new nrl
  generalize upd (upd (upd H5 s1 (.lst (cutV (ys.map V.str) (some (8 + d5)) (some 14)))) s2 (.lst (cutV (ys.map V.str) (some 8) (some (8 + d5))))) rl (.lst (cutV (ys.map V.str) (some (8 + d5)) (some 14) ++ cutV (ys.map V.str) (some 8) (some (8 + d5)))) = H6 at s6 r6 B6
  have LR : (cutS ys (some (8 + d5)) (some 14) ++ cutS ys (some 8) (some (8 + d5))).length ≤ 40:=by rw [List.length_append]; exact om310 hyl L1 L2'
  generalize cutS ys (some (8 + d5)) (some 14) ++ cutS ys (some 8) (some (8 + d5)) = row at r6 LR
  have hw6:=s6 _ _ hw5
  have hh6:=s6 _ _ hh5
  have ei : (0 : Int) + (i : Int) = (i : Int):=Int.zero_add _
  rw [ei]
  obtain ⟨y,hy,hat⟩:=txt_at (ys:=ys) (k:=(i : Int)) om22 (om311 hT2 hyl hi)
  have rp : rl ≠ p:=box_ne B6 r6
  refine ⟨_,rfl,.inl ⟨rfl,_,SqL.of hh6⟩,_,rfl,_,rfl,wl,_,_,_,rfl,rfl,SqL.of hw6,hat,_,rfl,_,rfl,_,rfl,p,m,rfl,B6,om312 m4,om313 m7,fun d7 H7 d70 d71 B7 e7=>?_⟩
  have k7 : But p H6 H7:=But.of_eq e7
  refine ⟨_,rfl,rl,_,rfl,SqL.of (k7 _ _ rp r6),fun s3 ns3=>?_⟩
  refine ⟨s3,_,rfl,.inl ⟨SqL.of upd_same,fun t nt=>⟨(by exact sz2),fun r nr=>?_⟩⟩⟩
  rw [cut_strs] at nt nr ⊢
  have L8:=cutS_len row none (some d7)
  generalize cutS row none (some d7) = ps at *
  have s8 : Same H7 (upd (upd (upd H7 s3 (.lst (ps.map V.str))) t (.tup (ps.map V.str))) r (.tup [.str y,.ref t])):=((same_upd ns3).trans (same_upd nt)).trans (same_upd nr)
  have t8 : upd (upd (upd H7 s3 (.lst (ps.map V.str))) t (.tup (ps.map V.str))) r (.tup [.str y,.ref t]) t = some (.tup (ps.map V.str)):=keepN upd_same nr
  have r8 : upd (upd (upd H7 s3 (.lst (ps.map V.str))) t (.tup (ps.map V.str))) r (.tup [.str y,.ref t]) r = some (.tup [.str y,.ref t]):=upd_same
  have B8 : BoxAt (upd (upd (upd H7 s3 (.lst (ps.map V.str))) t (.tup (ps.map V.str))) r (.tup [.str y,.ref t])) p:=((B7.upd_new ns3).upd_new nt).upd_new nr
  generalize upd (upd (upd H7 s3 (.lst (ps.map V.str))) t (.tup (ps.map V.str))) r (.tup [.str y,.ref t]) = H8 at s8 t8 r8 B8
  have hh8:=s8 _ _ (k7 _ _ hlp hh6)
  have hw8:=s8 _ _ (k7 _ _ wp hw6)
  have hdl:=hd4.len
  refine ⟨hl,_,_,rfl,rfl,hh8,om314 hT2 big hi hsl hdl,?_⟩
  have tm : TMono H8 (upd H8 hl (.lst (hv ++ [.ref r]))):=fun b xs e=>by rw [upd_ne (ne_of e hh8 (by intro z; cases z))]; exact e
  have hd8:=((hd5.mono (Same.tm s6)).mono (k7.tm B6)).mono (Same.tm s8)
  refine fin _ _ ⟨_,_,_,hs ++ [(y,ps)],_,rfl,upd_same,(hd8.mono tm).snoc ⟨r,t,rfl,tm _ _ r8,tm _ _ t8⟩,by rw [List.length_append,hsl]; rfl,mem_snoc hok ⟨hys y hy,by show ps.length ≤ 100; exact om315 LR L8⟩,by rw [upd_ne wh]; exact hw8,B8.eq (upd_ne (Ne.symm hlp)),?_⟩
  refine But.upd_own (fun b o n e=>?_) nhl0
  exact s8 _ _ (k7 _ _ n (s6 _ _ (k5 _ _ n (k4 _ _ n e))))
 intro σ H4 hq'
 refine opq fun Gq kq=>?_
 obtain ⟨o6,o7,o8,hs,hv,rfl,hh4,hd4,hsl,hok,hw4,B4,k4⟩:=hq'
 refine kq ?_
 refine m5 _ _ ?_
 refine seqO fun E6 m6=>?_
 refine ⟨_,rfl,_,rfl,_,rfl,p,7,rfl,B4,by decide,by decide,fun d5 H5 d50 d51 B5 e5=>?_⟩
 have k5 : But p H4 H5:=But.of_eq e5
 have hw5:=k5 _ _ wp hw4
 have hh5:=k5 _ _ hlp hh4
 have hd5:=hd4.mono (k5.tm B4)
 refine ⟨_,_,rfl,rfl,_,rfl,wl,_,rfl,SqL.of hw5,fun sm nsm=>?_⟩
 refine m6 _ _ ?_
 refine seqO fun E7 m7=>?_
 obtain ⟨z1,z2⟩:=cutS_mid (ys:=ys) (k:=14 + d5) hyl (om316 d50) (om317 d51)
 have m6 : upd H5 sm (.lst (cutV (ys.map V.str) (some 8) (some (14 + d5)))) sm = some (.lst ((cutS ys (some 8) (some (14 + d5))).map V.str)):=by rw [upd_same,cut_strs]
 have k6 : But p H (upd H5 sm (.lst (cutV (ys.map V.str) (some 8) (some (14 + d5))))):=(k4.trans k5).upd_new nsm
 have hh6:=keepN (o:=.lst (cutV (ys.map V.str) (some 8) (some (14 + d5)))) hh5 nsm
 have hd6:=hd5.mono (Same.tm (same_upd (o:=.lst (cutV (ys.map V.str) (some 8) (some (14 + d5)))) nsm))
 have B6:=B5.upd_new (o:=.lst (cutV (ys.map V.str) (some 8) (some (14 + d5)))) nsm
 generalize upd H5 sm (.lst (cutV (ys.map V.str) (some 8) (some (14 + d5)))) = H6 at m6 k6 hh6 hd6 B6
 generalize cutS ys (some 8) (some (14 + d5)) = zs at m6 z1 z2
 have smp:=box_ne B6 m6
 refine ⟨(by exact sz4),fun l2 nl2=>?_⟩
 refine ⟨_,rfl,p,4,rfl,B6.upd_new nl2,by decide,by decide,fun d7 H7 d70 d71 B7 e7=>?_⟩
 have k7 : But p H6 H7:=((But.refl).upd_new nl2).trans (But.of_eq e7)
 have l2p:=B6.ne nl2
 have hl2 : H7 l2 = some (.lst [.int 3,.int 3,.int 3,.int 5]):=by rw [e7 l2 l2p]; exact upd_same
 refine opq fun Gq kq=>?_
 obtain ⟨dp,hdp,dp6,dps,dp5⟩:=deep_at d70 d71
 refine kq ?_
 refine ⟨l2,_,_,_,rfl,rfl,SqL.of hl2,hdp,?_⟩
 refine m7 _ _ ?_
 refine seqO fun E8 m8=>?_
 have m7:=k7 _ _ smp m6
 have hh7:=k7 _ _ hlp hh6
 have hd7:=hd6.mono (k7.tm B6)
 have k7':=k6.trans k7
 refine ⟨Nat.zero_le _,fun dl ndl=>?_⟩
 refine m8 _ _ ?_
 refine seqO fun E9 m9=>?_
 have dlp:=B7.ne ndl
 have ndl0 : H dl = none:=by
  cases z : H dl with
  | none=>rfl
  | some o=>have:=k7' _ _ dlp z; rw [ndl] at this; cases this
 have hhdl : hl ≠ dl:=fun e=>by rw [← e,hh7] at ndl; cases ndl
 have smdl : sm ≠ dl:=fun e=>by rw [← e,m7] at ndl; cases ndl
 have hvl:=hd4.len
 refine forE fun J j=>⟨_,rfl,hl,rfl,⟨_,SqL.of (keepN hh7 ndl)⟩,j _ _ ?_⟩
 clear j
 refine for_listE (K:=K) (a:=hl) (xs:=hv) (AK p wl hl sm dl T rm m dp zs hs hv H)
  ⟨_,_,_,_,_,_,_,[],[],rfl,upd_same,rfl,rfl,(fun c hc=>nomatch hc),keepN hh7 ndl,hd7.mono (Same.tm (same_upd ndl)),keepN m7 ndl,B7.upd_new ndl,k7'.upd_own ndl0,(fun c hc=>nomatch hc)⟩ ?_ ?_ ?_
 ·intro i σ H8 _ hq'
  refine opq fun Gq kq=>?_
  obtain ⟨o6,o7,o8,o12,o13,o14,o15,ds,dv,rfl,hdl,hD,hdl',hok',hh,hd,hm8,B8,k8,pa8⟩:=hq'
  refine kq ?_
  exact SqL.of hh
 ·intro D' _ i v σ H8 hx fin Gq kq hq'
  obtain ⟨o6,o7,o8,o12,o13,o14,o15,ds,dv,rfl,hdl,hD,hdl',hok',hh,hd,hm8,B8,k8,pa8⟩:=hq'
  have hil : i < hv.length:=(List.getElem?_eq_some_iff.mp hx).1
  obtain ⟨c,hc,q0,t0,rfl,w1,w2⟩:=hd.at i v hx
  refine kq ?_
  clear kq m9
  have hcm:=List.mem_of_getElem? hc
  have hcok:=hok c hcm
  refine tgE fun F6 f6=>⟨q0,_,rfl,SqT.of w1,rfl,_,_,rfl,_,_,rfl,rfl,f6 _ _ ?_⟩
  clear f6
  show tSeq (tAsg _ _) _ D' _ _
  refine seqO fun F1 f1=>?_
  refine ⟨_,rfl,(by exact sz1),fun sp nsp=>?_⟩
  refine f1 _ _ ?_
  show tSeq (tAsg _ _) _ D' _ _
  refine seqO fun F2 f2=>?_
  refine ⟨(by exact sz0),fun b0 nb0=>?_⟩
  refine f2 _ _ ?_
  show tSeq (tFor _ _ _) _ D' _ _
  refine seqO fun F3 f3=>?_
  have s9 : Same H8 (upd (upd H8 sp (.lst [.int rm])) b0 (.tup [])):=(same_upd nsp).trans (same_upd nb0)
  have sp9 : SpAt (upd (upd H8 sp (.lst [.int rm])) b0 (.tup [])) sp:=⟨rm,keepN upd_same nb0⟩
  have b9 : upd (upd H8 sp (.lst [.int rm])) b0 (.tup []) b0 = some (.tup []):=upd_same
  have B9 : BoxAt (upd (upd H8 sp (.lst [.int rm])) b0 (.tup [])) p:=(B8.upd_new nsp).upd_new nb0
  generalize upd (upd H8 sp (.lst [.int rm])) b0 (.tup []) = H9 at s9 sp9 b9 B9
  have nsp0 : H sp = none:=by
   cases z : H sp with
   | none=>rfl
   | some o=>have:=k8 _ _ (B8.ne nsp) z; rw [nsp] at this; cases this
  have dsp : dl ≠ sp:=fun e=>by rw [← e,hdl] at nsp; cases nsp
  have G9 : Gen H9 p sm hl sp zs hs:=⟨B9,s9 _ _ hm8,z1,z2,⟨hv,s9 _ _ hh,hd.mono (Same.tm s9)⟩,om318 hvl hil,om319 hT2 hsl,fun c hc=>(hok c hc).2,sp9⟩
  refine forE fun J j=>⟨_,rfl,by decide,by decide,j _ _ ?_⟩
  clear j
  refine for_rangeE (lo:=0) (AL zs p wl hl sm dl t0 sp T rm m dp o7 o8 c H9)
   ⟨_,b0,.nil,[],rfl,b9,rfl,Nat.zero_le _,fit_nil,B9,sp9,But2.refl⟩ ?_ ?_
  ·intro D'' _ j σ H10 hj fin2 Gq kq hq'
   obtain ⟨o6',bb,Bb,bs,rfl,hbb,hBb,hsz,hdep,B10,sp10,k10⟩:=hq'
   refine kq ?_
   clear kq f1 f2 f3
   have G10:=G9.but2 B10 sp10 k10
   refine ⟨_,rfl,_,rfl,_,rfl,_,rfl,_,rfl,_,rfl,p,sm,hl,sp,dp,zs,hs,rfl,G10,dp6,fun r b bs' H11 hr11 hb11 hsz11 hdp11 B11 s11 k11=>?_⟩
   have tm:=k11.tm B10 sp10
   have lb:=hBb.len
   have lb':=hb11.len
   have hj3 : j ≤ 2:=om320 hj
   have hj4 : j * 555555 ≤ 2 * 555555:=Nat.mul_le_mul_right _ hj3
   refine ⟨bb,r,_,_,rfl,rfl,tm _ _ hbb,hr11,om321 big dps hsz hsz11 lb lb' hj3,fun r2 H12 hr12 s12=>?_⟩
   have B12 : BoxAt H12 p:=by
    refine opq fun Gq kq=>?_
    obtain ⟨a,b,h1,h2,h3,h⟩:=B11.ob
    refine kq ?_
    exact ⟨a,b,h1,h2,h3,s12 _ _ h⟩
   have sp12 : SpAt H12 sp:=by
    obtain ⟨z,hz⟩:=s11
    exact ⟨z,s12 _ _ hz⟩
   refine fin2 _ _ ⟨_,r2,Bb.app b,_,rfl,hr12,(hb11.mono (Same.tm s12)).app ((hBb.mono tm).mono (Same.tm s12)),?_,fit_app hdep hdp11,B12,sp12,k10.trans (k11.trans (But2.of_same s12))⟩
   rw [size_app,Nat.succ_mul]
   exact om322 dps hsz hsz11
  ·intro σ H10 hq'
   refine opq fun Gq kq=>?_
   obtain ⟨o6',bb,Bb,bs,rfl,hbb,hBb,hsz,hdep,B10,sp10,k10⟩:=hq'
   refine kq ?_
   refine f3 _ _ ?_
   have hdl10 : H10 dl = some (.lst dv):=k10 _ _ dlp dsp (s9 _ _ hdl)
   have G10:=G9.but2 B10 sp10 k10
   have tm10 : TMono H8 H10:=fun b xs e=>k10.tm B9 sp9 _ _ (s9 _ _ e)
   refine ⟨_,rfl,.inl ⟨rfl,_,SqL.of hdl10⟩,_,rfl,_,rfl,_,rfl,(by exact sz3),fun r nr=>?_⟩
   have s11 : Same H10 (upd H10 r (.tup [.str c.1,.ref t0,.ref bb])):=same_upd nr
   have hdvl:=hD.len
   have hsz' : Bb.size ≤ 1666665:=Nat.le_trans hsz (by decide)
   refine ⟨dl,_,_,rfl,rfl,s11 _ _ hdl10,om323 hT2 big hsl hvl hdl' hil hdvl,?_⟩
   have hr11 : upd H10 r (.tup [.str c.1,.ref t0,.ref bb]) r = some (.tup [.str c.1,.ref t0,.ref bb]):=upd_same
   have B11:=B10.upd_new (o:=.tup [.str c.1,.ref t0,.ref bb]) nr
   generalize upd H10 r (.tup [.str c.1,.ref t0,.ref bb]) = H11 at s11 hr11 B11
   have tm : TMono H11 (upd H11 dl (.lst (dv ++ [.ref r]))):=fun b xs e=>by rw [upd_ne (ne_of e (s11 _ _ hdl10) (by intro z; cases z))]; exact e
   have tmA : TMono H10 (upd H11 dl (.lst (dv ++ [.ref r]))):=fun b xs e=>tm _ _ (s11 _ _ e)
   have tmB : TMono H8 (upd H11 dl (.lst (dv ++ [.ref r]))):=fun b xs e=>tmA _ _ (tm10 _ _ e)
   refine fin _ _ ⟨_,_,_,_,_,_,_,ds ++ [⟨c.1,r,t0,bb,Bb⟩],_,rfl,upd_same,(hD.mono tmB).snoc ⟨bs,rfl,tm _ _ hr11,tmA _ _ hbb,hBb.mono tmA⟩,by rw [List.length_append,hdl']; rfl,mem_snoc hok' ⟨⟨zs,z2,hdep.1⟩,Nat.lt_of_le_of_lt hdep.2 (om324 dp6),Nat.le_trans hsz' (by decide)⟩,?_,hd.mono tmB,?_,B11.eq (upd_ne (Ne.symm dlp)),?_,mem_snoc (pa8.mono tmB) ⟨_,tmB _ _ w2,by rw [List.length_map]; exact hcok.2⟩⟩
   ·obtain ⟨hv',e1,e2⟩:=G10.h
    rw [upd_ne hhdl]
    exact s11 _ _ (k10 _ _ G9.hsp.2 G9.hsp.1 (s9 _ _ hh))
   ·rw [upd_ne smdl]
    exact s11 _ _ G10.g
   ·refine But.upd_own (fun b o n e=>?_) ndl0
    exact s11 _ _ (k10 _ _ n (ne_of_none e nsp0) (s9 _ _ (k8 _ _ n e)))
 ·intro σ H8 hq'
  refine opq fun Gq kq=>?_
  obtain ⟨o6,o7,o8,o12,o13,o14,o15,ds,dv,rfl,hdl,hD,hdl',hok',hh,hd,hm8,B8,k8,pa8⟩:=hq'
  refine kq ?_
  refine m9 _ _ ?_
  refine ⟨_,rfl,dl,dv,rfl,.inl ⟨SqL.of hdl,fun t nt=>?_⟩⟩
  exact q t ds dv _ upd_same (hD.mono (Same.tm (same_upd nt))) (om325 hT1 hsl hvl hdl') hok' (pa8.mono (Same.tm (same_upd nt))) (B8.upd_new nt) (k8.upd_new nt)
end
end K17
namespace K17
open PySem PySem.Spec PyProof.Rows L2
theorem sz0 : 0 ≤ sizeLine:=by decide
theorem sz1 : 1 ≤ sizeLine:=by decide
theorem sz2 : 2 ≤ sizeLine:=by decide
theorem sz3 : 3 ≤ sizeLine:=by decide
theorem sz4 : 4 ≤ sizeLine:=by decide
theorem TMono.trans {H H1 H2 : Hp} (a : TMono H H1) (b : TMono H1 H2) : TMono H H2:=fun c xs e=>b c xs (a c xs e)
theorem TMono.refl {H : Hp} : TMono H H:=fun _ _ e=>e
noncomputable def TmX (H : Hp) (ys : List Str) (k : Nat) (a : Addr) : Prop:=∃ T,TmAt H T a ∧ T.Good ys ∧ T.depth ≤ k
theorem TmX.mono {H H' : Hp} {ys : List Str} {k : Nat} {a : Addr} (h : TmX H ys k a) (m : TMono H H') : TmX H' ys k a:=let ⟨T,h1,h2⟩:=h; ⟨T,h1.mono m,h2⟩
theorem TmX.ok {H : Hp} {ys : List Str} {k : Nat} {a : Addr} (h : TmX H ys k a) (m : k < 5) : ∃ T,TmAt H T a ∧ TmOk ys T:=let ⟨T,h1,h2,h3⟩:=h; ⟨T,h1,h2,Nat.lt_of_le_of_lt h3 m⟩
section
variable {H : Hp} {ys : List Str}
theorem tx_num {a : Addr} {n : Int} (h : H a = some (.tup [.str "num",.int n])) (h0 : 0 ≤ n) (h1 : n < 1000000000000000000) : TmX H ys 0 a:=⟨.num n,h,⟨h0,h1⟩,Nat.zero_le _⟩
theorem tx_var {a : Addr} {x : Str} (h : H a = some (.tup [.str "var",.str x])) (hx : x ∈ ys) : TmX H ys 0 a:=⟨.var x,h,hx,Nat.zero_le _⟩
noncomputable def Sg (s : Str) : Prop:=∃ i,i < 6 ∧ s = sgn i
theorem tx_op {a b c : Addr} {s : Str} {j k n : Nat} (h : H a = some (.tup [.str "op",.str s,.ref b,.ref c])) (hs : Sg s) (hb : TmX H ys j b) (hc : TmX H ys k c) (hj : j < n) (hk : k < n) : TmX H ys n a:=by
 obtain ⟨i,hi,rfl⟩:=hs
 obtain ⟨B,b1,b2,b3⟩:=hb
 obtain ⟨C,c1,c2,c3⟩:=hc
 exact ⟨.op i B C,⟨b,c,h,b1,c1⟩,⟨hi,b2,c2⟩,by show max B.depth C.depth + 1 ≤ n; exact om326 hj hk b3 c3⟩
theorem sg_plus : Sg "+":=⟨0,by decide,by decide +kernel⟩
theorem sg_minus : Sg "-":=⟨1,by decide,by decide +kernel⟩
theorem sg_times : Sg "*":=⟨2,by decide,by decide +kernel⟩
theorem sg_over : Sg "/":=⟨3,by decide,by decide +kernel⟩
theorem sg_less : Sg "<":=⟨4,by decide,by decide +kernel⟩
theorem sg_eq : Sg "=":=⟨5,by decide,by decide +kernel⟩
theorem pick_sg {d : Int} (h0 : 0 ≤ d) (h1 : d < 4) : ∃ s,atI [V.str "+",.str "+",.str "*",.str "-"] d = some (.str s) ∧ Sg s:=by
 rcases (om34 h0 h1 : d = 0 ∨ d = 1 ∨ d = 2 ∨ d = 3) with rfl | rfl | rfl | rfl
 ·exact ⟨_,rfl,sg_plus⟩
 ·exact ⟨_,rfl,sg_plus⟩
 ·exact ⟨_,rfl,sg_times⟩
 ·exact ⟨_,rfl,sg_minus⟩
theorem pick_s3 {d : Int} (h0 : 0 ≤ d) (h1 : d < 3) : ∃ c,atI (Str.cps "<=*").toList d = some c ∧ Sg ⟨#[c]⟩:=by
 rcases (om35 h0 h1 : d = 0 ∨ d = 1 ∨ d = 2) with rfl | rfl | rfl
 ·exact ⟨_,rfl,sg_less⟩
 ·exact ⟨_,rfl,sg_eq⟩
 ·exact ⟨_,rfl,sg_times⟩
theorem pick2 {P : Addr → Prop} {a b : Addr} {d : Int} (h0 : 0 ≤ d) (h1 : d < 2) (ha : P a) (hb : P b) : ∃ x,atI [V.ref a,.ref b] d = some (.ref x) ∧ P x:=by
 rcases (om79 h0 h1 : d = 0 ∨ d = 1) with rfl | rfl
 ·exact ⟨_,rfl,ha⟩
 ·exact ⟨_,rfl,hb⟩
theorem pick3 {P : Addr → Prop} {a b c : Addr} {d : Int} (h0 : 0 ≤ d) (h1 : d < 3) (ha : P a) (hb : P b) (hc : P c) : ∃ x,atI [V.ref a,.ref b,.ref c] d = some (.ref x) ∧ P x:=by
 rcases (om35 h0 h1 : d = 0 ∨ d = 1 ∨ d = 2) with rfl | rfl | rfl
 ·exact ⟨_,rfl,ha⟩
 ·exact ⟨_,rfl,hb⟩
 ·exact ⟨_,rfl,hc⟩
theorem pick3s {a b c : Str} {d : Int} (h0 : 0 ≤ d) (h1 : d < 3) : ∃ x,atI [V.str a,.str b,.str c] d = some (.str x):=by
 rcases (om35 h0 h1 : d = 0 ∨ d = 1 ∨ d = 2) with rfl | rfl | rfl
 ·exact ⟨_,rfl⟩
 ·exact ⟨_,rfl⟩
 ·exact ⟨_,rfl⟩
theorem pickB {P : Addr → Prop} {a b : Addr} (ha : P a) (hb : P b) (c : Bool) : ∃ x,atI [V.ref a,.ref b] (if c then 1 else 0) = some (.ref x) ∧ P x:=by
 cases c
 ·exact ⟨_,rfl,ha⟩
 ·exact ⟨_,rfl,hb⟩
noncomputable def StX (H : Hp) (ys : List Str) (d : Nat) (v : V) : Prop:=∃ s,StV H v s ∧ s.Ok ys ∧ s.dep ≤ d ∧ s.size ≤ 1 + 20 * d
noncomputable def BdX (H : Hp) (ys : List Str) (d : Nat) (xs : List V) : Prop:=∃ b,BdV H b xs ∧ b.Ok ys ∧ b.dep ≤ d ∧ b.size ≤ (1 + 20 * d) * xs.length
theorem StX.mono {H' : Hp} {d : Nat} {v : V} (h : StX H ys d v) (m : TMono H H') : StX H' ys d v:=let ⟨s,h1,h2⟩:=h; ⟨s,h1.mono m,h2⟩
theorem BdX.mono {H' : Hp} {d : Nat} {xs : List V} (h : BdX H ys d xs) (m : TMono H H') : BdX H' ys d xs:=let ⟨s,h1,h2⟩:=h; ⟨s,h1.mono m,h2⟩
theorem StX.up {v : V} {d : Nat} (h : StX H ys 0 v) : StX H ys d v:=let ⟨s,h1,h2,h3,h4⟩:=h; ⟨s,h1,h2,om327 h3,om328 h4⟩
theorem bx_nil {d : Nat} : BdX H ys d []:=⟨.nil,rfl,trivial,Nat.zero_le _,Nat.zero_le _⟩
theorem bx_app {d : Nat} {xs zs : List V} (h : BdX H ys d xs) (g : BdX H ys d zs) : BdX H ys d (xs ++ zs):=by
 obtain ⟨a,a1,a2,a3,a4⟩:=h
 obtain ⟨b,b1,b2,b3,b4⟩:=g
 refine ⟨a.app b,b1.app a1,ok_app a2 b2,by rw [dep_app]; exact om80 a3 b3,?_⟩
 rw [size_app,List.length_append,Nat.mul_add]
 exact om329 a4 b4
theorem bx_one {d : Nat} {v : V} (h : StX H ys d v) : BdX H ys d [v]:=by
 obtain ⟨s,h1,h2,h3,h4⟩:=h
 exact ⟨s,h1.bd,h2,h3,by show s.size ≤ (1 + 20 * d) * 1; exact om330 h4⟩
theorem bx_cons {d : Nat} {v : V} {xs : List V} (h : StX H ys d v) (g : BdX H ys d xs) : BdX H ys d (v :: xs):=bx_app (xs:=[v]) (bx_one h) g
theorem sx_lf {p : Addr} {l : Lf} {vs : List V} (h1 : H p = some (.tup vs)) (h2 : LfV H l vs) (h3 : l.Ok ys) : StX H ys 0 (.ref p):=⟨.lf p l .nil,.lf p l vs h1 h2,⟨h3,trivial⟩,Nat.le_refl 0,Nat.le_refl 1⟩
theorem sx_rd {p t : Addr} {x : Str} {k : Nat} (h : H p = some (.tup [.str "read",.str x,.ref t])) (hx : x ∈ ys) (ht : TmX H ys k t) (hk : k < 5:=by decide) : StX H ys 0 (.ref p):=by
 obtain ⟨T,t1,t2⟩:=ht.ok hk
 exact sx_lf (l:=.rd x t T) h ⟨rfl,t1⟩ ⟨hx,t2⟩
theorem sx_st {p t : Addr} {x : Str} {k : Nat} (h : H p = some (.tup [.str "set",.str x,.ref t])) (hx : x ∈ ys) (ht : TmX H ys k t) (hk : k < 5:=by decide) : StX H ys 0 (.ref p):=by
 obtain ⟨T,t1,t2⟩:=ht.ok hk
 exact sx_lf (l:=.st x t T) h ⟨rfl,t1⟩ ⟨hx,t2⟩
theorem sx_gv {p t : Addr} {k : Nat} (h : H p = some (.tup [.str "give",.ref t])) (ht : TmX H ys k t) (hk : k < 5:=by decide) : StX H ys 0 (.ref p):=by
 obtain ⟨T,t1,t2⟩:=ht.ok hk
 exact sx_lf (l:=.gv t T) h ⟨rfl,t1⟩ t2
theorem sx_wr {p t u : Addr} {k j : Nat} (h : H p = some (.tup [.str "write",.ref t,.ref u])) (ht : TmX H ys k t) (hu : TmX H ys j u) (hk : k < 5:=by decide) (hj : j < 5:=by decide) : StX H ys 0 (.ref p):=by
 obtain ⟨T,t1,t2⟩:=ht.ok hk
 obtain ⟨U,u1,u2⟩:=hu.ok hj
 exact sx_lf (l:=.wr t u T U) h ⟨rfl,t1,u1⟩ ⟨t2,u2⟩
theorem sx_cl {p q t u : Addr} {x f : Str} {k j : Nat} (h : H p = some (.tup [.str "call",.str x,.str f,.ref q])) (hx : x ∈ ys) (hq : H q = some (.tup [.ref t,.ref u])) (ht : TmX H ys k t) (hu : TmX H ys j u) (hk : k < 5:=by decide) (hj : j < 5:=by decide) : StX H ys 0 (.ref p):=by
 obtain ⟨T,t1,t2⟩:=ht.ok hk
 obtain ⟨U,u1,u2⟩:=hu.ok hj
 refine sx_lf (l:=.cl x f q [(t,T),(u,U)]) h ⟨rfl,hq,fun c hc=>?_⟩ ⟨hx,(by show 2 ≤ 100; decide),fun c hc=>?_⟩
 ·rcases List.mem_cons.mp hc with rfl | hc
  ·exact t1
  ·rw [List.mem_singleton.mp hc]; exact u1
 ·rcases List.mem_cons.mp hc with rfl | hc
  ·exact t2
  ·rw [List.mem_singleton.mp hc]; exact u2
theorem sx_if {p t qa qb : Addr} {as bs : List V} {k : Nat} (h : H p = some (.tup [.str "if",.ref t,.ref qa,.ref qb])) (ht : TmX H ys k t) (ha : H qa = some (.tup as)) (hb : H qb = some (.tup bs)) (ga : BdX H ys 0 as) (gb : BdX H ys 0 bs) (hl : as.length + bs.length ≤ 20) (hk : k < 5:=by decide) : StX H ys 1 (.ref p):=by
 obtain ⟨T,t1,t2⟩:=ht.ok hk
 obtain ⟨a,a1,a2,a3,a4⟩:=ga
 obtain ⟨b,b1,b2,b3,b4⟩:=gb
 exact ⟨.ite p t T a b .nil,.ite p t T a b qa qb as bs h t1 ha hb a1 b1,⟨t2,a2,b2,trivial⟩,(by show max (max a.dep b.dep + 1) 0 ≤ 1; exact om331 a3 b3),(by show a.size + b.size + 0 + 1 ≤ 21; exact om332 hl a4 b4)⟩
theorem sx_while {p t qa : Addr} {as : List V} {k : Nat} (h : H p = some (.tup [.str "while",.ref t,.ref qa])) (ht : TmX H ys k t) (ha : H qa = some (.tup as)) (ga : BdX H ys 0 as) (hl : as.length ≤ 20) (hk : k < 5:=by decide) : StX H ys 1 (.ref p):=by
 obtain ⟨T,t1,t2⟩:=ht.ok hk
 obtain ⟨a,a1,a2,a3,a4⟩:=ga
 exact ⟨.loop p t T a .nil,.loop p t T a qa as h t1 ha a1,⟨t2,a2,trivial⟩,(by show max (a.dep + 1) 0 ≤ 1; exact om333 a3),(by show a.size + 0 + 1 ≤ 21; exact om334 hl a4)⟩
noncomputable def DfX (H : Hp) (r : Addr) : Prop:=∃ d : Df,DfV H d (.ref r) ∧ DfOk d ∧ ∃ ps : List V,H d.pa = some (.tup ps) ∧ ps.length ≤ 100
theorem DfX.mono {H' : Hp} {r : Addr} (h : DfX H r) (m : TMono H H') : DfX H' r:=let ⟨d,h1,h2,ps,h3,h4⟩:=h; ⟨d,h1.mono m,h2,ps,m _ _ h3,h4⟩
theorem dx_mk {r a b : Addr} {f : Str} {ps xs : List V} (h : H r = some (.tup [.str f,.ref a,.ref b])) (ha : H a = some (.tup ps)) (hp : ps.length ≤ 100) (hb : H b = some (.tup xs)) (g : BdX H ys 1 xs) (hx : xs.length ≤ 100) (hy : ys.length ≤ 20) : DfX H r:=by
 obtain ⟨c,c1,c2,c3,c4⟩:=g
 exact ⟨⟨f,r,a,b,c⟩,⟨xs,rfl,h,hb,c1⟩,⟨⟨ys,hy,c2⟩,(by show c.dep < 8; exact om335 c3),(by show c.size ≤ 5000000; exact om336 hx c4)⟩,ps,ha,hp⟩
structure Wd (H0 H : Hp) (p wl : Addr) (ys : List Str) : Prop where
 B : BoxAt H p
 K : But p H0 H
 w : H wl = some (.lst (ys.map V.str))
theorem Wd.np {H0 : Hp} {p wl : Addr} (h : Wd H0 H p wl ys) : wl ≠ p:=box_ne h.B h.w
theorem Wd.same {H0 H' : Hp} {p wl : Addr} (h : Wd H0 H p wl ys) (s : Same H H') : Wd H0 H' p wl ys:=⟨h.B.same s,h.K.trans (But.of_same s),s _ _ h.w⟩
theorem Wd.but {H0 H' : Hp} {p wl : Addr} (h : Wd H0 H p wl ys) (B : BoxAt H' p) (k : But p H H') : Wd H0 H' p wl ys:=⟨B,h.K.trans k,k _ _ h.np h.w⟩
theorem Wd.own {H0 : Hp} {p wl l : Addr} {xs zs : List V} (h : Wd H0 H p wl ys) (n : H0 l = none) (lp : l ≠ p) (lw : l ≠ wl) : Wd H0 (upd H l (.lst zs)) p wl ys:=⟨h.B.eq (upd_ne (Ne.symm lp)),h.K.upd_own n,by rw [upd_ne (Ne.symm lw)]; exact h.w⟩
theorem tm_own {l : Addr} {xs zs : List V} (hl : H l = some (.lst xs)) : TMono H (upd H l (.lst zs)):=fun b us e=>by rw [upd_ne (ne_of e hl (by intro z; cases z))]; exact e
end
noncomputable def spOp : Sp:=fun vs H Q _=>∃ (p a b : Addr) (ys : List Str) (k : Nat),vs = [.ref p,.ref a,.ref b] ∧ BoxAt H p ∧ TmX H ys k a ∧ TmX H ys k b ∧ ∀ (r : Addr) (H' : Hp),TmX H' ys (k + 1) r → BoxAt H' p → But p H H' → Q (.ref r) H'
noncomputable def spDefn : Sp:=fun vs H Q _=>∃ (p wl : Addr) (f g : Str) (ys : List Str),vs = [.ref p,.str f,.str g,.ref wl] ∧ BoxAt H p ∧ H wl = some (.lst (ys.map V.str)) ∧ ys.length = 6 ∧ ∀ (r : Addr) (H' : Hp),DfX H' r → BoxAt H' p → But p H H' → Q (.ref r) H'
noncomputable abbrev sOp : Stmt:=top 28
noncomputable abbrev sInner : Stmt:=top 29
noncomputable abbrev sLooped : Stmt:=top 30
noncomputable abbrev sTicking : Stmt:=top 31
noncomputable abbrev sBusy : Stmt:=top 32
theorem len5 {as : List V} (h : as.length = 5) : ∃ a b c d e,as = [a,b,c,d,e]:=by
 match as,h with
 | [a,b,c,d,e],_=>exact ⟨a,b,c,d,e,rfl⟩
theorem ix0 {n : Nat} : ixN (n + 1) 0 = some 0:=by unfold ixN; rw [if_pos (by decide),if_pos om337]; rfl
theorem ix1 {n : Nat} : ixN (n + 2) 1 = some 1:=by unfold ixN; rw [if_pos (by decide),if_pos om338]; rfl
theorem at1 {v u : V} {ys : List V} : atI (v :: u :: ys) 1 = some u:=atI_nat (j:=1) rfl
structure Fw (p : Addr) (H H' : Hp) : Prop where
 t : TMono H H'
 b : But p H H'
theorem Fw.refl {p : Addr} {H : Hp} : Fw p H H:=⟨TMono.refl,But.refl⟩
theorem Fw.trans {p : Addr} {H H1 H2 : Hp} (a : Fw p H H1) (b : Fw p H1 H2) : Fw p H H2:=⟨a.t.trans b.t,a.b.trans b.b⟩
theorem Fw.new {p r : Addr} {H : Hp} {o : HO} (n : H r = none) : Fw p H (upd H r o):=⟨Same.tm (same_upd n),But.of_same (same_upd n)⟩
theorem Fw.same {p : Addr} {H H' : Hp} (s : Same H H') : Fw p H H':=⟨Same.tm s,But.of_same s⟩
theorem Fw.but {p : Addr} {H H' : Hp} (B : BoxAt H p) (c : But p H H') : Fw p H H':=⟨c.tm B,c⟩
noncomputable def Mon (P : Hp → V → Prop) : Prop:=∀ H H' v,TMono H H' → P H v → P H' v
noncomputable def Ev (H0 : Hp) (p wl : Addr) (ys : List Str) (Hb : Hp) (σ : L2.St) (te : TE) (P : Hp → V → Prop) : Prop:=∀ (H : Hp) (Q : VK),Fw p Hb H → Wd H0 H p wl ys → (∀ v H',P H' v → Wd H0 H' p wl ys → Fw p H H' → Q v H') → te σ H Q
noncomputable def PT (ys : List Str) (k : Nat) (H : Hp) (v : V) : Prop:=∃ a,v = .ref a ∧ TmX H ys k a
noncomputable def PB (ys : List Str) (d n : Nat) (H : Hp) (v : V) : Prop:=∃ a xs,v = .ref a ∧ H a = some (.tup xs) ∧ BdX H ys d xs ∧ xs.length ≤ n
noncomputable def PN (ys : List Str) (_ : Hp) (v : V) : Prop:=∃ x,v = .str x ∧ x ∈ ys
noncomputable def PI (_ : Hp) (v : V) : Prop:=∃ x,v = .str x
noncomputable def PG (_ : Hp) (v : V) : Prop:=∃ s,v = .str s ∧ Sg s
noncomputable def PP (H : Hp) (v : V) : Prop:=∃ a xs,v = .ref a ∧ H a = some (.tup xs) ∧ xs.length ≤ 100
noncomputable def PD (H : Hp) (v : V) : Prop:=∃ a,v = .ref a ∧ DfX H a
section
variable {ys : List Str} {H0 Hb : Hp} {p wl : Addr} {σ : L2.St}
theorem monT {k : Nat} : Mon (PT ys k):=fun _ _ _ m ⟨a,e,h⟩=>⟨a,e,h.mono m⟩
theorem monB {d n : Nat} : Mon (PB ys d n):=fun _ _ _ m ⟨a,xs,e,h1,h2,h3⟩=>⟨a,xs,e,m _ _ h1,h2.mono m,h3⟩
theorem monS {d : Nat} : Mon fun H v=>StX H ys d v:=fun _ _ _ m h=>h.mono m
theorem monD : Mon PD:=fun _ _ _ m ⟨a,e,h1⟩=>⟨a,e,h1.mono m⟩
theorem Ev.up {te : TE} {P R : Hp → V → Prop} (h : Ev H0 p wl ys Hb σ te P) (k : ∀ H v,P H v → R H v) : Ev H0 p wl ys Hb σ te R:=fun H Q m W q=>h H Q m W fun v H' x=>q v H' (k _ _ x)
theorem ev_v {P : Hp → V → Prop} {i : Nat} {v : V} (e : σ[i]? = some (some v)) (M : Mon P) (h : P Hb v) : Ev H0 p wl ys Hb σ (tVar i) P:=fun H Q m W q=>⟨v,e,q v H (M _ _ _ m.t h) W .refl⟩
theorem ev_i {i : Nat} {x : Str} (e : σ[i]? = some (some (.str x))) : Ev H0 p wl ys Hb σ (tVar i) PI:=ev_v e (fun _ _ _ _ h=>h) ⟨x,rfl⟩
theorem ev_sg {s : Str} (h : Sg s) : Ev H0 p wl ys Hb σ (tC (.str s)) PG:=fun H Q m W q=>q _ H ⟨s,rfl,h⟩ W .refl
theorem ev_n {K : PySem.W.Frag} {i : Int} {j : Nat} (e : σ[j]? = some (some (.ref wl))) (h0 : 0 ≤ i) (h1 : i < (ys.length : Int)) : Ev H0 p wl ys Hb σ (tOp (rIxL K) (tVar j) (tC (.int i))) (PN ys):=fun H Q m W q=>by
 obtain ⟨y,hy,hat⟩:=txt_at (ys:=ys) h0 h1
 exact ⟨_,e,wl,_,_,_,rfl,rfl,SqL.of W.w,hat,q _ H ⟨y,rfl,hy⟩ W .refl⟩
theorem PN.i {H : Hp} {v : V} (h : PN ys H v) : PI H v:=let ⟨x,e,_⟩:=h; ⟨x,e⟩
theorem ev_new {H : Hp} {r : Addr} {o : HO} {Q : VK} {P : Hp → V → Prop} (W : Wd H0 H p wl ys) (q : ∀ v H',P H' v → Wd H0 H' p wl ys → Fw p H H' → Q v H') (n : H r = none) (x : TMono H (upd H r o) → upd H r o r = some o → P (upd H r o) (.ref r)) : Q (.ref r) (upd H r o) :=
 q _ _ (x (Same.tm (same_upd n)) upd_same) (W.same (same_upd n)) (.new n)
noncomputable abbrev tTk (n : Int) : TE:=tCall spTake [] E0 (tCons (tVar 0) (tCons (tC (.int n)) tNil))
noncomputable def PK (n : Int) (_ : Hp) (v : V) : Prop:=∃ d : Int,v = .int d ∧ 0 ≤ d ∧ d < n
theorem ev_tk {n : Int} (e : σ[0]? = some (some (.ref p))) (h1 : 1 ≤ n) (h2 : n ≤ 1000) : Ev H0 p wl ys Hb σ (tTk n) (PK n):=fun H Q m W q =>
 ⟨_,e,p,n,rfl,W.B,om55 h1,om339 h2,fun d H1 d0 d1 B1 e1=>q _ _ ⟨d,rfl,d0,d1⟩ (W.but B1 (But.of_eq e1)) (.but W.B (But.of_eq e1))⟩
theorem ev_nm {te : TE} {n : Int} (h : Ev H0 p wl ys Hb σ te (PK n)) (h1 : n ≤ 1000000000000000000) : Ev H0 p wl ys Hb σ (tTup (tCons (tC (.str "num")) (tCons te tNil))) (PT ys 0):=fun H Q m W q =>
 h H _ m W fun v H1 ⟨d,e,d0,d1⟩ W1 k1=>⟨sz2,fun r nr=>ev_new (P:=PT ys 0) W1 (fun v' H' x W' k=>q v' H' x W' (k1.trans k)) nr fun _ z=>⟨r,rfl,tx_num (by rw [z,e]) d0 (om340 h1 d1)⟩⟩
theorem ev_c {n m : Int} (h0 : 0 ≤ n) (h1 : n < m) : Ev H0 p wl ys Hb σ (tC (.int n)) (PK m):=fun H Q _ W q=>q _ H ⟨n,rfl,h0,h1⟩ W .refl
theorem ev_add {te : TE} {n m : Int} (h : Ev H0 p wl ys Hb σ te (PK n)) (h0 : 0 ≤ m) : Ev H0 p wl ys Hb σ (tOp (rI0 fun i j=>V.int (i + j)) (tC (.int m)) te) (PK (m + n)):=fun H Q mm W q =>
 h H _ mm W fun v H1 ⟨d,e,d0,d1⟩ W1 k1=>⟨m,d,rfl,e,q _ H1 ⟨m + d,rfl,om341 h0 d0,om342 d1⟩ W1 k1⟩
theorem ev_vr {te : TE} (h : Ev H0 p wl ys Hb σ te (PN ys)) : Ev H0 p wl ys Hb σ (tTup (tCons (tC (.str "var")) (tCons te tNil))) (PT ys 0):=fun H Q m W q =>
 h H _ m W fun v H1 ⟨d,e,hd⟩ W1 k1=>⟨sz2,fun r nr=>ev_new (P:=PT ys 0) W1 (fun v' H' x W' k=>q v' H' x W' (k1.trans k)) nr fun _ z=>⟨r,rfl,tx_var (by rw [z,e]) hd⟩⟩
theorem ev_op {ts ta tb : TE} {j k n : Nat} (hs : Ev H0 p wl ys Hb σ ts PG) (ha : Ev H0 p wl ys Hb σ ta (PT ys j)) (hb : Ev H0 p wl ys Hb σ tb (PT ys k)) (h1 : j < n) (h2 : k < n) : Ev H0 p wl ys Hb σ (tTup (tCons (tC (.str "op")) (tCons ts (tCons ta (tCons tb tNil))))) (PT ys n):=fun H Q m W q =>
 hs H _ m W fun v1 H1 ⟨s,e1,x1⟩ W1 k1=>ha H1 _ (m.trans k1) W1 fun v2 H2 ⟨a,e2,x2⟩ W2 k2=>hb H2 _ ((m.trans k1).trans k2) W2 fun v3 H3 ⟨b,e3,x3⟩ W3 k3=>⟨sz4,fun r nr=>ev_new (P:=PT ys n) W3 (fun v' H' x W' k=>q v' H' x W' (((k1.trans k2).trans k3).trans k)) nr fun t z =>
  ⟨r,rfl,tx_op (by rw [z,e1,e2,e3]) x1 ((x2.mono k3.t).mono t) (x3.mono t) h1 h2⟩⟩
theorem ev_s3 (e : σ[0]? = some (some (.ref p))) : Ev H0 p wl ys Hb σ (tOp rIxS (tC (.str "<=*")) (tTk 3)) PG:=fun H Q m W q =>
 ev_tk e (by decide) (by decide) H _ m W fun v H1 ⟨d,e1,d0,d1⟩ W1 k1=>by
  obtain ⟨g,i,x⟩:=pick_s3 d0 d1
  exact ⟨"<=*",d,g,rfl,e1,by decide +kernel,i,q _ H1 ⟨_,rfl,x⟩ W1 k1⟩
theorem ev_p2 {K : PySem.W.Frag} {ta tb : TE} {k : Nat} (e : σ[0]? = some (some (.ref p))) (ha : Ev H0 p wl ys Hb σ ta (PT ys k)) (hb : Ev H0 p wl ys Hb σ tb (PT ys k)) : Ev H0 p wl ys Hb σ (tOp (rIxL K) (tLst (tCons ta (tCons tb tNil))) (tTk 2)) (PT ys k):=fun H Q m W q =>
 ha H _ m W fun v2 H2 ⟨a,e2,x2⟩ W2 k2=>hb H2 _ (m.trans k2) W2 fun v3 H3 ⟨b,e3,x3⟩ W3 k3=>⟨sz2,fun l nl=>ev_tk e (by decide) (by decide) _ _ (((m.trans k2).trans k3).trans (.new nl)) (W3.same (same_upd nl)) fun v H4 ⟨d,e4,d0,d1⟩ W4 k4=>by
  obtain ⟨g,i,x⟩:=pick2 (P:=TmX H3 ys k) d0 d1 (x2.mono k3.t) x3
  rw [← e2,← e3] at i
  have t:=(Fw.new (p:=p) (o:=HO.lst [v2,v3]) nl).trans k4
  exact ⟨l,_,d,_,rfl,e4,SqL.of (k4.b _ _ (W3.B.ne nl) upd_same),i,q _ H4 ⟨g,rfl,x.mono t.t⟩ W4 ((k2.trans k3).trans t)⟩⟩
theorem ev_p3 {K : PySem.W.Frag} {ta tb tc : TE} {k : Nat} (e : σ[0]? = some (some (.ref p))) (ha : Ev H0 p wl ys Hb σ ta (PT ys k)) (hb : Ev H0 p wl ys Hb σ tb (PT ys k)) (hc : Ev H0 p wl ys Hb σ tc (PT ys k)) : Ev H0 p wl ys Hb σ (tOp (rIxL K) (tLst (tCons ta (tCons tb (tCons tc tNil)))) (tTk 3)) (PT ys k):=fun H Q m W q =>
 ha H _ m W fun v2 H2 ⟨a,e2,x2⟩ W2 k2=>hb H2 _ (m.trans k2) W2 fun v3 H3 ⟨b,e3,x3⟩ W3 k3=>hc H3 _ ((m.trans k2).trans k3) W3 fun v5 H5 ⟨c,e5,x5⟩ W5 k5=>⟨sz3,fun l nl=>ev_tk e (by decide) (by decide) _ _ ((((m.trans k2).trans k3).trans k5).trans (.new nl)) (W5.same (same_upd nl)) fun v H4 ⟨d,e4,d0,d1⟩ W4 k4=>by
  obtain ⟨g,i,x⟩:=pick3 (P:=TmX H5 ys k) d0 d1 (x2.mono (k3.trans k5).t) (x3.mono k5.t) x5
  rw [← e2,← e3,← e5] at i
  have t:=(Fw.new (p:=p) (o:=HO.lst [v2,v3,v5]) nl).trans k4
  exact ⟨l,_,d,_,rfl,e4,SqL.of (k4.b _ _ (W5.B.ne nl) upd_same),i,q _ H4 ⟨g,rfl,x.mono t.t⟩ W4 (((k2.trans k3).trans k5).trans t)⟩⟩
theorem ev_pb {K : PySem.W.Frag} {ta tb : TE} {k : Nat} {n : Int} (e : σ[0]? = some (some (.ref p))) (h1 : 1 ≤ n) (h2 : n ≤ 1000) (ha : Ev H0 p wl ys Hb σ ta (PT ys k)) (hb : Ev H0 p wl ys Hb σ tb (PT ys k)) : Ev H0 p wl ys Hb σ (tOp (rIxL K) (tLst (tCons ta (tCons tb tNil))) (tCB (fun xs H Q=>(∃ i,xs = [V.int i] ∧ Q (V.int i) H) ∨ ∃ k,xs = [V.bl k] ∧ Q (V.int (if k = true then 1 else 0)) H) (tCons (tOp rEq (tTk n) (tC (.int 0))) tNil))) (PT ys k):=fun H Q m W q =>
 ha H _ m W fun v2 H2 ⟨a,e2,x2⟩ W2 k2=>hb H2 _ (m.trans k2) W2 fun v3 H3 ⟨b,e3,x3⟩ W3 k3=>⟨sz2,fun l nl=>ev_tk e h1 h2 _ _ (((m.trans k2).trans k3).trans (.new nl)) (W3.same (same_upd nl)) fun v H4 ⟨d,e4,d0,d1⟩ W4 k4=>by
  subst e4
  refine ⟨rfl,.inr ⟨_,rfl,?_⟩⟩
  obtain ⟨g,i,x⟩:=pickB (P:=TmX H3 ys k) (x2.mono k3.t) x3 _
  rw [← e2,← e3] at i
  have t:=(Fw.new (p:=p) (o:=HO.lst [v2,v3]) nl).trans k4
  exact ⟨l,_,_,_,rfl,rfl,SqL.of (k4.b _ _ (W3.B.ne nl) upd_same),i,q _ H4 ⟨g,rfl,x.mono t.t⟩ W4 ((k2.trans k3).trans t)⟩⟩
theorem ev_oc {ta tb : TE} {k : Nat} (e : σ[0]? = some (some (.ref p))) (ha : Ev H0 p wl ys Hb σ ta (PT ys k)) (hb : Ev H0 p wl ys Hb σ tb (PT ys k)) : Ev H0 p wl ys Hb σ (tCall spOp [] E0 (tCons (tVar 0) (tCons ta (tCons tb tNil)))) (PT ys (k + 1)):=fun H Q m W q =>
 ⟨_,e,ha H _ m W fun v2 H2 ⟨a,e2,x2⟩ W2 k2=>hb H2 _ (m.trans k2) W2 fun v3 H3 ⟨b,e3,x3⟩ W3 k3=>⟨p,a,b,ys,k,by rw [e2,e3]; rfl,W3.B,x2.mono k3.t,x3,fun r H4 x4 B4 c4=>q _ H4 ⟨r,rfl,x4⟩ (W3.but B4 c4) ((k2.trans k3).trans (.but W3.B c4))⟩⟩
theorem ev_2 {w : Str} {ta tb : TE} {A B R : Hp → V → Prop} (MA : Mon A) (MB : Mon B) (ha : Ev H0 p wl ys Hb σ ta A) (hb : Ev H0 p wl ys Hb σ tb B) (h : ∀ H r u v,H r = some (.tup [.str w,u,v]) → A H u → B H v → R H (.ref r)) : Ev H0 p wl ys Hb σ (tTup (tCons (tC (.str w)) (tCons ta (tCons tb tNil)))) R:=fun H Q m W q =>
 ha H _ m W fun v2 H2 x2 W2 k2=>hb H2 _ (m.trans k2) W2 fun v3 H3 x3 W3 k3=>⟨sz3,fun r nr=>ev_new (P:=R) W3 (fun v' H' x W' k=>q v' H' x W' ((k2.trans k3).trans k)) nr fun t z=>h _ _ _ _ z (MA _ _ _ t (MA _ _ _ k3.t x2)) (MB _ _ _ t x3)⟩
theorem ev_1 {w : Str} {ta : TE} {A R : Hp → V → Prop} (MA : Mon A) (ha : Ev H0 p wl ys Hb σ ta A) (h : ∀ H r u,H r = some (.tup [.str w,u]) → A H u → R H (.ref r)) : Ev H0 p wl ys Hb σ (tTup (tCons (tC (.str w)) (tCons ta tNil))) R:=fun H Q m W q =>
 ha H _ m W fun v2 H2 x2 W2 k2=>⟨sz2,fun r nr=>ev_new (P:=R) W2 (fun v' H' x W' k=>q v' H' x W' (k2.trans k)) nr fun t z=>h _ _ _ z (MA _ _ _ t x2)⟩
theorem ev_3 {w : Str} {ta tb tc : TE} {A B C R : Hp → V → Prop} (MA : Mon A) (MB : Mon B) (MC : Mon C) (ha : Ev H0 p wl ys Hb σ ta A) (hb : Ev H0 p wl ys Hb σ tb B) (hc : Ev H0 p wl ys Hb σ tc C) (h : ∀ H r u v x,H r = some (.tup [.str w,u,v,x]) → A H u → B H v → C H x → R H (.ref r)) : Ev H0 p wl ys Hb σ (tTup (tCons (tC (.str w)) (tCons ta (tCons tb (tCons tc tNil))))) R:=fun H Q m W q =>
 ha H _ m W fun v2 H2 x2 W2 k2=>hb H2 _ (m.trans k2) W2 fun v3 H3 x3 W3 k3=>hc H3 _ ((m.trans k2).trans k3) W3 fun v4 H4 x4 W4 k4=>⟨sz4,fun r nr=>ev_new (P:=R) W4 (fun v' H' x W' k=>q v' H' x W' (((k2.trans k3).trans k4).trans k)) nr fun t z=>h _ _ _ _ _ z (MA _ _ _ t (MA _ _ _ (k3.trans k4).t x2)) (MB _ _ _ t (MB _ _ _ k4.t x3)) (MC _ _ _ t x4)⟩
theorem monN : Mon (PN ys):=fun _ _ _ _ h=>h
theorem monI : Mon PI:=fun _ _ _ _ h=>h
theorem ev_rd {tx tt : TE} {k : Nat} (hx : Ev H0 p wl ys Hb σ tx (PN ys)) (ht : Ev H0 p wl ys Hb σ tt (PT ys k)) (hk : k < 5) : Ev H0 p wl ys Hb σ (tTup (tCons (tC (.str "read")) (tCons tx (tCons tt tNil)))) (fun H v=>StX H ys 0 v):=ev_2 monN monT hx ht fun H r u v z ⟨x,e1,h1⟩ ⟨a,e2,h2⟩=>sx_rd (by rw [z,e1,e2]) h1 h2 hk
theorem ev_st {tx tt : TE} {k : Nat} (hx : Ev H0 p wl ys Hb σ tx (PN ys)) (ht : Ev H0 p wl ys Hb σ tt (PT ys k)) (hk : k < 5) : Ev H0 p wl ys Hb σ (tTup (tCons (tC (.str "set")) (tCons tx (tCons tt tNil)))) (fun H v=>StX H ys 0 v):=ev_2 monN monT hx ht fun H r u v z ⟨x,e1,h1⟩ ⟨a,e2,h2⟩=>sx_st (by rw [z,e1,e2]) h1 h2 hk
theorem ev_wr {tx tt : TE} {j k : Nat} (hx : Ev H0 p wl ys Hb σ tx (PT ys j)) (ht : Ev H0 p wl ys Hb σ tt (PT ys k)) (hj : j < 5) (hk : k < 5) : Ev H0 p wl ys Hb σ (tTup (tCons (tC (.str "write")) (tCons tx (tCons tt tNil)))) (fun H v=>StX H ys 0 v):=ev_2 monT monT hx ht fun H r u v z ⟨x,e1,h1⟩ ⟨a,e2,h2⟩=>sx_wr (by rw [z,e1,e2]) h1 h2 hj hk
theorem ev_gv {tt : TE} {k : Nat} (ht : Ev H0 p wl ys Hb σ tt (PT ys k)) (hk : k < 5) : Ev H0 p wl ys Hb σ (tTup (tCons (tC (.str "give")) (tCons tt tNil))) (fun H v=>StX H ys 0 v):=ev_1 monT ht fun H r v z ⟨a,e2,h2⟩=>sx_gv (by rw [z,e2]) h2 hk
theorem ev_cl {tx tf ta tb : TE} {j k : Nat} (hx : Ev H0 p wl ys Hb σ tx (PN ys)) (hf : Ev H0 p wl ys Hb σ tf PI) (ha : Ev H0 p wl ys Hb σ ta (PT ys j)) (hb : Ev H0 p wl ys Hb σ tb (PT ys k)) (hj : j < 5) (hk : k < 5) : Ev H0 p wl ys Hb σ (tTup (tCons (tC (.str "call")) (tCons tx (tCons tf (tCons (tTup (tCons ta (tCons tb tNil))) tNil))))) (fun H v=>StX H ys 0 v):=by
 let R : Hp → V → Prop:=fun H v=>∃ q a b,v = .ref q ∧ H q = some (.tup [.ref a,.ref b]) ∧ TmX H ys j a ∧ TmX H ys k b
 have MR : Mon R:=fun _ _ _ m ⟨q,a,b,e,h1,h2,h3⟩=>⟨q,a,b,e,m _ _ h1,h2.mono m,h3.mono m⟩
 have hR : Ev H0 p wl ys Hb σ (tTup (tCons ta (tCons tb tNil))) R:=fun H Q m W q =>
  ha H _ m W fun v2 H2 ⟨a,e2,x2⟩ W2 k2=>hb H2 _ (m.trans k2) W2 fun v3 H3 ⟨b,e3,x3⟩ W3 k3=>⟨sz2,fun r nr=>ev_new (P:=R) W3 (fun v' H' x W' k=>q v' H' x W' ((k2.trans k3).trans k)) nr fun t z=>⟨r,a,b,rfl,by rw [z,e2,e3],(x2.mono k3.t).mono t,x3.mono t⟩⟩
 exact ev_3 monN monI MR hx hf hR fun H r u v x z ⟨y,e1,h1⟩ ⟨f,e2⟩ ⟨q,a,b,e3,h3,h4,h5⟩=>sx_cl (f:=f) (by rw [z,e1,e2,e3]) h1 h3 h4 h5 hj hk
theorem ev_if {tt ta tb : TE} {k n m : Nat} (ht : Ev H0 p wl ys Hb σ tt (PT ys k)) (ha : Ev H0 p wl ys Hb σ ta (PB ys 0 n)) (hb : Ev H0 p wl ys Hb σ tb (PB ys 0 m)) (hk : k < 5) (hn : n + m ≤ 20) : Ev H0 p wl ys Hb σ (tTup (tCons (tC (.str "if")) (tCons tt (tCons ta (tCons tb tNil))))) (fun H v=>StX H ys 1 v) :=
 ev_3 monT monB monB ht ha hb fun H r u v x z ⟨a,e1,h1⟩ ⟨qa,xa,e2,h2,h3,h4⟩ ⟨qb,xb,e5,h5,h6,h7⟩=>sx_if (by rw [z,e1,e2,e5]) h1 h2 h5 h3 h6 (om343 hn h4 h7) hk
theorem ev_wh {tt ta : TE} {k n : Nat} (ht : Ev H0 p wl ys Hb σ tt (PT ys k)) (ha : Ev H0 p wl ys Hb σ ta (PB ys 0 n)) (hk : k < 5) (hn : n ≤ 20) : Ev H0 p wl ys Hb σ (tTup (tCons (tC (.str "while")) (tCons tt (tCons ta tNil)))) (fun H v=>StX H ys 1 v) :=
 ev_2 monT monB ht ha fun H r u v z ⟨a,e1,h1⟩ ⟨qa,xa,e2,h2,h3,h4⟩=>sx_while (by rw [z,e1,e2]) h1 h2 h3 (om344 hn h4) hk
theorem ev_b0 {d : Nat} : Ev H0 p wl ys Hb σ (tTup tNil) (PB ys d 0):=fun H Q m W q=>⟨sz0,fun r nr=>ev_new (P:=PB ys d 0) W q nr fun t z=>⟨r,[],rfl,z,bx_nil,Nat.le_refl 0⟩⟩
theorem ev_b1 {ta : TE} {d : Nat} (ha : Ev H0 p wl ys Hb σ ta (fun H v=>StX H ys d v)) : Ev H0 p wl ys Hb σ (tTup (tCons ta tNil)) (PB ys d 1):=fun H Q m W q =>
 ha H _ m W fun v2 H2 x2 W2 k2=>⟨sz1,fun r nr=>ev_new (P:=PB ys d 1) W2 (fun v' H' x W' k=>q v' H' x W' (k2.trans k)) nr fun t z=>⟨r,_,rfl,z,bx_one (x2.mono t),Nat.le_refl 1⟩⟩
theorem ev_b2 {ta tb : TE} {d : Nat} (ha : Ev H0 p wl ys Hb σ ta (fun H v=>StX H ys d v)) (hb : Ev H0 p wl ys Hb σ tb (fun H v=>StX H ys d v)) : Ev H0 p wl ys Hb σ (tTup (tCons ta (tCons tb tNil))) (PB ys d 2):=fun H Q m W q =>
 ha H _ m W fun v2 H2 x2 W2 k2=>hb H2 _ (m.trans k2) W2 fun v3 H3 x3 W3 k3=>⟨sz2,fun r nr=>ev_new (P:=PB ys d 2) W3 (fun v' H' x W' k=>q v' H' x W' ((k2.trans k3).trans k)) nr fun t z=>⟨r,_,rfl,z,bx_cons ((x2.mono k3.t).mono t) (bx_one (x3.mono t)),Nat.le_refl 2⟩⟩
theorem ev_b3 {ta tb tc : TE} {d : Nat} (ha : Ev H0 p wl ys Hb σ ta (fun H v=>StX H ys d v)) (hb : Ev H0 p wl ys Hb σ tb (fun H v=>StX H ys d v)) (hc : Ev H0 p wl ys Hb σ tc (fun H v=>StX H ys d v)) : Ev H0 p wl ys Hb σ (tTup (tCons ta (tCons tb (tCons tc tNil)))) (PB ys d 3):=fun H Q m W q =>
 ha H _ m W fun v2 H2 x2 W2 k2=>hb H2 _ (m.trans k2) W2 fun v3 H3 x3 W3 k3=>hc H3 _ ((m.trans k2).trans k3) W3 fun v4 H4 x4 W4 k4=>⟨sz3,fun r nr=>ev_new (P:=PB ys d 3) W4 (fun v' H' x W' k=>q v' H' x W' (((k2.trans k3).trans k4).trans k)) nr fun t z=>⟨r,_,rfl,z,bx_cons ((x2.mono (k3.trans k4).t).mono t) (bx_cons ((x3.mono k4.t).mono t) (bx_one (x4.mono t))),Nat.le_refl 3⟩⟩
theorem ev_cat {ta tb : TE} {d n m : Nat} (ha : Ev H0 p wl ys Hb σ ta (PB ys d n)) (hb : Ev H0 p wl ys Hb σ tb (PB ys d m)) (hn : n + m ≤ 100) : Ev H0 p wl ys Hb σ (tOp rCatH ta tb) (PB ys d (n + m)):=fun H Q mm W q =>
 ha H _ mm W fun v2 H2 ⟨a,xs,e2,h2,x2,l2⟩ W2 k2=>hb H2 _ (mm.trans k2) W2 fun v3 H3 ⟨b,zs,e3,h3,x3,l3⟩ W3 k3=>⟨a,b,xs,zs,e2,e3,k3.t _ _ h2,h3,Nat.le_trans (show xs.length + zs.length ≤ 100 by exact om345 hn l2 l3) (by decide),fun r H4 h4 s4=>q _ H4 ⟨r,_,rfl,h4,bx_app ((x2.mono k3.t).mono (Same.tm s4)) (x3.mono (Same.tm s4)),by rw [List.length_append]; exact om346 l2 l3⟩ (W3.same s4) ((k2.trans k3).trans (.same s4))⟩
theorem ev_df {tf tp tb : TE} {n : Nat} (hf : Ev H0 p wl ys Hb σ tf PI) (hp : Ev H0 p wl ys Hb σ tp PP) (hb : Ev H0 p wl ys Hb σ tb (PB ys 1 n)) (hn : n ≤ 100) (hy : ys.length ≤ 20) : Ev H0 p wl ys Hb σ (tTup (tCons tf (tCons tp (tCons tb tNil)))) PD:=fun H Q m W q =>
 hf H _ m W fun v2 H2 ⟨f,e2⟩ W2 k2=>hp H2 _ (m.trans k2) W2 fun v3 H3 ⟨a,ps,e3,h3,l3⟩ W3 k3=>hb H3 _ ((m.trans k2).trans k3) W3 fun v4 H4 ⟨b,xs,e4,h4,x4,l4⟩ W4 k4=>⟨sz3,fun r nr=>ev_new (P:=PD) W4 (fun v' H' x W' k=>q v' H' x W' (((k2.trans k3).trans k4).trans k)) nr fun t z =>
  ⟨r,rfl,dx_mk (f:=f) (by rw [z,e2,e3,e4]) (t _ _ (k4.t _ _ h3)) l3 (t _ _ h4) (x4.mono t) (om347 hn l4) hy⟩⟩
theorem ev_q1 {ta : TE} (ha : Ev H0 p wl ys Hb σ ta (PN ys)) : Ev H0 p wl ys Hb σ (tTup (tCons ta tNil)) PP:=fun H Q m W q =>
 ha H _ m W fun v2 H2 x2 W2 k2=>⟨sz1,fun r nr=>ev_new (P:=PP) W2 (fun v' H' x W' k=>q v' H' x W' (k2.trans k)) nr fun t z=>⟨r,_,rfl,z,(by show 1 ≤ 100; decide)⟩⟩
theorem ev_q2 {ta tb : TE} (ha : Ev H0 p wl ys Hb σ ta (PN ys)) (hb : Ev H0 p wl ys Hb σ tb (PN ys)) : Ev H0 p wl ys Hb σ (tTup (tCons ta (tCons tb tNil))) PP:=fun H Q m W q =>
 ha H _ m W fun v2 H2 x2 W2 k2=>hb H2 _ (m.trans k2) W2 fun v3 H3 x3 W3 k3=>⟨sz2,fun r nr=>ev_new (P:=PP) W3 (fun v' H' x W' k=>q v' H' x W' ((k2.trans k3).trans k)) nr fun t z=>⟨r,_,rfl,z,(by show 2 ≤ 100; decide)⟩⟩
theorem StX.lift {H : Hp} {v : V} (h : StX H ys 0 v) : StX H ys 1 v:=h.up
theorem PB.lift {H : Hp} {v : V} {n : Nat} (h : PB ys 0 n H v) : PB ys 1 n H v:=let ⟨a,xs,e,h1,⟨b,b1,b2,b3,b4⟩,h3⟩:=h; ⟨a,xs,e,h1,⟨b,b1,b2,om348 b3,om349 b4⟩,h3⟩
theorem PB.more {H : Hp} {v : V} {d n m : Nat} (h : PB ys d n H v) (k : n ≤ m) : PB ys d m H v:=let ⟨a,xs,e,h1,h2,h3⟩:=h; ⟨a,xs,e,h1,h2,Nat.le_trans h3 k⟩
theorem if_tk {H : Hp} {n : Int} {a b : TS} {D : Ends} (W : Wd H0 H p wl ys) (e : σ[0]? = some (some (.ref p))) (h1 : 1 ≤ n) (h2 : n ≤ 1000) (ha : ∀ H',Wd H0 H' p wl ys → Fw p H H' → a D σ H') (hb : ∀ H',Wd H0 H' p wl ys → Fw p H H' → b D σ H') : tIfS (tTest (tOp rEq (tTk n) (tC (.int 0)))) a b D σ H :=
 ev_tk (Hb:=H) e h1 h2 H _ .refl W fun v H1 ⟨d,e1,d0,d1⟩ W1 k1=>by
  subst e1
  exact ⟨rfl,_,rfl,ite2 (fun _=>ha H1 W1 k1) (fun _=>hb H1 W1 k1)⟩
theorem set_ok {H : Hp} {te : TE} {i : Nat} {D : Ends} {P : Hp → V → Prop} (W : Wd H0 H p wl ys) (h : Ev H0 p wl ys H σ te P) (q : ∀ v H',P H' v → Wd H0 H' p wl ys → Fw p H H' → D.nx (σ.set i (some v)) H') : tAsg te (gName i) D σ H:=h H _ .refl W q
theorem ret_ok {H : Hp} {te : TE} {D : Ends} {P : Hp → V → Prop} (W : Wd H0 H p wl ys) (h : Ev H0 p wl ys H σ te P) (q : ∀ v H',P H' v → Wd H0 H' p wl ys → D.rt v H') : tRet te D σ H:=h H _ .refl W fun v H' x W' _=>q v H' x W'
theorem set3_ok {K : PySem.W.Frag} {H : Hp} {ta tb tc : TE} {i j k : Nat} {D : Ends} (W : Wd H0 H p wl ys) (ha : Ev H0 p wl ys H σ ta (PT ys 0)) (hb : Ev H0 p wl ys H σ tb (PT ys 0)) (hc : Ev H0 p wl ys H σ tc (PT ys 0))
  (q : ∀ u v w H',PT ys 0 H' u → PT ys 0 H' v → PT ys 0 H' w → Wd H0 H' p wl ys → Fw p H H' → D.nx (((σ.set k (some w)).set j (some v)).set i (some u)) H') : tAsg3 K (tTup (tCons ta (tCons tb (tCons tc tNil)))) i j k D σ H :=
 ha H _ .refl W fun v2 H2 x2 W2 k2=>hb H2 _ k2 W2 fun v3 H3 x3 W3 k3=>hc H3 _ (k2.trans k3) W3 fun v4 H4 x4 W4 k4=>⟨sz3,fun r nr=>⟨r,_,_,_,rfl,SqT.of upd_same,q v2 v3 v4 _ (monT _ _ _ (Same.tm (same_upd nr)) (monT _ _ _ (k3.trans k4).t x2)) (monT _ _ _ (Same.tm (same_upd nr)) (monT _ _ _ k4.t x3)) (monT _ _ _ (Same.tm (same_upd nr)) x4) (W4.same (same_upd nr)) (((k2.trans k3).trans k4).trans (.new nr))⟩⟩
structure Ow (H0 H : Hp) (p wl l : Addr) (xs : List V) : Prop where
 hl : H l = some (.lst xs)
 np : l ≠ p
 lw : l ≠ wl
 l0 : H0 l = none
theorem Ow.fw {H H' : Hp} {l : Addr} {xs : List V} (o : Ow H0 H p wl l xs) (k : Fw p H H') : Ow H0 H' p wl l xs:=⟨k.b _ _ o.np o.hl,o.np,o.lw,o.l0⟩
theorem Ow.new {H : Hp} {l : Addr} {xs : List V} (W : Wd H0 H p wl ys) (n : H l = none) : Ow H0 (upd H l (.lst xs)) p wl l xs:=⟨upd_same,W.B.ne n,(fun e=>by have z:=W.w; rw [← e,n] at z; cases z),W.K.none W.B n⟩
theorem own1 {H : Hp} {ta : TE} {i : Nat} {D : Ends} (W : Wd H0 H p wl ys) (ha : Ev H0 p wl ys H σ ta (fun H v=>StX H ys 0 v)) (q : ∀ l v H',Ow H0 H' p wl l [v] → StX H' ys 0 v → Wd H0 H' p wl ys → Fw p H H' → D.nx (σ.set i (some (.ref l))) H') : tAsg (tLst (tCons ta tNil)) (gName i) D σ H :=
 ha H _ .refl W fun v2 H2 x2 W2 k2=>⟨sz1,fun l nl=>q l v2 _ (.new W2 nl) (x2.mono (Same.tm (same_upd nl))) (W2.same (same_upd nl)) (k2.trans (.new nl))⟩
theorem own2 {H : Hp} {ta tb : TE} {i : Nat} {D : Ends} (W : Wd H0 H p wl ys) (ha : Ev H0 p wl ys H σ ta (fun H v=>StX H ys 0 v)) (hb : Ev H0 p wl ys H σ tb (fun H v=>StX H ys 0 v)) (q : ∀ l u v H',Ow H0 H' p wl l [u,v] → StX H' ys 0 u → StX H' ys 0 v → Wd H0 H' p wl ys → Fw p H H' → D.nx (σ.set i (some (.ref l))) H') : tAsg (tLst (tCons ta (tCons tb tNil))) (gName i) D σ H :=
 ha H _ .refl W fun v2 H2 x2 W2 k2=>hb H2 _ k2 W2 fun v3 H3 x3 W3 k3=>⟨sz2,fun l nl=>q l v2 v3 _ (.new W3 nl) ((x2.mono k3.t).mono (Same.tm (same_upd nl))) (x3.mono (Same.tm (same_upd nl))) (W3.same (same_upd nl)) ((k2.trans k3).trans (.new nl))⟩
theorem put_ok {K : PySem.W.Frag} {H : Hp} {i : Nat} {te : TE} {l : Addr} {xs : List V} {D : Ends} (W : Wd H0 H p wl ys) (hσ : σ[i]? = some (some (.ref l))) (o : Ow H0 H p wl l xs) (hx : xs.length ≤ 100) (ht : Ev H0 p wl ys H σ te (fun H v=>StX H ys 0 v))
  (q : ∀ v H',StX H' ys 0 v → Ow H0 H' p wl l (xs ++ [v]) → Wd H0 H' p wl ys → TMono H H' → D.nx σ H') : tDrop (tBM K "list" rAppend (tVar i) (tCons te tNil)) D σ H :=
 ⟨_,hσ,.inl ⟨rfl,_,SqL.of o.hl⟩,ht H _ .refl W fun v H1 x1 W1 k1=>⟨l,xs,v,rfl,rfl,(o.fw k1).hl,Nat.lt_of_le_of_lt hx (by decide),q v _ (x1.mono (tm_own (o.fw k1).hl)) ⟨upd_same,o.np,o.lw,o.l0⟩ (W1.own (xs:=xs) o.l0 o.np o.lw) (k1.t.trans (tm_own (o.fw k1).hl))⟩⟩
theorem swap_ok {K : PySem.W.Frag} {H : Hp} {i : Nat} {l : Addr} {u v : V} {zs : List V} {D : Ends} (W : Wd H0 H p wl ys) (hσ : σ[i]? = some (some (.ref l))) (o : Ow H0 H p wl l (u :: v :: zs))
  (q : ∀ H',Ow H0 H' p wl l (v :: u :: zs) → Wd H0 H' p wl ys → TMono H H' → D.nx σ H') : tAsg (tTup (tCons (tOp (rIxL K) (tVar i) (tC (.int 1))) (tCons (tOp (rIxL K) (tVar i) (tC (.int 0))) tNil))) (gTup K 2 (gCons (gSub (tVar i) (tC (.int 0)) rSetL) (gCons (gSub (tVar i) (tC (.int 1)) rSetL) gNil))) D σ H :=
 ⟨_,hσ,l,_,_,_,rfl,rfl,SqL.of o.hl,at1,_,hσ,l,_,_,_,rfl,rfl,SqL.of o.hl,at0,sz2,fun t nt=>⟨t,_,rfl,SqT.of upd_same,rfl,_,_,rfl,_,hσ,l,_,0,0,rfl,rfl,keepN o.hl nt,ix0 (n:=zs.length + 1),_,_,rfl,_,hσ,l,_,1,1,rfl,rfl,upd_same,ix1 (n:=zs.length),rfl,
  q _ ⟨upd_same,o.np,o.lw,o.l0⟩ (((W.same (same_upd nt)).own (xs:=u :: v :: zs) o.l0 o.np o.lw).own (xs:=u :: v :: zs) o.l0 o.np o.lw) (((Same.tm (same_upd nt)).trans (tm_own (keepN o.hl nt))).trans (tm_own upd_same))⟩⟩
theorem ev_tl {K : PySem.W.Frag} {i n : Nat} {l : Addr} {xs : List V} (e : σ[i]? = some (some (.ref l))) (o : Ow H0 Hb p wl l xs) (hx : BdX Hb ys 0 xs) (hn : xs.length ≤ n) : Ev H0 p wl ys Hb σ (tCB (fun xs H Q=>∃ p ys,xs = [V.ref p] ∧ ((SqL K H p ys ∧ ∀ (l : Addr),H l = none → Q (V.ref l) (upd H l (HO.tup ys))) ∨ SqT K H p ys ∧ Q (V.ref p) H)) (tCons (tVar i) tNil)) (PB ys 0 n):=fun H Q m W q =>
 ⟨_,e,l,xs,rfl,.inl ⟨SqL.of (o.fw m).hl,fun r nr=>ev_new (P:=PB ys 0 n) W q nr fun t z=>⟨r,xs,rfl,z,(hx.mono m.t).mono t,hn⟩⟩⟩
theorem cat_ok {H : Hp} {i j : Nat} {ta tb : TE} {l m : Addr} {xs zs : List V} {D : Ends} (W : Wd H0 H p wl ys) (hσ : σ[i]? = some (some (.ref l))) (hτ : σ[j]? = some (some (.ref m))) (o : Ow H0 H p wl l xs) (oo : Ow H0 H p wl m zs) (hx : xs.length + zs.length ≤ 100) (bx : BdX H ys 0 xs) (bz : BdX H ys 0 zs)
  (ha : Ev H0 p wl ys H σ ta (fun H v=>StX H ys 0 v)) (hb : Ev H0 p wl ys H σ tb (fun H v=>StX H ys 0 v)) (q : ∀ r us H',Ow H0 H' p wl r us → BdX H' ys 0 us → us.length ≤ xs.length + zs.length + 2 → Wd H0 H' p wl ys → Fw p H H' → D.nx (σ.set i (some (.ref r))) H') :
  tAsg (tOp rCat (tOp rCat (tVar i) (tVar j)) (tLst (tCons ta (tCons tb tNil)))) (gName i) D σ H :=
 ⟨_,hσ,_,hτ,l,m,_,_,rfl,rfl,o.hl,oo.hl,Nat.le_trans hx (by decide),fun c nc=>ha _ _ (.new nc) (W.same (same_upd nc)) fun v2 H2 x2 W2 k2=>hb H2 _ ((Fw.new nc).trans k2) W2 fun v3 H3 x3 W3 k3=>⟨sz2,fun d nd=>⟨c,d,_,_,rfl,rfl,keepN ((k2.trans k3).b _ _ (W.B.ne nc) upd_same) nd,upd_same,by
  have:=line24
  show (xs ++ zs).length + 2 ≤ sizeLine
  rw [List.length_append]
  exact om350 hx this,fun r nr=>q r _ _ (.new (W3.same (same_upd nd)) nr) (by
   have f:=(((Fw.new nc).trans k2).trans k3).trans ((Fw.new (p:=p) (o:=HO.lst [v2,v3]) nd).trans (Fw.new (o:=HO.lst ((xs ++ zs) ++ [v2,v3])) nr))
   have g:=(Fw.new (p:=p) (o:=HO.lst [v2,v3]) nd).trans (Fw.new (o:=HO.lst ((xs ++ zs) ++ [v2,v3])) nr)
   exact bx_app (bx_app (bx.mono f.t) (bz.mono f.t)) (bx_cons ((x2.mono k3.t).mono g.t) (bx_one (x3.mono g.t)))) (by rw [List.length_append,List.length_append]; exact Nat.le_refl _) ((W3.same (same_upd nd)).same (same_upd nr)) ((((Fw.new nc).trans k2).trans k3).trans ((Fw.new nd).trans (Fw.new nr)))⟩⟩⟩
theorem five_ok {K : PySem.W.Frag} {H : Hp} {D : Ends} (W : Wd H0 H p wl ys) (hσ : σ[3]? = some (some (.ref wl))) (hy : ys.length = 6)
  (q : ∀ a b c d e H',PT ys 0 H' a → PT ys 0 H' b → PT ys 0 H' c → PT ys 0 H' d → PT ys 0 H' e → Wd H0 H' p wl ys → D.nx (((((σ.set 4 (some a)).set 5 (some b)).set 6 (some c)).set 7 (some d)).set 8 (some e)) H') :
  tAsg (tComp (iList K (tSl (rSlL K) (tVar 3) tNoPart (tPart (tC (V.int 5))))) 1 [] (gName 0) tAll (tTup (tCons (tC (V.str "var")) (tCons (tVar 0) tNil)))) (gLn K 5 (gCons (gName 4) (gCons (gName 5) (gCons (gName 6) (gCons (gName 7) (gCons (gName 8) gNil)))))) D σ H:=by
 have big:=line24
 refine ⟨_,hσ,_,rfl,wl,_,rfl,SqL.of W.w,fun sl nsl=>?_⟩
 have e5 : cutV (ys.map V.str) none (some 5) = (ys.take 5).map V.str:=by rw [show (5 : Int) = ((5 : Nat) : Int) from rfl,cutN (by rw [List.length_map]; exact om351 hy),List.map_take]
 have t1 : upd H sl (.lst (cutV (ys.map V.str) none (some 5))) sl = some (.lst ((ys.take 5).map V.str)):=by rw [e5]; exact upd_same
 have s1:=same_upd (o:=HO.lst (cutV (ys.map V.str) none (some 5))) nsl
 generalize upd H sl (.lst (cutV (ys.map V.str) none (some 5))) = H1 at t1 s1
 refine ⟨sl,rfl,⟨_,SqL.of t1⟩,?_⟩
 refine compR_lst (K:=K) (a:=sl) (xs:=(ys.take 5).map V.str) (by rw [List.length_map,List.length_take]; exact om352 big) (fun i vs H'=>vs.length = i ∧ (∀ v ∈ vs,PT ys 0 H' v) ∧ Same H1 H') ⟨rfl,(fun _ h=>absurd h List.not_mem_nil),Same.refl _⟩ (fun i vs H' h=>⟨SqL.of (h.2.2 _ _ t1),Nat.le_of_eq h.1⟩) (fun i x vs H' hx h=>?_) (fun vs H2 h l5 n5=>?_)
 ·obtain ⟨y,hy,rfl⟩:=List.mem_map.mp (List.mem_of_getElem? hx)
  exact ⟨_,rfl,sz2,fun r nr=>⟨by rw [List.length_append,h.1]; rfl,mem_snoc (fun a z=>monT _ _ _ (Same.tm (same_upd nr)) (h.2.1 a z)) ⟨r,rfl,tx_var upd_same (List.mem_of_mem_take hy)⟩,h.2.2.trans (same_upd nr)⟩⟩
 ·have e:=h.1
  rw [List.length_map,List.length_take] at e
  obtain ⟨a,b,c,d,f,rfl⟩:=len5 (show vs.length = 5 by omega)
  have m:=Same.tm (same_upd (o:=HO.lst [a,b,c,d,f]) n5)
  exact ⟨l5,_,rfl,SqL.of upd_same,rfl,_,_,rfl,_,_,rfl,_,_,rfl,_,_,rfl,_,_,rfl,rfl,q a b c d f _ (monT _ _ _ m (h.2.1 a (by simp))) (monT _ _ _ m (h.2.1 b (by simp))) (monT _ _ _ m (h.2.1 c (by simp))) (monT _ _ _ m (h.2.1 d (by simp))) (monT _ _ _ m (h.2.1 f (by simp))) (((W.same s1).same h.2.2).same (same_upd n5))⟩
end
section
variable {P : Program} {w : World} {K : PySem.W.Frag} {mg : Str → Option Value} {base : Heap}
theorem scOp : FnScope ["_law_box_here", "_law_a", "_law_b"] ["_law_box_here", "_law_a", "_law_b"] (defScope sOp):=⟨rfl,rfl,rfl,by decide +kernel,rfl,by decide +kernel,by decide +kernel⟩
theorem ok_op {f : Addr} {fd : FuncData} {fT : Addr} {fdT : FuncData} (F : Fun K "_law_op" "_law_op" sOp f fd) (GT : FnOk P w K mg base CX0 1 fT fdT ["_law_box_here", "_law_wide"] spTake) (bT : Binds K fdT ["_law_box_here", "_law_wide"] []) (kT : PySem.W.keepIn K (.ref fT) = true) (mT : mg "_law_take" = some (.ref fT)) : FnOk P w K mg base CX0 2 f fd ["_law_box_here", "_law_a", "_law_b"] spOp:=by
 refine F.ok scOp (fun vs H Q E h=>?_) (fun cdv A outer s H vs Q E hr h=>?_)
 ·refine opq fun Gq kq=>?_
  obtain ⟨p,a,b,ys,k,rfl,_⟩:=h
  refine kq ?_
  rfl
 refine opq fun Gq kq=>?_
 obtain ⟨p,a,b,ys,k,rfl,B,ha,hb,q⟩:=h
 refine kq ?_
 refine ⟨_,(pss_one (ps_ret (pe_tup (pa_cons pe_str (pa_cons (@pe_ix _ _ _ _ _ _ _ ix_list (pe_lst (pa_cons pe_str (pa_cons pe_str (pa_cons pe_str (pa_cons pe_str pa_nil))))) (pe_call GT (hr.mono (by decide)) rfl mT kT bT .nil pass0 (pa_cons (pv 0) (pa_cons pe_int pa_nil))) (fun _ _=>rfl)) (pa_cons (pv 1) (pa_cons (pv 2) pa_nil))))))),?_⟩
 try dsimp only [cxOf,Cx.nox,Cx.wish]
 refine ⟨sz4,fun l nl=>⟨_,rfl,p,4,rfl,B.upd_new nl,by decide,by decide,fun d H2 d0 d1 B2 e2=>?_⟩⟩
 obtain ⟨s,hat,hs⟩:=pick_sg d0 d1
 have k2 : But p H H2:=((But.refl).upd_new nl).trans (But.of_eq e2)
 refine ⟨l,_,_,_,rfl,rfl,SqL.of (by rw [e2 l (B.ne nl)]; exact upd_same),hat,_,rfl,_,rfl,sz4,fun r nr=>?_⟩
 have s3:=same_upd (o:=HO.tup [.str "op",.str s,.ref a,.ref b]) nr
 exact q r _ (tx_op upd_same hs ((ha.mono (k2.tm B)).mono (Same.tm s3)) ((hb.mono (k2.tm B)).mono (Same.tm s3)) (Nat.lt_succ_self _) (Nat.lt_succ_self _)) (B2.upd_new nr) (k2.trans (But.of_same s3))
end
end K17
namespace K17
open PySem PySem.Spec PyProof.Rows L2
section
variable {P : Program} {w : World} {K : PySem.W.Frag} {mg : Str → Option Value} {base : Heap}
theorem scInner : FnScope ["_law_box_here", "_law_f", "_law_g", "_law_w", "_law_x", "_law_i", "_law_y", "_law_spot_here", "_law_body_here", "_law_deeper", "_law_test", "_law_early", "_law_last"] ["_law_box_here", "_law_f", "_law_g", "_law_w"] (defScope sInner):=⟨rfl,rfl,rfl,by decide +kernel,rfl,by decide +kernel,by decide +kernel⟩
theorem ok_inner {f : Addr} {fd : FuncData} {fT fO : Addr} {fdT fdO : FuncData} (F : Fun K "_law_inner" "_law_inner" sInner f fd) (GT : FnOk P w K mg base CX0 1 fT fdT ["_law_box_here", "_law_wide"] spTake) (bT : Binds K fdT ["_law_box_here", "_law_wide"] []) (kT : PySem.W.keepIn K (.ref fT) = true) (mT : mg "_law_take" = some (.ref fT)) (GO : FnOk P w K mg base CX0 2 fO fdO ["_law_box_here", "_law_a", "_law_b"] spOp) (bO : Binds K fdO ["_law_box_here", "_law_a", "_law_b"] []) (kO : PySem.W.keepIn K (.ref fO) = true) (mO : mg "_law_op" = some (.ref fO)) : FnOk P w K mg base CX0 3 f fd ["_law_box_here", "_law_f", "_law_g", "_law_w"] spDefn:=by
 refine F.ok scInner (fun vs H Q E h=>?_) (fun cdv A outer s H vs Q E hr h=>?_)
 ·refine opq fun Gq kq=>?_
  obtain ⟨p,wl,f0,g0,ys,rfl,_⟩:=h
  refine kq ?_
  rfl
 refine opq fun Gq kq=>?_
 obtain ⟨p,wl,f0,g0,ys,rfl,B,hw,hyl,q⟩:=h
 refine kq ?_
 refine ⟨_,(pss_cons (@ps_asg3 _ _ _ _ _ _ _ _ (4) (5) (6) rfl scInner.nd rfl rfl rfl (Or.inl rfl) (Or.inl rfl) (Or.inl rfl) (pe_tup (pa_cons (pe_tup (pa_cons pe_str (pa_cons (@pe_ix _ _ _ _ _ _ _ ix_list (pv 3) pe_int (fun _ _=>rfl)) pa_nil))) (pa_cons (pe_tup (pa_cons pe_str (pa_cons (@pe_ix _ _ _ _ _ _ _ ix_list (pv 3) pe_int (fun _ _=>rfl)) pa_nil))) (pa_cons (pe_tup (pa_cons pe_str (pa_cons (@pe_ix _ _ _ _ _ _ _ ix_list (pv 3) pe_int (fun _ _=>rfl)) pa_nil))) pa_nil)))) (by first | exact .inl rfl | exact .inr rfl) (by first | exact .inl rfl | exact .inr rfl) (by first | exact .inl rfl | exact .inr rfl) (by rfl) (by rfl)) (pss_cons (ps_set (i:=7) scInner.nd rfl (Or.inl rfl) (pe_tup (pa_cons pe_str (pa_cons pe_str (pa_cons (@pe_ix _ _ _ _ _ _ _ ix_list (pe_lst (pa_cons (pv 4) (pa_cons (pv 5) pa_nil))) (pe_call GT (hr.mono (by decide)) rfl mT kT bT .nil pass0 (pa_cons (pv 0) (pa_cons pe_int pa_nil))) (fun _ _=>rfl)) (pa_cons (pe_tup (pa_cons pe_str (pa_cons (pe_call GT (hr.mono (by decide)) rfl mT kT bT .nil pass0 (pa_cons (pv 0) (pa_cons pe_int pa_nil))) pa_nil))) pa_nil)))))) (pss_cons (ps_set (i:=8) scInner.nd rfl (Or.inl rfl) (pe_tup (pa_cons (pe_tup (pa_cons pe_str (pa_cons (@pe_ix _ _ _ _ _ _ _ ix_list (pv 3) pe_int (fun _ _=>rfl)) (pa_cons (pv 7) pa_nil)))) pa_nil))) (pss_cons (ps_mid (ps_if (@pt_cmpR _ _ _ _ _ _ _ _ op_eq (pe_call GT (hr.mono (by decide)) rfl mT kT bT .nil pass0 (pa_cons (pv 0) (pa_cons pe_int pa_nil))) pe_int (@nomark _ _ (by decide) (by decide))) (pss_cons (ps_set (i:=7) scInner.nd rfl (Or.inl rfl) (pe_tup (pa_cons pe_str (pa_cons pe_str (pa_cons (pv 5) (pa_cons (pe_tup (pa_cons pe_str (pa_cons (pe_op op_add pe_int (pe_call GT (hr.mono (by decide)) rfl mT kT bT .nil pass0 (pa_cons (pv 0) (pa_cons pe_int pa_nil)))) pa_nil))) pa_nil)))))) (pss_one (ps_set (i:=8) scInner.nd rfl (Or.inl rfl) (pe_op op_catH (pv 8) (pe_tup (pa_cons (pe_tup (pa_cons pe_str (pa_cons (pv 7) (pa_cons (pe_call GO (hr.mono (by decide)) rfl mO kO bO .nil pass0 (pa_cons (pv 0) (pa_cons (pv 4) (pa_cons (pv 6) pa_nil)))) pa_nil)))) pa_nil)))))) pss_nil)) (pss_cons (ps_mid (ps_if (@pt_cmpR _ _ _ _ _ _ _ _ op_eq (pe_call GT (hr.mono (by decide)) rfl mT kT bT .nil pass0 (pa_cons (pv 0) (pa_cons pe_int pa_nil))) pe_int (@nomark _ _ (by decide) (by decide))) (pss_cons (ps_set (i:=9) scInner.nd rfl (Or.inl rfl) (pe_tup (pa_cons pe_str (pa_cons (@pe_ix _ _ _ _ _ _ _ ix_list (pv 3) pe_int (fun _ _=>rfl)) (pa_cons (pv 2) (pa_cons (pe_tup (pa_cons (pe_tup (pa_cons pe_str (pa_cons pe_str (pa_cons (pv 5) (pa_cons (pe_tup (pa_cons pe_str (pa_cons pe_int pa_nil))) pa_nil))))) (pa_cons (pv 6) pa_nil))) pa_nil)))))) (pss_one (ps_set (i:=8) scInner.nd rfl (Or.inl rfl) (pe_op op_catH (pv 8) (pe_tup (pa_cons (pe_tup (pa_cons pe_str (pa_cons (pv 5) (pa_cons (pe_tup (pa_cons (pv 9) pa_nil)) (pa_cons (pe_tup pa_nil) pa_nil))))) pa_nil)))))) pss_nil)) (pss_cons (ps_set (i:=10) scInner.nd rfl (Or.inl rfl) (pe_tup (pa_cons pe_str (pa_cons (@pe_ix _ _ _ _ _ _ _ ix_str pe_str (pe_call GT (hr.mono (by decide)) rfl mT kT bT .nil pass0 (pa_cons (pv 0) (pa_cons pe_int pa_nil))) (fun _ _=>rfl)) (pa_cons (pv 6) (pa_cons (pe_tup (pa_cons pe_str (pa_cons (pe_call GT (hr.mono (by decide)) rfl mT kT bT .nil pass0 (pa_cons (pv 0) (pa_cons pe_int pa_nil))) pa_nil))) pa_nil)))))) (pss_cons (ps_set (i:=11) scInner.nd rfl (Or.inl rfl) (pe_tup (pa_cons pe_str (pa_cons (pe_call GO (hr.mono (by decide)) rfl mO kO bO .nil pass0 (pa_cons (pv 0) (pa_cons (pv 4) (pa_cons (pv 6) pa_nil)))) pa_nil)))) (pss_cons (ps_set (i:=12) scInner.nd rfl (Or.inl rfl) (pe_tup (pa_cons pe_str (pa_cons (pe_call GO (hr.mono (by decide)) rfl mO kO bO .nil pass0 (pa_cons (pv 0) (pa_cons (pv 6) (pa_cons (pv 5) pa_nil)))) pa_nil)))) (pss_cons (ps_set (i:=8) scInner.nd rfl (Or.inl rfl) (pe_op op_catH (pv 8) (pe_tup (pa_cons (pe_tup (pa_cons pe_str (pa_cons (pv 10) (pa_cons (pe_tup (pa_cons (pv 11) pa_nil)) (pa_cons (pe_tup pa_nil) pa_nil))))) (pa_cons (pv 12) pa_nil))))) (pss_one (ps_ret (pe_tup (pa_cons (pv 1) (pa_cons (pe_tup (pa_cons (@pe_ix _ _ _ _ _ _ _ ix_list (pv 3) pe_int (fun _ _=>rfl)) (pa_cons (@pe_ix _ _ _ _ _ _ _ ix_list (pv 3) pe_int (fun _ _=>rfl)) pa_nil))) (pa_cons (pv 8) pa_nil))))))))))))))),?_⟩
 try dsimp only [cxOf,Cx.nox,Cx.wish]
 have W0 : Wd H H p wl ys:=⟨B,But.refl,hw⟩
 refine seqF fun F1 f1=>set3_ok W0 (ev_vr (ev_n rfl (by decide) (om5 hyl))) (ev_vr (ev_n rfl (by decide) (om10 hyl))) (ev_vr (ev_n rfl (by decide) (om7 hyl))) fun vx vi vy H1 xx xi xy W1 k1=>f1 _ _ ?_
 refine seqF fun F2 f2=>set_ok W1 (ev_op (n:=1) (ev_sg sg_plus) (ev_p2 rfl (ev_v rfl monT xx) (ev_v rfl monT xi)) (ev_nm (ev_tk rfl (by decide) (by decide)) (by decide)) (by decide) (by decide)) fun v2 H2 x2 W2 k2=>f2 _ _ ?_
 refine seqF fun F3 f3=>set_ok W2 (ev_b1 (ev_rd (ev_n rfl (by decide) (om7 hyl)) (ev_v rfl monT x2) (by decide))) fun v3 H3 x3 W3 k3=>f3 _ _ ?_
 refine seqF fun F4 f4=>midE (fun σ' H'=>∃ (o : Option V) (b : V),σ' = [some (V.ref p),some (V.str f0),some (V.str g0),some (V.ref wl),some (vx),some (vi),some (vy),o,some b,none,none,none,none] ∧ PB ys 1 2 H' b ∧ Wd H H' p wl ys ∧ TMono H3 H') (fun E4 _ fm4=>if_tk W3 rfl (by decide) (by decide) (fun H6 W6 k6=>?_) (fun H6 W6 k6=>?_)) fun σ4 H5 hq4=>?_
 ·clear f4
  have m1_6 : TMono H1 H6:=((k2.t.trans k3.t).trans k6.t)
  refine seqF fun F7 f7=>set_ok W6 (ev_op (n:=1) (ev_sg sg_plus) (ev_v rfl monT (monT _ _ _ m1_6 xi)) (ev_nm (ev_add (ev_tk rfl (by decide) (by decide)) (by decide)) (by decide)) (by decide) (by decide)) fun v7 H7 x7 W7 k7=>f7 _ _ ?_
  have m3_7 : TMono H3 H7:=(k6.t.trans k7.t)
  have m1_7 : TMono H1 H7:=(m1_6.trans k7.t)
  refine set_ok W7 (ev_cat (ev_v rfl monB (monB _ _ _ m3_7 x3)) (ev_b1 (ev_wr (ev_v rfl monT x7) (ev_oc rfl (ev_v rfl monT (monT _ _ _ m1_7 xx)) (ev_v rfl monT (monT _ _ _ m1_7 xy))) (by decide) (by decide))) (by decide)) fun v8 H8 x8 W8 k8=>fm4 _ _ ?_
  have m3_8 : TMono H3 H8:=(m3_7.trans k8.t)
  exact ⟨_,_,rfl,(PB.lift x8),W8,m3_8⟩
 ·clear f4
  exact fm4 _ _ ⟨_,_,rfl,(PB.more (PB.lift (monB _ _ _ k6.t x3)) (by decide)),W6,k6.t⟩
 obtain ⟨o5,b5,rfl,x5,W5,k5⟩:=hq4
 refine f4 _ _ ?_
 clear f4
 refine seqF fun F9 f9=>midE (fun σ' H'=>∃ (o : Option V) (b : V),σ' = [some (V.ref p),some (V.str f0),some (V.str g0),some (V.ref wl),some (vx),some (vi),some (vy),o5,some b,o,none,none,none] ∧ PB ys 1 3 H' b ∧ Wd H H' p wl ys ∧ TMono H5 H') (fun E9 _ fm9=>if_tk W5 rfl (by decide) (by decide) (fun H11 W11 k11=>?_) (fun H11 W11 k11=>?_)) fun σ9 H10 hq9=>?_
 ·clear f9
  have m1_11 : TMono H1 H11:=(((k2.t.trans k3.t).trans k5).trans k11.t)
  refine seqF fun F12 f12=>set_ok W11 (ev_cl (ev_n rfl (by decide) (om5 hyl)) (ev_i rfl) (ev_op (n:=1) (ev_sg sg_minus) (ev_v rfl monT (monT _ _ _ m1_11 xi)) (ev_nm (ev_c (by decide) (by decide : (1 : Int) < 2)) (by decide)) (by decide) (by decide)) (ev_v rfl monT (monT _ _ _ m1_11 xy)) (by decide) (by decide)) fun v12 H12 x12 W12 k12=>f12 _ _ ?_
  have m5_12 : TMono H5 H12:=(k11.t.trans k12.t)
  have m1_12 : TMono H1 H12:=(m1_11.trans k12.t)
  refine set_ok W12 (ev_cat (ev_v rfl monB (monB _ _ _ m5_12 x5)) (ev_b1 (ev_if (ev_v rfl monT (monT _ _ _ m1_12 xi)) (ev_b1 (ev_v rfl monS x12)) (ev_b0 (d:=0)) (by decide) (by decide))) (by decide)) fun v13 H13 x13 W13 k13=>fm9 _ _ ?_
  have m5_13 : TMono H5 H13:=(m5_12.trans k13.t)
  exact ⟨_,_,rfl,x13,W13,m5_13⟩
 ·clear f9
  exact fm9 _ _ ⟨_,_,rfl,(PB.more (monB _ _ _ k11.t x5) (by decide)),W11,k11.t⟩
 obtain ⟨o10,b10,rfl,x10,W10,k10⟩:=hq9
 refine f9 _ _ ?_
 clear f9
 have m1_10 : TMono H1 H10:=(((k2.t.trans k3.t).trans k5).trans k10)
 refine seqF fun F14 f14=>set_ok W10 (ev_op (n:=1) (ev_s3 rfl) (ev_v rfl monT (monT _ _ _ m1_10 xy)) (ev_nm (ev_tk rfl (by decide) (by decide)) (by decide)) (by decide) (by decide)) fun v14 H14 x14 W14 k14=>f14 _ _ ?_
 have m1_14 : TMono H1 H14:=(m1_10.trans k14.t)
 refine seqF fun F15 f15=>set_ok W14 (ev_gv (ev_oc rfl (ev_v rfl monT (monT _ _ _ m1_14 xx)) (ev_v rfl monT (monT _ _ _ m1_14 xy))) (by decide)) fun v15 H15 x15 W15 k15=>f15 _ _ ?_
 have m1_15 : TMono H1 H15:=(m1_14.trans k15.t)
 refine seqF fun F16 f16=>set_ok W15 (ev_gv (ev_oc rfl (ev_v rfl monT (monT _ _ _ m1_15 xy)) (ev_v rfl monT (monT _ _ _ m1_15 xi))) (by decide)) fun v16 H16 x16 W16 k16=>f16 _ _ ?_
 have m10_16 : TMono H10 H16:=((k14.t.trans k15.t).trans k16.t)
 have m14_16 : TMono H14 H16:=(k15.t.trans k16.t)
 refine seqF fun F17 f17=>set_ok W16 (ev_cat (ev_v rfl monB (monB _ _ _ m10_16 x10)) (ev_b2 (ev_if (ev_v rfl monT (monT _ _ _ m14_16 x14)) (ev_b1 (ev_v rfl monS (monS _ _ _ k16.t x15))) (ev_b0 (d:=0)) (by decide) (by decide)) (Ev.up (ev_v rfl monS x16) fun _ _=>StX.lift)) (by decide)) fun v17 H17 x17 W17 k17=>f17 _ _ ?_
 refine ret_ok W17 (ev_df (ev_i rfl) (ev_q2 (ev_n rfl (by decide) (om5 hyl)) (ev_n rfl (by decide) (om10 hyl))) (ev_v rfl monB x17) (by decide) (om36 hyl)) fun v H' x W'=>?_
 obtain ⟨r,rfl,x⟩:=x
 exact q r H' x W'.B W'.K
end
end K17
namespace K17
open PySem PySem.Spec PyProof.Rows L2
section
variable {P : Program} {w : World} {K : PySem.W.Frag} {mg : Str → Option Value} {base : Heap}
theorem scLooped : FnScope ["_law_box_here", "_law_f", "_law_inner_here", "_law_w", "_law_n", "_law_i", "_law_s", "_law_x", "_law_y", "_law_body_here", "_law_spot_here", "_law_start", "_law_loop"] ["_law_box_here", "_law_f", "_law_inner_here", "_law_w"] (defScope sLooped):=⟨rfl,rfl,rfl,by decide +kernel,rfl,by decide +kernel,by decide +kernel⟩
noncomputable def scope_looped5 : Scope:={ kind:=.function,names:=[(".0",.local),("_law_one",.local)],isGenerator:=false,isCoroutine:=false }
theorem nd_looped5 : (["_law_one"] : List Str).Nodup:=by decide +kernel
theorem cs_looped5 : CompSc ["_law_box_here", "_law_f", "_law_inner_here", "_law_w", "_law_n", "_law_i", "_law_s", "_law_x", "_law_y", "_law_body_here", "_law_spot_here", "_law_start", "_law_loop"] (defScope sLooped) scope_looped5 ["_law_one"] 1 []:=⟨by decide +kernel,rfl,by decide +kernel,by decide +kernel,by decide +kernel,rfl,by decide +kernel⟩
theorem ok_looped {f : Addr} {fd : FuncData} {fT fO : Addr} {fdT fdO : FuncData} (F : Fun K "_law_looped" "_law_looped" sLooped f fd) (GT : FnOk P w K mg base CX0 1 fT fdT ["_law_box_here", "_law_wide"] spTake) (bT : Binds K fdT ["_law_box_here", "_law_wide"] []) (kT : PySem.W.keepIn K (.ref fT) = true) (mT : mg "_law_take" = some (.ref fT)) (GO : FnOk P w K mg base CX0 2 fO fdO ["_law_box_here", "_law_a", "_law_b"] spOp) (bO : Binds K fdO ["_law_box_here", "_law_a", "_law_b"] []) (kO : PySem.W.keepIn K (.ref fO) = true) (mO : mg "_law_op" = some (.ref fO)) (mi : mg "int" = none) (mtu : mg "tuple" = none) : FnOk P w K mg base CX0 3 f fd ["_law_box_here", "_law_f", "_law_inner_here", "_law_w"] spDefn:=by
 refine F.ok scLooped (fun vs H Q E h=>?_) (fun cdv A outer s H vs Q E hr h=>?_)
 ·refine opq fun Gq kq=>?_
  obtain ⟨p,wl,f0,g0,ys,rfl,_⟩:=h
  refine kq ?_
  rfl
 refine opq fun Gq kq=>?_
 obtain ⟨p,wl,f0,g0,ys,rfl,B,hw,hyl,q⟩:=h
 refine kq ?_
 refine ⟨_,(pss_cons (@ps_asg _ _ _ _ _ _ (@pe_comp _ _ _ _ _ _ _ (["_law_one"]) (1) ([]) _ _ _ _ rfl (@pi_list _ _ _ _ (@pe_slice _ _ _ _ _ _ _ _ _ _ sl_list (pv 3) (@po_none _) (@po_some _ _ _ pe_int))) cs_looped5 (fun _ _ _ _ _=>(pg_name (i:=0) nd_looped5 rfl (Or.inl rfl))) (fun _ _ _ _ _=>(@pf_nil _)) (fun _ _ _ _ _=>(pe_tup (pa_cons pe_str (pa_cons (pv 0) pa_nil)))) (by intro _; rfl)) (@pg_lstn _ _ _ _ (5) _ rfl (pgs_cons (pg_name (i:=4) scLooped.nd rfl (Or.inl rfl)) (pgs_cons (pg_name (i:=5) scLooped.nd rfl (Or.inl rfl)) (pgs_cons (pg_name (i:=6) scLooped.nd rfl (Or.inl rfl)) (pgs_cons (pg_name (i:=7) scLooped.nd rfl (Or.inl rfl)) (pgs_cons (pg_name (i:=8) scLooped.nd rfl (Or.inl rfl)) pgs_nil))))) (by rfl) (by rfl)) (by rfl) (by rfl) (by rfl)) (pss_cons (ps_set (i:=9) scLooped.nd rfl (Or.inl rfl) (pe_lst (pa_cons (pe_tup (pa_cons pe_str (pa_cons (@pe_ix _ _ _ _ _ _ _ ix_list (pv 3) pe_int (fun _ _=>rfl)) (pa_cons (pe_tup (pa_cons pe_str (pa_cons pe_str (pa_cons (pv 5) (pa_cons (pe_tup (pa_cons pe_str (pa_cons (pe_call GT (hr.mono (by decide)) rfl mT kT bT .nil pass0 (pa_cons (pv 0) (pa_cons pe_int pa_nil))) pa_nil))) pa_nil))))) pa_nil)))) pa_nil))) (pss_cons (ps_expr (@pe_bm _ _ _ _ _ _ _ _ _ _ _ _ PySem.F.plainAttrs_list PySem.F.slot_list_append PySem.F.type_list_append mt_append (pv 9) (pa_cons (pe_tup (pa_cons pe_str (pa_cons (@pe_ix _ _ _ _ _ _ _ ix_list (pv 3) pe_int (fun _ _=>rfl)) (pa_cons (pv 2) (pa_cons (pe_tup (pa_cons (pv 7) (pa_cons (@pe_ix _ _ _ _ _ _ _ ix_list (pe_lst (pa_cons (pv 5) (pa_cons (pv 6) pa_nil))) (@pe_callTy _ _ _ _ _ _ _ _ _ call_int1 rfl mi PyProof.Rows.boot_int (pa_cons (@pe_cmpR _ _ _ _ _ _ _ _ op_eq (pe_call GT (hr.mono (by decide)) rfl mT kT bT .nil pass0 (pa_cons (pv 0) (pa_cons pe_int pa_nil))) pe_int (@nomark _ _ (by decide) (by decide))) pa_nil) (by decide) (by decide) (by rfl) (by rfl)) (fun _ _=>rfl)) pa_nil))) pa_nil))))) pa_nil) (by rfl) (by rfl) (by rfl) (by rfl) (by rfl))) (pss_cons (ps_mid (ps_if (@pt_cmpR _ _ _ _ _ _ _ _ op_eq (pe_call GT (hr.mono (by decide)) rfl mT kT bT .nil pass0 (pa_cons (pv 0) (pa_cons pe_int pa_nil))) pe_int (@nomark _ _ (by decide) (by decide))) (pss_cons (ps_set (i:=10) scLooped.nd rfl (Or.inl rfl) (pe_tup (pa_cons pe_str (pa_cons pe_str (pa_cons (pv 5) (pa_cons (pe_tup (pa_cons pe_str (pa_cons (pe_op op_add pe_int (pe_call GT (hr.mono (by decide)) rfl mT kT bT .nil pass0 (pa_cons (pv 0) (pa_cons pe_int pa_nil)))) pa_nil))) pa_nil)))))) (pss_one (ps_expr (@pe_bm _ _ _ _ _ _ _ _ _ _ _ _ PySem.F.plainAttrs_list PySem.F.slot_list_append PySem.F.type_list_append mt_append (pv 9) (pa_cons (pe_tup (pa_cons pe_str (pa_cons (pv 10) (pa_cons (@pe_ix _ _ _ _ _ _ _ ix_list (pe_lst (pa_cons (pv 6) (pa_cons (pv 8) (pa_cons (pv 7) pa_nil)))) (pe_call GT (hr.mono (by decide)) rfl mT kT bT .nil pass0 (pa_cons (pv 0) (pa_cons pe_int pa_nil))) (fun _ _=>rfl)) pa_nil)))) pa_nil) (by rfl) (by rfl) (by rfl) (by rfl) (by rfl))))) pss_nil)) (pss_cons (ps_expr (@pe_bm _ _ _ _ _ _ _ _ _ _ _ _ PySem.F.plainAttrs_list PySem.F.slot_list_append PySem.F.type_list_append mt_append (pv 9) (pa_cons (pe_tup (pa_cons pe_str (pa_cons (@pe_ix _ _ _ _ _ _ _ ix_list (pv 3) pe_int (fun _ _=>rfl)) (pa_cons (pe_call GO (hr.mono (by decide)) rfl mO kO bO .nil pass0 (pa_cons (pv 0) (pa_cons (@pe_ix _ _ _ _ _ _ _ ix_list (pe_lst (pa_cons (pv 6) (pa_cons (pv 6) (pa_cons (pv 7) pa_nil)))) (pe_call GT (hr.mono (by decide)) rfl mT kT bT .nil pass0 (pa_cons (pv 0) (pa_cons pe_int pa_nil))) (fun _ _=>rfl)) (pa_cons (pv 8) pa_nil)))) pa_nil)))) pa_nil) (by rfl) (by rfl) (by rfl) (by rfl) (by rfl))) (pss_cons (ps_mid (ps_if (@pt_cmpR _ _ _ _ _ _ _ _ op_eq (pe_call GT (hr.mono (by decide)) rfl mT kT bT .nil pass0 (pa_cons (pv 0) (pa_cons pe_int pa_nil))) pe_int (@nomark _ _ (by decide) (by decide))) (pss_one (@ps_asg _ _ _ _ _ _ (pe_tup (pa_cons (@pe_ix _ _ _ _ _ _ _ ix_list (pv 9) pe_int (fun _ _=>rfl)) (pa_cons (@pe_ix _ _ _ _ _ _ _ ix_list (pv 9) pe_int (fun _ _=>rfl)) pa_nil))) (@pg_tup _ _ _ _ _ (2) rfl (pgs_cons (@pg_sub _ _ _ _ _ _ _ (pv 9) pe_int set_list (by intro _; rfl)) (pgs_cons (@pg_sub _ _ _ _ _ _ _ (pv 9) pe_int set_list (by intro _; rfl)) pgs_nil)) (by rfl) (by rfl)) (by rfl) (by rfl) (by rfl))) pss_nil)) (pss_cons (ps_expr (@pe_bm _ _ _ _ _ _ _ _ _ _ _ _ PySem.F.plainAttrs_list PySem.F.slot_list_append PySem.F.type_list_append mt_append (pv 9) (pa_cons (pe_tup (pa_cons pe_str (pa_cons (@pe_ix _ _ _ _ _ _ _ ix_list (pv 3) pe_int (fun _ _=>rfl)) (pa_cons (pe_tup (pa_cons pe_str (pa_cons pe_str (pa_cons (pv 5) (pa_cons (pe_tup (pa_cons pe_str (pa_cons pe_int pa_nil))) pa_nil))))) pa_nil)))) pa_nil) (by rfl) (by rfl) (by rfl) (by rfl) (by rfl))) (pss_cons (ps_set (i:=11) scLooped.nd rfl (Or.inl rfl) (pe_tup (pa_cons (pe_tup (pa_cons pe_str (pa_cons (@pe_ix _ _ _ _ _ _ _ ix_list (pv 3) pe_int (fun _ _=>rfl)) (pa_cons (pe_tup (pa_cons pe_str (pa_cons (pe_call GT (hr.mono (by decide)) rfl mT kT bT .nil pass0 (pa_cons (pv 0) (pa_cons pe_int pa_nil))) pa_nil))) pa_nil)))) (pa_cons (pe_tup (pa_cons pe_str (pa_cons (@pe_ix _ _ _ _ _ _ _ ix_list (pv 3) pe_int (fun _ _=>rfl)) (pa_cons (pe_tup (pa_cons pe_str (pa_cons (pe_call GT (hr.mono (by decide)) rfl mT kT bT .nil pass0 (pa_cons (pv 0) (pa_cons pe_int pa_nil))) pa_nil))) pa_nil)))) pa_nil)))) (pss_cons (ps_mid (ps_if (@pt_cmpR _ _ _ _ _ _ _ _ op_eq (pe_call GT (hr.mono (by decide)) rfl mT kT bT .nil pass0 (pa_cons (pv 0) (pa_cons pe_int pa_nil))) pe_int (@nomark _ _ (by decide) (by decide))) (pss_cons (ps_set (i:=11) scLooped.nd rfl (Or.inl rfl) (pe_op op_catH (pv 11) (pe_tup (pa_cons (pe_tup (pa_cons pe_str (pa_cons (@pe_ix _ _ _ _ _ _ _ ix_list (pv 3) pe_int (fun _ _=>rfl)) (pa_cons (pe_tup (pa_cons pe_str (pa_cons (pe_op op_add pe_int (pe_call GT (hr.mono (by decide)) rfl mT kT bT .nil pass0 (pa_cons (pv 0) (pa_cons pe_int pa_nil)))) pa_nil))) pa_nil)))) pa_nil)))) (pss_one (ps_set (i:=11) scLooped.nd rfl (Or.inl rfl) (pe_op op_catH (pv 11) (pe_tup (pa_cons (pe_tup (pa_cons pe_str (pa_cons (@pe_ix _ _ _ _ _ _ _ ix_list (pv 3) pe_int (fun _ _=>rfl)) (pa_cons (pe_tup (pa_cons pe_str (pa_cons pe_str (pa_cons (pv 4) (pa_cons (pe_tup (pa_cons pe_str (pa_cons pe_int pa_nil))) pa_nil))))) pa_nil)))) pa_nil)))))) pss_nil)) (pss_cons (ps_set (i:=12) scLooped.nd rfl (Or.inl rfl) (pe_tup (pa_cons pe_str (pa_cons (pe_tup (pa_cons pe_str (pa_cons pe_str (pa_cons (pv 5) (pa_cons (pv 4) pa_nil))))) (pa_cons (@pe_callTy _ _ _ _ _ _ _ _ _ call_tuple_of rfl mtu PyProof.Rows.boot_tuple (pa_cons (pv 9) pa_nil) (by decide) (by decide) (by rfl) (by rfl)) pa_nil))))) (pss_one (ps_ret (pe_tup (pa_cons (pv 1) (pa_cons (pe_tup (pa_cons (@pe_ix _ _ _ _ _ _ _ ix_list (pv 3) pe_int (fun _ _=>rfl)) pa_nil)) (pa_cons (pe_op op_catH (pv 11) (pe_tup (pa_cons (pv 12) (pa_cons (pe_tup (pa_cons pe_str (pa_cons (pe_tup (pa_cons pe_str (pa_cons pe_int pa_nil))) (pa_cons (pv 6) pa_nil)))) (pa_cons (pe_tup (pa_cons pe_str (pa_cons (pv 6) pa_nil))) pa_nil))))) pa_nil)))))))))))))))),?_⟩
 try dsimp only [cxOf,Cx.nox,Cx.wish]
 have W0 : Wd H H p wl ys:=⟨B,But.refl,hw⟩
 refine seqF fun F1 f1=>five_ok W0 rfl hyl fun vn vi vs vx vy H1 xn xi xs xx xy W1=>f1 _ _ ?_
 refine seqF fun F2 f2=>own1 W1 (ev_rd (ev_n rfl (by decide) (om81 hyl)) (ev_op (n:=1) (ev_sg sg_plus) (ev_v rfl monT xi) (ev_nm (ev_tk rfl (by decide) (by decide)) (by decide)) (by decide) (by decide)) (by decide)) fun lb u2 H2 o2 x2 W2 k2=>f2 _ _ ?_
 refine seqF fun F3 f3=>put_ok W2 rfl o2 (show 1 ≤ 100 by decide) (ev_cl (ev_n rfl (by decide) (om82 hyl)) (ev_i rfl) (ev_v rfl monT (monT _ _ _ k2.t xx)) (ev_pb rfl (by decide) (by decide) (ev_v rfl monT (monT _ _ _ k2.t xi)) (ev_v rfl monT (monT _ _ _ k2.t xs))) (by decide) (by decide)) fun u3 H3 x3 o3 W3 k3=>f3 _ _ ?_
 refine seqF fun F4 f4=>midE (fun σ' H'=>∃ (o : Option V) (zs : List V),σ' = [some (V.ref p),some (V.str f0),some (V.str g0),some (V.ref wl),some (vn),some (vi),some (vs),some (vx),some (vy),some (V.ref lb),o,none,none] ∧ Ow H H' p wl lb (u2 :: u3 :: zs) ∧ BdX H' ys 0 zs ∧ zs.length ≤ 1 ∧ Wd H H' p wl ys ∧ TMono H3 H') (fun E4 _ fm4=>if_tk W3 rfl (by decide) (by decide) (fun H6 W6 k6=>?_) (fun H6 W6 k6=>?_)) fun σ4 H5 hq4=>?_
 ·clear f4
  have o6:=o3.fw k6
  have m1_6 : TMono H1 H6:=((k2.t.trans k3).trans k6.t)
  refine seqF fun F7 f7=>set_ok W6 (ev_op (n:=1) (ev_sg sg_plus) (ev_v rfl monT (monT _ _ _ m1_6 xi)) (ev_nm (ev_add (ev_tk rfl (by decide) (by decide)) (by decide)) (by decide)) (by decide) (by decide)) fun v7 H7 x7 W7 k7=>f7 _ _ ?_
  have o7:=o6.fw k7
  have m1_7 : TMono H1 H7:=(m1_6.trans k7.t)
  refine put_ok W7 rfl o7 (show 2 ≤ 100 by decide) (ev_wr (ev_v rfl monT x7) (ev_p3 rfl (ev_v rfl monT (monT _ _ _ m1_7 xs)) (ev_v rfl monT (monT _ _ _ m1_7 xy)) (ev_v rfl monT (monT _ _ _ m1_7 xx))) (by decide) (by decide)) fun u8 H8 x8 o8 W8 k8=>fm4 _ _ ?_
  have m3_8 : TMono H3 H8:=((k6.t.trans k7.t).trans k8)
  exact ⟨_,[u8],rfl,o8,bx_one x8,Nat.le_refl 1,W8,m3_8⟩
 ·clear f4
  have o6:=o3.fw k6
  exact fm4 _ _ ⟨_,[],rfl,o6,bx_nil,by decide,W6,k6.t⟩
 obtain ⟨w5,zs,rfl,o5,zx,zl,W5,k5⟩:=hq4
 refine f4 _ _ ?_
 clear f4
 have m1_5 : TMono H1 H5:=((k2.t.trans k3).trans k5)
 refine seqF fun F9 f9=>put_ok W5 rfl o5 (show zs.length + 1 + 1 ≤ 100 by exact om353 zl) (ev_st (ev_n rfl (by decide) (om7 hyl)) (ev_oc rfl (ev_p3 rfl (ev_v rfl monT (monT _ _ _ m1_5 xs)) (ev_v rfl monT (monT _ _ _ m1_5 xs)) (ev_v rfl monT (monT _ _ _ m1_5 xx))) (ev_v rfl monT (monT _ _ _ m1_5 xy))) (by decide)) fun u9 H9 x9 o9 W9 k9=>f9 _ _ ?_
 have zy : BdX H9 ys 0 (zs ++ [u9]):=bx_app (zx.mono k9) (bx_one x9)
 have zm : (zs ++ [u9]).length ≤ 2:=by rw [List.length_append]; exact Nat.succ_le_succ zl
 refine seqF fun F10 f10=>midE (fun σ' H'=>∃ (us : List V),σ' = [some (V.ref p),some (V.str f0),some (V.str g0),some (V.ref wl),some (vn),some (vi),some (vs),some (vx),some (vy),some (V.ref lb),w5,none,none] ∧ Ow H H' p wl lb us ∧ BdX H' ys 0 us ∧ us.length ≤ 4 ∧ Wd H H' p wl ys ∧ TMono H9 H') (fun E10 _ fm10=>if_tk W9 rfl (by decide) (by decide) (fun H12 W12 k12=>?_) (fun H12 W12 k12=>?_)) fun σ10 H11 hq10=>?_
 ·clear f10
  have o12:=o9.fw k12
  refine swap_ok W12 rfl o12 fun H13 o13 W13 k13=>fm10 _ _ ?_
  have m3_13 : TMono H3 H13:=(((k5.trans k9).trans k12.t).trans k13)
  have m2_13 : TMono H2 H13:=((((k3.trans k5).trans k9).trans k12.t).trans k13)
  have m9_13 : TMono H9 H13:=(k12.t.trans k13)
  exact ⟨_,rfl,o13,bx_cons ((monS _ _ _ m3_13 x3)) (bx_cons ((monS _ _ _ m2_13 x2)) (zy.mono m9_13)),(show (zs ++ [u9]).length + 1 + 1 ≤ 4 by exact om83 zm),W13,m9_13⟩
 ·clear f10
  have o12:=o9.fw k12
  have m2_12 : TMono H2 H12:=(((k3.trans k5).trans k9).trans k12.t)
  have m3_12 : TMono H3 H12:=((k5.trans k9).trans k12.t)
  exact fm10 _ _ ⟨_,rfl,o12,bx_cons ((monS _ _ _ m2_12 x2)) (bx_cons ((monS _ _ _ m3_12 x3)) (zy.mono k12.t)),(show (zs ++ [u9]).length + 1 + 1 ≤ 4 by exact om83 zm),W12,k12.t⟩
 obtain ⟨us,rfl,o11,ux,ul,W11,k11⟩:=hq10
 refine f10 _ _ ?_
 clear f10
 have m1_11 : TMono H1 H11:=((m1_5.trans k9).trans k11)
 refine seqF fun F14 f14=>put_ok W11 rfl o11 (om354 ul) (ev_st (ev_n rfl (by decide) (om10 hyl)) (ev_op (n:=1) (ev_sg sg_plus) (ev_v rfl monT (monT _ _ _ m1_11 xi)) (ev_nm (ev_c (by decide) (by decide : (1 : Int) < 2)) (by decide)) (by decide) (by decide)) (by decide)) fun u14 H14 x14 o14 W14 k14=>f14 _ _ ?_
 have bx14 : BdX H14 ys 0 (us ++ [u14]):=bx_app (ux.mono k14) (bx_one x14)
 have bl : (us ++ [u14]).length ≤ 5:=by rw [List.length_append]; exact Nat.succ_le_succ ul
 refine seqF fun F15 f15=>set_ok W14 (ev_b2 (ev_st (ev_n rfl (by decide) (om10 hyl)) (ev_nm (ev_tk rfl (by decide) (by decide)) (by decide)) (by decide)) (ev_st (ev_n rfl (by decide) (om7 hyl)) (ev_nm (ev_tk rfl (by decide) (by decide)) (by decide)) (by decide))) fun v15 H15 x15 W15 k15=>f15 _ _ ?_
 have o15:=o14.fw k15
 refine seqF fun F16 f16=>midE (fun σ' H'=>∃ (b : V),σ' = [some (V.ref p),some (V.str f0),some (V.str g0),some (V.ref wl),some (vn),some (vi),some (vs),some (vx),some (vy),some (V.ref lb),w5,some b,none] ∧ Ow H H' p wl lb (us ++ [u14]) ∧ PB ys 0 4 H' b ∧ Wd H H' p wl ys ∧ TMono H15 H') (fun E16 _ fm16=>if_tk W15 rfl (by decide) (by decide) (fun H18 W18 k18=>?_) (fun H18 W18 k18=>?_)) fun σ16 H17 hq16=>?_
 ·clear f16
  have o18:=o15.fw k18
  refine seqF fun F19 f19=>set_ok W18 (ev_cat (ev_v rfl monB (monB _ _ _ k18.t x15)) (ev_b1 (ev_rd (ev_n rfl (by decide) (om5 hyl)) (ev_nm (ev_add (ev_tk rfl (by decide) (by decide)) (by decide)) (by decide)) (by decide))) (by decide)) fun v19 H19 x19 W19 k19=>f19 _ _ ?_
  have o19:=o18.fw k19
  have m1_19 : TMono H1 H19:=((((m1_11.trans k14).trans k15.t).trans k18.t).trans k19.t)
  refine set_ok W19 (ev_cat (ev_v rfl monB x19) (ev_b1 (ev_st (ev_n rfl (by decide) (om5 hyl)) (ev_op (n:=1) (ev_sg sg_over) (ev_v rfl monT (monT _ _ _ m1_19 xn)) (ev_nm (ev_c (by decide) (by decide : (2 : Int) < 3)) (by decide)) (by decide) (by decide)) (by decide))) (by decide)) fun v20 H20 x20 W20 k20=>fm16 _ _ ?_
  have o20:=o19.fw k20
  have m15_20 : TMono H15 H20:=((k18.t.trans k19.t).trans k20.t)
  exact ⟨_,rfl,o20,x20,W20,m15_20⟩
 ·clear f16
  have o18:=o15.fw k18
  exact fm16 _ _ ⟨_,rfl,o18,(PB.more (monB _ _ _ k18.t x15) (by decide)),W18,k18.t⟩
 obtain ⟨b17,rfl,o17,x17,W17,k17⟩:=hq16
 refine f16 _ _ ?_
 clear f16
 have m1_17 : TMono H1 H17:=(((m1_11.trans k14).trans k15.t).trans k17)
 have m14_17 : TMono H14 H17:=(k15.t.trans k17)
 refine seqF fun F21 f21=>set_ok W17 (ev_wh (ev_op (n:=1) (ev_sg sg_less) (ev_v rfl monT (monT _ _ _ m1_17 xi)) (ev_v rfl monT (monT _ _ _ m1_17 xn)) (by decide) (by decide)) (ev_tl (n:=5) rfl o17 (bx14.mono m14_17) bl) (by decide) (by decide)) fun v21 H21 x21 W21 k21=>f21 _ _ ?_
 have o21:=o17.fw k21
 have m1_21 : TMono H1 H21:=(m1_17.trans k21.t)
 refine ret_ok W21 (ev_df (ev_i rfl) (ev_q1 (ev_n rfl (by decide) (om5 hyl))) (ev_cat (Ev.up (ev_v rfl monB (monB _ _ _ k21.t x17)) fun _ _=>PB.lift) (ev_b3 (ev_v rfl monS x21) (Ev.up (ev_wr (ev_nm (ev_c (by decide) (by decide : (30 : Int) < 31)) (by decide)) (ev_v rfl monT (monT _ _ _ m1_21 xs)) (by decide) (by decide)) fun _ _=>StX.lift) (Ev.up (ev_gv (ev_v rfl monT (monT _ _ _ m1_21 xs)) (by decide)) fun _ _=>StX.lift)) (by decide)) (by decide) (om36 hyl)) fun v H' x W'=>?_
 obtain ⟨r,rfl,x⟩:=x
 exact q r H' x W'.B W'.K
end
end K17
namespace K17
open PySem PySem.Spec PyProof.Rows L2
theorem cut2 {H : Hp} {ys : List Str} {u v : V} {d : Int} (h0 : 0 ≤ d) (h1 : d < 2) (hu : StX H ys 0 u) (hv : StX H ys 0 v) : BdX H ys 0 (cutV [u,v] none (some (1 + d))) ∧ (cutV [u,v] none (some (1 + d))).length ≤ 2:=by
 rcases (om79 h0 h1 : d = 0 ∨ d = 1) with rfl | rfl
 ·exact ⟨bx_one hu,by show 1 ≤ 2; decide⟩
 ·exact ⟨bx_cons hu (bx_one hv),by show 2 ≤ 2; decide⟩
noncomputable def P2 (ys : List Str) (H : Hp) (w : V) : Prop:=∃ a u v,w = .ref a ∧ H a = some (.tup [u,v]) ∧ StX H ys 0 u ∧ StX H ys 0 v
theorem monP2 {ys : List Str} : Mon (P2 ys):=fun _ _ _ m ⟨a,u,v,e,h1,h2,h3⟩=>⟨a,u,v,e,m _ _ h1,h2.mono m,h3.mono m⟩
section
variable {ys : List Str} {H0 Hb : Hp} {p wl : Addr} {σ : L2.St}
theorem ev_two {ta tb : TE} (ha : Ev H0 p wl ys Hb σ ta (fun H v=>StX H ys 0 v)) (hb : Ev H0 p wl ys Hb σ tb (fun H v=>StX H ys 0 v)) : Ev H0 p wl ys Hb σ (tTup (tCons ta (tCons tb tNil))) (P2 ys):=fun H Q m W q =>
 ha H _ m W fun v2 H2 x2 W2 k2=>hb H2 _ (m.trans k2) W2 fun v3 H3 x3 W3 k3=>⟨sz2,fun r nr=>ev_new (P:=P2 ys) W3 (fun v' H' x W' k=>q v' H' x W' ((k2.trans k3).trans k)) nr fun t z=>⟨r,_,_,rfl,z,(x2.mono k3.t).mono t,x3.mono t⟩⟩
theorem ev_cut {i : Nat} {v : V} (e : σ[i]? = some (some v)) (e0 : σ[0]? = some (some (.ref p))) (h : P2 ys Hb v) : Ev H0 p wl ys Hb σ (tSl rSlA (tVar i) tNoPart (tPart (tOp (rI0 fun i j=>V.int (i + j)) (tC (.int 1)) (tTk 2)))) (PB ys 0 2):=fun H Q m W q =>
 ⟨v,e,ev_tk e0 (by decide) (by decide) H _ m W fun w H1 ⟨d,e1,d0,d1⟩ W1 k1=>⟨1,d,rfl,e1,_,rfl,by
  obtain ⟨a,u,v',rfl,h1,h2,h3⟩:=monP2 _ _ _ (m.trans k1).t h
  have z:=cut2 d0 d1 h2 h3
  exact ⟨a,_,rfl,h1,fun r H2 hr s=>q _ H2 ⟨r,_,rfl,hr,z.1.mono (Same.tm s),z.2⟩ (W1.same s) (k1.trans (.same s))⟩⟩⟩
end
section
variable {P : Program} {w : World} {K : PySem.W.Frag} {mg : Str → Option Value} {base : Heap}
theorem scTicking : FnScope ["_law_box_here", "_law_f", "_law_inner_here", "_law_w", "_law_n", "_law_i", "_law_s", "_law_x", "_law_y", "_law_spot_here", "_law_body_here", "_law_kept", "_law_some", "_law_start", "_law_loop"] ["_law_box_here", "_law_f", "_law_inner_here", "_law_w"] (defScope sTicking):=⟨rfl,rfl,rfl,by decide +kernel,rfl,by decide +kernel,by decide +kernel⟩
noncomputable def scope_ticking5 : Scope:={ kind:=.function,names:=[(".0",.local),("_law_one",.local)],isGenerator:=false,isCoroutine:=false }
theorem nd_ticking5 : (["_law_one"] : List Str).Nodup:=by decide +kernel
theorem cs_ticking5 : CompSc ["_law_box_here", "_law_f", "_law_inner_here", "_law_w", "_law_n", "_law_i", "_law_s", "_law_x", "_law_y", "_law_spot_here", "_law_body_here", "_law_kept", "_law_some", "_law_start", "_law_loop"] (defScope sTicking) scope_ticking5 ["_law_one"] 1 []:=⟨by decide +kernel,rfl,by decide +kernel,by decide +kernel,by decide +kernel,rfl,by decide +kernel⟩
theorem ok_ticking {f : Addr} {fd : FuncData} {fT fO : Addr} {fdT fdO : FuncData} (F : Fun K "_law_ticking" "_law_ticking" sTicking f fd) (GT : FnOk P w K mg base CX0 1 fT fdT ["_law_box_here", "_law_wide"] spTake) (bT : Binds K fdT ["_law_box_here", "_law_wide"] []) (kT : PySem.W.keepIn K (.ref fT) = true) (mT : mg "_law_take" = some (.ref fT)) (GO : FnOk P w K mg base CX0 2 fO fdO ["_law_box_here", "_law_a", "_law_b"] spOp) (bO : Binds K fdO ["_law_box_here", "_law_a", "_law_b"] []) (kO : PySem.W.keepIn K (.ref fO) = true) (mO : mg "_law_op" = some (.ref fO)) (mi : mg "int" = none) (mtu : mg "tuple" = none) : FnOk P w K mg base CX0 3 f fd ["_law_box_here", "_law_f", "_law_inner_here", "_law_w"] spDefn:=by
 refine F.ok scTicking (fun vs H Q E h=>?_) (fun cdv A outer s H vs Q E hr h=>?_)
 ·refine opq fun Gq kq=>?_
  obtain ⟨p,wl,f0,g0,ys,rfl,_⟩:=h
  refine kq ?_
  rfl
 refine opq fun Gq kq=>?_
 obtain ⟨p,wl,f0,g0,ys,rfl,B,hw,hyl,q⟩:=h
 refine kq ?_
 refine ⟨_,(pss_cons (@ps_asg _ _ _ _ _ _ (@pe_comp _ _ _ _ _ _ _ (["_law_one"]) (1) ([]) _ _ _ _ rfl (@pi_list _ _ _ _ (@pe_slice _ _ _ _ _ _ _ _ _ _ sl_list (pv 3) (@po_none _) (@po_some _ _ _ pe_int))) cs_ticking5 (fun _ _ _ _ _=>(pg_name (i:=0) nd_ticking5 rfl (Or.inl rfl))) (fun _ _ _ _ _=>(@pf_nil _)) (fun _ _ _ _ _=>(pe_tup (pa_cons pe_str (pa_cons (pv 0) pa_nil)))) (by intro _; rfl)) (@pg_lstn _ _ _ _ (5) _ rfl (pgs_cons (pg_name (i:=4) scTicking.nd rfl (Or.inl rfl)) (pgs_cons (pg_name (i:=5) scTicking.nd rfl (Or.inl rfl)) (pgs_cons (pg_name (i:=6) scTicking.nd rfl (Or.inl rfl)) (pgs_cons (pg_name (i:=7) scTicking.nd rfl (Or.inl rfl)) (pgs_cons (pg_name (i:=8) scTicking.nd rfl (Or.inl rfl)) pgs_nil))))) (by rfl) (by rfl)) (by rfl) (by rfl) (by rfl)) (pss_cons (ps_set (i:=9) scTicking.nd rfl (Or.inl rfl) (pe_tup (pa_cons pe_str (pa_cons (pe_op op_add pe_int (pe_call GT (hr.mono (by decide)) rfl mT kT bT .nil pass0 (pa_cons (pv 0) (pa_cons pe_int pa_nil)))) pa_nil)))) (pss_cons (ps_set (i:=10) scTicking.nd rfl (Or.inl rfl) (pe_lst (pa_cons (pe_tup (pa_cons pe_str (pa_cons (@pe_ix _ _ _ _ _ _ _ ix_list (pv 3) pe_int (fun _ _=>rfl)) (pa_cons (pv 9) pa_nil)))) (pa_cons (pe_tup (pa_cons pe_str (pa_cons (@pe_ix _ _ _ _ _ _ _ ix_list (pv 3) pe_int (fun _ _=>rfl)) (pa_cons (@pe_ix _ _ _ _ _ _ _ ix_list (pe_lst (pa_cons (pv 5) (pa_cons (pe_tup (pa_cons pe_str (pa_cons (pe_call GT (hr.mono (by decide)) rfl mT kT bT .nil pass0 (pa_cons (pv 0) (pa_cons pe_int pa_nil))) pa_nil))) pa_nil))) (pe_call GT (hr.mono (by decide)) rfl mT kT bT .nil pass0 (pa_cons (pv 0) (pa_cons pe_int pa_nil))) (fun _ _=>rfl)) pa_nil)))) pa_nil)))) (pss_cons (ps_expr (@pe_bm _ _ _ _ _ _ _ _ _ _ _ _ PySem.F.plainAttrs_list PySem.F.slot_list_append PySem.F.type_list_append mt_append (pv 10) (pa_cons (pe_tup (pa_cons pe_str (pa_cons (@pe_ix _ _ _ _ _ _ _ ix_list (pv 3) pe_int (fun _ _=>rfl)) (pa_cons (pv 2) (pa_cons (pe_tup (pa_cons (@pe_ix _ _ _ _ _ _ _ ix_list (pe_lst (pa_cons (pv 7) (pa_cons (pe_tup (pa_cons pe_str (pa_cons pe_int pa_nil))) pa_nil))) (pe_call GT (hr.mono (by decide)) rfl mT kT bT .nil pass0 (pa_cons (pv 0) (pa_cons pe_int pa_nil))) (fun _ _=>rfl)) (pa_cons (@pe_ix _ _ _ _ _ _ _ ix_list (pe_lst (pa_cons (pv 5) (pa_cons (pe_tup (pa_cons pe_str (pa_cons pe_int pa_nil))) pa_nil))) (pe_call GT (hr.mono (by decide)) rfl mT kT bT .nil pass0 (pa_cons (pv 0) (pa_cons pe_int pa_nil))) (fun _ _=>rfl)) pa_nil))) pa_nil))))) pa_nil) (by rfl) (by rfl) (by rfl) (by rfl) (by rfl))) (pss_cons (ps_mid (ps_if (@pt_cmpR _ _ _ _ _ _ _ _ op_eq (pe_call GT (hr.mono (by decide)) rfl mT kT bT .nil pass0 (pa_cons (pv 0) (pa_cons pe_int pa_nil))) pe_int (@nomark _ _ (by decide) (by decide))) (pss_one (ps_expr (@pe_bm _ _ _ _ _ _ _ _ _ _ _ _ PySem.F.plainAttrs_list PySem.F.slot_list_append PySem.F.type_list_append mt_append (pv 10) (pa_cons (pe_tup (pa_cons pe_str (pa_cons (pe_tup (pa_cons pe_str (pa_cons pe_str (pa_cons (pv 5) (pa_cons (pe_tup (pa_cons pe_str (pa_cons (pe_call GT (hr.mono (by decide)) rfl mT kT bT .nil pass0 (pa_cons (pv 0) (pa_cons pe_int pa_nil))) pa_nil))) pa_nil))))) (pa_cons (pv 8) pa_nil)))) pa_nil) (by rfl) (by rfl) (by rfl) (by rfl) (by rfl)))) pss_nil)) (pss_cons (ps_set (i:=11) scTicking.nd rfl (Or.inl rfl) (pe_tup (pa_cons pe_str (pa_cons pe_int pa_nil)))) (pss_cons (ps_set (i:=12) scTicking.nd rfl (Or.inl rfl) (pe_lst (pa_cons (pe_tup (pa_cons pe_str (pa_cons (@pe_ix _ _ _ _ _ _ _ ix_list (pv 3) pe_int (fun _ _=>rfl)) (pa_cons (pv 11) pa_nil)))) (pa_cons (pe_tup (pa_cons pe_str (pa_cons (pv 11) (pa_cons (pe_call GO (hr.mono (by decide)) rfl mO kO bO .nil pass0 (pa_cons (pv 0) (pa_cons (pv 6) (pa_cons (pv 8) pa_nil)))) pa_nil)))) pa_nil)))) (pss_cons (ps_mid (ps_if (@pt_cmpR _ _ _ _ _ _ _ _ op_eq (pe_call GT (hr.mono (by decide)) rfl mT kT bT .nil pass0 (pa_cons (pv 0) (pa_cons pe_int pa_nil))) pe_int (@nomark _ _ (by decide) (by decide))) (pss_one (ps_set (i:=12) scTicking.nd rfl (Or.inl rfl) (pe_lst (pa_cons (pe_tup (pa_cons pe_str (pa_cons (@pe_ix _ _ _ _ _ _ _ ix_list (pv 3) pe_int (fun _ _=>rfl)) (pa_cons (pe_call GO (hr.mono (by decide)) rfl mO kO bO .nil pass0 (pa_cons (pv 0) (pa_cons (pv 6) (pa_cons (pv 8) pa_nil)))) pa_nil)))) pa_nil)))) pss_nil)) (pss_cons (ps_set (i:=10) scTicking.nd rfl (Or.inl rfl) (pe_op op_cat (pe_op op_cat (pv 10) (pv 12)) (pe_lst (pa_cons (pe_tup (pa_cons pe_str (pa_cons (pv 9) (pa_cons (pe_tup (pa_cons pe_str (pa_cons pe_str (pa_cons (pv 5) (pa_cons (pe_tup (pa_cons pe_str (pa_cons pe_int pa_nil))) pa_nil))))) pa_nil)))) (pa_cons (pe_tup (pa_cons pe_str (pa_cons (@pe_ix _ _ _ _ _ _ _ ix_list (pv 3) pe_int (fun _ _=>rfl)) (pa_cons (pe_tup (pa_cons pe_str (pa_cons pe_str (pa_cons (pv 5) (pa_cons (pv 4) pa_nil))))) pa_nil)))) pa_nil))))) (pss_cons (ps_set (i:=13) scTicking.nd rfl (Or.inl rfl) (pe_tup (pa_cons (pe_tup (pa_cons pe_str (pa_cons (@pe_ix _ _ _ _ _ _ _ ix_list (pv 3) pe_int (fun _ _=>rfl)) (pa_cons (pe_tup (pa_cons pe_str (pa_cons pe_int pa_nil))) pa_nil)))) (pa_cons (pe_tup (pa_cons pe_str (pa_cons (pv 9) (pa_cons (pe_tup (pa_cons pe_str (pa_cons (pe_call GT (hr.mono (by decide)) rfl mT kT bT .nil pass0 (pa_cons (pv 0) (pa_cons pe_int pa_nil))) pa_nil))) pa_nil)))) pa_nil)))) (pss_cons (ps_set (i:=14) scTicking.nd rfl (Or.inl rfl) (pe_tup (pa_cons pe_str (pa_cons (pe_tup (pa_cons pe_str (pa_cons (@pe_ix _ _ _ _ _ _ _ ix_list (pv 3) pe_int (fun _ _=>rfl)) pa_nil))) (pa_cons (@pe_callTy _ _ _ _ _ _ _ _ _ call_tuple_of rfl mtu PyProof.Rows.boot_tuple (pa_cons (pv 10) pa_nil) (by decide) (by decide) (by rfl) (by rfl)) pa_nil))))) (pss_one (ps_ret (pe_tup (pa_cons (pv 1) (pa_cons (pe_tup (pa_cons (@pe_ix _ _ _ _ _ _ _ ix_list (pv 3) pe_int (fun _ _=>rfl)) pa_nil)) (pa_cons (pe_op op_catH (@pe_slice _ _ _ _ _ _ _ _ _ _ sl_tupA (pv 13) (@po_none _) (@po_some _ _ _ (pe_op op_add pe_int (pe_call GT (hr.mono (by decide)) rfl mT kT bT .nil pass0 (pa_cons (pv 0) (pa_cons pe_int pa_nil)))))) (pe_tup (pa_cons (pv 14) (pa_cons (pe_tup (pa_cons pe_str (pa_cons (pv 6) pa_nil))) pa_nil)))) pa_nil))))))))))))))))),?_⟩
 try dsimp only [cxOf,Cx.nox,Cx.wish]
 have W0 : Wd H H p wl ys:=⟨B,But.refl,hw⟩
 refine seqF fun F1 f1=>five_ok W0 rfl hyl fun vn vi vs vx vy H1 xn xi xs xx xy W1=>f1 _ _ ?_
 refine seqF fun F2 f2=>set_ok W1 (ev_nm (ev_add (ev_tk rfl (by decide) (by decide)) (by decide)) (by decide)) fun v2 H2 x2 W2 k2=>f2 _ _ ?_
 refine seqF fun F3 f3=>own2 W2 (ev_rd (ev_n rfl (by decide) (om10 hyl)) (ev_v rfl monT x2) (by decide)) (ev_rd (ev_n rfl (by decide) (om81 hyl)) (ev_p2 rfl (ev_v rfl monT (monT _ _ _ k2.t xi)) (ev_nm (ev_tk rfl (by decide) (by decide)) (by decide))) (by decide)) fun lb u3 w3 H3 o3 x3 y3 W3 k3=>f3 _ _ ?_
 have m1_3 : TMono H1 H3:=(k2.t.trans k3.t)
 refine seqF fun F4 f4=>put_ok W3 rfl o3 (show 2 ≤ 100 by decide) (ev_cl (ev_n rfl (by decide) (om82 hyl)) (ev_i rfl) (ev_p2 rfl (ev_v rfl monT (monT _ _ _ m1_3 xx)) (ev_nm (ev_c (by decide) (by decide : (3 : Int) < 4)) (by decide))) (ev_p2 rfl (ev_v rfl monT (monT _ _ _ m1_3 xi)) (ev_nm (ev_c (by decide) (by decide : (2 : Int) < 3)) (by decide))) (by decide) (by decide)) fun u4 H4 x4 o4 W4 k4=>f4 _ _ ?_
 refine seqF fun F5 f5=>midE (fun σ' H'=>∃ (us : List V),σ' = [some (V.ref p),some (V.str f0),some (V.str g0),some (V.ref wl),some (vn),some (vi),some (vs),some (vx),some (vy),some (v2),some (V.ref lb),none,none,none,none] ∧ Ow H H' p wl lb us ∧ BdX H' ys 0 us ∧ us.length ≤ 4 ∧ Wd H H' p wl ys ∧ TMono H4 H') (fun E5 _ fm5=>if_tk W4 rfl (by decide) (by decide) (fun H7 W7 k7=>?_) (fun H7 W7 k7=>?_)) fun σ5 H6 hq5=>?_
 ·clear f5
  have o7:=o4.fw k7
  have m1_7 : TMono H1 H7:=((m1_3.trans k4).trans k7.t)
  refine put_ok W7 rfl o7 (show 3 ≤ 100 by decide) (ev_wr (ev_op (n:=1) (ev_sg sg_plus) (ev_v rfl monT (monT _ _ _ m1_7 xi)) (ev_nm (ev_tk rfl (by decide) (by decide)) (by decide)) (by decide) (by decide)) (ev_v rfl monT (monT _ _ _ m1_7 xy)) (by decide) (by decide)) fun u8 H8 x8 o8 W8 k8=>fm5 _ _ ?_
  have m4_8 : TMono H4 H8:=(k7.t.trans k8)
  have m3_8 : TMono H3 H8:=((k4.trans k7.t).trans k8)
  exact ⟨_,rfl,o8,(bx_cons ((monS _ _ _ m3_8 x3)) (bx_cons ((monS _ _ _ m3_8 y3)) (bx_cons ((monS _ _ _ m4_8 x4)) (bx_cons (x8) bx_nil)))),(show 4 ≤ 4 by decide),W8,m4_8⟩
 ·clear f5
  have o7:=o4.fw k7
  have m3_7 : TMono H3 H7:=(k4.trans k7.t)
  exact fm5 _ _ ⟨_,rfl,o7,(bx_cons ((monS _ _ _ m3_7 x3)) (bx_cons ((monS _ _ _ m3_7 y3)) (bx_cons ((monS _ _ _ k7.t x4)) bx_nil))),(show 3 ≤ 4 by decide),W7,k7.t⟩
 obtain ⟨us,rfl,o6,ux,ul,W6,k6⟩:=hq5
 refine f5 _ _ ?_
 clear f5
 refine seqF fun F9 f9=>set_ok W6 (ev_nm (ev_c (by decide) (by decide : (30 : Int) < 31)) (by decide)) fun v9 H9 x9 W9 k9=>f9 _ _ ?_
 have o9:=o6.fw k9
 have m1_9 : TMono H1 H9:=(((m1_3.trans k4).trans k6).trans k9.t)
 refine seqF fun F10 f10=>own2 W9 (ev_rd (ev_n rfl (by decide) (om7 hyl)) (ev_v rfl monT x9) (by decide)) (ev_wr (ev_v rfl monT x9) (ev_oc rfl (ev_v rfl monT (monT _ _ _ m1_9 xs)) (ev_v rfl monT (monT _ _ _ m1_9 xy))) (by decide) (by decide)) fun lm u10 w10 H10 z10 x10 y10 W10 k10=>f10 _ _ ?_
 have o10:=o9.fw k10
 refine seqF fun F11 f11=>midE (fun σ' H'=>∃ (m : Addr) (zs : List V),σ' = [some (V.ref p),some (V.str f0),some (V.str g0),some (V.ref wl),some (vn),some (vi),some (vs),some (vx),some (vy),some (v2),some (V.ref lb),some (v9),some (.ref m),none,none] ∧ Ow H H' p wl lb us ∧ Ow H H' p wl m zs ∧ BdX H' ys 0 zs ∧ zs.length ≤ 2 ∧ Wd H H' p wl ys ∧ TMono H10 H') (fun E11 _ fm11=>if_tk W10 rfl (by decide) (by decide) (fun H13 W13 k13=>?_) (fun H13 W13 k13=>?_)) fun σ11 H12 hq11=>?_
 ·clear f11
  have o13:=o10.fw k13
  have z13:=z10.fw k13
  have m1_13 : TMono H1 H13:=((m1_9.trans k10.t).trans k13.t)
  refine own1 W13 (ev_st (ev_n rfl (by decide) (om7 hyl)) (ev_oc rfl (ev_v rfl monT (monT _ _ _ m1_13 xs)) (ev_v rfl monT (monT _ _ _ m1_13 xy))) (by decide)) fun lq u14 H14 z14 x14 W14 k14=>fm11 _ _ ?_
  have o14:=o13.fw k14
  have m10_14 : TMono H10 H14:=(k13.t.trans k14.t)
  exact ⟨_,_,rfl,o14,z14,bx_one x14,(show 1 ≤ 2 by decide),W14,m10_14⟩
 ·clear f11
  have o13:=o10.fw k13
  have z13:=z10.fw k13
  exact fm11 _ _ ⟨_,_,rfl,o13,z13,(bx_cons ((monS _ _ _ k13.t x10)) (bx_cons ((monS _ _ _ k13.t y10)) bx_nil)),(show 2 ≤ 2 by decide),W13,k13.t⟩
 obtain ⟨lm,zs,rfl,o12,z12,zx,zl,W12,k12⟩:=hq11
 refine f11 _ _ ?_
 clear f11
 have m2_12 : TMono H2 H12:=(((((k3.t.trans k4).trans k6).trans k9.t).trans k10.t).trans k12)
 have m1_12 : TMono H1 H12:=((m1_9.trans k10.t).trans k12)
 have m6_12 : TMono H6 H12:=((k9.t.trans k10.t).trans k12)
 refine seqF fun F15 f15=>cat_ok W12 rfl rfl o12 z12 (om355 ul zl) (ux.mono m6_12) zx (ev_wr (ev_v rfl monT (monT _ _ _ m2_12 x2)) (ev_op (n:=1) (ev_sg sg_plus) (ev_v rfl monT (monT _ _ _ m1_12 xi)) (ev_nm (ev_c (by decide) (by decide : (1 : Int) < 2)) (by decide)) (by decide) (by decide)) (by decide) (by decide)) (ev_st (ev_n rfl (by decide) (om37 hyl)) (ev_op (n:=1) (ev_sg sg_less) (ev_v rfl monT (monT _ _ _ m1_12 xi)) (ev_v rfl monT (monT _ _ _ m1_12 xn)) (by decide) (by decide)) (by decide)) fun lc cs H15 o15 cx cl W15 k15=>f15 _ _ ?_
 have cm : cs.length ≤ 8:=om356 ul zl cl
 have m2_15 : TMono H2 H15:=(m2_12.trans k15.t)
 refine seqF fun F16 f16=>set_ok W15 (ev_two (ev_st (ev_n rfl (by decide) (om37 hyl)) (ev_nm (ev_c (by decide) (by decide : (1 : Int) < 2)) (by decide)) (by decide)) (ev_wr (ev_v rfl monT (monT _ _ _ m2_15 x2)) (ev_nm (ev_tk rfl (by decide) (by decide)) (by decide)) (by decide) (by decide))) fun v16 H16 x16 W16 k16=>f16 _ _ ?_
 have o16:=o15.fw k16
 refine seqF fun F17 f17=>set_ok W16 (ev_wh (ev_vr (ev_n rfl (by decide) (om37 hyl))) (ev_tl (n:=8) rfl o16 (cx.mono k16.t) cm) (by decide) (by decide)) fun v17 H17 x17 W17 k17=>f17 _ _ ?_
 have o17:=o16.fw k17
 have m1_17 : TMono H1 H17:=(((m1_12.trans k15.t).trans k16.t).trans k17.t)
 refine ret_ok W17 (ev_df (ev_i rfl) (ev_q1 (ev_n rfl (by decide) (om5 hyl))) (ev_cat (Ev.up (ev_cut rfl rfl (monP2 _ _ _ k17.t x16)) fun _ _=>PB.lift) (ev_b2 (ev_v rfl monS x17) (Ev.up (ev_gv (ev_v rfl monT (monT _ _ _ m1_17 xs)) (by decide)) fun _ _=>StX.lift)) (by decide)) (by decide) (om36 hyl)) fun v H' x W'=>?_
 obtain ⟨r,rfl,x⟩:=x
 exact q r H' x W'.B W'.K
end
end K17
namespace K17
open PySem PySem.Spec PyProof.Rows L2
theorem cut6 {ys : List Str} {lo : Nat} (h : ys.length = 14) (h1 : lo ≤ 8) : (cutS ys (some (lo : Int)) (some ((lo + 6 : Nat) : Int))).length = 6:=by
 unfold cutS
 rw [HT.sIx_nat,HT.sIx_nat,List.length_take,List.length_drop]
 exact om357 h h1
theorem ixk {n k : Nat} (h : k < n) : ixN n (k : Int) = some k:=by unfold ixN; rw [if_pos om22,if_pos (om23 h),Int.toNat_natCast]
theorem dfs3 {H : Hp} {a b c : Addr} (ha : DfX H a) (hb : DfX H b) (hc : DfX H c) : ∃ ds,DfsV H ds [.ref a,.ref b,.ref c] ∧ ds.length = 3 ∧ DfsOk ds ∧ PaV H ds:=by
 obtain ⟨d,d1,d2,d3⟩:=ha
 obtain ⟨e,e1,e2,e3⟩:=hb
 obtain ⟨f,f1,f2,f3⟩:=hc
 refine ⟨[d,e,f],⟨_,_,rfl,d1,_,_,rfl,e1,_,_,rfl,f1,rfl⟩,rfl,fun x hx=>?_,fun x hx=>?_⟩
 ·simp only [List.mem_cons,List.not_mem_nil,or_false] at hx
  rcases hx with rfl | rfl | rfl
  ·exact d2
  ·exact e2
  ·exact f2
 ·simp only [List.mem_cons,List.not_mem_nil,or_false] at hx
  rcases hx with rfl | rfl | rfl
  ·exact d3
  ·exact e3
  ·exact f3
noncomputable def spBusy : Sp:=fun vs H Q _=>∃ (p : Addr),vs = [.ref p] ∧ BoxAt H p ∧ ∀ (r : Addr) (ds : List Df) (xs : List V) (H' : Hp),H' r = some (.tup xs) → DfsV H' ds xs → ds.length = 3 → DfsOk ds → PaV H' ds → BoxAt H' p → But p H H' → Q (.ref r) H'
section
variable {ys : List Str} {H0 Hb : Hp} {p wl : Addr} {σ : L2.St}
theorem ev_ps {K : PySem.W.Frag} {ta tb tc : TE} (e : σ[0]? = some (some (.ref p))) (ha : Ev H0 p wl ys Hb σ ta (PN ys)) (hb : Ev H0 p wl ys Hb σ tb (PN ys)) (hc : Ev H0 p wl ys Hb σ tc (PN ys)) : Ev H0 p wl ys Hb σ (tOp (rIxL K) (tLst (tCons ta (tCons tb (tCons tc tNil)))) (tTk 3)) PI:=fun H Q m W q =>
 ha H _ m W fun v2 H2 ⟨a,e2,_⟩ W2 k2=>hb H2 _ (m.trans k2) W2 fun v3 H3 ⟨b,e3,_⟩ W3 k3=>hc H3 _ ((m.trans k2).trans k3) W3 fun v5 H5 ⟨c,e5,_⟩ W5 k5=>⟨sz3,fun l nl=>ev_tk e (by decide) (by decide) _ _ ((((m.trans k2).trans k3).trans k5).trans (.new nl)) (W5.same (same_upd nl)) fun v H4 ⟨d,e4,d0,d1⟩ W4 k4=>by
  obtain ⟨g,i⟩:=pick3s (a:=a) (b:=b) (c:=c) d0 d1
  rw [← e2,← e3,← e5] at i
  exact ⟨l,_,d,_,rfl,e4,SqL.of (k4.b _ _ (W5.B.ne nl) upd_same),i,q _ H4 ⟨g,rfl⟩ W4 (((k2.trans k3).trans k5).trans ((Fw.new nl).trans k4))⟩⟩
theorem ev_dc {K : PySem.W.Frag} {tf tg : TE} {i j : Int} {lo : Nat} (e0 : σ[0]? = some (some (.ref p))) (e1 : σ[1]? = some (some (.ref wl))) (hf : Ev H0 p wl ys Hb σ tf PI) (hg : Ev H0 p wl ys Hb σ tg PI) (h14 : ys.length = 14) (hl : lo ≤ 8) (hi : i = (lo : Int)) (hj : j = ((lo + 6 : Nat) : Int)) :
  Ev H0 p wl ys Hb σ (tCall spDefn [] E0 (tCons (tVar 0) (tCons tf (tCons tg (tCons (tSl (rSlL K) (tVar 1) (tPart (tC (.int i))) (tPart (tC (.int j)))) tNil))))) PD:=fun H Q m W q =>
 ⟨_,e0,hf H _ m W fun v2 H2 ⟨f,e2⟩ W2 k2=>hg H2 _ (m.trans k2) W2 fun v3 H3 ⟨g,e3⟩ W3 k3=>⟨_,e1,_,rfl,_,rfl,wl,_,rfl,SqL.of W3.w,fun r nr=>⟨p,r,f,g,cutS ys (some i) (some j),by rw [e2,e3]; rfl,W3.B.upd_new nr,by rw [upd_same,cut_strs],by rw [hi,hj]; exact cut6 h14 hl,fun a H4 x4 B4 c4 =>
  q _ H4 ⟨a,rfl,x4⟩ ((W3.same (same_upd nr)).but B4 c4) ((k2.trans k3).trans ((Fw.new nr).trans (.but (W3.B.upd_new nr) c4)))⟩⟩⟩
theorem ev_d3 {ta tb tc : TE} (ha : Ev H0 p wl ys Hb σ ta PD) (hb : Ev H0 p wl ys Hb σ tb PD) (hc : Ev H0 p wl ys Hb σ tc PD) : Ev H0 p wl ys Hb σ (tTup (tCons ta (tCons tb (tCons tc tNil)))) (fun H v=>∃ r ds xs,v = .ref r ∧ H r = some (.tup xs) ∧ DfsV H ds xs ∧ ds.length = 3 ∧ DfsOk ds ∧ PaV H ds):=fun H Q m W q =>
 ha H _ m W fun v2 H2 x2 W2 k2=>hb H2 _ (m.trans k2) W2 fun v3 H3 x3 W3 k3=>hc H3 _ ((m.trans k2).trans k3) W3 fun v4 H4 x4 W4 k4=>⟨sz3,fun r nr=>q _ _ (by
  have t:=Same.tm (same_upd (o:=HO.tup [v2,v3,v4]) nr)
  obtain ⟨a,e1,h1⟩:=monD _ _ _ t (monD _ _ _ (k3.trans k4).t x2)
  obtain ⟨b,e2,h2⟩:=monD _ _ _ t (monD _ _ _ k4.t x3)
  obtain ⟨c,e3,h3⟩:=monD _ _ _ t x4
  obtain ⟨ds,g⟩:=dfs3 h1 h2 h3
  exact ⟨r,ds,_,rfl,by rw [upd_same,e1,e2,e3],g⟩) (W4.same (same_upd nr)) (((k2.trans k3).trans k4).trans (.new nr))⟩
end
section
variable {P : Program} {w : World} {K : PySem.W.Frag} {mg : Str → Option Value} {base : Heap}
theorem scBusy : FnScope ["_law_box_here", "_law_w", "_law_body_here", "_law_deeper", "_law_further", "_law_first"] ["_law_box_here"] (defScope sBusy):=⟨rfl,rfl,rfl,by decide +kernel,rfl,by decide +kernel,by decide +kernel⟩
theorem ok_busy {f : Addr} {fd : FuncData} {fT fO fA fL fK fI : Addr} {fdT fdO fdA fdL fdK fdI : FuncData} (F : Fun K "_law_busy" "_law_busy" sBusy f fd) (GT : FnOk P w K mg base CX0 1 fT fdT ["_law_box_here", "_law_wide"] spTake) (bT : Binds K fdT ["_law_box_here", "_law_wide"] []) (kT : PySem.W.keepIn K (.ref fT) = true) (mT : mg "_law_take" = some (.ref fT)) (GO : FnOk P w K mg base CX0 2 fO fdO ["_law_box_here", "_law_a", "_law_b"] spOp) (bO : Binds K fdO ["_law_box_here", "_law_a", "_law_b"] []) (kO : PySem.W.keepIn K (.ref fO) = true) (mO : mg "_law_op" = some (.ref fO)) (GA : FnOk P w K mg base CX0 2 fA fdA ["_law_box_here", "_law_total"] spNames) (bA : Binds K fdA ["_law_box_here", "_law_total"] []) (kA : PySem.W.keepIn K (.ref fA) = true) (mA : mg "_law_names" = some (.ref fA)) (GL : FnOk P w K mg base CX0 3 fL fdL ["_law_box_here", "_law_f", "_law_inner_here", "_law_w"] spDefn) (bL : Binds K fdL ["_law_box_here", "_law_f", "_law_inner_here", "_law_w"] []) (kL : PySem.W.keepIn K (.ref fL) = true) (mL : mg "_law_looped" = some (.ref fL)) (GK : FnOk P w K mg base CX0 3 fK fdK ["_law_box_here", "_law_f", "_law_inner_here", "_law_w"] spDefn) (bK : Binds K fdK ["_law_box_here", "_law_f", "_law_inner_here", "_law_w"] []) (kK : PySem.W.keepIn K (.ref fK) = true) (mK : mg "_law_ticking" = some (.ref fK)) (GI : FnOk P w K mg base CX0 3 fI fdI ["_law_box_here", "_law_f", "_law_g", "_law_w"] spDefn) (bI : Binds K fdI ["_law_box_here", "_law_f", "_law_g", "_law_w"] []) (kI : PySem.W.keepIn K (.ref fI) = true) (mI : mg "_law_inner" = some (.ref fI)) : FnOk P w K mg base CX0 4 f fd ["_law_box_here"] spBusy:=by
 refine F.ok scBusy (fun vs H Q E h=>?_) (fun cdv A outer s H vs Q E hr h=>?_)
 ·refine opq fun Gq kq=>?_
  obtain ⟨p,rfl,_⟩:=h
  refine kq ?_
  rfl
 refine opq fun Gq kq=>?_
 obtain ⟨p,rfl,B,q⟩:=h
 refine kq ?_
 refine ⟨_,(pss_cons (ps_set (i:=1) scBusy.nd rfl (Or.inl rfl) (pe_call GA (hr.mono (by decide)) rfl mA kA bA .nil pass0 (pa_cons (pv 0) (pa_cons pe_int pa_nil)))) (pss_cons (ps_mid (ps_if (@pt_cmpR _ _ _ _ _ _ _ _ op_eq (pe_call GT (hr.mono (by decide)) rfl mT kT bT .nil pass0 (pa_cons (pv 0) (pa_cons pe_int pa_nil))) pe_int (@nomark _ _ (by decide) (by decide))) (pss_one (@ps_asg _ _ _ _ _ _ (@pe_ix _ _ _ _ _ _ _ ix_list (pv 1) pe_int (fun _ _=>rfl)) (@pg_sub _ _ _ _ _ _ _ (pv 1) pe_int set_list (by intro _; rfl)) (by rfl) (by rfl) (by rfl))) pss_nil)) (pss_cons (ps_set (i:=2) scBusy.nd rfl (Or.inl rfl) (pe_tup (pa_cons (pe_tup (pa_cons pe_str (pa_cons (@pe_ix _ _ _ _ _ _ _ ix_list (pv 1) pe_int (fun _ _=>rfl)) (pa_cons (pe_tup (pa_cons pe_str (pa_cons (@pe_ix _ _ _ _ _ _ _ ix_list (pv 1) pe_int (fun _ _=>rfl)) pa_nil))) pa_nil)))) (pa_cons (pe_tup (pa_cons pe_str (pa_cons (pe_call GO (hr.mono (by decide)) rfl mO kO bO .nil pass0 (pa_cons (pv 0) (pa_cons (pe_tup (pa_cons pe_str (pa_cons (@pe_ix _ _ _ _ _ _ _ ix_list (pv 1) pe_int (fun _ _=>rfl)) pa_nil))) (pa_cons (pe_tup (pa_cons pe_str (pa_cons (@pe_ix _ _ _ _ _ _ _ ix_list (pv 1) pe_int (fun _ _=>rfl)) pa_nil))) pa_nil)))) pa_nil))) pa_nil)))) (pss_cons (ps_set (i:=3) scBusy.nd rfl (Or.inl rfl) (pe_tup (pa_cons (@pe_ix _ _ _ _ _ _ _ ix_list (pv 1) pe_int (fun _ _=>rfl)) (pa_cons (pe_tup (pa_cons (@pe_ix _ _ _ _ _ _ _ ix_list (pv 1) pe_int (fun _ _=>rfl)) (pa_cons (@pe_ix _ _ _ _ _ _ _ ix_list (pv 1) pe_int (fun _ _=>rfl)) pa_nil))) (pa_cons (pv 2) pa_nil))))) (pss_cons (ps_set (i:=4) scBusy.nd rfl (Or.inl rfl) (@pe_ix _ _ _ _ _ _ _ ix_list (pe_lst (pa_cons (@pe_ix _ _ _ _ _ _ _ ix_list (pv 1) pe_int (fun _ _=>rfl)) (pa_cons (@pe_ix _ _ _ _ _ _ _ ix_list (pv 1) pe_int (fun _ _=>rfl)) (pa_cons (@pe_ix _ _ _ _ _ _ _ ix_list (pv 1) pe_int (fun _ _=>rfl)) pa_nil)))) (pe_call GT (hr.mono (by decide)) rfl mT kT bT .nil pass0 (pa_cons (pv 0) (pa_cons pe_int pa_nil))) (fun _ _=>rfl))) (pss_cons (ps_set (i:=5) scBusy.nd rfl (Or.inl rfl) (pe_call GL (hr.mono (by decide)) rfl mL kL bL .nil pass0 (pa_cons (pv 0) (pa_cons (@pe_ix _ _ _ _ _ _ _ ix_list (pv 1) pe_int (fun _ _=>rfl)) (pa_cons (@pe_ix _ _ _ _ _ _ _ ix_list (pv 1) pe_int (fun _ _=>rfl)) (pa_cons (@pe_slice _ _ _ _ _ _ _ _ _ _ sl_list (pv 1) (@po_some _ _ _ pe_int) (@po_some _ _ _ pe_int)) pa_nil)))))) (pss_cons (ps_mid (ps_if (@pt_cmpR _ _ _ _ _ _ _ _ op_eq (pe_call GT (hr.mono (by decide)) rfl mT kT bT .nil pass0 (pa_cons (pv 0) (pa_cons pe_int pa_nil))) pe_int (@nomark _ _ (by decide) (by decide))) (pss_one (ps_set (i:=5) scBusy.nd rfl (Or.inl rfl) (pe_call GK (hr.mono (by decide)) rfl mK kK bK .nil pass0 (pa_cons (pv 0) (pa_cons (@pe_ix _ _ _ _ _ _ _ ix_list (pv 1) pe_int (fun _ _=>rfl)) (pa_cons (@pe_ix _ _ _ _ _ _ _ ix_list (pv 1) pe_int (fun _ _=>rfl)) (pa_cons (@pe_slice _ _ _ _ _ _ _ _ _ _ sl_list (pv 1) (@po_some _ _ _ pe_int) (@po_some _ _ _ pe_int)) pa_nil))))))) pss_nil)) (pss_one (ps_ret (pe_tup (pa_cons (pv 5) (pa_cons (pe_call GI (hr.mono (by decide)) rfl mI kI bI .nil pass0 (pa_cons (pv 0) (pa_cons (@pe_ix _ _ _ _ _ _ _ ix_list (pv 1) pe_int (fun _ _=>rfl)) (pa_cons (pv 4) (pa_cons (@pe_slice _ _ _ _ _ _ _ _ _ _ sl_list (pv 1) (@po_some _ _ _ pe_int) (@po_some _ _ _ pe_int)) pa_nil))))) (pa_cons (pv 3) pa_nil))))))))))))),?_⟩
 try dsimp only [cxOf,Cx.nox,Cx.wish]
 refine seqF fun Fa fa=>⟨_,rfl,p,14,rfl,B,by decide,by decide,fun wl ys Ha nwl hwa hyl hys Ba ka=>fa _ _ ?_⟩
 clear fa
 have wp : wl ≠ p:=box_ne Ba hwa
 refine seqF fun Fa fa=>midE (fun σ' H'=>∃ ys' : List Str,σ' = [some (V.ref p),some (V.ref wl),none,none,none,none] ∧ H' wl = some (.lst (ys'.map V.str)) ∧ ys'.length = 14 ∧ BoxAt H' p ∧ But p H H') (fun E0 _ fm=>if_tk (W:=⟨Ba,ka,hwa⟩) rfl (by decide) (by decide) (fun Hb Wb kb=>?_) (fun Hb Wb kb=>fm _ _ ⟨_,rfl,Wb.w,om84 hyl,Wb.B,Wb.K⟩)) fun σ0 H0 hq0=>?_
 ·clear fa
  obtain ⟨v1,hv1,hat1⟩:=txt_at (ys:=ys) (k:=1) (by decide) (om358 hyl)
  refine ⟨_,rfl,wl,_,_,_,rfl,rfl,SqL.of Wb.w,hat1,_,rfl,wl,_,8,8,rfl,rfl,Wb.w,ixk (k:=8) (by rw [List.length_map]; exact om359 hyl),fm _ _ ⟨ys.set 8 v1,rfl,?_,by rw [List.length_set]; exact om84 hyl,Wb.B.eq (upd_ne (Ne.symm wp)),Wb.K.upd_own nwl⟩⟩
  rw [upd_same,List.map_set]
 obtain ⟨ys,rfl,hw1,hyl,B1,k1⟩:=hq0
 refine fa _ _ ?_
 clear fa
 have W1 : Wd H H0 p wl ys:=⟨B1,k1,hw1⟩
 generalize H0 = H1 at W1
 refine seqF fun F2 f2=>set_ok W1 (ev_b2 (ev_rd (ev_n rfl (by decide) (om85 hyl)) (ev_vr (ev_n rfl (by decide) (om86 hyl))) (by decide)) (ev_gv (ev_oc rfl (ev_vr (ev_n rfl (by decide) (om85 hyl))) (ev_vr (ev_n rfl (by decide) (om87 hyl)))) (by decide))) fun v2 H2 x2 W2 k2=>f2 _ _ ?_
 refine seqF fun F3 f3=>set_ok W2 (ev_df (Ev.up (ev_n rfl (by decide) (om38 hyl)) fun _ _=>PN.i) (ev_q2 (ev_n rfl (by decide) (om87 hyl)) (ev_n rfl (by decide) (om86 hyl))) (Ev.up (ev_v rfl monB x2) fun _ _=>PB.lift) (by decide) (om360 hyl)) fun v3 H3 x3 W3 k3=>f3 _ _ ?_
 refine seqF fun F4 f4=>set_ok W3 (ev_ps rfl (ev_n rfl (by decide) (om18 hyl)) (ev_n rfl (by decide) (om38 hyl)) (ev_n rfl (by decide) (om38 hyl))) fun v4 H4 x4 W4 k4=>f4 _ _ ?_
 refine seqF fun F5 f5=>set_ok W4 (ev_dc (lo:=6) rfl rfl (Ev.up (ev_n rfl (by decide) (om88 hyl)) fun _ _=>PN.i) (Ev.up (ev_n rfl (by decide) (om18 hyl)) fun _ _=>PN.i) hyl (by decide) rfl rfl) fun v5 H5 x5 W5 k5=>f5 _ _ ?_
 refine seqF fun F6 f6=>midE (fun σ' H'=>∃ (b : V),σ' = [some (V.ref p),some (V.ref wl),some (v2),some (v3),some (v4),some b] ∧ PD H' b ∧ Wd H H' p wl ys ∧ TMono H5 H') (fun E6 _ fm6=>if_tk W5 rfl (by decide) (by decide) (fun H8 W8 k8=>?_) (fun H8 W8 k8=>?_)) fun σ6 H7 hq6=>?_
 ·clear f6
  refine set_ok W8 (ev_dc (lo:=6) rfl rfl (Ev.up (ev_n rfl (by decide) (om88 hyl)) fun _ _=>PN.i) (Ev.up (ev_n rfl (by decide) (om18 hyl)) fun _ _=>PN.i) hyl (by decide) rfl rfl) fun v9 H9 x9 W9 k9=>fm6 _ _ ?_
  have m5_9 : TMono H5 H9:=(k8.t.trans k9.t)
  exact ⟨_,rfl,x9,W9,m5_9⟩
 ·clear f6
  exact fm6 _ _ ⟨_,rfl,(monD _ _ _ k8.t x5),W8,k8.t⟩
 obtain ⟨b7,rfl,x7,W7,k7⟩:=hq6
 refine f6 _ _ ?_
 clear f6
 have m3_7 : TMono H3 H7:=((k4.t.trans k5.t).trans k7)
 refine ret_ok W7 (ev_d3 (ev_v rfl monD x7) (ev_dc (lo:=7) rfl rfl (Ev.up (ev_n rfl (by decide) (om18 hyl)) fun _ _=>PN.i) (ev_v rfl monI x4) hyl (by decide) rfl rfl) (ev_v rfl monD (monD _ _ _ m3_7 x3))) fun v H' x W'=>?_
 obtain ⟨r,ds,xs,rfl,g0,g1,g2,g3,g4⟩:=x
 exact q r ds xs H' g0 g1 g2 g3 g4 W'.B W'.K
end
end K17
namespace K17
open PySem PySem.Spec PyProof.Rows L2
noncomputable abbrev sCase : Stmt:=top 33
theorem tot_at {d : Int} (h0 : 0 ≤ d) (h1 : d < 4) : ∃ m : Int,atI [V.int 3,.int 3,.int 3,.int 8] d = some (.int m) ∧ 3 ≤ m ∧ m ≤ 8:=by
 rcases (om34 h0 h1 : d = 0 ∨ d = 1 ∨ d = 2 ∨ d = 3) with rfl | rfl | rfl | rfl
 ·exact ⟨3,rfl,by decide,by decide⟩
 ·exact ⟨3,rfl,by decide,by decide⟩
 ·exact ⟨3,rfl,by decide,by decide⟩
 ·exact ⟨8,rfl,by decide,by decide⟩
theorem dfs_at {H : Hp} {ds : List Df} {vs : List V} (h : DfsV H ds vs) {k : Int} (h0 : 0 ≤ k) (h1 : k < (vs.length : Int)) : ∃ d,atI vs k = some (.ref d.p) ∧ d ∈ ds ∧ DfV H d (.ref d.p):=by
 have hk : k.toNat < vs.length:=om14 h0 h1
 have ek : k = ((k.toNat : Nat) : Int):=om6 h0
 obtain ⟨d,h2,h3⟩:=h.at k.toNat _ (List.getElem?_eq_getElem hk)
 have e : vs[k.toNat] = .ref d.p:=h3.elim fun _ z=>z.1
 refine ⟨d,?_,List.mem_of_getElem? h2,by rw [← e]; exact h3⟩
 rw [ek]
 exact atI_nat (by rw [← e]; exact List.getElem?_eq_getElem hk)
noncomputable def spCase : Sp:=fun vs H Q _=>∃ (p : Addr),vs = [.ref p] ∧ BoxAt H p ∧ ∀ (t r : Addr) (v2 v3 : V) (ds : List Df) (xs : List V) (H' : Hp),H' t = some (.tup [.ref r,v2,v3]) → H' r = some (.tup xs) → DfsV H' ds xs → 1 ≤ ds.length → ds.length ≤ 8 → DfsOk ds → BoxAt H' p → But p H H' → Q (.ref t) H'
section
variable {P : Program} {w : World} {K : PySem.W.Frag} {mg : Str → Option Value} {base : Heap}
theorem scCase : FnScope ["_law_box_here", "_law_program", "_law_total", "_law_f", "_law_params", "_law_body_here"] ["_law_box_here"] (defScope sCase):=⟨rfl,rfl,rfl,by decide +kernel,rfl,by decide +kernel,by decide +kernel⟩
noncomputable def scope_case1 : Scope:={ kind:=.function,names:=[(".0",.local),("_law_one",.local),("_law_number",.globalImplicit),("_law_box_here",.free)],isGenerator:=false,isCoroutine:=false }
theorem nd_case1 : (["_law_one", "_law_box_here"] : List Str).Nodup:=by decide +kernel
theorem cs_case1 : CompSc ["_law_box_here", "_law_program", "_law_total", "_law_f", "_law_params", "_law_body_here"] (defScope sCase) scope_case1 ["_law_one", "_law_box_here"] 1 [0]:=⟨by decide +kernel,rfl,by decide +kernel,by decide +kernel,by decide +kernel,rfl,by decide +kernel⟩
theorem ok_case {f : Addr} {fd : FuncData} {fT fN fY fZ : Addr} {fdT fdN fdY fdZ : FuncData} (F : Fun K "_law_case" "_law_case" sCase f fd) (GT : FnOk P w K mg base CX0 1 fT fdT ["_law_box_here", "_law_wide"] spTake) (bT : Binds K fdT ["_law_box_here", "_law_wide"] []) (kT : PySem.W.keepIn K (.ref fT) = true) (mT : mg "_law_take" = some (.ref fT)) (GN : FnOk P w K mg base CX0 2 fN fdN ["_law_box_here"] spNum) (bN : Binds K fdN ["_law_box_here"] []) (kN : PySem.W.keepIn K (.ref fN) = true) (mN : mg "_law_number" = some (.ref fN)) (GY : FnOk P w K mg base CX0 4 fY fdY ["_law_box_here"] spBusy) (bY : Binds K fdY ["_law_box_here"] []) (kY : PySem.W.keepIn K (.ref fY) = true) (mY : mg "_law_busy" = some (.ref fY)) (GZ : FnOk P w K mg base CX0 22 fZ fdZ ["_law_box_here", "_law_total", "_law_room"] spAny) (bZ : Binds K fdZ ["_law_box_here", "_law_total", "_law_room"] []) (kZ : PySem.W.keepIn K (.ref fZ) = true) (mZ : mg "_law_any" = some (.ref fZ)) (ml : mg "len" = none) (mtu : mg "tuple" = none) : FnOk P w K mg base CX0 23 f fd ["_law_box_here"] spCase:=by
 refine F.ok scCase (fun vs H Q E h=>?_) (fun cdv A outer s H vs Q E hr h=>?_)
 ·refine opq fun Gq kq=>?_
  obtain ⟨p,rfl,_⟩:=h
  refine kq ?_
  rfl
 refine opq fun Gq kq=>?_
 obtain ⟨p,rfl,B,q⟩:=h
 refine kq ?_
 refine ⟨_,(pss_cons (ps_if (@pt_cmpR _ _ _ _ _ _ _ _ op_gt (pe_call GT (hr.mono (by decide)) rfl mT kT bT .nil pass0 (pa_cons (pv 0) (pa_cons pe_int pa_nil))) pe_int (@nomark _ _ (by decide) (by decide))) (pss_cons (ps_set (i:=1) scCase.nd rfl (Or.inl rfl) (pe_call GY (hr.mono (by decide)) rfl mY kY bY .nil pass0 (pa_cons (pv 0) pa_nil))) (pss_one (ps_ret (pe_tup (pa_cons (pv 1) (pa_cons (@pe_ix _ _ _ _ _ _ _ ix_tup (@pe_ix _ _ _ _ _ _ _ ix_tup (pv 1) pe_int (fun _ _=>rfl)) pe_int (fun _ _=>rfl)) (pa_cons (pe_tup (pa_cons (pe_call GT (hr.mono (by decide)) rfl mT kT bT .nil pass0 (pa_cons (pv 0) (pa_cons pe_int pa_nil))) pa_nil)) pa_nil))))))) pss_nil) (pss_cons (ps_set (i:=2) scCase.nd rfl (Or.inl rfl) (@pe_ix _ _ _ _ _ _ _ ix_list (pe_lst (pa_cons pe_int (pa_cons pe_int (pa_cons pe_int (pa_cons pe_int pa_nil))))) (pe_call GT (hr.mono (by decide)) rfl mT kT bT .nil pass0 (pa_cons (pv 0) (pa_cons pe_int pa_nil))) (fun _ _=>rfl))) (pss_cons (ps_set (i:=1) scCase.nd rfl (Or.inl rfl) (pe_call GZ (hr.mono (by decide)) rfl mZ kZ bZ .nil pass0 (pa_cons (pv 0) (pa_cons (pe_op op_add pe_int (pe_call GT (hr.mono (by decide)) rfl mT kT bT .nil pass0 (pa_cons (pv 0) (pa_cons (pv 2) pa_nil)))) (pa_cons pe_int pa_nil))))) (pss_cons (@ps_asg _ _ _ _ _ _ (@pe_ix _ _ _ _ _ _ _ ix_tup (pv 1) (pe_call GT (hr.mono (by decide)) rfl mT kT bT .nil pass0 (pa_cons (pv 0) (pa_cons (@pe_callB _ _ _ _ _ _ _ _ _ call_len_seq rfl ml PySem.boot_len (pa_cons (pv 1) pa_nil) (by decide) (by decide) (by rfl) (by rfl)) pa_nil))) (fun _ _=>rfl)) (@pg_tup _ _ _ _ _ (3) rfl (pgs_cons (pg_name (i:=3) scCase.nd rfl (Or.inl rfl)) (pgs_cons (pg_name (i:=4) scCase.nd rfl (Or.inl rfl)) (pgs_cons (pg_name (i:=5) scCase.nd rfl (Or.inl rfl)) pgs_nil))) (by rfl) (by rfl)) (by rfl) (by rfl) (by rfl)) (pss_one (ps_ret (pe_tup (pa_cons (pv 1) (pa_cons (pv 3) (pa_cons (@pe_callTy _ _ _ _ _ _ _ _ _ call_tuple_of rfl mtu PyProof.Rows.boot_tuple (pa_cons (@pe_comp _ _ _ _ _ _ _ (["_law_one", "_law_box_here"]) (1) ([0]) _ _ _ _ rfl (@pi_tup _ _ _ _ (pv 4)) cs_case1 (fun _ _ _ _ _=>(pg_name (i:=0) nd_case1 rfl (Or.inl rfl))) (fun _ _ _ _ _=>(@pf_nil _)) (fun _ _ _ _ _=>(pe_call GN (hr.mono (by decide)) rfl mN kN bN .nil pass0 (pa_cons (pv 1) pa_nil))) (by intro _; rfl)) pa_nil) (by decide) (by decide) (by rfl) (by rfl)) pa_nil)))))))))),?_⟩
 try dsimp only [cxOf,Cx.nox,Cx.wish]
 have big:=line24
 refine seqF fun F1 f1=>ifG fun G1 g1=>⟨_,rfl,p,3,rfl,B,by decide,by decide,fun d1 H1 d10 d11 B1 e1=>⟨_,_,rfl,rfl,_,rfl,g1 _ _ ?_⟩⟩
 clear g1
 have k1 : But p H H1:=But.of_eq e1
 refine ite2 (fun c=>?_) (fun c=>f1 _ _ ?_)
 ·clear f1
  refine seqF fun F2 f2=>⟨_,rfl,p,rfl,B1,fun r ds xs H2 hr2 hD hl hok hpa B2 k2=>f2 _ _ ?_⟩
  clear f2
  have ln:=hD.len
  obtain ⟨d,hat,hd,bs,e,hp,_⟩:=dfs_at hD (k:=0) (by decide) (om361 hl ln)
  refine ⟨_,rfl,_,rfl,r,_,_,_,rfl,rfl,SqT.of hr2,hat,d.p,_,_,_,rfl,rfl,SqT.of hp,at0,_,rfl,p,6,rfl,B2,by decide,by decide,fun d3 H3 d30 d31 B3 e3=>?_⟩
  have c3 : But p H2 H3:=But.of_eq e3
  refine ⟨sz1,fun u nu=>⟨sz3,fun t nt=>?_⟩⟩
  have s4 : Same H3 (upd (upd H3 u (.tup [.int d3])) t (.tup [.ref r,.str d.f,.ref u])):=(same_upd nu).trans (same_upd nt)
  have tm:=(c3.tm B2).trans (Same.tm s4)
  exact q t r _ _ ds xs _ upd_same (tm _ _ hr2) (hD.mono tm) (om362 hl) (om363 hl) hok (B3.same s4) ((k1.trans k2).trans (c3.trans (But.of_same s4)))
 clear f1
 refine seqF fun F1 f1=>⟨sz4,fun l nl=>⟨_,rfl,p,4,rfl,B1.upd_new nl,by decide,by decide,fun d2 H2 d20 d21 B2 e2=>?_⟩⟩
 have k2 : But p H1 H2:=((But.refl).upd_new nl).trans (But.of_eq e2)
 obtain ⟨m,hat,m3,m8⟩:=tot_at d20 d21
 refine ⟨l,_,_,_,rfl,rfl,SqL.of (by rw [e2 l (B1.ne nl)]; exact upd_same),hat,f1 _ _ ?_⟩
 clear f1
 refine seqF fun F1 f1=>⟨_,rfl,_,rfl,_,rfl,p,m,rfl,B2,om364 m3,om365 m8,fun d3 H3 d30 d31 B3 e3=>⟨_,_,rfl,rfl,p,1 + d3,12,rfl,B3,om89 d30,om366 m8 d31,fun r ds xs H4 hr4 hD hl hok hpa B4 k4=>f1 _ _ ?_⟩⟩
 clear f1
 have ln:=hD.len
 have K4 : But p H H4:=(k1.trans k2).trans ((But.of_eq e3).trans k4)
 refine seqF fun F1 f1=>⟨_,rfl,_,rfl,_,rfl,r,_,rfl,.inr (SqT.of hr4),p,_,rfl,B4,om367 d30 hl ln,om368 m8 d31 hl ln,fun d5 H5 d50 d51 B5 e5=>?_⟩
 have c5 : But p H4 H5:=But.of_eq e5
 have tm5:=c5.tm B4
 obtain ⟨d,hat,hd,bs,e,hp,_⟩:=dfs_at (hD.mono tm5) d50 d51
 refine ⟨r,_,_,_,rfl,rfl,SqT.of (tm5 _ _ hr4),hat,d.p,_,rfl,SqT.of hp,rfl,_,_,rfl,_,_,rfl,_,_,rfl,rfl,f1 _ _ ?_⟩
 clear f1
 obtain ⟨pv,hpv,hpl⟩:=hpa d hd
 have hpv5:=tm5 _ _ hpv
 refine ⟨_,rfl,_,rfl,_,rfl,d.pa,rfl,⟨_,SqT.of hpv5⟩,?_⟩
 refine compR_tup (K:=K) (xs:=pv) (om77 big hpl) (fun i zs H6=>zs.length = i ∧ BoxAt H6 p ∧ But p H5 H6) ⟨rfl,B5,But.refl⟩ (fun i zs H6 h6=>?_) (fun i x zs H6 hx h6=>?_) (fun zs H6 h6 l nl=>?_)
 ·exact ⟨SqT.of (h6.2.2.tm B5 _ _ hpv5),Nat.le_of_eq h6.1⟩
 ·exact ⟨_,rfl,p,rfl,h6.2.1,fun e H7 e0 e1 B7 e7=>⟨by rw [List.length_append,h6.1]; rfl,B7,h6.2.2.trans (But.of_eq e7)⟩⟩
 ·refine ⟨l,_,rfl,.inl ⟨SqL.of upd_same,fun l2 nl2=>⟨sz3,fun t nt=>?_⟩⟩⟩
  have s7 : Same H6 (upd (upd (upd H6 l (.lst zs)) l2 (.tup zs)) t (.tup [.ref r,.str d.f,.ref l2])):=((same_upd nl).trans (same_upd nl2)).trans (same_upd nt)
  have tm:=tm5.trans ((h6.2.2.tm B5).trans (Same.tm s7))
  exact q t r _ _ ds xs _ upd_same (tm _ _ hr4) (hD.mono tm) (om369 d30 hl) (om370 m8 d31 hl) hok (h6.2.1.same s7) (K4.trans (c5.trans (h6.2.2.trans (But.of_same s7))))
end
end K17
namespace K17
open PySem PySem.Spec PyProof.Rows L2
noncomputable abbrev sDeeds : Stmt:=top 34
noncomputable def Bd.deeds : Bd → List Dd
 | .nil=>[]
 | .lf p l r=>(if l.isCut = true then [Dd.st p] else []) ++ r.deeds
 | .ite _ t _ a b r=>Dd.ask t :: (a.deeds ++ (b.deeds ++ r.deeds))
 | .loop _ t _ a r=>Dd.ask t :: (a.deeds ++ r.deeds)
theorem deeds_app : ∀ (a b : Bd),(a.app b).deeds = a.deeds ++ b.deeds
 | .nil,_=>rfl
 | .lf p l r,b=>by show _ ++ (r.app b).deeds = (_ ++ r.deeds) ++ b.deeds; rw [deeds_app r b,List.append_assoc]
 | .ite _ t _ x y r,b=>by show Dd.ask t :: (x.deeds ++ (y.deeds ++ (r.app b).deeds)) = Dd.ask t :: (x.deeds ++ (y.deeds ++ r.deeds)) ++ b.deeds; rw [deeds_app r b,List.cons_append,List.append_assoc,List.append_assoc]
 | .loop _ t _ x r,b=>by show Dd.ask t :: (x.deeds ++ (r.app b).deeds) = Dd.ask t :: (x.deeds ++ r.deeds) ++ b.deeds; rw [deeds_app r b,List.cons_append,List.append_assoc]
theorem deeds_len : ∀ (a : Bd),a.deeds.length ≤ a.size
 | .nil=>Nat.le_refl 0
 | .lf p l r=>by
  have:=deeds_len r
  show ((if l.isCut = true then [Dd.st p] else []) ++ r.deeds).length ≤ r.size + 1
  rw [List.length_append]
  split
  ·show 1 + _ ≤ _; exact om371 this
  ·show 0 + _ ≤ _; exact om372 this
 | .ite _ t _ x y r=>by
  have:=deeds_len x
  have:=deeds_len y
  have:=deeds_len r
  show (x.deeds ++ (y.deeds ++ r.deeds)).length + 1 ≤ x.size + y.size + r.size + 1
  rw [List.length_append,List.length_append]
  omega
 | .loop _ t _ x r=>by
  have:=deeds_len x
  have:=deeds_len r
  show (x.deeds ++ r.deeds).length + 1 ≤ x.size + r.size + 1
  rw [List.length_append]
  omega
theorem le_a {D a b : List Dd} {t : Addr} (h : D.length + a.length + b.length + 1 ≤ 10000000) : (D ++ [Dd.ask t]).length + a.length ≤ sizeLine:=by
 rw [List.length_append]
 exact Nat.le_trans (show D.length + 1 + a.length ≤ 10000000 by exact om373 h) (by decide)
theorem le_b {D a b : List Dd} {t : Addr} (h : D.length + a.length + b.length + 1 ≤ 10000000) : ((D ++ [Dd.ask t]) ++ a).length + b.length ≤ sizeLine:=by
 rw [List.length_append,List.length_append]
 exact Nat.le_trans (show D.length + 1 + a.length + b.length ≤ 10000000 by exact om374 h) (by decide)
theorem le_i {D a b : List Dd} {d : Dd} {w n m : Nat} (h : D.length + ((d :: (a ++ (b ++ []))).length + w) = n) (k : n ≤ m) (z : m ≤ 10000000) : D.length + a.length + b.length + 1 ≤ 10000000:=by
 rw [List.length_cons,List.length_append,List.append_nil] at h
 exact om375 h k z
theorem le_l {D a : List Dd} {d : Dd} {w n m : Nat} (h : D.length + ((d :: (a ++ [])).length + w) = n) (k : n ≤ m) (z : m ≤ 10000000) : D.length + a.length + ([] : List Dd).length + 1 ≤ 10000000:=by
 rw [List.length_cons,List.append_nil] at h
 show D.length + a.length + 0 + 1 ≤ _
 exact om376 h k z
theorem ifNX {F : Bool → Hp → Prop} {b : Bool} {H : Hp} (e : b = false) (h : F false H) : F b H:=by rw [e]; exact h
theorem ifNY {F : Bool → Hp → Prop} {b : Bool} {H : Hp} (e : b = true) (h : F true H) : F b H:=by rw [e]; exact h
noncomputable def spDeeds (n : Nat) : Sp:=fun vs H Q _=>∃ (a : Addr) (b : Bd) (xs : List V),vs = [.ref a] ∧ H a = some (.tup xs) ∧ BdV H b xs ∧ b.dep < n ∧ b.size ≤ 10000000 ∧ ∀ (l : Addr) (ls : List V) (H' : Hp),H' l = some (.lst ls) → TrH H' (listT (b.deeds.map ddT)) .non ls → H l = none → Same H H' → Q (.ref l) H'
inductive DI (a : Addr) (b : Bd) (xs : List V) (H : Hp) (i : Nat) (σ : L2.St) (H' : Hp) : Prop
 | mk (o : Option V) (l : Addr) (ls : List V) (D : List Dd) (W : Bd) (e0 : σ = [some (.ref a),some (.ref l),o]) (e1 : H' l = some (.lst ls)) (e2 : TrH H' (listT (D.map ddT)) .non ls) (e3 : D ++ W.deeds = b.deeds) (e4 : BdV H W (xs.drop i)) (e5 : W.dep ≤ b.dep) (e6 : W.size ≤ b.size) (e7 : H l = none) (e8 : Same H H') : DI a b xs H i σ H'
section
variable {P : Program} {w : World} {K : PySem.W.Frag} {mg : Str → Option Value} {base : Heap}
theorem scDeeds : FnScope ["_law_body_here", "_law_found", "_law_statement_here"] ["_law_body_here"] (defScope sDeeds):=⟨rfl,rfl,rfl,by decide +kernel,rfl,by decide +kernel,by decide +kernel⟩
theorem ok_deeds {f : Addr} {fd : FuncData} {n : Nat} (F : Fun K "_law_deeds" "_law_deeds" sDeeds f fd) (G : FnOk P w K mg base CX0 n f fd ["_law_body_here"] (spDeeds n)) (bF : Binds K fd ["_law_body_here"] []) (kF : PySem.W.keepIn K (.ref f) = true) (mF : mg "_law_deeds" = some (.ref f)) : FnOk P w K mg base CX0 (n + 1) f fd ["_law_body_here"] (spDeeds (n + 1)):=by
 refine F.ok scDeeds (fun vs H Q E h=>?_) (fun cdv A outer s H vs Q E hr h=>?_)
 ·refine opq fun Gq kq=>?_
  obtain ⟨a,b,xs,rfl,_⟩:=h
  refine kq ?_
  rfl
 refine opq fun Gq kq=>?_
 obtain ⟨a,b,xs,rfl,ha,hb,hd,hz,q⟩:=h
 refine kq ?_
 refine ⟨_,(pss_cons (ps_set (i:=1) scDeeds.nd rfl (Or.inl rfl) (pe_lst pa_nil)) (pss_cons (@ps_for _ _ _ _ _ _ _ _ PassesOwn.never rfl (@pi_tup _ _ _ _ (pv 0)) (pg_name (i:=2) scDeeds.nd rfl (Or.inl rfl)) (pss_cons (ps_if (@pt_cmpR _ _ _ _ _ _ _ _ op_in_seq (@pe_ix _ _ _ _ _ _ _ ix_tup (pv 2) pe_int (fun _ _=>rfl)) (pe_tup (pa_cons pe_str (pa_cons pe_str (pa_cons pe_str pa_nil)))) rfl) (pss_one (ps_expr (@pe_bm _ _ _ _ _ _ _ _ _ _ _ _ PySem.F.plainAttrs_list PySem.F.slot_list_append PySem.F.type_list_append mt_append (pv 1) (pa_cons (pv 2) pa_nil) (by rfl) (by rfl) (by rfl) (by rfl) (by rfl)))) pss_nil) (pss_cons (ps_if (@pt_cmpR _ _ _ _ _ _ _ _ op_eq (@pe_ix _ _ _ _ _ _ _ ix_tup (pv 2) pe_int (fun _ _=>rfl)) pe_str (@nomark _ _ (by decide) (by decide))) (pss_one (ps_set (i:=1) scDeeds.nd rfl (Or.inl rfl) (pe_op op_cat (pe_op op_cat (pe_op op_cat (pv 1) (pe_lst (pa_cons (pe_tup (pa_cons pe_str (pa_cons (@pe_ix _ _ _ _ _ _ _ ix_tup (pv 2) pe_int (fun _ _=>rfl)) pa_nil))) pa_nil))) (pe_call G hr rfl mF kF bF .nil pass0 (pa_cons (@pe_ix _ _ _ _ _ _ _ ix_tup (pv 2) pe_int (fun _ _=>rfl)) pa_nil))) (pe_call G hr rfl mF kF bF .nil pass0 (pa_cons (@pe_ix _ _ _ _ _ _ _ ix_tup (pv 2) pe_int (fun _ _=>rfl)) pa_nil))))) pss_nil) (pss_one (ps_if (@pt_cmpR _ _ _ _ _ _ _ _ op_eq (@pe_ix _ _ _ _ _ _ _ ix_tup (pv 2) pe_int (fun _ _=>rfl)) pe_str (@nomark _ _ (by decide) (by decide))) (pss_one (ps_set (i:=1) scDeeds.nd rfl (Or.inl rfl) (pe_op op_cat (pe_op op_cat (pv 1) (pe_lst (pa_cons (pe_tup (pa_cons pe_str (pa_cons (@pe_ix _ _ _ _ _ _ _ ix_tup (pv 2) pe_int (fun _ _=>rfl)) pa_nil))) pa_nil))) (pe_call G hr rfl mF kF bF .nil pass0 (pa_cons (@pe_ix _ _ _ _ _ _ _ ix_tup (pv 2) pe_int (fun _ _=>rfl)) pa_nil))))) pss_nil)))) (by intro _; rfl)) (pss_one (ps_ret (pv 1))))),?_⟩
 try dsimp only [cxOf,Cx.nox,Cx.wish]
 have big:=line24
 refine seqF fun F1 f1=>⟨Nat.zero_le _,fun l nl=>f1 _ _ ?_⟩
 clear f1
 refine seqF fun F1 f1=>forE fun J j=>⟨_,rfl,a,rfl,⟨_,SqT.of (keepN ha nl)⟩,j _ _ ?_⟩
 clear j
 have lb:=deeds_len b
 refine for_tupE (K:=K) (xs:=xs) (DI a b xs H) ⟨none,l,[],[],b,rfl,upd_same,rfl,rfl,hb,Nat.le_refl _,Nat.le_refl _,nl,same_upd nl⟩ (fun i σ H' _ h=>?_) ?_ (fun σ H' h=>f1 _ _ ?_)
 ·obtain ⟨o,l,ls,D,W,rfl,hl,tr,eD,hW,e5,e6,e7,sm⟩:=h
  exact SqT.of (sm _ _ ha)
 ·intro E _ i x σ H1 hx fin Gq kq h
  obtain ⟨o,l,ls,D,W,rfl,hl,tr,eD,hW,e5,e6,nl,sm⟩:=h
  have hi : i < xs.length:=(List.getElem?_eq_some_iff.mp hx).1
  have ex : xs[i] = x:=(List.getElem?_eq_some_iff.mp hx).2
  rw [List.drop_eq_getElem_cons hi,ex] at hW
  obtain ⟨s,W',rfl,hs,hW'⟩:=hW.first
  refine kq ?_
  clear kq f1
  rw [deeds_app] at eD
  rw [dep_app] at e5
  rw [size_app] at e6
  have ll:=trs_len tr
  rw [List.length_map] at ll
  have eL:=congrArg List.length eD
  rw [List.length_append,List.length_append] at eL
  have done : ∀ (l' : Addr) (ls' : List V) (H3 : Hp),H3 l' = some (.lst ls') → TrH H3 (listT ((D ++ s.deeds).map ddT)) .non ls' → H l' = none → Same H H3 → E.nx [some (.ref a),some (.ref l'),some x] H3:=fun l' ls' H3 x1 x2 x3 x4=>fin _ _ ⟨_,l',ls',D ++ s.deeds,W',rfl,x1,x2,by rw [List.append_assoc]; exact eD,hW',om377 e5,om378 e6,x3,x4⟩
  clear fin
  show tSeq (tIfS _ _ _) _ E _ _
  have hsH:=hs.mono (Same.tm sm)
  refine opq fun Gq kq=>?_ -- KQ1
  cases hs with
  | lf p lf vs h1H h2H =>
   clear hsH
   have h1:=sm _ _ h1H
   have h2:=h2H
   have lz : ls.length < 16777216:=om379 hz lb ll eL
   cases lf with
   | rd x t T =>
    obtain ⟨rfl,_⟩:=h2
    refine kq ?_
    refine seqF fun F1 f1=>ifE fun Gi kT kF=>⟨_,rfl,p,_,_,_,rfl,rfl,SqT.of h1,rfl,(by exact sz3),fun t3 nt3=>⟨t3,_,rfl,.inr (SqT.of upd_same),rfl,rfl,_,rfl,ifNY (by decide +kernel) (kT _ ?_)⟩⟩
    clear kT kF
    have s2 : Same H1 (upd H1 t3 (.tup [.str "read",.str "write",.str "call"])):=same_upd nt3
    generalize upd H1 t3 (.tup [.str "read",.str "write",.str "call"]) = H2 at s2
    have hl2:=s2 _ _ hl
    have g2:=s2 _ _ h1
    have tr2:=tr.mono (Same.tm s2)
    have sm2:=sm.trans s2
    refine ⟨_,rfl,.inl ⟨rfl,_,SqL.of hl2⟩,_,rfl,l,_,_,rfl,rfl,hl2,om39 big lz,f1 _ _ ?_⟩
    clear f1
    have tm:=tm_own (zs:=ls ++ [.ref p]) hl2
    have hl3 : upd H2 l (.lst (ls ++ [.ref p])) l = some (.lst (ls ++ [.ref p])):=upd_same
    have sm3 : Same H (upd H2 l (.lst (ls ++ [.ref p]))):=fun c o e=>by rw [upd_ne (ne_of_none e nl)]; exact sm2 _ _ e
    have g3:=tm _ _ g2
    have tr3:=trs_app (trs_cons (t:=ddT (.st p)) rfl tr_ref trs_nil) (tr2.mono tm)
    generalize upd H2 l (.lst (ls ++ [.ref p])) = H3 at hl3 sm3 g3 tr3
    refine seqF fun F1 f1=>ifE fun Gi kT kF=>⟨_,rfl,p,_,_,_,rfl,rfl,SqT.of g3,rfl,rfl,_,rfl,ifNX (by decide +kernel) (kF _ (f1 _ _ ?_))⟩
    clear f1
    exact ifE fun Gi kT kF=>⟨_,rfl,p,_,_,_,rfl,rfl,SqT.of g3,rfl,rfl,_,rfl,ifNX (by decide +kernel) (kF _ (done l _ H3 hl3 (by rw [List.map_append]; exact tr3) nl sm3))⟩
   | st x t T =>
    obtain ⟨rfl,_⟩:=h2
    refine kq ?_
    refine seqF fun F1 f1=>ifE fun Gi kT kF=>⟨_,rfl,p,_,_,_,rfl,rfl,SqT.of h1,rfl,(by exact sz3),fun t3 nt3=>⟨t3,_,rfl,.inr (SqT.of upd_same),rfl,rfl,_,rfl,ifNX (by decide +kernel) (kF _ ?_)⟩⟩
    clear kT kF
    refine f1 _ _ ?_
    clear f1
    have s2 : Same H1 (upd H1 t3 (.tup [.str "read",.str "write",.str "call"])):=same_upd nt3
    generalize upd H1 t3 (.tup [.str "read",.str "write",.str "call"]) = H2 at s2
    have hl2:=s2 _ _ hl
    have g2:=s2 _ _ h1
    have tr2:=tr.mono (Same.tm s2)
    have sm2:=sm.trans s2
    refine seqF fun F1 f1=>ifE fun Gi kT kF=>⟨_,rfl,p,_,_,_,rfl,rfl,SqT.of g2,rfl,rfl,_,rfl,ifNX (by decide +kernel) (kF _ (f1 _ _ ?_))⟩
    clear f1
    exact ifE fun Gi kT kF=>⟨_,rfl,p,_,_,_,rfl,rfl,SqT.of g2,rfl,rfl,_,rfl,ifNX (by decide +kernel) (kF _ (done l _ H2 hl2 (by show TrH H2 (listT ((D ++ []).map ddT)) .non ls; rw [List.append_nil]; exact tr2) nl sm2))⟩
   | wr t u T U =>
    obtain ⟨rfl,_⟩:=h2
    refine kq ?_
    refine seqF fun F1 f1=>ifE fun Gi kT kF=>⟨_,rfl,p,_,_,_,rfl,rfl,SqT.of h1,rfl,(by exact sz3),fun t3 nt3=>⟨t3,_,rfl,.inr (SqT.of upd_same),rfl,rfl,_,rfl,ifNY (by decide +kernel) (kT _ ?_)⟩⟩
    clear kT kF
    have s2 : Same H1 (upd H1 t3 (.tup [.str "read",.str "write",.str "call"])):=same_upd nt3
    generalize upd H1 t3 (.tup [.str "read",.str "write",.str "call"]) = H2 at s2
    have hl2:=s2 _ _ hl
    have g2:=s2 _ _ h1
    have tr2:=tr.mono (Same.tm s2)
    have sm2:=sm.trans s2
    refine ⟨_,rfl,.inl ⟨rfl,_,SqL.of hl2⟩,_,rfl,l,_,_,rfl,rfl,hl2,om39 big lz,f1 _ _ ?_⟩
    clear f1
    have tm:=tm_own (zs:=ls ++ [.ref p]) hl2
    have hl3 : upd H2 l (.lst (ls ++ [.ref p])) l = some (.lst (ls ++ [.ref p])):=upd_same
    have sm3 : Same H (upd H2 l (.lst (ls ++ [.ref p]))):=fun c o e=>by rw [upd_ne (ne_of_none e nl)]; exact sm2 _ _ e
    have g3:=tm _ _ g2
    have tr3:=trs_app (trs_cons (t:=ddT (.st p)) rfl tr_ref trs_nil) (tr2.mono tm)
    generalize upd H2 l (.lst (ls ++ [.ref p])) = H3 at hl3 sm3 g3 tr3
    refine seqF fun F1 f1=>ifE fun Gi kT kF=>⟨_,rfl,p,_,_,_,rfl,rfl,SqT.of g3,rfl,rfl,_,rfl,ifNX (by decide +kernel) (kF _ (f1 _ _ ?_))⟩
    clear f1
    exact ifE fun Gi kT kF=>⟨_,rfl,p,_,_,_,rfl,rfl,SqT.of g3,rfl,rfl,_,rfl,ifNX (by decide +kernel) (kF _ (done l _ H3 hl3 (by rw [List.map_append]; exact tr3) nl sm3))⟩
   | cl x f q2 ts =>
    obtain ⟨rfl,_⟩:=h2
    refine kq ?_
    refine seqF fun F1 f1=>ifE fun Gi kT kF=>⟨_,rfl,p,_,_,_,rfl,rfl,SqT.of h1,rfl,(by exact sz3),fun t3 nt3=>⟨t3,_,rfl,.inr (SqT.of upd_same),rfl,rfl,_,rfl,ifNY (by decide +kernel) (kT _ ?_)⟩⟩
    clear kT kF
    have s2 : Same H1 (upd H1 t3 (.tup [.str "read",.str "write",.str "call"])):=same_upd nt3
    generalize upd H1 t3 (.tup [.str "read",.str "write",.str "call"]) = H2 at s2
    have hl2:=s2 _ _ hl
    have g2:=s2 _ _ h1
    have tr2:=tr.mono (Same.tm s2)
    have sm2:=sm.trans s2
    refine ⟨_,rfl,.inl ⟨rfl,_,SqL.of hl2⟩,_,rfl,l,_,_,rfl,rfl,hl2,om39 big lz,f1 _ _ ?_⟩
    clear f1
    have tm:=tm_own (zs:=ls ++ [.ref p]) hl2
    have hl3 : upd H2 l (.lst (ls ++ [.ref p])) l = some (.lst (ls ++ [.ref p])):=upd_same
    have sm3 : Same H (upd H2 l (.lst (ls ++ [.ref p]))):=fun c o e=>by rw [upd_ne (ne_of_none e nl)]; exact sm2 _ _ e
    have g3:=tm _ _ g2
    have tr3:=trs_app (trs_cons (t:=ddT (.st p)) rfl tr_ref trs_nil) (tr2.mono tm)
    generalize upd H2 l (.lst (ls ++ [.ref p])) = H3 at hl3 sm3 g3 tr3
    refine seqF fun F1 f1=>ifE fun Gi kT kF=>⟨_,rfl,p,_,_,_,rfl,rfl,SqT.of g3,rfl,rfl,_,rfl,ifNX (by decide +kernel) (kF _ (f1 _ _ ?_))⟩
    clear f1
    exact ifE fun Gi kT kF=>⟨_,rfl,p,_,_,_,rfl,rfl,SqT.of g3,rfl,rfl,_,rfl,ifNX (by decide +kernel) (kF _ (done l _ H3 hl3 (by rw [List.map_append]; exact tr3) nl sm3))⟩
   | gv t T =>
    obtain ⟨rfl,_⟩:=h2
    refine kq ?_
    refine seqF fun F1 f1=>ifE fun Gi kT kF=>⟨_,rfl,p,_,_,_,rfl,rfl,SqT.of h1,rfl,(by exact sz3),fun t3 nt3=>⟨t3,_,rfl,.inr (SqT.of upd_same),rfl,rfl,_,rfl,ifNX (by decide +kernel) (kF _ ?_)⟩⟩
    clear kT kF
    refine f1 _ _ ?_
    clear f1
    have s2 : Same H1 (upd H1 t3 (.tup [.str "read",.str "write",.str "call"])):=same_upd nt3
    generalize upd H1 t3 (.tup [.str "read",.str "write",.str "call"]) = H2 at s2
    have hl2:=s2 _ _ hl
    have g2:=s2 _ _ h1
    have tr2:=tr.mono (Same.tm s2)
    have sm2:=sm.trans s2
    refine seqF fun F1 f1=>ifE fun Gi kT kF=>⟨_,rfl,p,_,_,_,rfl,rfl,SqT.of g2,rfl,rfl,_,rfl,ifNX (by decide +kernel) (kF _ (f1 _ _ ?_))⟩
    clear f1
    exact ifE fun Gi kT kF=>⟨_,rfl,p,_,_,_,rfl,rfl,SqT.of g2,rfl,rfl,_,rfl,ifNX (by decide +kernel) (kF _ (done l _ H2 hl2 (by show TrH H2 (listT ((D ++ []).map ddT)) .non ls; rw [List.append_nil]; exact tr2) nl sm2))⟩
  | ite p t T a2 b2 qa qb as bs h1H h0 h2 h3 h4 h5 =>
   clear hsH
   have h1:=sm _ _ h1H
   have e5' : max (max (max a2.dep b2.dep + 1) 0) W'.dep ≤ b.dep:=e5
   have e6' : a2.size + b2.size + 0 + 1 + W'.size ≤ b.size:=e6
   have eA:=le_i eL lb hz
   refine kq ?_
   refine seqF fun F1 f1=>ifE fun Gi kT kF=>⟨_,rfl,p,_,_,_,rfl,rfl,SqT.of h1,rfl,(by exact sz3),fun t3 nt3=>⟨t3,_,rfl,.inr (SqT.of upd_same),rfl,rfl,_,rfl,ifNX (by decide +kernel) (kF _ ?_)⟩⟩
   clear kT kF
   refine f1 _ _ ?_
   clear f1
   have s2 : Same H1 (upd H1 t3 (.tup [.str "read",.str "write",.str "call"])):=same_upd nt3
   generalize upd H1 t3 (.tup [.str "read",.str "write",.str "call"]) = H2 at s2
   have hl2:=s2 _ _ hl
   have g2:=s2 _ _ h1
   have tr2:=tr.mono (Same.tm s2)
   have sm2:=sm.trans s2
   refine seqF fun F1 f1=>ifE fun Gi kT kF=>⟨_,rfl,p,_,_,_,rfl,rfl,SqT.of g2,rfl,rfl,_,rfl,ifNY (by decide +kernel) (kT _ ?_)⟩
   refine ⟨_,rfl,_,rfl,p,_,_,_,rfl,rfl,SqT.of g2,rfl,(by exact sz2),fun u nu=>⟨(by exact sz1),fun l1 nl1=>?_⟩⟩
   have s4 : Same H2 (upd (upd H2 u (.tup [.str "ask",.ref t])) l1 (.lst [.ref u])):=(same_upd nu).trans (same_upd nl1)
   have a4 : TrH (upd (upd H2 u (.tup [.str "ask",.ref t])) l1 (.lst [.ref u])) (listT [ddT (.ask t)]) .non [.ref u]:=trs_cons rfl (tr_tup (keepN upd_same nl1) (trs_cons rfl tr_str (trs_cons rfl tr_ref trs_nil))) trs_nil
   have l4 : upd (upd H2 u (.tup [.str "ask",.ref t])) l1 (.lst [.ref u]) l1 = some (.lst [.ref u]):=upd_same
   generalize upd (upd H2 u (.tup [.str "ask",.ref t])) l1 (.lst [.ref u]) = H4 at s4 a4 l4
   refine ⟨l,l1,_,_,rfl,rfl,s4 _ _ hl2,l4,(by show ls.length + 1 ≤ sizeLine; exact om90 big ll eA),fun m0 n0=>?_⟩
   have s5 : Same H4 (upd H4 m0 (.lst (ls ++ [.ref u]))):=same_upd n0
   have m5 : upd H4 m0 (.lst (ls ++ [.ref u])) m0 = some (.lst (ls ++ [.ref u])):=upd_same
   generalize upd H4 m0 (.lst (ls ++ [.ref u])) = G0 at s5 m5
   have sm5:=(sm2.trans s4).trans s5
   have z0 : H m0 = none:=(sm2.trans s4).free n0
   have q0 : TrH G0 (listT ((D ++ [Dd.ask t]).map ddT)) .non (ls ++ [.ref u]):=by
    rw [List.map_append]
    exact trs_app (a4.mono (Same.tm s5)) ((tr2.mono (Same.tm s4)).mono (Same.tm s5))
   have c0:=sm5
   refine ⟨_,rfl,p,_,_,_,rfl,rfl,SqT.of (c0 _ _ h1H),rfl,qa,a2,as,rfl,c0 _ _ h2,h4.mono (Same.tm c0),om380 hd e5',om381 hz e6',fun l0x ls0 J0 hj0 tj0 nj0 sj0=>?_⟩
   have ln0:=trs_len tj0
   have lm0:=trs_len q0
   rw [List.length_map] at ln0 lm0
   refine ⟨m0,l0x,_,_,rfl,rfl,sj0 _ _ m5,hj0,?_,fun m1 n1=>?_⟩
   ·rw [ln0,lm0]
    exact le_a eA
   have sx0 : Same J0 (upd J0 m1 (.lst ((ls ++ [V.ref u]) ++ ls0))):=same_upd n1
   have m1h : upd J0 m1 (.lst ((ls ++ [V.ref u]) ++ ls0)) m1 = some (.lst ((ls ++ [V.ref u]) ++ ls0)):=upd_same
   have q1 : TrH (upd J0 m1 (.lst ((ls ++ [V.ref u]) ++ ls0))) (listT (((D ++ [Dd.ask t]) ++ a2.deeds).map ddT)) .non ((ls ++ [V.ref u]) ++ ls0):=by
    rw [List.map_append]
    exact trs_app (tj0.mono (Same.tm sx0)) ((q0.mono (Same.tm sj0)).mono (Same.tm sx0))
   have c1:=(c0.trans sj0).trans sx0
   have z1 : H m1 = none:=(c0.trans sj0).free n1
   refine ⟨_,rfl,p,_,_,_,rfl,rfl,SqT.of (c1 _ _ h1H),rfl,qb,b2,bs,rfl,c1 _ _ h3,h5.mono (Same.tm c1),om382 hd e5',om383 hz e6',fun l1x ls1 J1 hj1 tj1 nj1 sj1=>?_⟩
   have ln1:=trs_len tj1
   have lm1:=trs_len q1
   rw [List.length_map] at ln1 lm1
   refine ⟨m1,l1x,_,_,rfl,rfl,sj1 _ _ m1h,hj1,?_,fun m2 n2=>?_⟩
   ·rw [ln1,lm1]
    exact le_b eA
   have sx1 : Same J1 (upd J1 m2 (.lst (((ls ++ [V.ref u]) ++ ls0) ++ ls1))):=same_upd n2
   have m2h : upd J1 m2 (.lst (((ls ++ [V.ref u]) ++ ls0) ++ ls1)) m2 = some (.lst (((ls ++ [V.ref u]) ++ ls0) ++ ls1)):=upd_same
   have q2 : TrH (upd J1 m2 (.lst (((ls ++ [V.ref u]) ++ ls0) ++ ls1))) (listT ((((D ++ [Dd.ask t]) ++ a2.deeds) ++ b2.deeds).map ddT)) .non (((ls ++ [V.ref u]) ++ ls0) ++ ls1):=by
    rw [List.map_append]
    exact trs_app (tj1.mono (Same.tm sx1)) ((q1.mono (Same.tm sj1)).mono (Same.tm sx1))
   have c2:=(c1.trans sj1).trans sx1
   have z2 : H m2 = none:=(c1.trans sj1).free n2
   refine f1 _ _ ?_
   clear f1
   refine ifE fun Gi kT kF=>⟨_,rfl,p,_,_,_,rfl,rfl,SqT.of (c2 _ _ h1H),rfl,rfl,_,rfl,ifNX (by decide +kernel) (kF _ (done m2 _ _ m2h ?_ z2 c2))⟩
   have eq : D ++ Bd.deeds (.ite p t T a2 b2 .nil) = ((D ++ [Dd.ask t]) ++ a2.deeds) ++ b2.deeds:=by
    show D ++ Dd.ask t :: (a2.deeds ++ (b2.deeds ++ [])) = _
    rw [List.append_nil,List.append_assoc,List.append_assoc]
    rfl
   rw [eq]
   exact q2
  | loop p t T a2 qa as h1H h0 h2 h3 =>
   clear hsH
   have h1:=sm _ _ h1H
   have e5' : max (max (a2.dep + 1) 0) W'.dep ≤ b.dep:=e5
   have e6' : a2.size + 0 + 1 + W'.size ≤ b.size:=e6
   have eA:=le_l eL lb hz
   refine kq ?_
   refine seqF fun F1 f1=>ifE fun Gi kT kF=>⟨_,rfl,p,_,_,_,rfl,rfl,SqT.of h1,rfl,(by exact sz3),fun t3 nt3=>⟨t3,_,rfl,.inr (SqT.of upd_same),rfl,rfl,_,rfl,ifNX (by decide +kernel) (kF _ ?_)⟩⟩
   clear kT kF
   refine f1 _ _ ?_
   clear f1
   have s2 : Same H1 (upd H1 t3 (.tup [.str "read",.str "write",.str "call"])):=same_upd nt3
   generalize upd H1 t3 (.tup [.str "read",.str "write",.str "call"]) = H2 at s2
   have hl2:=s2 _ _ hl
   have g2:=s2 _ _ h1
   have tr2:=tr.mono (Same.tm s2)
   have sm2:=sm.trans s2
   refine seqF fun F1 f1=>ifE fun Gi kT kF=>⟨_,rfl,p,_,_,_,rfl,rfl,SqT.of g2,rfl,rfl,_,rfl,ifNX (by decide +kernel) (kF _ (f1 _ _ ?_))⟩
   clear f1
   refine ifE fun Gi kT kF=>⟨_,rfl,p,_,_,_,rfl,rfl,SqT.of g2,rfl,rfl,_,rfl,ifNY (by decide +kernel) (kT _ ?_)⟩
   refine ⟨_,rfl,_,rfl,p,_,_,_,rfl,rfl,SqT.of g2,rfl,(by exact sz2),fun u nu=>⟨(by exact sz1),fun l1 nl1=>?_⟩⟩
   have s4 : Same H2 (upd (upd H2 u (.tup [.str "ask",.ref t])) l1 (.lst [.ref u])):=(same_upd nu).trans (same_upd nl1)
   have a4 : TrH (upd (upd H2 u (.tup [.str "ask",.ref t])) l1 (.lst [.ref u])) (listT [ddT (.ask t)]) .non [.ref u]:=trs_cons rfl (tr_tup (keepN upd_same nl1) (trs_cons rfl tr_str (trs_cons rfl tr_ref trs_nil))) trs_nil
   have l4 : upd (upd H2 u (.tup [.str "ask",.ref t])) l1 (.lst [.ref u]) l1 = some (.lst [.ref u]):=upd_same
   generalize upd (upd H2 u (.tup [.str "ask",.ref t])) l1 (.lst [.ref u]) = H4 at s4 a4 l4
   refine ⟨l,l1,_,_,rfl,rfl,s4 _ _ hl2,l4,(by show ls.length + 1 ≤ sizeLine; exact om90 big ll eA),fun m0 n0=>?_⟩
   have s5 : Same H4 (upd H4 m0 (.lst (ls ++ [.ref u]))):=same_upd n0
   have m5 : upd H4 m0 (.lst (ls ++ [.ref u])) m0 = some (.lst (ls ++ [.ref u])):=upd_same
   generalize upd H4 m0 (.lst (ls ++ [.ref u])) = G0 at s5 m5
   have sm5:=(sm2.trans s4).trans s5
   have z0 : H m0 = none:=(sm2.trans s4).free n0
   have q0 : TrH G0 (listT ((D ++ [Dd.ask t]).map ddT)) .non (ls ++ [.ref u]):=by
    rw [List.map_append]
    exact trs_app (a4.mono (Same.tm s5)) ((tr2.mono (Same.tm s4)).mono (Same.tm s5))
   have c0:=sm5
   refine ⟨_,rfl,p,_,_,_,rfl,rfl,SqT.of (c0 _ _ h1H),rfl,qa,a2,as,rfl,c0 _ _ h2,h3.mono (Same.tm c0),om384 hd e5',om385 hz e6',fun l0x ls0 J0 hj0 tj0 nj0 sj0=>?_⟩
   have ln0:=trs_len tj0
   have lm0:=trs_len q0
   rw [List.length_map] at ln0 lm0
   refine ⟨m0,l0x,_,_,rfl,rfl,sj0 _ _ m5,hj0,?_,fun m1 n1=>?_⟩
   ·rw [ln0,lm0]
    exact le_a eA
   have sx0 : Same J0 (upd J0 m1 (.lst ((ls ++ [V.ref u]) ++ ls0))):=same_upd n1
   have m1h : upd J0 m1 (.lst ((ls ++ [V.ref u]) ++ ls0)) m1 = some (.lst ((ls ++ [V.ref u]) ++ ls0)):=upd_same
   have q1 : TrH (upd J0 m1 (.lst ((ls ++ [V.ref u]) ++ ls0))) (listT (((D ++ [Dd.ask t]) ++ a2.deeds).map ddT)) .non ((ls ++ [V.ref u]) ++ ls0):=by
    rw [List.map_append]
    exact trs_app (tj0.mono (Same.tm sx0)) ((q0.mono (Same.tm sj0)).mono (Same.tm sx0))
   have c1:=(c0.trans sj0).trans sx0
   have z1 : H m1 = none:=(c0.trans sj0).free n1
   refine done m1 _ _ m1h ?_ z1 c1
   have eq : D ++ Bd.deeds (.loop p t T a2 .nil) = (D ++ [Dd.ask t]) ++ a2.deeds:=by
    show D ++ Dd.ask t :: (a2.deeds ++ []) = _
    rw [List.append_nil,List.append_assoc]
    rfl
   rw [eq]
   exact q1
 ·obtain ⟨o,l,ls,D,W,rfl,hl,tr,eD,hW,e5,e6,nl,sm⟩:=h
  rw [List.drop_length] at hW
  have eW : W.deeds = []:=by
   cases W with
   | nil=>rfl
   | lf p l r=>obtain ⟨_,_,e,_⟩:=hW; cases e
   | ite p t T a b r=>obtain ⟨_,_,_,_,_,e,_⟩:=hW; cases e
   | loop p t T a r=>obtain ⟨_,_,_,e,_⟩:=hW; cases e
  rw [eW,List.append_nil] at eD
  rw [eD] at tr
  exact ⟨_,rfl,q l ls _ hl tr nl sm⟩
theorem no_deeds {f : Addr} {fd : FuncData} {k : Nat} : FnOk P w K mg base CX0 k f fd ["_law_body_here"] (spDeeds 0):=by
 have no : ∀ vs H Q E,¬ spDeeds 0 vs H Q E:=fun vs H Q E h=>by
  obtain ⟨a,b,xs,_,_,_,h,_⟩:=h
  exact om386 h
 exact ⟨fun vs H Q E h=>absurd h (no vs H Q E),fun A outer s H args us vs Q E _ _ _ _ h=>absurd h (no vs H Q E)⟩
theorem deedss {f : Addr} {fd : FuncData} (F : Fun K "_law_deeds" "_law_deeds" sDeeds f fd) (bF : Binds K fd ["_law_body_here"] []) (mF : mg "_law_deeds" = some (.ref f)) : ∀ n : Nat,FnOk P w K mg base CX0 n f fd ["_law_body_here"] (spDeeds n)
 | 0=>no_deeds
 | n + 1=>ok_deeds F (deedss F bF mF n) bF F.kp mF
end
end K17
namespace K17
open PySem PySem.Spec PyProof.Rows L2
noncomputable abbrev sRight : Stmt:=top 35
noncomputable abbrev sLaw : Stmt:=top 36
noncomputable def Dd.ways : Dd → Nat
 | .st _=>1
 | .ask _=>2
theorem pB_d (m : Int) : ∀ (b : Bd) (pc : Pc) (fs : List Ct),(pB m b pc fs).2.map Ct.d = fs.map Ct.d ++ b.deeds.reverse
 | .nil,_,fs=>by show fs.map Ct.d = fs.map Ct.d ++ []; rw [List.append_nil]
 | .lf p l r,pc,fs=>by
  have e:=pB_d m r pc fs
  show (pL m p l (pB m r pc fs)).2.map Ct.d = fs.map Ct.d ++ ((if l.isCut = true then [Dd.st p] else []) ++ r.deeds).reverse
  rw [List.reverse_append,← List.append_assoc,← e]
  cases l with
  | rd x t T=>show ((pB m r pc fs).2 ++ [_]).map Ct.d = _; rw [List.map_append]; rfl
  | st x t T=>show (pB m r pc fs).2.map Ct.d = (pB m r pc fs).2.map Ct.d ++ []; rw [List.append_nil]
  | wr t u T U=>show ((pB m r pc fs).2 ++ [_]).map Ct.d = _; rw [List.map_append]; rfl
  | cl x f a ts=>show ((pB m r pc fs).2 ++ [_]).map Ct.d = _; rw [List.map_append]; rfl
  | gv t T=>show (pB m r pc fs).2.map Ct.d = (pB m r pc fs).2.map Ct.d ++ []; rw [List.append_nil]
 | .ite p t T x y r,pc,fs=>by
  show ((pB m x _ (pB m y _ _).2).2 ++ [_]).map Ct.d = fs.map Ct.d ++ (Dd.ask t :: (x.deeds ++ (y.deeds ++ r.deeds))).reverse
  rw [List.map_append,pB_d m x,pB_d m y,pB_d m r,List.reverse_cons,List.reverse_append,List.reverse_append,List.append_assoc,List.append_assoc,List.append_assoc,List.append_assoc,List.append_assoc]
  rfl
 | .loop p t T x r,pc,fs=>by
  show ((pB m x _ _).2 ++ [_]).map Ct.d = fs.map Ct.d ++ (Dd.ask t :: (x.deeds ++ r.deeds)).reverse
  rw [List.map_append,pB_d m x,pB_d m r,List.reverse_cons,List.reverse_append,List.append_assoc,List.append_assoc,List.append_assoc]
  rfl
noncomputable def CtOk (fs : List Ct) : Prop:=∀ c ∈ fs,c.ws.length = c.d.ways
theorem CtOk.snoc {fs : List Ct} {c : Ct} (h : CtOk fs) (hc : c.ws.length = c.d.ways) : CtOk (fs ++ [c]):=mem_snoc h hc
theorem pB_ws (m : Int) : ∀ (b : Bd) (pc : Pc) (fs : List Ct),CtOk fs → CtOk (pB m b pc fs).2
 | .nil,_,fs,h=>h
 | .lf p l r,pc,fs,h=>by
  have e:=pB_ws m r pc fs h
  show CtOk (pL m p l (pB m r pc fs)).2
  cases l with
  | rd x t T=>exact e.snoc rfl
  | st x t T=>exact e
  | wr t u T U=>exact e.snoc rfl
  | cl x f a ts=>exact e.snoc rfl
  | gv t T=>exact e
 | .ite p t T x y r,pc,fs,h=>(pB_ws m x _ _ (pB_ws m y _ _ (pB_ws m r pc fs h))).snoc rfl
 | .loop p t T x r,pc,fs,h=>(pB_ws m x _ _ (pB_ws m r pc fs h)).snoc rfl
noncomputable def ctsOf (nA : Addr) (d : Df) : List Ct:=(run17 nA d).2.reverse
theorem cts_d (nA : Addr) (d : Df) : (ctsOf nA d).map Ct.d = d.b.deeds:=by
 unfold ctsOf run17
 rw [List.map_reverse,pB_d]
 show ([] ++ d.b.deeds.reverse).reverse = _
 rw [List.nil_append,List.reverse_reverse]
theorem cts_ws (nA : Addr) (d : Df) : CtOk (ctsOf nA d):=fun c hc=>pB_ws _ _ _ _ (fun _ h=>absurd h List.not_mem_nil) c (List.mem_reverse.mp hc)
noncomputable def DdG (H : Hp) : Dd → Prop
 | .st p=>∃ (w : Str) (r : List V),H p = some (.tup (.str w :: r)) ∧ decide (V.str w = V.str "ask") = false ∧ ∀ v ∈ r,okV v = true
 | .ask _=>True
theorem DdG.mono {H H' : Hp} (k : TMono H H') {d : Dd} (h : DdG H d) : DdG H' d:=by
 cases d with
 | st p=>obtain ⟨w,r,e,h1⟩:=h; exact ⟨w,r,k _ _ e,h1⟩
 | ask t=>trivial
theorem lf_ok {H : Hp} {p : Addr} {l : Lf} {vs : List V} (h1 : H p = some (.tup vs)) (h2 : LfV H l vs) : DdG H (.st p):=by
 cases l with
 | rd x t T=>obtain ⟨rfl,_⟩:=h2; exact ⟨_,_,h1,by decide +kernel,by simp [okV]⟩
 | st x t T=>obtain ⟨rfl,_⟩:=h2; exact ⟨_,_,h1,by decide +kernel,by simp [okV]⟩
 | wr t u T U=>obtain ⟨rfl,_⟩:=h2; exact ⟨_,_,h1,by decide +kernel,by simp [okV]⟩
 | cl x f a ts=>obtain ⟨rfl,_⟩:=h2; exact ⟨_,_,h1,by decide +kernel,by simp [okV]⟩
 | gv t T=>obtain ⟨rfl,_⟩:=h2; exact ⟨_,_,h1,by decide +kernel,by simp [okV]⟩
theorem deeds_ok {H : Hp} : ∀ {b : Bd} {xs : List V},BdV H b xs → ∀ d ∈ b.deeds,DdG H d
 | .nil,_,_,d,hd=>nomatch hd
 | .lf p l r,_,h,d,hd=>by
  obtain ⟨vs,ys,_,h1,h2,h3⟩:=h
  rcases List.mem_append.mp hd with z | z
  ·cases hc : l.isCut with
   | true=>rw [hc,if_pos rfl] at z; rw [List.mem_singleton.mp z]; exact lf_ok h1 h2
   | false=>rw [hc,if_neg Bool.false_ne_true] at z; cases z
  ·exact deeds_ok h3 d z
 | .ite p t T a b r,_,h,d,hd=>by
  obtain ⟨qa,qb,as,bs,ys,_,h1,h0,h2,h3,h4,h5,h6⟩:=h
  rcases List.mem_cons.mp hd with rfl | z
  ·trivial
  ·rcases List.mem_append.mp z with z | z
   ·exact deeds_ok h4 d z
   ·rcases List.mem_append.mp z with z | z
    ·exact deeds_ok h5 d z
    ·exact deeds_ok h6 d z
 | .loop p t T a r,_,h,d,hd=>by
  obtain ⟨qa,as,ys,_,h1,h0,h2,h4,h6⟩:=h
  rcases List.mem_cons.mp hd with rfl | z
  ·trivial
  ·rcases List.mem_append.mp z with z | z
   ·exact deeds_ok h4 d z
   ·exact deeds_ok h6 d z
theorem trs_leaf {H : Hp} : ∀ {vs : List V},(∀ v ∈ vs,okV v = true) → TrH H (listT (vs.map Tr.lf)) .non vs
 | [],_=>rfl
 | v :: vs,h=>trs_cons rfl ⟨rfl,h v List.mem_cons_self⟩ (trs_leaf fun u hu=>h u (List.mem_cons_of_mem _ hu))
theorem dep_leaf : ∀ (vs : List V),(listT (vs.map Tr.lf)).dep = 0
 | []=>rfl
 | v :: vs=>by show max 0 (listT (vs.map Tr.lf)).dep = 0; rw [dep_leaf vs]; rfl
theorem dd_two {H : Hp} {d : Dd} {v u : V} (g : DdG H d) (h : TrH H (ddT d) v []) (k : TrH H (ddT d) u []) : (∃ l : Tr,l.dep < 16 ∧ TrH H (.tp l) v [] ∧ TrH H (.tp l) u []) ∧ (∃ a xs,v = .ref a ∧ H a = some (.tup xs)) ∧
  ∃ a w r,u = .ref a ∧ H a = some (.tup (.str w :: r)) ∧ (d.ways : Int) = 1 + (if decide (V.str w = V.str "ask") = true then 1 else 0):=by
 cases d with
 | st p =>
  obtain ⟨w,r,e,h1,h2⟩:=g
  obtain ⟨rfl,_⟩:=h
  obtain ⟨rfl,_⟩:=k
  have t : TrH H (.tp (listT ((.str w :: r).map Tr.lf))) (.ref p) []:=tr_tup e (trs_leaf fun v hv=>by
   rcases List.mem_cons.mp hv with rfl | hv
   ·rfl
   ·exact h2 v hv)
  refine ⟨⟨_,by rw [dep_leaf]; decide,t,t⟩,⟨p,_,rfl,e⟩,p,w,r,rfl,e,?_⟩
  rw [h1]
  rfl
 | ask t =>
  refine ⟨⟨_,(by show 0 < 16; decide),h,k⟩,?_,?_⟩
  ·obtain ⟨_,a,xs,rfl,ha,_⟩:=h
   exact ⟨a,xs,rfl,ha⟩
  ·obtain ⟨_,a,xs,rfl,ha,_,_,y,ys,rfl,⟨rfl,_⟩,_⟩:=k
   exact ⟨a,_,ys,rfl,ha,rfl⟩
noncomputable def spRight (nA : Addr) : Sp:=fun vs H Q _=>∃ (v : V) (d : Df),vs = [v,.ref d.p] ∧ TrH H (partT nA d) v [] ∧ DfV H d (.ref d.p) ∧ DfOk d ∧ ∀ H',Same H H' → Q (.bl true) H'
section
variable {P : Program} {w : World} {K : PySem.W.Frag} {mg : Str → Option Value} {base : Heap}
theorem scRight : FnScope ["_law_part", "_law_one", "_law_due", "_law_cut", "_law_deed"] ["_law_part", "_law_one"] (defScope sRight):=⟨rfl,rfl,rfl,by decide +kernel,rfl,by decide +kernel,by decide +kernel⟩
theorem ok_right {f : Addr} {fd : FuncData} {fD nA : Addr} {fdD : FuncData} (F : Fun K "_law_right" "_law_right" sRight f fd) (GD : FnOk P w K mg base CX0 9 fD fdD ["_law_body_here"] (spDeeds 9)) (bD : Binds K fdD ["_law_body_here"] []) (kD : PySem.W.keepIn K (.ref fD) = true) (mD : mg "_law_deeds" = some (.ref fD)) (ml : mg "len" = none) (mtu : mg "tuple" = none) (mi : mg "int" = none) (mis : mg "isinstance" = none) (mz : mg "zip" = none) (ktt : PySem.W.kitOne K (.type "tuple") (.type "tuple") = some true) : FnOk P w K mg base CX0 10 f fd ["_law_part", "_law_one"] (spRight nA):=by
 refine F.ok scRight (fun vs H Q E h=>?_) (fun cdv A outer s H vs Q E hr h=>?_)
 ·refine opq fun Gq kq=>?_
  obtain ⟨v,d,rfl,_⟩:=h
  refine kq ?_
  rfl
 refine opq fun Gq kq=>?_
 obtain ⟨v,d,rfl,hp,hd,hok,q⟩:=h
 refine kq ?_
 refine ⟨_,(pss_cons (ps_if (@PW.pt _ _ _ (@pw_or _ _ _ _ _ _ _ (@pt_not _ _ _ _ (@pt_val _ _ _ (@pe_callB _ _ _ _ _ _ _ _ _ call_isinst rfl mis PyProof.Rows.boot_isinstance (pa_cons (pv 0) (pa_cons (@pe_bltn _ _ (.ty "tuple") _ _ rfl mtu PyProof.Rows.boot_tuple rfl (by decide) (by decide)) pa_nil)) (by decide) (by decide) (by rfl) (by rfl)) (by intro _; rfl))) (@pw_or _ _ _ _ _ _ _ (@pt_cmpR _ _ _ _ _ _ _ _ op_ne (@pe_callB _ _ _ _ _ _ _ _ _ call_len_seq rfl ml PySem.boot_len (pa_cons (pv 0) pa_nil) (by decide) (by decide) (by rfl) (by rfl)) pe_int (@nomark _ _ (by decide) (by decide))) (@pw_or _ _ _ _ _ _ _ (@pt_cmpR _ _ _ _ _ _ _ _ (op_neTr (d:=16) (Nat.lt_of_le_of_lt (Nat.add_le_add_left (by decide : 16 ≤ 64) _) hr.units)) (@pe_slice _ _ _ _ _ _ _ _ _ _ sl_tupA (pv 0) (@po_none _) (@po_some _ _ _ pe_int)) (@pe_slice _ _ _ _ _ _ _ _ _ _ sl_tupA (pv 1) (@po_none _) (@po_some _ _ _ pe_int)) (@nomark _ _ (by decide) (by decide))) (@pw_or1 _ _ _ _ (@pt_not _ _ _ _ (@pt_val _ _ _ (@pe_callB _ _ _ _ _ _ _ _ _ call_isinst rfl mis PyProof.Rows.boot_isinstance (pa_cons (@pe_ix _ _ _ _ _ _ _ ix_tup (pv 0) pe_int (fun _ _=>rfl)) (pa_cons (@pe_bltn _ _ (.ty "tuple") _ _ rfl mtu PyProof.Rows.boot_tuple rfl (by decide) (by decide)) pa_nil)) (by decide) (by decide) (by rfl) (by rfl)) (by intro _; rfl)))))))) (pss_one (ps_ret (@pe_bl _ _ _ _))) pss_nil) (pss_cons (ps_set (i:=2) scRight.nd rfl (Or.inl rfl) (pe_call GD (hr.mono (by decide)) rfl mD kD bD .nil pass0 (pa_cons (@pe_ix _ _ _ _ _ _ _ ix_tup (pv 1) pe_int (fun _ _=>rfl)) pa_nil))) (pss_cons (ps_if (@pt_cmpR _ _ _ _ _ _ _ _ op_ne (@pe_callB _ _ _ _ _ _ _ _ _ call_len_seq rfl ml PySem.boot_len (pa_cons (@pe_ix _ _ _ _ _ _ _ ix_tup (pv 0) pe_int (fun _ _=>rfl)) pa_nil) (by decide) (by decide) (by rfl) (by rfl)) (@pe_callB _ _ _ _ _ _ _ _ _ call_len_seq rfl ml PySem.boot_len (pa_cons (pv 2) pa_nil) (by decide) (by decide) (by rfl) (by rfl)) (@nomark _ _ (by decide) (by decide))) (pss_one (ps_ret (@pe_bl _ _ _ _))) pss_nil) (pss_cons (@ps_for _ _ _ _ _ _ _ _ PassesOwn.never rfl (@pi_zip _ _ _ _ _ _ _ _ _ (false) (true) rfl mz PyProof.Rows.boot_zip (pa_cons (@pe_ix _ _ _ _ _ _ _ ix_tup (pv 0) pe_int (fun _ _=>rfl)) (pa_cons (pv 2) pa_nil)) (by rfl) (by rfl)) (@pg_tup _ _ _ _ _ (2) rfl (pgs_cons (pg_name (i:=3) scRight.nd rfl (Or.inl rfl)) (pgs_cons (pg_name (i:=4) scRight.nd rfl (Or.inl rfl)) pgs_nil)) (by rfl) (by rfl)) (pss_cons (ps_if (@PW.pt _ _ _ (@pw_or _ _ _ _ _ _ _ (@pt_not _ _ _ _ (@pt_val _ _ _ (@pe_callB _ _ _ _ _ _ _ _ _ call_isinst rfl mis PyProof.Rows.boot_isinstance (pa_cons (pv 3) (pa_cons (@pe_bltn _ _ (.ty "tuple") _ _ rfl mtu PyProof.Rows.boot_tuple rfl (by decide) (by decide)) pa_nil)) (by decide) (by decide) (by rfl) (by rfl)) (by intro _; rfl))) (@pw_or _ _ _ _ _ _ _ (@pt_cmpR _ _ _ _ _ _ _ _ op_ne (@pe_callB _ _ _ _ _ _ _ _ _ call_len_seq rfl ml PySem.boot_len (pa_cons (pv 3) pa_nil) (by decide) (by decide) (by rfl) (by rfl)) pe_int (@nomark _ _ (by decide) (by decide))) (@pw_or _ _ _ _ _ _ _ (@pt_cmpR _ _ _ _ _ _ _ _ (op_neTr (d:=16) (Nat.lt_of_le_of_lt (Nat.add_le_add_left (by decide : 16 ≤ 64) _) hr.units)) (@pe_ix _ _ _ _ _ _ _ ix_tup (pv 3) pe_int (fun _ _=>rfl)) (pv 4) (@nomark _ _ (by decide) (by decide))) (@pw_or1 _ _ _ _ (@pt_not _ _ _ _ (@pt_val _ _ _ (@pe_callB _ _ _ _ _ _ _ _ _ call_isinst rfl mis PyProof.Rows.boot_isinstance (pa_cons (@pe_ix _ _ _ _ _ _ _ ix_tup (pv 3) pe_int (fun _ _=>rfl)) (pa_cons (@pe_bltn _ _ (.ty "tuple") _ _ rfl mtu PyProof.Rows.boot_tuple rfl (by decide) (by decide)) pa_nil)) (by decide) (by decide) (by rfl) (by rfl)) (by intro _; rfl)))))))) (pss_one (ps_ret (@pe_bl _ _ _ _))) pss_nil) (pss_one (ps_if (@PW.pt _ _ _ (@pw_or _ _ _ _ _ _ _ (@pt_not _ _ _ _ (@pt_val _ _ _ (@pe_callB _ _ _ _ _ _ _ _ _ call_isinst rfl mis PyProof.Rows.boot_isinstance (pa_cons (@pe_ix _ _ _ _ _ _ _ ix_tup (pv 3) pe_int (fun _ _=>rfl)) (pa_cons (@pe_bltn _ _ (.ty "tuple") _ _ rfl mtu PyProof.Rows.boot_tuple rfl (by decide) (by decide)) pa_nil)) (by decide) (by decide) (by rfl) (by rfl)) (by intro _; rfl))) (@pw_or1 _ _ _ _ (@pt_cmpR _ _ _ _ _ _ _ _ op_ne (@pe_callB _ _ _ _ _ _ _ _ _ call_len_seq rfl ml PySem.boot_len (pa_cons (@pe_ix _ _ _ _ _ _ _ ix_tup (pv 3) pe_int (fun _ _=>rfl)) pa_nil) (by decide) (by decide) (by rfl) (by rfl)) (pe_op op_add pe_int (@pe_callTy _ _ _ _ _ _ _ _ _ call_int1 rfl mi PyProof.Rows.boot_int (pa_cons (@pe_cmpR _ _ _ _ _ _ _ _ op_eq (@pe_ix _ _ _ _ _ _ _ ix_tup (pv 4) pe_int (fun _ _=>rfl)) pe_str (@nomark _ _ (by decide) (by decide))) pa_nil) (by decide) (by decide) (by rfl) (by rfl))) (@nomark _ _ (by decide) (by decide)))))) (pss_one (ps_ret (@pe_bl _ _ _ _))) pss_nil))) (by intro _; rfl)) (pss_one (ps_ret (@pe_bl _ _ _ _))))))),?_⟩
 try dsimp only [cxOf,Cx.nox,Cx.wish]
 have big:=line24
 refine opq fun Gq kq=>?_
 obtain ⟨_,a,xs,rfl,ha,_,_,y0,ys0,rfl,⟨rfl,_⟩,_,_,y1,ys1,rfl,⟨rfl,_⟩,_,_,wv,ys2,rfl,hw,_,_,y3,ys3,rfl,hc,rfl⟩:=hp
 obtain ⟨_,ca,cs,rfl,hca,hcs⟩:=hc
 have lc:=trs_len hcs
 rw [List.length_map] at lc
 have ld:=congrArg List.length (cts_d nA d)
 rw [List.length_map] at ld
 have ld2:=deeds_len d.b
 obtain ⟨⟨yn,y20,okb⟩,hdp,hsz⟩:=hok
 obtain ⟨bs,_,hd1,hd2,hd3⟩:=hd
 have e4 : (ctsOf nA d).length = (run17 nA d).2.reverse.length:=rfl
 refine kq ?_
 refine seqF fun F1 f1=>⟨_,rfl,_,_,_,_,_,rfl,rfl,TyOf.tup ha,ktt,_,rfl,iteF ⟨_,rfl,a,_,rfl,.inr (SqT.of ha),rfl,_,rfl,iteF ⟨_,rfl,_,rfl,a,_,rfl,ha,fun r1 H1 hr1 s1=>⟨_,rfl,_,rfl,d.p,_,rfl,s1 _ _ hd1,fun r2 H2 hr2 s2=>?_⟩⟩⟩⟩
 have s12:=s1.trans s2
 have tt : TrH H2 (listT [strT d.f,refT d.pa]) .non [.str d.f,.ref d.pa]:=trs_cons rfl tr_str (trs_cons rfl tr_ref trs_nil)
 refine ⟨listT [strT d.f,refT d.pa],(by show 0 < 16; decide),(tr_tup (s2 _ _ hr1) tt).at,(tr_tup hr2 tt).at,_,rfl,iteF ⟨_,rfl,a,_,_,_,rfl,rfl,SqT.of (s12 _ _ ha),rfl,_,_,_,_,_,rfl,rfl,TyOf.tup (s12 _ _ hca),ktt,_,rfl,iteF (f1 _ _ ?_)⟩⟩
 clear f1
 refine seqF fun F1 f1=>⟨_,rfl,d.p,_,_,_,rfl,rfl,SqT.of (s12 _ _ hd1),rfl,d.pb,d.b,bs,rfl,s12 _ _ hd2,hd3.mono (Same.tm s12),om387 hdp,om74 hsz,fun l ls H3 hl tl nl s3=>f1 _ _ ?_⟩
 clear f1
 have s13:=s12.trans s3
 have ll:=trs_len tl
 rw [List.length_map] at ll
 have el : cs.length = ls.length:=om388 lc ld e4 ll
 refine seqF fun F1 f1=>⟨_,rfl,a,_,_,_,rfl,rfl,SqT.of (s13 _ _ ha),rfl,ca,cs,rfl,.inr (SqT.of (s13 _ _ hca)),_,rfl,l,ls,rfl,.inl (SqL.of hl),rfl,_,rfl,ifX (by rw [el]; simp) (f1 _ _ ?_)⟩
 clear f1
 refine seqF fun F1 f1=>forE fun J j=>⟨_,rfl,a,_,_,_,rfl,rfl,SqT.of (s13 _ _ ha),rfl,_,rfl,ca,l,rfl,⟨cs,SqT.of (s13 _ _ hca)⟩,⟨ls,SqL.of hl⟩,j _ _ ?_⟩
 clear j
 refine for_zipE (K:=K) (xs:=cs) (ys:=ls) (fun i σ H'=>∃ o3 o4,σ = [some (.ref a),some (.ref d.p),some (.ref l),o3,o4] ∧ Same H3 H') ⟨_,_,rfl,Same.refl _⟩ el (fun i σ H' _ h=>?_) ?_ (fun σ H' h=>f1 _ _ ?_)
 ·obtain ⟨o3,o4,rfl,s⟩:=h
  exact ⟨SqT.of (s _ _ (s13 _ _ hca)),SqL.of (s _ _ hl)⟩
 ·intro E hE i x y p σ H4 hx hy np fin Gq kq h
  obtain ⟨o3,o4,rfl,s⟩:=h
  clear f1
  obtain ⟨H5,e5,s4,z4⟩ : ∃ H5,upd H4 p (.tup [x,y]) = H5 ∧ Same H3 H5 ∧ H5 p = some (.tup [x,y]):=⟨_,rfl,s.trans (same_upd np),upd_same⟩
  have s05:=s13.trans s4
  obtain ⟨t1,ht1,tx⟩:=trs_at (hcs.mono (Same.tm s05)) i x hx
  obtain ⟨t2,ht2,ty⟩:=trs_at (tl.mono (Same.tm s4)) i y hy
  rw [List.getElem?_map] at ht1 ht2
  obtain ⟨c,hc,rfl⟩:=Option.map_eq_some_iff.mp ht1
  obtain ⟨dd,hdd,rfl⟩:=Option.map_eq_some_iff.mp ht2
  have ec : c.d = dd:=by
   have e : ((ctsOf nA d).map Ct.d)[i]? = d.b.deeds[i]?:=by rw [cts_d]
   rw [List.getElem?_map,hdd] at e
   have hc' : (ctsOf nA d)[i]? = some c:=hc
   rw [hc'] at e
   exact Option.some.inj e
  have wc : c.ws.length = c.d.ways:=cts_ws nA d c (List.mem_of_getElem? hc)
  have gd : DdG H5 dd:=(deeds_ok hd3 dd (List.mem_of_getElem? hdd)).mono (Same.tm s05)
  obtain ⟨_,xa,xv,rfl,hxa,_,_,n0,nr,rfl,hn0,_,_,dv,dr,rfl,hdv,_,_,wv,wr,rfl,hwv,rfl⟩:=tx
  rw [ec] at hdv wc
  obtain ⟨⟨tl',q1,q2,q3⟩,⟨da,dx,rfl,hda⟩,ya,wd,yr,rfl,hya,hways⟩:=dd_two gd hdv ty
  obtain ⟨_,wa,wvs,rfl,hwa,hws⟩:=hwv
  have lw:=trs_len hws
  rw [List.length_map,wc] at lw
  refine kq ?_
  rw [e5]
  refine ⟨p,_,rfl,SqT.of z4,rfl,_,_,rfl,_,_,rfl,rfl,?_⟩
  show tSeq (tIfS _ _ _) _ E _ _
  refine seqF fun F1 f1=>⟨_,rfl,_,_,_,_,_,rfl,rfl,TyOf.tup hxa,ktt,_,rfl,iteF ⟨_,rfl,xa,_,rfl,.inr (SqT.of hxa),rfl,_,rfl,iteF ⟨_,rfl,xa,_,_,_,rfl,rfl,SqT.of hxa,rfl,_,rfl,tl',q1,q2.at,q3.at,_,rfl,iteF ⟨_,rfl,xa,_,_,_,rfl,rfl,SqT.of hxa,rfl,_,_,_,_,_,rfl,rfl,TyOf.tup hda,ktt,_,rfl,iteF (f1 _ _ ?_)⟩⟩⟩⟩
  clear f1
  refine ⟨_,rfl,xa,_,_,_,rfl,rfl,SqT.of hxa,rfl,_,_,_,_,_,rfl,rfl,TyOf.tup hwa,ktt,_,rfl,iteF ⟨_,rfl,xa,_,_,_,rfl,rfl,SqT.of hxa,rfl,wa,wvs,rfl,.inr (SqT.of hwa),_,rfl,ya,_,_,_,rfl,rfl,SqT.of hya,at0,rfl,.inr ⟨_,rfl,_,_,rfl,rfl,rfl,_,rfl,ifX ?_ (fin _ _ ⟨_,_,rfl,s4⟩)⟩⟩⟩
  rw [lw,hways]
  simp
 ·obtain ⟨o3,o4,rfl,s⟩:=h
  exact q _ (s13.trans s)
end
end K17
namespace K17
open PySem PySem.Spec PyProof.Rows L2
theorem dep_list : ∀ {ts : List Tr} {k : Nat},(∀ t ∈ ts,t.dep ≤ k) → (listT ts).dep ≤ k
 | [],_,_=>Nat.zero_le _
 | t :: ts,k,h=>by
  have h1:=h t List.mem_cons_self
  have h2:=dep_list (ts:=ts) (k:=k) fun u hu=>h u (List.mem_cons_of_mem _ hu)
  show max t.dep (listT ts).dep ≤ k
  exact om80 h1 h2
theorem dep_tup {ts : List Tr} {k : Nat} (h : ∀ t ∈ ts,t.dep ≤ k) : (tupT ts).dep ≤ k + 1:=Nat.succ_le_succ (dep_list h)
theorem dep_map {α : Type} {f : α → Tr} {xs : List α} {k : Nat} (h : ∀ x ∈ xs,(f x).dep ≤ k) : ∀ t ∈ xs.map f,t.dep ≤ k:=fun t ht=>by
 obtain ⟨x,hx,rfl⟩:=List.mem_map.mp ht
 exact h x hx
theorem dep_way (w : Wy) : (wayT w).dep ≤ 3:=by
 refine dep_tup (k:=2) fun t ht=>?_
 rcases List.mem_cons.mp ht with rfl | ht
 ·exact dep_tup (k:=1) (dep_map fun x _=>Nat.le_refl 1)
 ·rw [List.mem_singleton.mp ht]
  cases w.goal with
  | go n=>exact (by decide : 1 ≤ 2)
  | give t=>exact (by decide : 1 ≤ 2)
theorem dep_ct (c : Ct) : (ctT c).dep ≤ 5:=by
 refine dep_tup (k:=4) fun t ht=>?_
 rcases List.mem_cons.mp ht with rfl | ht
 ·exact Nat.le_trans (dep_tup (k:=0) (dep_map fun x _=>Nat.le_refl 0)) (by decide)
 ·rcases List.mem_cons.mp ht with rfl | ht
  ·cases c.d with
   | st p=>exact Nat.zero_le _
   | ask t=>exact (by decide : 1 ≤ 4)
  ·rw [List.mem_singleton.mp ht]
   exact dep_tup (k:=3) (dep_map fun x _=>dep_way x)
theorem dep_part (nA : Addr) (d : Df) : (partT nA d).dep ≤ 7:=by
 refine dep_tup (k:=6) fun t ht=>?_
 rcases List.mem_cons.mp ht with rfl | ht
 ·exact Nat.zero_le _
 ·rcases List.mem_cons.mp ht with rfl | ht
  ·exact Nat.zero_le _
  ·rcases List.mem_cons.mp ht with rfl | ht
   ·exact Nat.le_trans (dep_way _) (by decide)
   ·rw [List.mem_singleton.mp ht]
    exact dep_tup (k:=5) (dep_map fun x _=>dep_ct x)
theorem dep_parts (nA : Addr) (ds : List Df) : (listT (ds.map (partT nA))).dep < 16:=Nat.lt_of_le_of_lt (dep_list (dep_map fun d _=>dep_part nA d)) (by decide)
theorem dfs_okV {H : Hp} : ∀ {ds : List Df} {vs : List V},DfsV H ds vs → ∀ v ∈ vs,okV v = true
 | [],vs,h,v,hv=>by have e : vs = []:=h; rw [e] at hv; cases hv
 | d :: ds,vs,⟨u,r,e,h1,h4⟩,v,hv=>by
  rw [e] at hv
  rcases List.mem_cons.mp hv with rfl | hv
  ·obtain ⟨bs,e1,_⟩:=h1
   rw [e1]
   rfl
  ·exact dfs_okV h4 v hv
theorem room_at (c : Bool) : ∃ m : Int,atI [V.int 12,.int 40] (if c then 1 else 0) = some (.int m):=by
 cases c
 ·exact ⟨_,rfl⟩
 ·exact ⟨_,rfl⟩
noncomputable def spLaw (K : PySem.W.Frag) : Sp:=fun vs H Q _=>∃ (a : Addr) (ns : List Int),vs = [.ref a] ∧ SqL K H a (ns.map V.int) ∧ ns.length ≤ 63 ∧ ∀ H',Q (.bl true) H'
section
variable {P : Program} {w : World} {K : PySem.W.Frag} {mg : Str → Option Value} {base : Heap}
theorem scLaw : FnScope ["_law_script", "_law_box_here", "_law_program", "_law_f", "_law_args", "_law_total", "_law_held", "_law_found", "_law_part", "_law_one"] ["_law_script"] (defScope sLaw):=⟨rfl,rfl,rfl,by decide +kernel,rfl,by decide +kernel,by decide +kernel⟩
theorem ok_law {f : Addr} {fd : FuncData} {nA fT fB fC fZ fM fR : Addr} {fdT fdB fdC fdZ fdM fdR : FuncData} (F : Fun K "law" "law" sLaw f fd) (GT : FnOk P w K mg base CX0 1 fT fdT ["_law_box_here", "_law_wide"] spTake) (bT : Binds K fdT ["_law_box_here", "_law_wide"] []) (kT : PySem.W.keepIn K (.ref fT) = true) (mT : mg "_law_take" = some (.ref fT)) (GB : FnOk P w K mg base CX0 1 fB fdB ["_law_script", "_law_k"] (spBox K)) (bB : Binds K fdB ["_law_script", "_law_k"] []) (kB : PySem.W.keepIn K (.ref fB) = true) (mB : mg "_law_box" = some (.ref fB)) (GC : FnOk P w K mg base CX0 23 fC fdC ["_law_box_here"] spCase) (bC : Binds K fdC ["_law_box_here"] []) (kC : PySem.W.keepIn K (.ref fC) = true) (mC : mg "_law_case" = some (.ref fC)) (GZ : FnOk P w K mg base CX0 22 fZ fdZ ["_law_box_here", "_law_total", "_law_room"] spAny) (bZ : Binds K fdZ ["_law_box_here", "_law_total", "_law_room"] []) (kZ : PySem.W.keepIn K (.ref fZ) = true) (mZ : mg "_law_any" = some (.ref fZ)) (GM : FnOk P w K mg base CX0 65 fM fdM ["program"] (spMade K nA)) (bM : Binds K fdM ["program"] []) (kM : PySem.W.keepIn K (.ref fM) = true) (mM : mg "made" = some (.ref fM)) (GR : FnOk P w K mg base CX0 10 fR fdR ["_law_part", "_law_one"] (spRight nA)) (bR : Binds K fdR ["_law_part", "_law_one"] []) (kR : PySem.W.keepIn K (.ref fR) = true) (mR : mg "_law_right" = some (.ref fR)) (ml : mg "len" = none) (mtu : mg "tuple" = none) (mli : mg "list" = none) (mi : mg "int" = none) (mis : mg "isinstance" = none) (mz : mg "zip" = none) (ktt : PySem.W.kitOne K (.type "tuple") (.type "tuple") = some true) : FnOk P w K mg base CX0 66 f fd ["_law_script"] (spLaw K):=by
 refine F.ok scLaw (fun vs H Q E h=>?_) (fun cdv A outer s H vs Q E hr h=>?_)
 ·refine opq fun Gq kq=>?_
  obtain ⟨a,ns,rfl,_⟩:=h
  refine kq ?_
  rfl
 refine opq fun Gq kq=>?_
 obtain ⟨a,ns,rfl,hS,h63,q⟩:=h
 refine kq ?_
 refine ⟨_,(pss_cons (ps_set (i:=1) scLaw.nd rfl (Or.inl rfl) (pe_call GB (hr.mono (by decide)) rfl mB kB bB .nil pass0 (pa_cons (pv 0) (pa_cons pe_int pa_nil)))) (pss_cons (@ps_asg _ _ _ _ _ _ (pe_call GC (hr.mono (by decide)) rfl mC kC bC .nil pass0 (pa_cons (pv 1) pa_nil)) (@pg_tup _ _ _ _ _ (3) rfl (pgs_cons (pg_name (i:=2) scLaw.nd rfl (Or.inl rfl)) (pgs_cons (pg_name (i:=3) scLaw.nd rfl (Or.inl rfl)) (pgs_cons (pg_name (i:=4) scLaw.nd rfl (Or.inl rfl)) pgs_nil))) (by rfl) (by rfl)) (by rfl) (by rfl) (by rfl)) (pss_cons (ps_mid (ps_if (@pt_cmpR _ _ _ _ _ _ _ _ op_eq (pe_call GT (hr.mono (by decide)) rfl mT kT bT .nil pass0 (pa_cons (pv 1) (pa_cons pe_int pa_nil))) pe_int (@nomark _ _ (by decide) (by decide))) (pss_cons (ps_set (i:=5) scLaw.nd rfl (Or.inl rfl) (pe_op op_add pe_int (pe_call GT (hr.mono (by decide)) rfl mT kT bT .nil pass0 (pa_cons (pv 1) (pa_cons pe_int pa_nil))))) (pss_one (ps_set (i:=2) scLaw.nd rfl (Or.inl rfl) (pe_call GZ (hr.mono (by decide)) rfl mZ kZ bZ .nil pass0 (pa_cons (pv 1) (pa_cons (pv 5) (pa_cons (@pe_ix _ _ _ _ _ _ _ ix_list (pe_lst (pa_cons pe_int (pa_cons pe_int pa_nil))) (@pe_callTy _ _ _ _ _ _ _ _ _ call_int1 rfl mi PyProof.Rows.boot_int (pa_cons (@pe_cmpR _ _ _ _ _ _ _ _ op_lt (pv 5) pe_int (@nomark _ _ (by decide) (by decide))) pa_nil) (by decide) (by decide) (by rfl) (by rfl)) (fun _ _=>rfl)) pa_nil))))))) pss_nil)) (pss_cons (ps_set (i:=6) scLaw.nd rfl (Or.inl rfl) (@pe_callTy _ _ _ _ _ _ _ _ _ call_tuple_of rfl mtu PyProof.Rows.boot_tuple (pa_cons (@pe_callTy _ _ _ _ _ _ _ _ _ call_list_of rfl mli PyProof.Rows.boot_list (pa_cons (pv 2) pa_nil) (by decide) (by decide) (by rfl) (by rfl)) pa_nil) (by decide) (by decide) (by rfl) (by rfl))) (pss_cons (ps_set (i:=7) scLaw.nd rfl (Or.inl rfl) (pe_call GM (hr.mono (by decide)) rfl mM kM bM .nil pass0 (pa_cons (pv 2) pa_nil))) (pss_cons (ps_if (@PW.pt _ _ _ (@pw_or _ _ _ _ _ _ _ (@pt_not _ _ _ _ (@pt_val _ _ _ (@pe_callB _ _ _ _ _ _ _ _ _ call_isinst rfl mis PyProof.Rows.boot_isinstance (pa_cons (pv 7) (pa_cons (@pe_bltn _ _ (.ty "tuple") _ _ rfl mtu PyProof.Rows.boot_tuple rfl (by decide) (by decide)) pa_nil)) (by decide) (by decide) (by rfl) (by rfl)) (by intro _; rfl))) (@pw_or1 _ _ _ _ (@pt_cmpR _ _ _ _ _ _ _ _ op_ne (@pe_callB _ _ _ _ _ _ _ _ _ call_len_seq rfl ml PySem.boot_len (pa_cons (pv 7) pa_nil) (by decide) (by decide) (by rfl) (by rfl)) (@pe_callB _ _ _ _ _ _ _ _ _ call_len_seq rfl ml PySem.boot_len (pa_cons (pv 2) pa_nil) (by decide) (by decide) (by rfl) (by rfl)) (@nomark _ _ (by decide) (by decide)))))) (pss_one (ps_ret (@pe_bl _ _ _ _))) pss_nil) (pss_cons (@ps_for _ _ _ _ _ _ _ _ PassesOwn.never rfl (@pi_zip _ _ _ _ _ _ _ _ _ (false) (false) rfl mz PyProof.Rows.boot_zip (pa_cons (pv 7) (pa_cons (pv 2) pa_nil)) (by rfl) (by rfl)) (@pg_tup _ _ _ _ _ (2) rfl (pgs_cons (pg_name (i:=8) scLaw.nd rfl (Or.inl rfl)) (pgs_cons (pg_name (i:=9) scLaw.nd rfl (Or.inl rfl)) pgs_nil)) (by rfl) (by rfl)) (pss_one (ps_if (@pt_not _ _ _ _ (@pt_val _ _ _ (pe_call GR (hr.mono (by decide)) rfl mR kR bR .nil pass0 (pa_cons (pv 8) (pa_cons (pv 9) pa_nil))) (by intro _; rfl))) (pss_one (ps_ret (@pe_bl _ _ _ _))) pss_nil)) (by intro _; rfl)) (pss_one (ps_ret (@pe_and _ _ _ _ _ _ _ (@pe_cmpR _ _ _ _ _ _ _ _ (op_eqTr (d:=16) (Nat.lt_of_le_of_lt (Nat.add_le_add_left (by decide : 16 ≤ 64) _) hr.units)) (pv 2) (pv 6) (@nomark _ _ (by decide) (by decide))) (@pe_and _ _ _ _ _ _ _ (@pe_cmpR _ _ _ _ _ _ _ _ (op_eqTr (d:=16) (Nat.lt_of_le_of_lt (Nat.add_le_add_left (by decide : 16 ≤ 64) _) hr.units)) (pe_call GM (hr.mono (by decide)) rfl mM kM bM .nil pass0 (pa_cons (pe_tup pa_nil) pa_nil)) (pe_tup pa_nil) (@nomark _ _ (by decide) (by decide))) (@pe_one _ _ _ _ _ (@pe_cmpR _ _ _ _ _ _ _ _ (op_eqTr (d:=16) (Nat.lt_of_le_of_lt (Nat.add_le_add_left (by decide : 16 ≤ 64) _) hr.units)) (pe_call GM (hr.mono (by decide)) rfl mM kM bM .nil pass0 (pa_cons (pv 2) pa_nil)) (pv 7) (@nomark _ _ (by decide) (by decide))))))))))))))),?_⟩
 try dsimp only [cxOf,Cx.nox,Cx.wish]
 have big:=line24
 refine seqF fun F1 f1=>⟨_,rfl,a,ns,1,rfl,hS,by decide,by decide,fun p H1 np B1 e1=>f1 _ _ ?_⟩
 clear f1
 refine seqF fun F1 f1=>⟨_,rfl,p,rfl,B1,fun t r v2 v3 ds xs H2 ht hr2 hD l1 l8 hok B2 k2=>⟨t,_,rfl,SqT.of ht,rfl,_,_,rfl,_,_,rfl,_,_,rfl,rfl,f1 _ _ ?_⟩⟩
 clear f1
 refine seqF fun F1 f1=>midE (fun σ' H'=>∃ (r : Addr) (ds : List Df) (xs : List V) (o : Option V),σ' = [some (.ref a),some (.ref p),some (.ref r),some v2,some v3,o,none,none,none,none] ∧ H' r = some (.tup xs) ∧ DfsV H' ds xs ∧ ds.length ≤ 8 ∧ DfsOk ds) (fun E0 _ fm=>?_) fun σ' H3 hq=>?_
 ·clear f1
  refine ifG fun G1 g1=>⟨_,rfl,p,4,rfl,B2,by decide,by decide,fun d3 H3 d30 d31 B3 e3=>⟨rfl,_,rfl,g1 _ _ ?_⟩⟩
  clear g1
  have k3 : But p H2 H3:=But.of_eq e3
  have tm3:=k3.tm B2
  refine ite2 (fun c=>?_) (fun c=>fm _ _ ⟨r,ds,xs,_,rfl,tm3 _ _ hr2,hD.mono tm3,l8,hok⟩)
  refine seqF fun F2 f2=>⟨_,rfl,p,6,rfl,B3,by decide,by decide,fun d4 H4 d40 d41 B4 e4=>⟨_,_,rfl,rfl,f2 _ _ ?_⟩⟩
  clear f2
  refine ⟨_,rfl,_,rfl,sz2,fun l nl=>⟨_,rfl,_,_,rfl,rfl,.inr ⟨_,rfl,?_⟩⟩⟩
  obtain ⟨m,hat⟩:=room_at _
  refine ⟨l,_,_,_,rfl,rfl,SqL.of upd_same,hat,p,1 + d4,m,rfl,B4.upd_new nl,om89 d40,om389 d41,fun r5 ds5 xs5 H5 hr5 hD5 hl5 hok5 hpa5 B5 k5=>fm _ _ ⟨r5,ds5,xs5,_,rfl,hr5,hD5,om390 d41 hl5,hok5⟩⟩
 obtain ⟨r,ds,xs,o,rfl,hr3,hD,l8,hok⟩:=hq
 refine f1 _ _ ?_
 clear f1
 have lx:=hD.len
 refine seqF fun F1 f1=>⟨_,rfl,r,_,rfl,.inr (SqT.of hr3),fun l nl=>⟨l,_,rfl,.inl ⟨SqL.of upd_same,fun h nh=>f1 _ _ ?_⟩⟩⟩
 clear f1
 have s4 : Same H3 (upd (upd H3 l (.lst xs)) h (.tup xs)):=(same_upd nl).trans (same_upd nh)
 have h4 : upd (upd H3 l (.lst xs)) h (.tup xs) h = some (.tup xs):=upd_same
 generalize upd (upd H3 l (.lst xs)) h (.tup xs) = H4 at s4 h4
 have r4:=s4 _ _ hr3
 have D4:=hD.mono (Same.tm s4)
 refine seqF fun F1 f1=>⟨_,rfl,r,ds,xs,rfl,r4,D4,om91 l8,hok,fun v H5 tv s5=>f1 _ _ ?_⟩
 clear f1
 have tv0:=tv
 refine opq fun Gq kq=>?_
 obtain ⟨_,fa,fs,rfl,hfa,hfs⟩:=tv
 refine kq ?_
 have lf:=trs_len hfs
 rw [List.length_map] at lf
 have r5:=s5 _ _ r4
 have el : fs.length = xs.length:=om391 lx lf
 refine seqF fun F1 f1=>⟨_,rfl,_,_,_,_,_,rfl,rfl,TyOf.tup hfa,ktt,_,rfl,iteF ⟨_,rfl,fa,_,rfl,.inr (SqT.of hfa),_,rfl,r,_,rfl,.inr (SqT.of r5),rfl,_,rfl,ifX (by rw [el]; simp) (f1 _ _ ?_)⟩⟩
 clear f1
 refine seqF fun F1 f1=>forE fun J j=>⟨_,rfl,_,rfl,fa,r,rfl,⟨fs,SqT.of hfa⟩,⟨xs,SqT.of r5⟩,j _ _ ?_⟩
 clear j
 refine for_zipE (K:=K) (xs:=fs) (ys:=xs) (fun i σ H'=>∃ o8 o9,σ = [some (.ref a),some (.ref p),some (.ref r),some v2,some v3,o,some (.ref h),some (.ref fa),o8,o9] ∧ Same H5 H') ⟨_,_,rfl,Same.refl _⟩ el (fun i σ H' _ h=>?_) ?_ (fun σ H6 h=>f1 _ _ ?_)
 ·obtain ⟨o8,o9,rfl,s⟩:=h
  exact ⟨SqT.of (s _ _ hfa),SqT.of (s _ _ r5)⟩
 ·intro E hE i x y z σ H6 hx hy nz fin Gq kq h
  obtain ⟨o8,o9,rfl,s⟩:=h
  clear f1
  obtain ⟨H7,e7,s6,z6⟩ : ∃ H7,upd H6 z (.tup [x,y]) = H7 ∧ Same H5 H7 ∧ H7 z = some (.tup [x,y]):=⟨_,rfl,s.trans (same_upd nz),upd_same⟩
  obtain ⟨t1,ht1,tx⟩:=trs_at (hfs.mono (Same.tm s6)) i x hx
  rw [List.getElem?_map] at ht1
  obtain ⟨d,hd,rfl⟩:=Option.map_eq_some_iff.mp ht1
  obtain ⟨d',hd',dv⟩:=(D4.mono (Same.tm (s5.trans s6))).at i y hy
  rw [hd] at hd'
  cases hd'
  have ey : y = .ref d.p:=dv.elim fun _ z=>z.1
  subst ey
  refine kq ?_
  rw [e7]
  refine ⟨z,_,rfl,SqT.of z6,rfl,_,_,rfl,_,_,rfl,rfl,?_⟩
  exact ⟨_,rfl,_,rfl,x,d,rfl,tx,dv,hok d (List.mem_of_getElem? hd),fun H8 s8=>⟨_,rfl,iteF (fin _ _ ⟨_,_,rfl,s6.trans s8⟩)⟩⟩
 ·obtain ⟨o8,o9,rfl,s⟩:=h
  have lft : ∀ {b : Addr} {G : Hp},G b = some (.tup xs) → TrH G (.tp (listT (xs.map Tr.lf))) (.ref b) []:=fun e=>tr_tup e (trs_leaf (dfs_okV D4))
  refine ⟨_,rfl,_,rfl,listT (xs.map Tr.lf),(by rw [dep_leaf]; decide),(lft (s _ _ r5)).at,(lft (s _ _ (s5 _ _ h4))).at,_,rfl,iteT ?_⟩
  refine ⟨sz0,fun e ne=>⟨e,[],[],rfl,upd_same,rfl,(by show 0 ≤ 1000; decide),(fun _ h=>absurd h List.not_mem_nil),fun v8 H8 tv8 s8=>⟨sz0,fun e2 ne2=>?_⟩⟩⟩
  have s9 : Same H6 (upd H8 e2 (.tup [])):=((same_upd ne).trans s8).trans (same_upd ne2)
  refine ⟨listT [],(by show 0 < 16; decide),(tv8.mono (Same.tm (same_upd ne2))).at,(show TrH _ (tupT []) _ _ from tr_tup upd_same trs_nil).at,_,rfl,iteT ?_⟩
  generalize upd H8 e2 (.tup []) = H9 at s9
  have s59:=s.trans s9
  exact ⟨_,rfl,r,ds,xs,rfl,s59 _ _ r5,D4.mono (Same.tm (s5.trans s59)),om91 l8,hok,fun v10 H10 tv10 s10=>⟨_,rfl,listT (ds.map (partT nA)),dep_parts nA ds,tv10.at,(tv0.mono (Same.tm (s59.trans s10))).at,q _⟩⟩
end
end K17
namespace K17
open PySem PySem.Spec PyProof.Rows L2
@[elab_as_elim] theorem us1 {P : List Value → Prop} : ∀ (us : List Value),us.length = 1 → (∀ a,P [a]) → P us
 | [a],_,q=>q a
@[elab_as_elim] theorem us2 {P : List Value → Prop} : ∀ (us : List Value),us.length = 2 → (∀ a b,P [a,b]) → P us
 | [a,b],_,q=>q a b
@[elab_as_elim] theorem us3 {P : List Value → Prop} : ∀ (us : List Value),us.length = 3 → (∀ a b c,P [a,b,c]) → P us
 | [a,b,c],_,q=>q a b c
@[elab_as_elim] theorem us4 {P : List Value → Prop} : ∀ (us : List Value),us.length = 4 → (∀ a b c d,P [a,b,c,d]) → P us
 | [a,b,c,d],_,q=>q a b c d
@[elab_as_elim] theorem us5 {P : List Value → Prop} : ∀ (us : List Value),us.length = 5 → (∀ a b c d e,P [a,b,c,d,e]) → P us
 | [a,b,c,d,e],_,q=>q a b c d e
theorem all_mk {l : PySem.W.OpenLaw} {w : World} {K : PySem.W.Frag} {h : Heap} {mg : Str → Option Value} {fa fNi fOw fUb fUo fUa fBi fMc fDe fPg fPs fPm fMa fBx fTk fNu fNm fTm fPo fSt fBo fAn fOp fIn fLo fTi fBu fCa fDd fRi fZ : Addr} (X : K.In h) (G : h.Ns mainGlobals mg) (hfa : mg "law" = some (.ref fa))
  {odNi anNi odOw anOw odUb anUb odUo anUo odUa anUa odBi anBi odMc anMc odDe anDe odPg anPg odPs anPs odPm anPm odMa anMa odBx anBx odTk anTk odNu anNu odNm anNm odTm anTm odPo anPo odSt anSt odBo anBo odAn anAn odOp anOp odIn anIn odLo anLo odTi anTi odBu anBu odCa anCa odDd anDd odRi anRi odZ anZ : Option Addr} {slNi slOw slUb slUo slUa slBi slMc slDe slPg slPs slPm slMa slBx slTk slNu slNm slTm slPo slSt slBo slAn slOp slIn slLo slTi slBu slCa slDd slRi slZ : Array (Option Value)} {ocNi kVNi dcNi pmNi cdNi ctNi ocOw kVOw dcOw pmOw cdOw ctOw ocUb kVUb dcUb pmUb cdUb ctUb ocUo kVUo dcUo pmUo cdUo ctUo ocUa kVUa dcUa pmUa cdUa ctUa ocBi kVBi dcBi pmBi cdBi ctBi ocMc kVMc dcMc pmMc cdMc ctMc ocDe kVDe dcDe pmDe cdDe ctDe ocPg kVPg dcPg pmPg cdPg ctPg ocPs kVPs dcPs pmPs cdPs ctPs ocPm kVPm dcPm pmPm cdPm ctPm ocMa kVMa dcMa pmMa cdMa ctMa ocBx kVBx dcBx pmBx cdBx ctBx ocTk kVTk dcTk pmTk cdTk ctTk ocNu kVNu dcNu pmNu cdNu ctNu ocNm kVNm dcNm pmNm cdNm ctNm ocTm kVTm dcTm pmTm cdTm ctTm ocPo kVPo dcPo pmPo cdPo ctPo ocSt kVSt dcSt pmSt cdSt ctSt ocBo kVBo dcBo pmBo cdBo ctBo ocAn kVAn dcAn pmAn cdAn ctAn ocOp kVOp dcOp pmOp cdOp ctOp ocIn kVIn dcIn pmIn cdIn ctIn ocLo kVLo dcLo pmLo cdLo ctLo ocTi kVTi dcTi pmTi cdTi ctTi ocBu kVBu dcBu pmBu cdBu ctBu ocCa kVCa dcCa pmCa cdCa ctCa ocDd kVDd dcDd pmDd cdDd ctDd ocRi kVRi dcRi pmRi cdRi ctRi ocZ kVZ dcZ pmZ cdZ ctZ : Value}
  (aNi : PySem.W.nsIn K mainGlobals "names_in" = some (some (.ref fNi))) (lNi : K.lookup fNi = some ⟨ocNi,odNi,.func (PySem.W.fnOf "names_in" "names_in" (defArgs sNamesIn) (defBody sNamesIn) (defScope sNamesIn) .none kVNi dcNi pmNi anNi cdNi ctNi),slNi⟩) (cNi : PySem.W.codeIn K cdNi "names_in" = true) (kNi : PySem.W.keepIn K (.ref fNi) = true)
  (aOw : PySem.W.nsIn K mainGlobals "own_terms" = some (some (.ref fOw))) (lOw : K.lookup fOw = some ⟨ocOw,odOw,.func (PySem.W.fnOf "own_terms" "own_terms" (defArgs sOwn) (defBody sOwn) (defScope sOwn) .none kVOw dcOw pmOw anOw cdOw ctOw),slOw⟩) (cOw : PySem.W.codeIn K cdOw "own_terms" = true) (kOw : PySem.W.keepIn K (.ref fOw) = true)
  (aUb : PySem.W.nsIn K mainGlobals "used_behind_terms" = some (some (.ref fUb))) (lUb : K.lookup fUb = some ⟨ocUb,odUb,.func (PySem.W.fnOf "used_behind_terms" "used_behind_terms" (defArgs sUbt) (defBody sUbt) (defScope sUbt) .none kVUb dcUb pmUb anUb cdUb ctUb),slUb⟩) (cUb : PySem.W.codeIn K cdUb "used_behind_terms" = true) (kUb : PySem.W.keepIn K (.ref fUb) = true)
  (aUo : PySem.W.nsIn K mainGlobals "used_ahead_of" = some (some (.ref fUo))) (lUo : K.lookup fUo = some ⟨ocUo,odUo,.func (PySem.W.fnOf "used_ahead_of" "used_ahead_of" (defArgs sUof) (defBody sUof) (defScope sUof) .none kVUo dcUo pmUo anUo cdUo ctUo),slUo⟩) (cUo : PySem.W.codeIn K cdUo "used_ahead_of" = true) (kUo : PySem.W.keepIn K (.ref fUo) = true)
  (aUa : PySem.W.nsIn K mainGlobals "used_ahead" = some (some (.ref fUa))) (lUa : K.lookup fUa = some ⟨ocUa,odUa,.func (PySem.W.fnOf "used_ahead" "used_ahead" (defArgs sUah) (defBody sUah) (defScope sUah) .none kVUa dcUa pmUa anUa cdUa ctUa),slUa⟩) (cUa : PySem.W.codeIn K cdUa "used_ahead" = true) (kUa : PySem.W.keepIn K (.ref fUa) = true)
  (aBi : PySem.W.nsIn K mainGlobals "bodies_in" = some (some (.ref fBi))) (lBi : K.lookup fBi = some ⟨ocBi,odBi,.func (PySem.W.fnOf "bodies_in" "bodies_in" (defArgs sBin) (defBody sBin) (defScope sBin) .none kVBi dcBi pmBi anBi cdBi ctBi),slBi⟩) (cBi : PySem.W.codeIn K cdBi "bodies_in" = true) (kBi : PySem.W.keepIn K (.ref fBi) = true)
  (aMc : PySem.W.nsIn K mainGlobals "many_cuts" = some (some (.ref fMc))) (lMc : K.lookup fMc = some ⟨ocMc,odMc,.func (PySem.W.fnOf "many_cuts" "many_cuts" (defArgs sMany) (defBody sMany) (defScope sMany) .none kVMc dcMc pmMc anMc cdMc ctMc),slMc⟩) (cMc : PySem.W.codeIn K cdMc "many_cuts" = true) (kMc : PySem.W.keepIn K (.ref fMc) = true)
  (aDe : PySem.W.nsIn K mainGlobals "deed_of" = some (some (.ref fDe))) (lDe : K.lookup fDe = some ⟨ocDe,odDe,.func (PySem.W.fnOf "deed_of" "deed_of" (defArgs sDeed) (defBody sDeed) (defScope sDeed) .none kVDe dcDe pmDe anDe cdDe ctDe),slDe⟩) (cDe : PySem.W.codeIn K cdDe "deed_of" = true) (kDe : PySem.W.keepIn K (.ref fDe) = true)
  (aPg : PySem.W.nsIn K mainGlobals "place_of_give" = some (some (.ref fPg))) (lPg : K.lookup fPg = some ⟨ocPg,odPg,.func (PySem.W.fnOf "place_of_give" "place_of_give" (defArgs sPgive) (defBody sPgive) (defScope sPgive) .none kVPg dcPg pmPg anPg cdPg ctPg),slPg⟩) (cPg : PySem.W.codeIn K cdPg "place_of_give" = true) (kPg : PySem.W.keepIn K (.ref fPg) = true)
  (aPs : PySem.W.nsIn K mainGlobals "place_of_set" = some (some (.ref fPs))) (lPs : K.lookup fPs = some ⟨ocPs,odPs,.func (PySem.W.fnOf "place_of_set" "place_of_set" (defArgs sPset) (defBody sPset) (defScope sPset) .none kVPs dcPs pmPs anPs cdPs ctPs),slPs⟩) (cPs : PySem.W.codeIn K cdPs "place_of_set" = true) (kPs : PySem.W.keepIn K (.ref fPs) = true)
  (aPm : PySem.W.nsIn K mainGlobals "part_made" = some (some (.ref fPm))) (lPm : K.lookup fPm = some ⟨ocPm,odPm,.func (PySem.W.fnOf "part_made" "part_made" (defArgs sPart) (defBody sPart) (defScope sPart) .none kVPm dcPm pmPm anPm cdPm ctPm),slPm⟩) (cPm : PySem.W.codeIn K cdPm "part_made" = true) (kPm : PySem.W.keepIn K (.ref fPm) = true)
  (aMa : PySem.W.nsIn K mainGlobals "made" = some (some (.ref fMa))) (lMa : K.lookup fMa = some ⟨ocMa,odMa,.func (PySem.W.fnOf "made" "made" (defArgs sMade) (defBody sMade) (defScope sMade) .none kVMa dcMa pmMa anMa cdMa ctMa),slMa⟩) (cMa : PySem.W.codeIn K cdMa "made" = true) (kMa : PySem.W.keepIn K (.ref fMa) = true)
  (aBx : PySem.W.nsIn K mainGlobals "_law_box" = some (some (.ref fBx))) (lBx : K.lookup fBx = some ⟨ocBx,odBx,.func (PySem.W.fnOf "_law_box" "_law_box" (defArgs sBox) (defBody sBox) (defScope sBox) .none kVBx dcBx pmBx anBx cdBx ctBx),slBx⟩) (cBx : PySem.W.codeIn K cdBx "_law_box" = true) (kBx : PySem.W.keepIn K (.ref fBx) = true)
  (aTk : PySem.W.nsIn K mainGlobals "_law_take" = some (some (.ref fTk))) (lTk : K.lookup fTk = some ⟨ocTk,odTk,.func (PySem.W.fnOf "_law_take" "_law_take" (defArgs sTake) (defBody sTake) (defScope sTake) .none kVTk dcTk pmTk anTk cdTk ctTk),slTk⟩) (cTk : PySem.W.codeIn K cdTk "_law_take" = true) (kTk : PySem.W.keepIn K (.ref fTk) = true)
  (aNu : PySem.W.nsIn K mainGlobals "_law_number" = some (some (.ref fNu))) (lNu : K.lookup fNu = some ⟨ocNu,odNu,.func (PySem.W.fnOf "_law_number" "_law_number" (defArgs sNumber) (defBody sNumber) (defScope sNumber) .none kVNu dcNu pmNu anNu cdNu ctNu),slNu⟩) (cNu : PySem.W.codeIn K cdNu "_law_number" = true) (kNu : PySem.W.keepIn K (.ref fNu) = true)
  (aNm : PySem.W.nsIn K mainGlobals "_law_names" = some (some (.ref fNm))) (lNm : K.lookup fNm = some ⟨ocNm,odNm,.func (PySem.W.fnOf "_law_names" "_law_names" (defArgs sNames) (defBody sNames) (defScope sNames) .none kVNm dcNm pmNm anNm cdNm ctNm),slNm⟩) (cNm : PySem.W.codeIn K cdNm "_law_names" = true) (kNm : PySem.W.keepIn K (.ref fNm) = true)
  (aTm : PySem.W.nsIn K mainGlobals "_law_term" = some (some (.ref fTm))) (lTm : K.lookup fTm = some ⟨ocTm,odTm,.func (PySem.W.fnOf "_law_term" "_law_term" (defArgs sTerm) (defBody sTerm) (defScope sTerm) .none kVTm dcTm pmTm anTm cdTm ctTm),slTm⟩) (cTm : PySem.W.codeIn K cdTm "_law_term" = true) (kTm : PySem.W.keepIn K (.ref fTm) = true)
  (aPo : PySem.W.nsIn K mainGlobals "_law_spot" = some (some (.ref fPo))) (lPo : K.lookup fPo = some ⟨ocPo,odPo,.func (PySem.W.fnOf "_law_spot" "_law_spot" (defArgs sSpot) (defBody sSpot) (defScope sSpot) .none kVPo dcPo pmPo anPo cdPo ctPo),slPo⟩) (cPo : PySem.W.codeIn K cdPo "_law_spot" = true) (kPo : PySem.W.keepIn K (.ref fPo) = true)
  (aSt : PySem.W.nsIn K mainGlobals "_law_statement" = some (some (.ref fSt))) (lSt : K.lookup fSt = some ⟨ocSt,odSt,.func (PySem.W.fnOf "_law_statement" "_law_statement" (defArgs sStm) (defBody sStm) (defScope sStm) .none kVSt dcSt pmSt anSt cdSt ctSt),slSt⟩) (cSt : PySem.W.codeIn K cdSt "_law_statement" = true) (kSt : PySem.W.keepIn K (.ref fSt) = true)
  (aBo : PySem.W.nsIn K mainGlobals "_law_body" = some (some (.ref fBo))) (lBo : K.lookup fBo = some ⟨ocBo,odBo,.func (PySem.W.fnOf "_law_body" "_law_body" (defArgs sBody) (defBody sBody) (defScope sBody) .none kVBo dcBo pmBo anBo cdBo ctBo),slBo⟩) (cBo : PySem.W.codeIn K cdBo "_law_body" = true) (kBo : PySem.W.keepIn K (.ref fBo) = true)
  (aAn : PySem.W.nsIn K mainGlobals "_law_any" = some (some (.ref fAn))) (lAn : K.lookup fAn = some ⟨ocAn,odAn,.func (PySem.W.fnOf "_law_any" "_law_any" (defArgs sAny) (defBody sAny) (defScope sAny) .none kVAn dcAn pmAn anAn cdAn ctAn),slAn⟩) (cAn : PySem.W.codeIn K cdAn "_law_any" = true) (kAn : PySem.W.keepIn K (.ref fAn) = true)
  (aOp : PySem.W.nsIn K mainGlobals "_law_op" = some (some (.ref fOp))) (lOp : K.lookup fOp = some ⟨ocOp,odOp,.func (PySem.W.fnOf "_law_op" "_law_op" (defArgs sOp) (defBody sOp) (defScope sOp) .none kVOp dcOp pmOp anOp cdOp ctOp),slOp⟩) (cOp : PySem.W.codeIn K cdOp "_law_op" = true) (kOp : PySem.W.keepIn K (.ref fOp) = true)
  (aIn : PySem.W.nsIn K mainGlobals "_law_inner" = some (some (.ref fIn))) (lIn : K.lookup fIn = some ⟨ocIn,odIn,.func (PySem.W.fnOf "_law_inner" "_law_inner" (defArgs sInner) (defBody sInner) (defScope sInner) .none kVIn dcIn pmIn anIn cdIn ctIn),slIn⟩) (cIn : PySem.W.codeIn K cdIn "_law_inner" = true) (kIn : PySem.W.keepIn K (.ref fIn) = true)
  (aLo : PySem.W.nsIn K mainGlobals "_law_looped" = some (some (.ref fLo))) (lLo : K.lookup fLo = some ⟨ocLo,odLo,.func (PySem.W.fnOf "_law_looped" "_law_looped" (defArgs sLooped) (defBody sLooped) (defScope sLooped) .none kVLo dcLo pmLo anLo cdLo ctLo),slLo⟩) (cLo : PySem.W.codeIn K cdLo "_law_looped" = true) (kLo : PySem.W.keepIn K (.ref fLo) = true)
  (aTi : PySem.W.nsIn K mainGlobals "_law_ticking" = some (some (.ref fTi))) (lTi : K.lookup fTi = some ⟨ocTi,odTi,.func (PySem.W.fnOf "_law_ticking" "_law_ticking" (defArgs sTicking) (defBody sTicking) (defScope sTicking) .none kVTi dcTi pmTi anTi cdTi ctTi),slTi⟩) (cTi : PySem.W.codeIn K cdTi "_law_ticking" = true) (kTi : PySem.W.keepIn K (.ref fTi) = true)
  (aBu : PySem.W.nsIn K mainGlobals "_law_busy" = some (some (.ref fBu))) (lBu : K.lookup fBu = some ⟨ocBu,odBu,.func (PySem.W.fnOf "_law_busy" "_law_busy" (defArgs sBusy) (defBody sBusy) (defScope sBusy) .none kVBu dcBu pmBu anBu cdBu ctBu),slBu⟩) (cBu : PySem.W.codeIn K cdBu "_law_busy" = true) (kBu : PySem.W.keepIn K (.ref fBu) = true)
  (aCa : PySem.W.nsIn K mainGlobals "_law_case" = some (some (.ref fCa))) (lCa : K.lookup fCa = some ⟨ocCa,odCa,.func (PySem.W.fnOf "_law_case" "_law_case" (defArgs sCase) (defBody sCase) (defScope sCase) .none kVCa dcCa pmCa anCa cdCa ctCa),slCa⟩) (cCa : PySem.W.codeIn K cdCa "_law_case" = true) (kCa : PySem.W.keepIn K (.ref fCa) = true)
  (aDd : PySem.W.nsIn K mainGlobals "_law_deeds" = some (some (.ref fDd))) (lDd : K.lookup fDd = some ⟨ocDd,odDd,.func (PySem.W.fnOf "_law_deeds" "_law_deeds" (defArgs sDeeds) (defBody sDeeds) (defScope sDeeds) .none kVDd dcDd pmDd anDd cdDd ctDd),slDd⟩) (cDd : PySem.W.codeIn K cdDd "_law_deeds" = true) (kDd : PySem.W.keepIn K (.ref fDd) = true)
  (aRi : PySem.W.nsIn K mainGlobals "_law_right" = some (some (.ref fRi))) (lRi : K.lookup fRi = some ⟨ocRi,odRi,.func (PySem.W.fnOf "_law_right" "_law_right" (defArgs sRight) (defBody sRight) (defScope sRight) .none kVRi dcRi pmRi anRi cdRi ctRi),slRi⟩) (cRi : PySem.W.codeIn K cdRi "_law_right" = true) (kRi : PySem.W.keepIn K (.ref fRi) = true)
  (aZ : PySem.W.nsIn K mainGlobals "law" = some (some (.ref fZ))) (lZ : K.lookup fZ = some ⟨ocZ,odZ,.func (PySem.W.fnOf "law" "law" (defArgs sLaw) (defBody sLaw) (defScope sLaw) .none kVZ dcZ pmZ anZ cdZ ctZ),slZ⟩) (cZ : PySem.W.codeIn K cdZ "law" = true) (kZ : PySem.W.keepIn K (.ref fZ) = true)
  {nA clsC : Addr} {odN : Option Addr} {nN : Nat} {slN : Array (Option Value)} {rN0 rN1 : Tok}
  (gNo : PySem.W.nsIn K mainGlobals "NOUGHT" = some (some (.ref nA)))
  (lNo : K.lookup nA = some ⟨.type "tuple",odN,.seq #[.str "num" rN0,.int 0 rN1] nN,slN⟩)
  (gCl : PySem.W.nsIn K mainGlobals "Cutting" = some (some (.ref clsC)))
  (qcPg : PySem.W.plainGet K clsC Str.empty = true) (qcHd : PySem.W.hasDictIn K clsC = true) (qcPo : PySem.W.plainOver K clsC = true) (qcSa : PySem.W.findIn K (.ref clsC) "__setattr__" = some (some (.builtin "object.__setattr__"))) (qcNm : PySem.W.findIn K (.ref clsC) "many" = some none) (qcNf : PySem.W.findIn K (.ref clsC) "found" = some none) (qcMk : PySem.W.makesIn K clsC = true) (qcKp : PySem.W.keepIn K (.ref clsC) = true)
  {fmI : Addr} {odmI anmI : Option Addr} {slmI : Array (Option Value)} {ocmI kVmI dcmI pmmI cdmI ctmI : Value}
  (imI : PySem.W.findIn K (.ref clsC) "__init__" = some (some (.ref fmI))) (nmI : PySem.W.isFn K (.ref fmI) = true) (lmI : K.lookup fmI = some ⟨ocmI,odmI,.func (PySem.W.fnOf "__init__" "Cutting.__init__" (defArgs sIniM) (defBody sIniM) (defScope sIniM) .none kVmI dcmI pmmI anmI cdmI ctmI),slmI⟩) (cmI : PySem.W.codeIn K cdmI "Cutting.__init__" = true) (kmI : PySem.W.keepIn K (.ref fmI) = true)
  {fmB : Addr} {odmB anmB : Option Addr} {slmB : Array (Option Value)} {ocmB kVmB dcmB pmmB cdmB ctmB : Value}
  (imB : PySem.W.findIn K (.ref clsC) "place_of_body" = some (some (.ref fmB))) (nmB : PySem.W.isFn K (.ref fmB) = true) (lmB : K.lookup fmB = some ⟨ocmB,odmB,.func (PySem.W.fnOf "place_of_body" "Cutting.place_of_body" (defArgs sBoM) (defBody sBoM) (defScope sBoM) .none kVmB dcmB pmmB anmB cdmB ctmB),slmB⟩) (cmB : PySem.W.codeIn K cdmB "Cutting.place_of_body" = true) (kmB : PySem.W.keepIn K (.ref fmB) = true)
  {fmO : Addr} {odmO anmO : Option Addr} {slmO : Array (Option Value)} {ocmO kVmO dcmO pmmO cdmO ctmO : Value}
  (imO : PySem.W.findIn K (.ref clsC) "place_of" = some (some (.ref fmO))) (nmO : PySem.W.isFn K (.ref fmO) = true) (lmO : K.lookup fmO = some ⟨ocmO,odmO,.func (PySem.W.fnOf "place_of" "Cutting.place_of" (defArgs sPlM) (defBody sPlM) (defScope sPlM) .none kVmO dcmO pmmO anmO cdmO ctmO),slmO⟩) (cmO : PySem.W.codeIn K cdmO "Cutting.place_of" = true) (kmO : PySem.W.keepIn K (.ref fmO) = true)
  {fmC : Addr} {odmC anmC : Option Addr} {slmC : Array (Option Value)} {ocmC kVmC dcmC pmmC cdmC ctmC : Value}
  (imC : PySem.W.findIn K (.ref clsC) "place_of_cut" = some (some (.ref fmC))) (nmC : PySem.W.isFn K (.ref fmC) = true) (lmC : K.lookup fmC = some ⟨ocmC,odmC,.func (PySem.W.fnOf "place_of_cut" "Cutting.place_of_cut" (defArgs sCuM) (defBody sCuM) (defScope sCuM) .none kVmC dcmC pmmC anmC cdmC ctmC),slmC⟩) (cmC : PySem.W.codeIn K cdmC "Cutting.place_of_cut" = true) (kmC : PySem.W.keepIn K (.ref fmC) = true)
  {fmW : Addr} {odmW anmW : Option Addr} {slmW : Array (Option Value)} {ocmW kVmW dcmW pmmW cdmW ctmW : Value}
  (imW : PySem.W.findIn K (.ref clsC) "ways_of" = some (some (.ref fmW))) (nmW : PySem.W.isFn K (.ref fmW) = true) (lmW : K.lookup fmW = some ⟨ocmW,odmW,.func (PySem.W.fnOf "ways_of" "Cutting.ways_of" (defArgs sWaM) (defBody sWaM) (defScope sWaM) .none kVmW dcmW pmmW anmW cdmW ctmW),slmW⟩) (cmW : PySem.W.codeIn K cdmW "Cutting.ways_of" = true) (kmW : PySem.W.keepIn K (.ref fmW) = true)
  (zlen : PySem.W.nsIn K mainGlobals "len" = some none)
  (zint : PySem.W.nsIn K mainGlobals "int" = some none)
  (zrange : PySem.W.nsIn K mainGlobals "range" = some none)
  (zlist : PySem.W.nsIn K mainGlobals "list" = some none)
  (zreversed : PySem.W.nsIn K mainGlobals "reversed" = some none)
  (zisinstance : PySem.W.nsIn K mainGlobals "isinstance" = some none)
  (ztuple : PySem.W.nsIn K mainGlobals "tuple" = some none)
  (zsorted : PySem.W.nsIn K mainGlobals "sorted" = some none)
  (zset : PySem.W.nsIn K mainGlobals "set" = some none)
  (zzip : PySem.W.nsIn K mainGlobals "zip" = some none)
  (ktt : PySem.W.kitOne K (.type "tuple") (.type "tuple") = some true)
  : ∃ fd : FuncData,(∀ (s : Shared) (v : Value),BindsTo s fd ⟨[v],[]⟩ [("_law_script",v)]) ∧ ∀ base : Heap,K.In base → base.Ns mainGlobals mg → FnOk l.prog w K mg base CX0 66 fa fd ["_law_script"] (spLaw K):=by
 have e:=hfa.symm.trans (PySem.W.mg_of X G aZ)
 cases e
 have FNi:=fun_mk (st:=sNamesIn) lNi cNi kNi
 have bNi:=FNi.binds (ps:=["term"]) fun _ _ _ _ _ _ us hl=>us1 us hl fun _=>rfl
 have mNi:=PySem.W.mg_of X G aNi
 have FOw:=fun_mk (st:=sOwn) lOw cOw kOw
 have bOw:=FOw.binds (ps:=["statement"]) fun _ _ _ _ _ _ us hl=>us1 us hl fun _=>rfl
 have mOw:=PySem.W.mg_of X G aOw
 have FUb:=fun_mk (st:=sUbt) lUb cUb kUb
 have bUb:=FUb.binds (ps:=["statement", "behind"]) fun _ _ _ _ _ _ us hl=>us2 us hl fun _ _=>rfl
 have mUb:=PySem.W.mg_of X G aUb
 have FUo:=fun_mk (st:=sUof) lUo cUo kUo
 have bUo:=FUo.binds (ps:=["statement", "behind"]) fun _ _ _ _ _ _ us hl=>us2 us hl fun _ _=>rfl
 have mUo:=PySem.W.mg_of X G aUo
 have FUa:=fun_mk (st:=sUah) lUa cUa kUa
 have bUa:=FUa.binds (ps:=["body", "behind"]) fun _ _ _ _ _ _ us hl=>us2 us hl fun _ _=>rfl
 have mUa:=PySem.W.mg_of X G aUa
 have FBi:=fun_mk (st:=sBin) lBi cBi kBi
 have bBi:=FBi.binds (ps:=["statement"]) fun _ _ _ _ _ _ us hl=>us1 us hl fun _=>rfl
 have mBi:=PySem.W.mg_of X G aBi
 have FMc:=fun_mk (st:=sMany) lMc cMc kMc
 have bMc:=FMc.binds (ps:=["body"]) fun _ _ _ _ _ _ us hl=>us1 us hl fun _=>rfl
 have mMc:=PySem.W.mg_of X G aMc
 have FDe:=fun_mk (st:=sDeed) lDe cDe kDe
 have bDe:=FDe.binds (ps:=["statement"]) fun _ _ _ _ _ _ us hl=>us1 us hl fun _=>rfl
 have mDe:=PySem.W.mg_of X G aDe
 have FPg:=fun_mk (st:=sPgive) lPg cPg kPg
 have bPg:=FPg.binds (ps:=["term"]) fun _ _ _ _ _ _ us hl=>us1 us hl fun _=>rfl
 have mPg:=PySem.W.mg_of X G aPg
 have FPs:=fun_mk (st:=sPset) lPs cPs kPs
 have bPs:=FPs.binds (ps:=["statement", "behind"]) fun _ _ _ _ _ _ us hl=>us2 us hl fun _ _=>rfl
 have mPs:=PySem.W.mg_of X G aPs
 have FPm:=fun_mk (st:=sPart) lPm cPm kPm
 have bPm:=FPm.binds (ps:=["name", "params", "body"]) fun _ _ _ _ _ _ us hl=>us3 us hl fun _ _ _=>rfl
 have mPm:=PySem.W.mg_of X G aPm
 have FMa:=fun_mk (st:=sMade) lMa cMa kMa
 have bMa:=FMa.binds (ps:=["program"]) fun _ _ _ _ _ _ us hl=>us1 us hl fun _=>rfl
 have mMa:=PySem.W.mg_of X G aMa
 have FBx:=fun_mk (st:=sBox) lBx cBx kBx
 have bBx:=FBx.binds (ps:=["_law_script", "_law_k"]) fun _ _ _ _ _ _ us hl=>us2 us hl fun _ _=>rfl
 have mBx:=PySem.W.mg_of X G aBx
 have FTk:=fun_mk (st:=sTake) lTk cTk kTk
 have bTk:=FTk.binds (ps:=["_law_box_here", "_law_wide"]) fun _ _ _ _ _ _ us hl=>us2 us hl fun _ _=>rfl
 have mTk:=PySem.W.mg_of X G aTk
 have FNu:=fun_mk (st:=sNumber) lNu cNu kNu
 have bNu:=FNu.binds (ps:=["_law_box_here"]) fun _ _ _ _ _ _ us hl=>us1 us hl fun _=>rfl
 have mNu:=PySem.W.mg_of X G aNu
 have FNm:=fun_mk (st:=sNames) lNm cNm kNm
 have bNm:=FNm.binds (ps:=["_law_box_here", "_law_total"]) fun _ _ _ _ _ _ us hl=>us2 us hl fun _ _=>rfl
 have mNm:=PySem.W.mg_of X G aNm
 have FTm:=fun_mk (st:=sTerm) lTm cTm kTm
 have bTm:=FTm.binds (ps:=["_law_box_here", "_law_names_here", "_law_deep"]) fun _ _ _ _ _ _ us hl=>us3 us hl fun _ _ _=>rfl
 have mTm:=PySem.W.mg_of X G aTm
 have FPo:=fun_mk (st:=sSpot) lPo cPo kPo
 have bPo:=FPo.binds (ps:=["_law_box_here", "_law_names_here"]) fun _ _ _ _ _ _ us hl=>us2 us hl fun _ _=>rfl
 have mPo:=PySem.W.mg_of X G aPo
 have FSt:=fun_mk (st:=sStm) lSt cSt kSt
 have bSt:=FSt.binds (ps:=["_law_box_here", "_law_names_here", "_law_heads", "_law_spare", "_law_deep"]) fun _ _ _ _ _ _ us hl=>us5 us hl fun _ _ _ _ _=>rfl
 have mSt:=PySem.W.mg_of X G aSt
 have FBo:=fun_mk (st:=sBody) lBo cBo kBo
 have bBo:=FBo.binds (ps:=["_law_box_here", "_law_names_here", "_law_heads", "_law_spare", "_law_deep"]) fun _ _ _ _ _ _ us hl=>us5 us hl fun _ _ _ _ _=>rfl
 have mBo:=PySem.W.mg_of X G aBo
 have FAn:=fun_mk (st:=sAny) lAn cAn kAn
 have bAn:=FAn.binds (ps:=["_law_box_here", "_law_total", "_law_room"]) fun _ _ _ _ _ _ us hl=>us3 us hl fun _ _ _=>rfl
 have mAn:=PySem.W.mg_of X G aAn
 have FOp:=fun_mk (st:=sOp) lOp cOp kOp
 have bOp:=FOp.binds (ps:=["_law_box_here", "_law_a", "_law_b"]) fun _ _ _ _ _ _ us hl=>us3 us hl fun _ _ _=>rfl
 have mOp:=PySem.W.mg_of X G aOp
 have FIn:=fun_mk (st:=sInner) lIn cIn kIn
 have bIn:=FIn.binds (ps:=["_law_box_here", "_law_f", "_law_g", "_law_w"]) fun _ _ _ _ _ _ us hl=>us4 us hl fun _ _ _ _=>rfl
 have mIn:=PySem.W.mg_of X G aIn
 have FLo:=fun_mk (st:=sLooped) lLo cLo kLo
 have bLo:=FLo.binds (ps:=["_law_box_here", "_law_f", "_law_inner_here", "_law_w"]) fun _ _ _ _ _ _ us hl=>us4 us hl fun _ _ _ _=>rfl
 have mLo:=PySem.W.mg_of X G aLo
 have FTi:=fun_mk (st:=sTicking) lTi cTi kTi
 have bTi:=FTi.binds (ps:=["_law_box_here", "_law_f", "_law_inner_here", "_law_w"]) fun _ _ _ _ _ _ us hl=>us4 us hl fun _ _ _ _=>rfl
 have mTi:=PySem.W.mg_of X G aTi
 have FBu:=fun_mk (st:=sBusy) lBu cBu kBu
 have bBu:=FBu.binds (ps:=["_law_box_here"]) fun _ _ _ _ _ _ us hl=>us1 us hl fun _=>rfl
 have mBu:=PySem.W.mg_of X G aBu
 have FCa:=fun_mk (st:=sCase) lCa cCa kCa
 have bCa:=FCa.binds (ps:=["_law_box_here"]) fun _ _ _ _ _ _ us hl=>us1 us hl fun _=>rfl
 have mCa:=PySem.W.mg_of X G aCa
 have FDd:=fun_mk (st:=sDeeds) lDd cDd kDd
 have bDd:=FDd.binds (ps:=["_law_body_here"]) fun _ _ _ _ _ _ us hl=>us1 us hl fun _=>rfl
 have mDd:=PySem.W.mg_of X G aDd
 have FRi:=fun_mk (st:=sRight) lRi cRi kRi
 have bRi:=FRi.binds (ps:=["_law_part", "_law_one"]) fun _ _ _ _ _ _ us hl=>us2 us hl fun _ _=>rfl
 have mRi:=PySem.W.mg_of X G aRi
 have FZ:=fun_mk (st:=sLaw) lZ cZ kZ
 have nlen:=PySem.W.mg_none_of X G zlen
 have nint:=PySem.W.mg_none_of X G zint
 have nrange:=PySem.W.mg_none_of X G zrange
 have nlist:=PySem.W.mg_none_of X G zlist
 have nreversed:=PySem.W.mg_none_of X G zreversed
 have nisinstance:=PySem.W.mg_none_of X G zisinstance
 have ntuple:=PySem.W.mg_none_of X G ztuple
 have nsorted:=PySem.W.mg_none_of X G zsorted
 have nset:=PySem.W.mg_none_of X G zset
 have nzip:=PySem.W.mg_none_of X G zzip
 refine ⟨PySem.W.fnOf "law" "law" (defArgs sLaw) (defBody sLaw) (defScope sLaw) .none kVZ dcZ pmZ anZ cdZ ctZ,fun s v=>.of_eq rfl,fun base _ _=>?_⟩
 have hNo : Nought K nA:=fun H=>.inr ⟨_,_,_,lNo,rfl,rfl,(by exact sz2),(.cons ⟨_,rfl⟩ (.cons ⟨_,rfl⟩ .nil))⟩
 have ck : CK K clsC:=⟨⟨qcPg,qcHd,qcPo,qcSa⟩,qcNm,qcNf⟩
 have FmI:=fun_mk (st:=sIniM) lmI cmI kmI
 have bmI:=FmI.binds (ps:=["self", "body"]) fun _ _ _ _ _ _ us hl=>us2 us hl fun _ _=>rfl
 have hmI : Meth K clsC "__init__" fmI:=⟨imI,nmI,kmI⟩
 have FmB:=fun_mk (st:=sBoM) lmB cmB kmB
 have bmB:=FmB.binds (ps:=["self", "body", "behind"]) fun _ _ _ _ _ _ us hl=>us3 us hl fun _ _ _=>rfl
 have hmB : Meth K clsC "place_of_body" fmB:=⟨imB,nmB,kmB⟩
 have FmO:=fun_mk (st:=sPlM) lmO cmO kmO
 have bmO:=FmO.binds (ps:=["self", "statement", "behind"]) fun _ _ _ _ _ _ us hl=>us3 us hl fun _ _ _=>rfl
 have hmO : Meth K clsC "place_of" fmO:=⟨imO,nmO,kmO⟩
 have FmC:=fun_mk (st:=sCuM) lmC cmC kmC
 have bmC:=FmC.binds (ps:=["self", "statement", "behind"]) fun _ _ _ _ _ _ us hl=>us3 us hl fun _ _ _=>rfl
 have hmC : Meth K clsC "place_of_cut" fmC:=⟨imC,nmC,kmC⟩
 have FmW:=fun_mk (st:=sWaM) lmW cmW kmW
 have bmW:=FmW.binds (ps:=["self", "statement", "place", "behind"]) fun _ _ _ _ _ _ us hl=>us4 us hl fun _ _ _ _=>rfl
 have hmW : Meth K clsC "ways_of" fmW:=⟨imW,nmW,kmW⟩
 have mk : Mk K clsC fmI:=⟨qcMk,imI,nmI,qcKp⟩
 have GTk : FnOk l.prog w K mg base CX0 1 fTk _ _ spTake:=ok_take FTk
 have GBx : FnOk l.prog w K mg base CX0 1 fBx _ _ (spBox K):=ok_box FBx nlen nint
 have GNu : FnOk l.prog w K mg base CX0 2 fNu _ _ spNum:=ok_number FNu GTk bTk kTk mTk
 have GNm : FnOk l.prog w K mg base CX0 2 fNm _ _ spNames:=ok_names FNm GTk bTk kTk mTk nrange
 have GTm : FnOk l.prog w K mg base CX0 6 fTm _ _ (spTerm 4):=terms (P:=l.prog) (w:=w) (base:=base) FTm bTm mTm GTk bTk kTk mTk GNu bNu kNu mNu nlen 4
 have GPo : FnOk l.prog w K mg base CX0 7 fPo _ _ spSpot:=ok_spot FPo GTk bTk kTk mTk GTm bTm kTm mTm
 have SS:=stms (P:=l.prog) (w:=w) (base:=base) FSt FBo GTk bTk kTk mTk GTm bTm kTm mTm GPo bPo kPo mPo bSt mSt bBo mBo nlen ntuple nrange
 have GBo : FnOk l.prog w K mg base CX0 21 fBo _ _ (spBody 6):=(SS 6).2
 have GAn : FnOk l.prog w K mg base CX0 22 fAn _ _ spAny:=ok_any FAn GTk bTk kTk mTk GNm bNm kNm mNm GBo bBo kBo mBo nlen nrange ntuple nint
 have GOp : FnOk l.prog w K mg base CX0 2 fOp _ _ spOp:=ok_op FOp GTk bTk kTk mTk
 have GIn : FnOk l.prog w K mg base CX0 3 fIn _ _ spDefn:=ok_inner FIn GTk bTk kTk mTk GOp bOp kOp mOp
 have GLo : FnOk l.prog w K mg base CX0 3 fLo _ _ spDefn:=ok_looped FLo GTk bTk kTk mTk GOp bOp kOp mOp nint ntuple
 have GTi : FnOk l.prog w K mg base CX0 3 fTi _ _ spDefn:=ok_ticking FTi GTk bTk kTk mTk GOp bOp kOp mOp nint ntuple
 have GBu : FnOk l.prog w K mg base CX0 4 fBu _ _ spBusy:=ok_busy FBu GTk bTk kTk mTk GOp bOp kOp mOp GNm bNm kNm mNm GLo bLo kLo mLo GTi bTi kTi mTi GIn bIn kIn mIn
 have GCa : FnOk l.prog w K mg base CX0 23 fCa _ _ spCase:=ok_case FCa GTk bTk kTk mTk GNu bNu kNu mNu GBu bBu kBu mBu GAn bAn kAn mAn nlen ntuple
 have GDd : FnOk l.prog w K mg base CX0 9 fDd _ _ (spDeeds 9):=deedss FDd bDd mDd 9
 have GRi : FnOk l.prog w K mg base CX0 10 fRi _ _ (spRight nA):=ok_right (nA:=nA) FRi GDd bDd kDd mDd nlen ntuple nint nisinstance nzip ktt
 have NS:=nmins (P:=l.prog) (w:=w) (base:=base) FNi bNi mNi nset nsorted
 have GNi : FnOk l.prog w K mg base CX0 6 fNi _ _ (spNmIn 5):=NS 5
 have GNc : FnOk l.prog w K mg base CX0 6 fNi _ _ (spNmC K):=ok_nmC (fN:=fNi) (fdN:=PySem.W.fnOf "names_in" "names_in" (defArgs sNamesIn) (defBody sNamesIn) (defScope sNamesIn) .none kVNi dcNi pmNi anNi cdNi ctNi) FNi (NS 4) bNi kNi mNi nset nsorted
 have GOw : FnOk l.prog w K mg base CX0 1 fOw _ _ spOwn:=ok_own FOw
 have US:=uahs (P:=l.prog) (w:=w) (base:=base) FUa FUb FUo bUa mUa bUb mUb bUo mUo GOw bOw kOw mOw GNi bNi kNi mNi nlist nset nsorted nreversed
 have GUo : FnOk l.prog w K mg base CX0 31 fUo _ _ (spUof 7):=(US 7).2
 have GUz : FnOk l.prog w K mg base CX0 10 fUo _ _ (spUof 0):=(US 0).2
 have GBi : FnOk l.prog w K mg base CX0 1 fBi _ _ spBin:=ok_bin FBi
 have GMc : FnOk l.prog w K mg base CX0 2 fMc _ _ spMany:=ok_many FMc GBi bBi kBi mBi nlist
 have GDe : FnOk l.prog w K mg base CX0 1 fDe _ _ spDeed:=ok_deed FDe
 have GPg : FnOk l.prog w K mg base CX0 7 fPg _ _ spPgive:=ok_pgive FPg GNi bNi kNi mNi
 have GPc : FnOk l.prog w K mg base CX0 7 fPg _ _ (spPgC K):=ok_pgC FPg GNc bNi kNi mNi
 have GPs : FnOk l.prog w K mg base CX0 11 fPs _ _ spPset:=ok_pset FPs GUz bUo kUo mUo
 have GmB : FnOk l.prog w K mg base CX0 63 fmB _ _ (spPB clsC 8):=pbs (P:=l.prog) (w:=w) (base:=base) ck FmB FmO FmC FmW bmB hmB bmO hmO bmC hmC bmW hmW GMc bMc kMc mMc GUo bUo kUo mUo GDe bDe kDe mDe GPg bPg kPg mPg GPs bPs kPs mPs nlen ntuple nreversed 8 (Nat.le_refl _)
 have GmI : FnOk l.prog w K mg base CX0 3 fmI _ _ (spIni clsC):=ok_ini FmI ck GMc bMc kMc mMc
 have GPm : FnOk l.prog w K mg base CX0 64 fPm _ _ (spPart K nA):=ok_part FPm ck mk GmI bmI (PySem.W.mg_of X G gCl) (PySem.W.mg_of X G gNo) hNo GmB bmB hmB GPc bPg kPg mPg ntuple nreversed
 have GMa : FnOk l.prog w K mg base CX0 65 fMa _ _ (spMade K nA):=ok_made FMa GPm bPm kPm mPm ntuple
 exact ok_law FZ GTk bTk kTk mTk GBx bBx kBx mBx GCa bCa kCa mCa GAn bAn kAn mAn GMa bMa kMa mMa GRi bRi kRi mRi nlen ntuple nlist nint nisinstance nzip ktt
theorem walk {l : PySem.W.OpenLaw} {q : Program} {loose : List Str} {XP : (Str → Option Value) → Heap → Prop} {YP : World → Heap → Prop} {d : DefRec} {K : Params → PySem.W.Frag} (hn : l.most = some 63) (hdf : d.params.defaults = [])
  (hY : ∀ (w : World) (h : Heap),YP w h → (K w.params).In h)
  (F : ∀ (w : World) (mg : Str → Option Value) (fa : Addr) (h : Heap),(K w.params).In h → h.Ns mainGlobals mg → mg d.name = some (.ref fa) →
   ∃ fd : FuncData,(∀ (s : Shared) (u : Value),BindsTo s fd ⟨[u],[]⟩ [("_law_script",u)]) ∧ ∀ base : Heap,(K w.params).In base → base.Ns mainGlobals mg → FnOk l.prog w (K w.params) mg base CX0 66 fa fd ["_law_script"] (spLaw (K w.params))) :
  PySem.W.WalkO q loose XP YP l.row.toRowW d [] (fun f vs=>PySem.call f vs) :=
 L2.walk_of (n:=63) (k:=66) (x:="_law_script") (CX:=fun _=>CX0) (sp:=fun w=>spLaw (K w.params)) hn (by decide) hdf ⟨rfl,by decide,by decide⟩ hY F (fun _ _ a ns hl _ hS=>⟨a,ns,rfl,hS,hl,fun _=>rfl⟩) fun _ _ _ _ _ z=>z
end K17
open PySem PySem.W PyProof.Rows PySem.W.X
theorem K17.walkX {q : Program} {loose : List PySem.Str} {XP : (PySem.Str → Option Value) → Heap → Prop} {K : Params → Frag} {as : List Addr} {n t : Nat} {r : RowW} {d : DefRec} {kwd : List (PySem.Str × PySem.Expr)} {run : Value → List Value → Sem Value}
    (e : ∀ P, as = (K P).map (·.1)) (h : WalkO q loose XP (InK K) r d kwd run) : WalkX q loose XP (obsZ as) (valZ K n t) r d kwd run :=
  fun w s₀ s₁ mg mb G Y a o pm cd doc dV kV h1 h2 h3 h4 h5 h6 args vals as' L => h w s₀ s₁ mg mb G (InK.keeps w _ _ (z_facts e Y).2.1 L.keeps) a o pm cd doc dV kV h1 h2 h3 h4 h5 h6 args vals as'
set_option maxRecDepth 100000 in
set_option maxHeartbeats 0 in
theorem PySem.Challenge.cw_againbook_k17_deeds_of_cuts_holds : PySem.Challenge.rw_againbook_k17_deeds_of_cuts.Holds := by
  w_on; o_law; z_head; (case hw => w_witness2)
  refine K17.walkX (fun _ => by rfl) (K17.walk (l := PySem.Challenge.rw_againbook_k17_deeds_of_cuts) rfl rfl (fun w h Y => Y) ?F)
  case F =>
    intro w mg fa h KX G hmg
    refine' K17.all_mk KX G hmg ?aNi ?lNi ?cNi ?kNi ?aOw ?lOw ?cOw ?kOw ?aUb ?lUb ?cUb ?kUb ?aUo ?lUo ?cUo ?kUo ?aUa ?lUa ?cUa ?kUa ?aBi ?lBi ?cBi ?kBi ?aMc ?lMc ?cMc ?kMc ?aDe ?lDe ?cDe ?kDe ?aPg ?lPg ?cPg ?kPg ?aPs ?lPs ?cPs ?kPs ?aPm ?lPm ?cPm ?kPm ?aMa ?lMa ?cMa ?kMa ?aBx ?lBx ?cBx ?kBx ?aTk ?lTk ?cTk ?kTk ?aNu ?lNu ?cNu ?kNu ?aNm ?lNm ?cNm ?kNm ?aTm ?lTm ?cTm ?kTm ?aPo ?lPo ?cPo ?kPo ?aSt ?lSt ?cSt ?kSt ?aBo ?lBo ?cBo ?kBo ?aAn ?lAn ?cAn ?kAn ?aOp ?lOp ?cOp ?kOp ?aIn ?lIn ?cIn ?kIn ?aLo ?lLo ?cLo ?kLo ?aTi ?lTi ?cTi ?kTi ?aBu ?lBu ?cBu ?kBu ?aCa ?lCa ?cCa ?kCa ?aDd ?lDd ?cDd ?kDd ?aRi ?lRi ?cRi ?kRi ?aZ ?lZ ?cZ ?kZ ?gNo ?lNo ?gCl ?qcPg ?qcHd ?qcPo ?qcSa ?qcNm ?qcNf ?qcMk ?qcKp ?imI ?nmI ?lmI ?cmI ?kmI ?imB ?nmB ?lmB ?cmB ?kmB ?imO ?nmO ?lmO ?cmO ?kmO ?imC ?nmC ?lmC ?cmC ?kmC ?imW ?nmW ?lmW ?cmW ?kmW ?zlen ?zint ?zrange ?zlist ?zreversed ?zisinstance ?ztuple ?zsorted ?zset ?zzip ?ktt
    (case aNi => k_is)
    (case lNi => k_is)
    (case cNi => k_is)
    (case kNi => k_is)
    (case aOw => k_is)
    (case lOw => k_is)
    (case cOw => k_is)
    (case kOw => k_is)
    (case aUb => k_is)
    (case lUb => k_is)
    (case cUb => k_is)
    (case kUb => k_is)
    (case aUo => k_is)
    (case lUo => k_is)
    (case cUo => k_is)
    (case kUo => k_is)
    (case aUa => k_is)
    (case lUa => k_is)
    (case cUa => k_is)
    (case kUa => k_is)
    (case aBi => k_is)
    (case lBi => k_is)
    (case cBi => k_is)
    (case kBi => k_is)
    (case aMc => k_is)
    (case lMc => k_is)
    (case cMc => k_is)
    (case kMc => k_is)
    (case aDe => k_is)
    (case lDe => k_is)
    (case cDe => k_is)
    (case kDe => k_is)
    (case aPg => k_is)
    (case lPg => k_is)
    (case cPg => k_is)
    (case kPg => k_is)
    (case aPs => k_is)
    (case lPs => k_is)
    (case cPs => k_is)
    (case kPs => k_is)
    (case aPm => k_is)
    (case lPm => k_is)
    (case cPm => k_is)
    (case kPm => k_is)
    (case aMa => k_is)
    (case lMa => k_is)
    (case cMa => k_is)
    (case kMa => k_is)
    (case aBx => k_is)
    (case lBx => k_is)
    (case cBx => k_is)
    (case kBx => k_is)
    (case aTk => k_is)
    (case lTk => k_is)
    (case cTk => k_is)
    (case kTk => k_is)
    (case aNu => k_is)
    (case lNu => k_is)
    (case cNu => k_is)
    (case kNu => k_is)
    (case aNm => k_is)
    (case lNm => k_is)
    (case cNm => k_is)
    (case kNm => k_is)
    (case aTm => k_is)
    (case lTm => k_is)
    (case cTm => k_is)
    (case kTm => k_is)
    (case aPo => k_is)
    (case lPo => k_is)
    (case cPo => k_is)
    (case kPo => k_is)
    (case aSt => k_is)
    (case lSt => k_is)
    (case cSt => k_is)
    (case kSt => k_is)
    (case aBo => k_is)
    (case lBo => k_is)
    (case cBo => k_is)
    (case kBo => k_is)
    (case aAn => k_is)
    (case lAn => k_is)
    (case cAn => k_is)
    (case kAn => k_is)
    (case aOp => k_is)
    (case lOp => k_is)
    (case cOp => k_is)
    (case kOp => k_is)
    (case aIn => k_is)
    (case lIn => k_is)
    (case cIn => k_is)
    (case kIn => k_is)
    (case aLo => k_is)
    (case lLo => k_is)
    (case cLo => k_is)
    (case kLo => k_is)
    (case aTi => k_is)
    (case lTi => k_is)
    (case cTi => k_is)
    (case kTi => k_is)
    (case aBu => k_is)
    (case lBu => k_is)
    (case cBu => k_is)
    (case kBu => k_is)
    (case aCa => k_is)
    (case lCa => k_is)
    (case cCa => k_is)
    (case kCa => k_is)
    (case aDd => k_is)
    (case lDd => k_is)
    (case cDd => k_is)
    (case kDd => k_is)
    (case aRi => k_is)
    (case lRi => k_is)
    (case cRi => k_is)
    (case kRi => k_is)
    (case aZ => k_is)
    (case lZ => k_is)
    (case cZ => k_is)
    (case kZ => k_is)
    (case gNo => k_is)
    (case lNo => k_is)
    (case gCl => k_is)
    (case qcPg => k_is)
    (case qcHd => k_is)
    (case qcPo => k_is)
    (case qcSa => k_is)
    (case qcNm => k_is)
    (case qcNf => k_is)
    (case qcMk => k_is)
    (case qcKp => k_is)
    (case imI => k_is)
    (case nmI => k_is)
    (case lmI => k_is)
    (case cmI => k_is)
    (case kmI => k_is)
    (case imB => k_is)
    (case nmB => k_is)
    (case lmB => k_is)
    (case cmB => k_is)
    (case kmB => k_is)
    (case imO => k_is)
    (case nmO => k_is)
    (case lmO => k_is)
    (case cmO => k_is)
    (case kmO => k_is)
    (case imC => k_is)
    (case nmC => k_is)
    (case lmC => k_is)
    (case cmC => k_is)
    (case kmC => k_is)
    (case imW => k_is)
    (case nmW => k_is)
    (case lmW => k_is)
    (case cmW => k_is)
    (case kmW => k_is)
    (case zlen => k_is)
    (case zint => k_is)
    (case zrange => k_is)
    (case zlist => k_is)
    (case zreversed => k_is)
    (case zisinstance => k_is)
    (case ztuple => k_is)
    (case zsorted => k_is)
    (case zset => k_is)
    (case zzip => k_is)
    (case ktt => kit_is)
