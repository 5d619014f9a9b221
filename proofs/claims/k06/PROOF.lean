import PyProof.Rows.All
import Wide.All
import OpenK.AllK
import Wide.FinOn
import Lean
import PyProof.EqAt
import PyProof.EqKinds
import PyProof.TupleCall
import PySem.Challenge.RW_againbook_k06_the_first_wrong_row
set_option Elab.async false
set_option linter.all false
set_option maxRecDepth 100000
set_option genSizeOf false
theorem sz0:0≤PySem.sizeLine:=by decide
theorem sz1:1≤PySem.sizeLine:=by decide
theorem sz2:2≤PySem.sizeLine:=by decide
theorem sz3:3≤PySem.sizeLine:=by decide
theorem sz4:4≤PySem.sizeLine:=by decide
set_option Elab.async false
set_option linter.all false
set_option maxRecDepth 100000
set_option maxHeartbeats 4000000
open PySem.W (keepIn Frag nsIn kitOne fnOf mg_of codeIn findIn mroIn isFn mg_none_of kia_one typeIn emptyDict clsIn instObj hasDictIn kitAny specialIn callWith_K excIn lookIn plainGet notCls tailIn)
namespace L2
open PySem PySem.Spec PyProof.Rows
abbrev Key:=Sum Int Str
noncomputable def keyIs:Key->Value->Bool
 | .inl k,v=>Value.isInt k v
 | .inr x,v=>Value.isStrOf x v
noncomputable def keyH(w:World):Key->Int
 | .inl k=>hashInt k
 | .inr x=>hashStr w x
theorem jV:∀{k:Key} {v:Value},keyIs k v=true->(∃i t,k=Sum.inl i/\v=Value.int i t)∨(∃x t,k=Sum.inr x/\v=Value.str x t)
 | .inl i,v,h=>by
  obtain⟨t,e⟩:=Value.isInt_shape (k:=i) (v:=v) h
  exact .inl ⟨i,t,rfl,e⟩
 | .inr x,v,h=>by
  obtain⟨t,e⟩:=Value.isStrOf_shape (x:=x) (v:=v) h
  exact .inr ⟨x,t,rfl,e⟩
theorem key_ll(a b:Int):decide ((Sum.inl a:Key)=Sum.inl b)=(a==b):=by
 by_cases e:a=b
 ·subst e;simp
 ·have h:¬(Sum.inl a:Key)=Sum.inl b:=fun q=>e (Sum.inl.inj q)
  rw[decide_eq_false h]
  exact(beq_eq_false_iff_ne.mpr e).symm
theorem key_rr(a b:Str):decide ((Sum.inr a:Key)=Sum.inr b)=decide (a=b):=by
 by_cases e:a=b
 ·subst e;simp
 ·have h:¬(Sum.inr a:Key)=Sum.inr b:=fun q=>e (Sum.inr.inj q)
  rw[decide_eq_false h,decide_eq_false e]
theorem key_lr(a:Int)(b:Str):decide ((Sum.inl a:Key)=Sum.inr b)=false:=decide_eq_false (fun q=>nomatch q)
theorem key_rl(a:Str)(b:Int):decide ((Sum.inr a:Key)=Sum.inl b)=false:=decide_eq_false (fun q=>nomatch q)
noncomputable def mixKind(prog:Program)(w:World):PySem.KeyKind prog w Key where
 is:=keyIs
 hash:=keyH w
 inj:=fun v a b ha hb=>by
  rcases jV ha with ⟨i,t,rfl,rfl⟩ | ⟨x,t,rfl,rfl⟩
  ·rcases jV hb with ⟨j,u,rfl,e⟩ | ⟨y,u,rfl,e⟩
   ·injection e with e1 _;rw[e1]
   ·exact nomatch e
  ·rcases jV hb with ⟨j,u,rfl,e⟩ | ⟨y,u,rfl,e⟩
   ·exact nomatch e
   ·injection e with e1 _;rw[e1]
 byValue:=fun k v h=>by
  rcases jV h with ⟨i,t,rfl,rfl⟩ | ⟨x,t,rfl,rfl⟩<;>rfl
 pyHash:=fun hv h=>by
  rcases jV hv with ⟨i,t,rfl,rfl⟩ | ⟨x,t,rfl,rfl⟩
  ·exact wpAny_pyHash_int h
  ·exact wpAny_pyHash_str h
 eqBool:=fun hu hv h=>by
  rcases jV hu with ⟨i,t,rfl,rfl⟩ | ⟨x,t,rfl,rfl⟩
  ·rcases jV hv with ⟨j,u,rfl,rfl⟩ | ⟨y,u,rfl,rfl⟩
   ·rw[key_ll]at h;exact wpAny_eqBool_int h
   ·rw[key_lr]at h;exact SeqAt.EqAt.int_str i t y u _ _ _ _ h
  ·rcases jV hv with ⟨j,u,rfl,rfl⟩ | ⟨y,u,rfl,rfl⟩
   ·rw[key_rl]at h;exact SeqAt.EqAt.str_int x t j u _ _ _ _ h
   ·rw[key_rr]at h;exact wpAny_eqBool_str h
 «strs»:=fun k x t v h=>by
  rcases jV h with ⟨i,u,rfl,e⟩ | ⟨y,u,rfl,e⟩
  ·exact nomatch e
  ·injection e with e1 _
   subst e1
   cases v<;>rfl
end L2
namespace L2
open PySem PySem.Spec PyProof.Rows
inductive V where
 |non |bl (b:Bool) |int (i:Int) |str (x:Str) |byt (b:Array UInt8) |flt (b:UInt64) |ref (a:Addr) |ty (n:String)
 deriving DecidableEq
set_option genInjectivity false
def RelV:V->Value->Prop
 | .non,u=>u=Value.none
 | .bl b,u=>u=Value.bool b
 | .int i,u=>∃t,u=Value.int i t
 | .str x,u=>∃t,u=Value.str x t
 | .byt b,u=>∃t,u=Value.bytes b t
 | .flt b,u=>∃t,u=Value.float b t
 | .ref a,u=>u=Value.ref a
 | .ty n,u=>u=Value.type n
abbrev Vals:List V->List Value->Prop:=Paired RelV
theorem Vals.length{xs:List V}{us:List Value}(r:Vals xs us):xs.length=us.length:=Paired.length r
theorem Vals.get:∀{xs:List V} {us:List Value} {i:Nat} {x:V},Vals xs us->xs[i]?=some x->∃u,us[i]?=some u/\RelV x u
 |_,_,_,_,.nil,e=>by simp at e
 |_,_,0,_,.cons r _,e=>by simp at e;subst e;exact⟨_,rfl,r⟩
 |_,_,i+1,x,.cons _ t,e=>by
  obtain⟨u,h1,h2⟩:=Vals.get (i:=i) (x:=x) t (by simpa using e)
  exact⟨u,by simpa using h1,h2⟩
theorem Vals.set{x:V}{u:Value}(r:RelV x u):∀{xs:List V} {us:List Value} (i:Nat),Vals xs us->Vals (xs.set i x) (us.set i u)
 |_,_,_,.nil=>.nil
 |_,_,0,.cons _ t=>.cons r t
 |_,_,i+1,.cons q t=>.cons q (Vals.set r i t)
theorem Vals.append:∀{xs ys:List V} {us ws:List Value},Vals xs us->Vals ys ws->Vals (xs++ys) (us++ws)
 |_,_,_,_,.nil,s=>s
 |_,_,_,_,.cons r t,s=>.cons r (Vals.append t s)
theorem Vals.take:∀{xs:List V} {us:List Value} (n:Nat),Vals xs us->Vals (xs.take n) (us.take n)
 |_,_,0,_=>.nil
 |_,_,_+1,.nil=>.nil
 |_,_,n+1,.cons r t=>.cons r (Vals.take n t)
theorem Vals.drop:∀{xs:List V} {us:List Value} (n:Nat),Vals xs us->Vals (xs.drop n) (us.drop n)
 |_,_,0,r=>r
 |_,_,_+1,.nil=>.nil
 |_,_,n+1,.cons _ t=>Vals.drop n t
def RelO:Option V->Option Value->Prop
 |some v,some u=>RelV v u
 |none,none=>True
 |_,_=>False
def KV{κ:Type}:List (κ×V)->List (κ×Value)->Prop:=Paired fun(p:κ×V) (q:κ×Value)=>p.1=q.1/\RelV p.2 q.2
noncomputable def kV:Key->V
 | .inl i=>.int i
 | .inr x=>.str x
inductive HO where
 |lst (xs:List V)
 |tup (xs:List V)
 |dK (kvs:List (Key×V)) |dT (kvs:List (List Key×V))
 |set (S:Int->Bool) (n:Nat)
 |ins (C dx:Addr) (fs:List (Str×V))
 |own (x:Addr)
 |xd (fs:List (Str×V))
 |met (f x:Addr)
 |rng (lo hi:Int)
 |frz (o:Obj) (u:HO)
 |tbl (ps:Array Value)
 |ext (φ:Heap->Prop)
abbrev Hp:=Addr->Option HO
noncomputable def upd(H:Hp)(a:Addr)(o:HO):Hp:=fun b=>if b=a then some o else H b
theorem jb{H:Hp}{a:Addr}{o:HO}:upd H a o a=some o:=by unfold upd;rw[if_pos rfl]
theorem jh{H:Hp}{a b:Addr}{o:HO}(h:b≠a):upd H a o b=H b:=by unfold upd;rw[if_neg h]
theorem jU{H:Hp}{a b:Addr}{o u:HO}(h:H a=some o)(h':H b=some u)(d:o≠u):a≠b:=by
 intro e;subst e;rw[h]at h';exact d (Option.some.inj h')
theorem jj{H:Hp}{a b:Addr}{o:HO}(h:H a=some o)(h':H b=none):a≠b:=by
 intro e;subst e;rw[h]at h';cases h'
section
variable (P:Program)(w:World)
def ObjOk(H:Hp)(h:Heap)(a:Addr):HO->Prop
 | .lst xs=>xs.length<=sizeLine/\∃(its:List Value) (n:Nat),Vals xs its/\h.get? a=some { cls:=.type "list",data:=.seq its.toArray n }
 | .tup xs=>xs.length<=sizeLine/\∃its:List Value,Vals xs its/\IsTup h a its.toArray
 | .dK kvs=>kvs.length<=sizeLine/\(a==sysModules)=false/\∃vs,KV kvs vs/\h.DictOf (mixKind P w) a vs
 | .dT kvs=>kvs.length<=sizeLine/\(a==sysModules)=false/\∃xs:List (List Key×Addr×Value),
   Paired (fun(p:List Key×V) (q:List Key×Addr×Value)=>p.1=q.1/\H q.2.1=some (.tup (p.1.map kV))/\RelV p.2 q.2.2) kvs xs/\
   ∃o es ep,h.get? a=some o/\o.ExactDict/\o.data= .dict es ep/\es.toList=xs.map (entryOfKey (tupleKind (mixKind P w)))/\(xs.map (·.1)).Nodup
 | .set S n=>h.SetOf (intKind P w) a S n
 | .ins C dx fs=>H dx=some (.own a)/\fs.length<=1000/\dx≠a/\h.get? a=some (instObj C dx)/\
   ∃mA,h.Ns1 dx mA/\(∀f,RelO (fs.lookup f) (mA f))/\PySem.Within mA (fs.map (·.1))
 | .own _=>∃o,h.get? a=some o
 | .xd fs=>∃mA,h.Ns1 a mA/\∀f,RelO (fs.lookup f) (mA f)
 | .rng lo hi=>∃t u v,h.get? a=some { cls:=.type "range",data:=.fields #[.int lo t,.int hi u,.int 1 v] }
 | .frz o u=>h.get? a=some o/\ObjOk H h a u
 | .tbl ps=>h.get? a=some { cls:=.none,data:=.fields ps }
 | .met f x=>h.get? a=some (PySem.W.methodObj (.ref f) (.ref x))
 | .ext φ=>φ h/\(∃o,h.get? a=some o)/\∀h1 h2:Heap,φ h1->(∀o,h1.get? a=some o->h2.get? a=some o)->φ h2
def HOk(H:Hp)(h:Heap):Prop:=∀a o,H a=some o->ObjOk P w H h a o
end
section
variable {P:Program}{w:World}{H H':Hp}{h h':Heap}{a:Addr}{o:HO}
theorem ObjOk.lt(x:ObjOk P w H h a o):a < h.objs.size:=by
 cases o with
 |lst xs=>obtain⟨_,_,_,_,e⟩:=x;exact Heap.lt_size e
 |tup xs=>obtain⟨_,_,_,p⟩:=x;exact p.lt
 |dK kvs=>obtain⟨_,_,_,_,o,_,_,e,_⟩:=x;exact Heap.lt_size e
 |dT kvs=>obtain⟨_,_,_,_,o,_,_,e,_⟩:=x;exact Heap.lt_size e
 |set S n=>obtain⟨o,_,_,_,e,_⟩:=x;exact Heap.lt_size e
 |ins C dx fs=>obtain⟨_,_,_,e,_⟩:=x;exact Heap.lt_size e
 |own y=>obtain⟨_,e⟩:=x;exact Heap.lt_size e
 |xd fs=>obtain⟨_,⟨_,_,_,e,_⟩,_⟩:=x;exact Heap.lt_size e
 |rng lo hi=>obtain⟨_,_,_,e⟩:=x;exact Heap.lt_size e
 |frz ob u=>obtain⟨e,_⟩:=x;exact Heap.lt_size e
 |tbl ps=>exact Heap.lt_size (show h.get? a=some _ from x)
 |met f y=>exact Heap.lt_size (show h.get? a=some _ from x)
 |ext φ=>obtain⟨_,⟨_,e⟩,_⟩:=x;exact Heap.lt_size e
theorem Paired.mapP{α β:Type}{F G:α->β->Prop}:∀{l₁:List α} {l₂:List β},Paired F l₁ l₂->(∀a b,F a b->G a b)->Paired G l₁ l₂
 |_,_,.nil,_=>.nil
 |_,_,.cons r t,f=>.cons (f _ _ r) (Paired.mapP t f)
theorem ObjOk.stay(x:ObjOk P w H h a o)(k:∀b u,(b=a∨H b=some (.own a))->h.get? b=some u->h'.get? b=some u)
  (ho:∀b,H b=some (.own a)->H' b=some (.own a)) (ht:∀b xs,H b=some (.tup xs)->H' b=some (.tup xs)):ObjOk P w H' h' a o:=by
 induction o with
 |lst xs=>obtain⟨z,its,n,r,e⟩:=x;exact⟨z,its,n,r,k _ _ (.inl rfl) e⟩
 |tup xs=>obtain⟨z,its,r,ob,e,c⟩:=x;exact⟨z,its,r,ob,k _ _ (.inl rfl) e,c⟩
 |dK kvs=>obtain⟨z,y,vs,r,ob,es,ep,e,c⟩:=x;exact⟨z,y,vs,r,ob,es,ep,k _ _ (.inl rfl) e,c⟩
 |dT kvs=>
  obtain⟨z,y,xs,r,ob,es,ep,e,c⟩:=x
  exact⟨z,y,xs,Paired.mapP r fun p q z=>⟨z.1,ht _ _ z.2.1,z.2.2⟩,ob,es,ep,k _ _ (.inl rfl) e,c⟩
 |set S n=>obtain⟨ob,es,ep,t,e,c⟩:=x;exact⟨ob,es,ep,t,k _ _ (.inl rfl) e,c⟩
 |ins C dx fs=>
  obtain⟨d,z,ne,e,mA,⟨od,es,ep,e2,c⟩,r⟩:=x
  exact⟨ho _ d,z,ne,k _ _ (.inl rfl) e,mA,⟨od,es,ep,k _ _ (.inr d) e2,c⟩,r⟩
 |own y=>obtain⟨ob,e⟩:=x;exact⟨ob,k _ _ (.inl rfl) e⟩
 |xd fs=>obtain⟨mA,⟨od,es,ep,e,c⟩,r⟩:=x;exact⟨mA,⟨od,es,ep,k _ _ (.inl rfl) e,c⟩,r⟩
 |rng lo hi=>obtain⟨t,u,v,e⟩:=x;exact⟨t,u,v,k _ _ (.inl rfl) e⟩
 |frz ob u ih=>obtain⟨e,q⟩:=x;exact⟨k _ _ (.inl rfl) e,ih q⟩
 |tbl ps=>
  have e:h.get? a=some { cls:=.none,data:=.fields ps }:=x
  show h'.get? a=some { cls:=.none,data:=.fields ps }
  exact k a _ (.inl rfl) e
 |met f y=>
  have e:h.get? a=some (PySem.W.methodObj (.ref f) (.ref y)):=x
  show h'.get? a=some (PySem.W.methodObj (.ref f) (.ref y))
  exact k a _ (.inl rfl) e
 |ext φ=>obtain⟨p,⟨o,e⟩,st⟩:=x;exact⟨st _ _ p fun o q=>k _ _ (.inl rfl) q,⟨o,k _ _ (.inl rfl) e⟩,st⟩
theorem HOk.lt(x:HOk P w H h)(e:H a=some o):a < h.objs.size:=(x a o e).lt
theorem HOk.fresh(x:HOk P w H h)(e:h.objs.size<=a):H a=none:=by
 cases q:H a with
 |none=>rfl
 |some u=>exact absurd (Nat.lt_of_lt_of_le (x.lt q) e) (Nat.lt_irrefl _)
theorem HOk.kept(x:HOk P w H h)(k:∀b u,h.get? b=some u->h'.get? b=some u):HOk P w H h':=fun a o e=>
 (x a o e).stay (fun b u _ q=>k b u q) (fun _ q=>q) fun _ _ q=>q
theorem HOk.laid(x:HOk P w H h)(k:∀b u,h.get? b=some u->h'.get? b=some u)(hp:h.objs.size<=a)(new:ObjOk P w (upd H a o) h' a o):HOk P w (upd H a o) h':=fun b u e=>by
 have hn:=x.fresh hp
 by_cases hb:b=a
 ·subst hb;rw[jb]at e;cases e;exact new
 ·rw[jh hb]at e
  exact(x b u e).stay (fun c v _ q=>k c v q) (fun c q=>by rw[jh (jj q hn)];exact q) fun c xs q=>by rw[jh (jj q hn)];exact q
end
def Rd(H:Hp)(a:Addr)(u:HO):Prop:=H a=some u∨∃o,H a=some (.frz o u)
theorem Rd.ok{P:Program}{w:World}{H:Hp}{h:Heap}{a:Addr}{u:HO}(r:Rd H a u)(x:HOk P w H h):ObjOk P w H h a u:=by
 rcases r with r | ⟨o,r⟩
 ·exact x a u r
 ·obtain⟨_,q⟩:=x a _ r
  exact q
def Mut:Option HO->Prop
 |some (.lst _)=>True
 |some (.dK _)=>True
 |some (.dT _)=>True
 |some (.set _ _)=>True
 |some (.ins _ _ _)=>True
 |some (.ext _)=>True
 |_=>False
section
variable {P:Program}{w:World}{H:Hp}{h h':Heap}{x e:Addr}{o':HO}
theorem HOk.write(ok:HOk P w H h)(mu:Mut (H x))(he:e=x∨H e=some (.own x))(k:∀b u,b≠e->h.get? b=some u->h'.get? b=some u)(heo:∃u,h'.get? e=some u)
  (new:ObjOk P w (upd H x o') h' x o'):HOk P w (upd H x o') h':=fun b u q=>by
 have nown:∀c y,H c=some (.own y)->c≠x:=fun c y r z=>by subst z;rw[r]at mu;exact mu
 have ntup:∀c xs,H c=some (.tup xs)->c≠x:=fun c xs r z=>by subst z;rw[r]at mu;exact mu
 by_cases hb:b=x
 ·subst hb;rw[jb]at q;cases q;exact new
 ·rw[jh hb]at q
  by_cases hbe:b=e
  ·have q':H b=some (.own x):=by
    rcases he with z |z
    ·exact absurd (hbe.trans z) hb
    ·rw[hbe];exact z
   rw[q]at q';cases q'
   obtain⟨v,hv⟩:=heo
   exact⟨v,by rw[hbe];exact hv⟩
  ·refine(ok b u q).stay (fun c v hc r=>k c v ?_ r) (fun c r=>by rw[jh (nown c b r)];exact r) fun c xs r=>by rw[jh (ntup c xs r)];exact r
   rcases hc with rfl |hc
   ·exact hbe
   ·rintro rfl
    rcases he with z |z
    ·exact nown c b hc z
    ·rw[hc]at z;cases z;exact hb rfl
end
structure Un(fs ex:List Addr)(H H':Hp)(h h':Heap):Prop where
 keep:∀b o,h.get? b=some o->H b=none->b∉fs->b∉ex->h'.get? b=some o
 slot:∀b o,h.get? b=some o->H b=none->b∈fs->b∉ex->∃sl,h'.get? b=some { o with slots:=sl }
 free:∀b o,h.get? b=some o->H b=none->b∉ex->H' b=none
 there:∀b o,h.get? b=some o->b∉ex->∃o',h'.get? b=some o'
 tups:∀b xs,H b=some (.tup xs)->H' b=some (.tup xs)
 frzs:∀b o u,H b=some (.frz o u)->H' b=some (.frz o u)
 tbls:∀b ps,H b=some (.tbl ps)->∃more,H' b=some (.tbl (ps++more))
section
variable {fs fs' ex ex':List Addr}{H H1 H2:Hp}{h h1 h2 h':Heap}{a x e:Addr}{o:HO}
theorem Un.any(u:Un fs ex H H1 h h1){b:Addr}{ob:Obj}(q:h.get? b=some ob)(n:H b=none)(hx:b∉ex):∃sl,h1.get? b=some { ob with slots:=sl }:=by
 by_cases hb:b∈fs
 ·exact u.slot b ob q n hb hx
 ·exact⟨ob.slots,u.keep b ob q n hb hx⟩
theorem Un.kept(k:∀b u,h.get? b=some u->h'.get? b=some u):Un fs ex H H h h':=
 ⟨fun b ob q _ _ _=>k b ob q,fun b ob q _ _ _=>⟨ob.slots,k b ob q⟩,fun _ _ _ n _=>n,fun b ob q _=>⟨ob,k b ob q⟩,fun _ _ q=>q,fun _ _ _ q=>q,fun _ ps q=>⟨#[],by rw[q];simp⟩⟩
theorem Un.refl:Un fs ex H H h h:=Un.kept fun _ _ q=>q
theorem Un.laid(k:∀b u,h.get? b=some u->h'.get? b=some u)(hp:h.objs.size<=a)(hn:H a=none):Un fs ex H (upd H a o) h h' where
 keep:=fun b u q _ _ _=>k b u q
 slot:=fun b u q _ _ _=>⟨u.slots,k b u q⟩
 free:=fun b u q n _=>by rw[jh (Nat.ne_of_lt (Nat.lt_of_lt_of_le (Heap.lt_size q) hp))];exact n
 there:=fun b u q _=>⟨u,k b u q⟩
 tups:=fun b xs q=>by rw[jh (jj q hn)];exact q
 frzs:=fun b u xs q=>by rw[jh (jj q hn)];exact q
 tbls:=fun b ps q=>⟨#[],by rw[jh (jj q hn),q];simp⟩
theorem Un.write(mu:Mut (H x))(he:e=x∨H e=some (.own x))(k:∀b u,b≠e->h.get? b=some u->h'.get? b=some u)(heo:∃u,h'.get? e=some u):Un fs ex H (upd H x o) h h':=by
 have hx:∀b,H b=none->b≠x:=fun b n z=>by subst z;rw[n]at mu;exact mu
 have hb:∀b,H b=none->b≠e:=fun b n z=>by
  subst z
  rcases he with r |r
  ·exact hx b n r
  ·rw[n]at r;cases r
 have hm:∀b u,H b=some u->¬Mut (some u)->b≠x:=fun b u q nm z=>by subst z;rw[q]at mu;exact nm mu
 refine⟨fun b u q n _ _=>k b u (hb b n) q,fun b u q n _ _=>⟨u.slots,k b u (hb b n) q⟩,fun b u q n _=>by rw[jh (hx b n)];exact n,fun b u q _=>?_,
  fun b xs q=>by rw[jh (hm b _ q fun z=>z)];exact q,fun b u xs q=>by rw[jh (hm b _ q fun z=>z)];exact q,fun b ps q=>⟨#[],by rw[jh (hm b _ q fun z=>z),q];simp⟩⟩
 by_cases hbe:b=e
 ·subst hbe;exact heo
 ·exact⟨u,k b u hbe q⟩
end
noncomputable def trk(h:Heap)(H:Hp):List Addr:=(List.range h.objs.size).filter fun a=>(H a).isSome
noncomputable def hidT(h:Heap)(H:Hp):Heap:=PySem.W.hideAll h (trk h H)
theorem XN(h:Heap)(H:Hp):(hidT h H).objs.size=h.objs.size:=PySem.W.hideAll_size _ _
theorem Zl{h:Heap}{H:Hp}{b:Addr}{o:Obj}(e:h.get? b=some o)(n:H b=none):(hidT h H).get? b=some o:=
 PySem.W.hideAll_get _ e fun hm=>by
  have q:(H b).isSome=true:=(List.mem_filter.mp hm).2
  rw[n]at q;simp at q
theorem of_hidT{h:Heap}{H:Hp}{b:Addr}{o:Obj}(e:(hidT h H).get? b=some o):h.get? b=some o/\H b=none:=by
 have e':h.get? b=some o:=PySem.W.of_hideAll (trk h H) e
 refine⟨e',?_⟩
 cases q:H b with
 |none=>rfl
 |some x=>
  have hm:b∈trk h H:=List.mem_filter.mpr ⟨List.mem_range.mpr (Heap.lt_size e'),by simp [q]⟩
  have z:(hidT h H).get? b=none:=PySem.W.hideAll_none (trk h H) hm
  rw[z]at e;cases e
end L2
namespace L2
open PySem PySem.Spec PyProof.Rows
structure Mod(K:Frag)(mg:Str->Option Value)(base:Heap):Prop where
 kin:K.In base
 glob:base.Ns mainGlobals mg
 blt:∃mb,base.Ns builtinsNs mb/\∀x:Str,x≠"__name__"->mb x=bootBuiltins x
 nolimit:base.NoLimit
structure Cx where
 prog:Program
 w:World
 K:Frag
 mg:Str->Option Value
 base:Heap
 A:Around
 N:List Str
 s₀:Shared
 H₀:Hp
 env:Env
 outer:List Env
 stack:List Env
 ex:List Addr
 fn:Str->Bool
 calm:Bool
 pn:List (Addr×Obj)
 xe:Value->Shared->Prop
noncomputable def frs(l:List Env):List Addr:=l.filterMap (·.frame)
noncomputable abbrev Cx.fs(X:Cx):List Addr:=frs X.outer
def Vis(sc:Scope)(x:Str):Prop:=sc.names.lookup x=some .local∨sc.names.lookup x=some .cell∨sc.names.lookup x=some .free
def Loc(sc:Scope)(x:Str):Prop:=sc.names.lookup x=some .local∨sc.names.lookup x=some .cell
def Look(env:Env)(h:Heap)(m:Str->Option Value)(x:Str)(u:Value):Prop:=
 (env.kindOf x=some .local/\m x=some u)∨((env.kindOf x=some .cell∨env.kindOf x=some .free)/\∃c,env.cells.lookup x=some c/\h.IsCell c (some u))
structure Cx.Ok(X:Cx):Prop where
 mod:Mod X.K X.mg X.base
 kind:X.env.scope.kind= .function
 glob:X.env.globals=mainGlobals
 blt:X.env.builtins=builtinsNs
 above:X.s₀.heap.objs.size<=X.env.locals
 inj:∀x y c,X.env.cells.lookup x=some c->X.env.cells.lookup y=some c->x=y
 has:∀x,(X.env.kindOf x=some .cell∨X.env.kindOf x=some .free)->∃c,X.env.cells.lookup x=some c
 cab:∀x c,X.fn x=true->X.env.cells.lookup x=some c->X.s₀.heap.objs.size<=c
 hd:X.calm=true->X.A.handled=none
 frames:X.A.frames=some X.stack
 stk:X.stack=X.outer∨(X.stack=X.env::X.outer/\X.env.frame=some X.env.locals)
 exf:∀b∈X.ex,b≠X.env.locals/\∀x c,X.env.cells.lookup x=some c->c≠b
 bs:∀b o,X.base.get? b=some o->X.s₀.heap.get? b=some o/\X.H₀ b=none
 bsz:X.base.objs.size<=X.s₀.heap.objs.size
 noex:∀b o,X.base.get? b=some o->b∉X.ex
 exfs:∀b∈X.ex,b∉X.fs
 funs:X.s₀.heap.FunFrames X.base X.outer
 frf:∀b∈X.fs,X.H₀ b=none
structure Inv(X:Cx)(pins:List (Addr×Obj))(σ:List (Option V))(H:Hp)(s:Shared):Prop where
 ok:X.Ok
 os:s.os=X.s₀.os
 bare:AllBare s.gens
 base:Un X.fs X.ex X.H₀ H X.s₀.heap s.heap
 loc:∃m,s.heap.Ns X.env.locals m/\∀(i:Nat) (x:Str) (v:V),X.N[i]?=some x->σ[i]?=some (some v)->Vis X.env.scope x->∃u,RelV v u/\Look X.env s.heap m x u
 cell:∀x c,X.env.cells.lookup x=some c->∃v,s.heap.IsCell c v
 free:H X.env.locals=none
 freeC:∀x c,X.env.cells.lookup x=some c->H c=none
 pin:∀p∈X.pn++pins,s.heap.get? p.1=some p.2/\H p.1=none/\p.1≠X.env.locals/\p.1∉X.fs/\∀v,p.2.data≠ .cell v
 hok:HOk X.prog X.w H s.heap
 len:σ.length=X.N.length
section
variable {X:Cx}{pins:List (Addr×Obj)}{σ:List (Option V)}{H H':Hp}{s:Shared}{h':Heap}
theorem Cx.Ok.nofr(ok:X.Ok){b:Addr}{o:Obj}(e:X.base.get? b=some o):b∉X.fs:=fun hb=>by
 have:=(ok.funs.mem hb).1
 rw[e]at this;cases this
theorem Inv.bs(I:Inv X pins σ H s):∀b o,X.base.get? b=some o->s.heap.get? b=some o/\H b=none:=fun b o e=>
 ⟨I.base.keep b o (I.ok.bs b o e).1 (I.ok.bs b o e).2 (I.ok.nofr e) (I.ok.noex b o e),I.base.free b o (I.ok.bs b o e).1 (I.ok.bs b o e).2 (I.ok.noex b o e)⟩
theorem Inv.bk(I:Inv X pins σ H s):∀b o,X.base.get? b=some o->s.heap.get? b=some o:=fun b o e=>(I.bs b o e).1
theorem Inv.mod(I:Inv X pins σ H s):Mod X.K X.mg X.base:=I.ok.mod
theorem Inv.kIn(I:Inv X pins σ H s):X.K.In s.heap:=I.ok.mod.kin.keeps I.bk
theorem Inv.lt(I:Inv X pins σ H s):X.env.locals < s.heap.objs.size:=let ⟨_,hn,_⟩:=I.loc;hn.lt
theorem Inv.sz(I:Inv X pins σ H s):X.s₀.heap.objs.size<=s.heap.objs.size:=Nat.le_trans I.ok.above (Nat.le_of_lt I.lt)
theorem Inv.nofs(I:Inv X pins σ H s){a:Addr}(h:s.heap.objs.size<=a):a∉X.fs:=fun hb=>by
 obtain⟨_,o,ho,_⟩:=I.ok.funs.mem hb
 exact absurd (Nat.lt_of_lt_of_le (Heap.lt_size ho) (Nat.le_trans I.sz h)) (Nat.lt_irrefl _)
theorem Inv.cne(I:Inv X pins σ H s):∀x c,X.env.cells.lookup x=some c->c≠X.env.locals:=fun x c e z=>by
 obtain⟨v,o,ho,hd⟩:=I.cell x c e
 obtain⟨m,⟨o',es,ep,ho',hd',_⟩,_⟩:=I.loc
 rw[z,ho']at ho;cases ho;rw[hd']at hd;cases hd
theorem Inv.funs(I:Inv X pins σ H s):s.heap.FunFrames X.base X.outer:=by
 have all:∀(l:List Env),(∀b∈frs l,b∈X.fs)->X.s₀.heap.FunFrames X.base l->s.heap.FunFrames X.base l:=by
  intro l
  induction l with
  |nil=>intro _ _;trivial
  |cons env r ih=>
   intro hs hl
   obtain⟨hk,⟨L,o,hf,hn,ho,hd⟩,hr⟩:=hl
   have hL:L∈X.fs:=hs L (by unfold frs;rw[List.filterMap_cons,hf];exact List.mem_cons_self)
   obtain⟨sl,e⟩:=I.base.slot L o ho (I.ok.frf L hL) hL fun z=>I.ok.exfs L z hL
   exact⟨hk,⟨L,_,hf,hn,e,hd⟩,ih (fun b hb=>hs b (by unfold frs;rw[List.filterMap_cons,hf];exact List.mem_cons_of_mem _ hb)) hr⟩
 exact all X.outer (fun _ hb=>hb) I.ok.funs
theorem Inv.stack(I:Inv X pins σ H s):s.heap.FunFrames X.base X.stack:=by
 rcases I.ok.stk with e | ⟨e,hf⟩
 ·rw[e];exact I.funs
 ·rw[e]
  obtain⟨m,hn,_⟩:=I.loc
  refine .cons (by rw[I.ok.kind];decide) hf hn ?_ I.funs
  exact Heap.get?_none_of_le (Nat.le_trans I.ok.bsz I.ok.above)
theorem Inv.stkSub(I:Inv X pins σ H s):∀b∈frs X.stack,b∈X.env.locals::X.fs:=fun b hb=>by
 rcases I.ok.stk with e | ⟨e,hf⟩
 ·rw[e]at hb;exact List.mem_cons_of_mem _ hb
 ·rw[e]at hb
  unfold frs at hb
  rw[List.filterMap_cons,hf]at hb
  exact hb
theorem Inv.stkFree(I:Inv X pins σ H s):∀b∈frs X.stack,H b=none:=fun b hb=>by
 rcases List.mem_cons.mp (I.stkSub b hb) with e |hb
 ·rw[e];exact I.free
 ·obtain⟨_,o,ho,_⟩:=I.ok.funs.mem hb
  exact I.base.free b o ho (I.ok.frf b hb) fun z=>I.ok.exfs b z hb
theorem Inv.step{g':Array GenState}{t':Nat}{d':Drawn}{ch:List Addr}(I:Inv X pins σ H s)
  (hch:∀b∈ch,(b∈X.ex∨X.s₀.heap.objs.size<=b)/\b≠X.env.locals/\(∀x c,X.env.cells.lookup x=some c->c≠b)/\∀p∈X.pn++pins,p.1≠b)
  (keep:∀b o,b≠X.env.locals->b∉X.fs->b∉ch->s.heap.get? b=some o->H b=none->h'.get? b=some o)
  (slot:∀b o,b≠X.env.locals->b∈X.fs->b∉ch->s.heap.get? b=some o->H b=none->∃sl,h'.get? b=some { o with slots:=sl }) (free:∀b o,b∉ch->s.heap.get? b=some o->H b=none->H' b=none)
  (there:∀b o,b∉ch->s.heap.get? b=some o->∃o',h'.get? b=some o')
  (tups:∀b xs,H b=some (.tup xs)->H' b=some (.tup xs)) (frzs:∀b o u,H b=some (.frz o u)->H' b=some (.frz o u)) (tbls:∀b ps,H b=some (.tbl ps)->∃more,H' b=some (.tbl (ps++more)))
  (ns:∀m,s.heap.Ns X.env.locals m->h'.Ns X.env.locals m) (hok:HOk X.prog X.w H' h') (hg:AllBare g'):
  Inv X pins σ H' { s with heap:=h',gens:=g',drawn:=d',toks:=t' }:=by
 have neL:∀b o,X.s₀.heap.get? b=some o->b≠X.env.locals:=fun b o e=>Nat.ne_of_lt (Nat.lt_of_lt_of_le (Heap.lt_size e) I.ok.above)
 have neC:∀b o,X.s₀.heap.get? b=some o->b∉X.ex->b∉ch:=fun b o e hx hb=>by
  rcases(hch b hb).1 with z |z
  ·exact hx z
  ·exact absurd (Nat.lt_of_lt_of_le (Heap.lt_size e) z) (Nat.lt_irrefl _)
 have cellK:∀x c,X.env.cells.lookup x=some c->∀v,s.heap.IsCell c v->h'.IsCell c v:=fun x c e v ⟨o,ho,hd⟩=>by
  have nch:c∉ch:=fun z=>(hch c z).2.2.1 x c e rfl
  by_cases hc:c∈X.fs
  ·obtain⟨sl,q⟩:=slot c o (I.cne x c e) hc nch ho (I.freeC x c e)
   exact⟨_,q,hd⟩
  ·exact⟨o,keep c o (I.cne x c e) hc nch ho (I.freeC x c e),hd⟩
 refine⟨I.ok,I.os,hg,⟨fun b o e n hb hx=>?_,fun b o e n hb hx=>?_,fun b o e n hx=>?_,fun b o e hx=>?_,fun b xs e=>tups b xs (I.base.tups b xs e),fun b o xs e=>frzs b o xs (I.base.frzs b o xs e),fun b ps e=>?_⟩,?_,fun x c e=>?_,?_,fun x c e=>?_,fun p hp=>?_,hok,I.len⟩
 ·exact keep b o (neL b o e) hb (neC b o e hx) (I.base.keep b o e n hb hx) (I.base.free b o e n hx)
 ·obtain⟨sl,e1⟩:=I.base.slot b o e n hb hx
  obtain⟨sl',e2⟩:=slot b _ (neL b o e) hb (neC b o e hx) e1 (I.base.free b o e n hx)
  exact⟨sl',e2⟩
 ·obtain⟨o',e1⟩:=I.base.there b o e hx
  exact free b o' (neC b o e hx) e1 (I.base.free b o e n hx)
 ·obtain⟨o',e1⟩:=I.base.there b o e hx
  exact there b o' (neC b o e hx) e1
 ·obtain⟨m1,e1⟩:=I.base.tbls b ps e
  obtain⟨m2,e2⟩:=tbls b _ e1
  exact⟨m1++m2,by rw[e2,Array.append_assoc]⟩
 ·obtain⟨m,hn,hl⟩:=I.loc
  refine⟨m,ns m hn,fun i x v e1 e2 e3=>?_⟩
  obtain⟨u,r,l⟩:=hl i x v e1 e2 e3
  refine⟨u,r,?_⟩
  rcases l with l | ⟨k,c,e,z⟩
  ·exact .inl l
  ·exact .inr ⟨k,c,e,cellK x c e _ z⟩
 ·obtain⟨v,z⟩:=I.cell x c e
  exact⟨v,cellK x c e v z⟩
 ·obtain⟨m,⟨o,_,_,ho,_⟩,_⟩:=I.loc
  exact free _ o (fun z=>(hch _ z).2.1 rfl) ho I.free
 ·obtain⟨v,o,ho,hd⟩:=I.cell x c e
  exact free c o (fun z=>(hch c z).2.2.1 x c e rfl) ho (I.freeC x c e)
 ·obtain⟨e,n,ne,nf,d⟩:=I.pin p hp
  have nch:p.1∉ch:=fun z=>(hch p.1 z).2.2.2 p hp rfl
  exact⟨keep p.1 p.2 ne nf nch e n,free p.1 p.2 nch e n,ne,nf,d⟩
theorem Inv.un{t':Nat}(I:Inv X pins σ H s)(u:Un X.fs [] H H' s.heap h')(hok:HOk X.prog X.w H' h'):Inv X pins σ H' { s with heap:=h',toks:=t' }:=by
 obtain⟨m,⟨o,es,ep,ho,r⟩,_⟩:=id I.loc
 obtain⟨sl,hL⟩:=u.any ho I.free (by simp)
 exact I.step (g':=s.gens) (d':=s.drawn) (ch:=[]) (fun _ z=>nomatch z) (fun b o _ hb _ e n=>u.keep b o e n hb (by simp)) (fun b o _ hb _ e n=>u.slot b o e n hb (by simp)) (fun b o _ e n=>u.free b o e n (by simp)) (fun b o _ e=>u.there b o e (by simp)) u.tups u.frzs u.tbls (fun m' hm=>by
  obtain⟨o',es',ep',ho',r'⟩:=hm
  rw[ho]at ho';cases ho'
  exact⟨_,es',ep',hL,r'⟩) hok I.bare
theorem Inv.call{g':Array GenState}{t':Nat}{d':Drawn}{ch:List Addr}(I:Inv X pins σ H s)(u:Un (frs X.stack) ch H H' s.heap h')(hok:HOk X.prog X.w H' h')(hg:AllBare g')
  (hch:∀b∈ch,(b∈X.ex∨X.s₀.heap.objs.size<=b)/\b≠X.env.locals/\(∀x c,X.env.cells.lookup x=some c->c≠b)/\∀p∈X.pn++pins,p.1≠b):
  Inv X pins σ H' { s with heap:=h',gens:=g',drawn:=d',toks:=t' }:=by
 obtain⟨m,⟨o,es,ep,ho,r⟩,_⟩:=id I.loc
 obtain⟨sl,hL⟩:=u.any ho I.free fun z=>(hch _ z).2.1 rfl
 exact I.step (ch:=ch) hch (fun b o hL hb hc e n=>u.keep b o e n (fun z=>(List.mem_cons.mp (I.stkSub b z)).elim hL hb) hc) (fun b o _ _ hc e n=>u.any e n hc) (fun b o hc e n=>u.free b o e n hc) (fun b o hc e=>u.there b o e hc) u.tups u.frzs u.tbls (fun m' hm=>by
  obtain⟨o',es',ep',ho',r'⟩:=hm
  rw[ho]at ho';cases ho'
  exact⟨_,es',ep',hL,r'⟩) hok hg
theorem Inv.turned{t':Nat}{it:Addr}(I:Inv X pins σ H s)(k:∀b o,b≠it->s.heap.get? b=some o->h'.get? b=some o)(hn:H it=none)(hL:it≠X.env.locals)
  (h1:it∈X.ex∨X.s₀.heap.objs.size<=it) (h2:∀x c,X.env.cells.lookup x=some c->c≠it) (h3:∀p∈X.pn++pins,p.1≠it):Inv X pins σ H { s with heap:=h',toks:=t' }:=by
 have nit:∀b u,H b=some u->b≠it:=fun b u e z=>by rw[z,hn]at e;cases e
 refine I.step (g':=s.gens) (d':=s.drawn) (ch:=[it]) (fun b hb=>?_) (fun b o _ _ hc e _=>k b o (fun z=>hc (by simp [z])) e) (fun b o _ _ hc e _=>⟨o.slots,k b o (fun z=>hc (by simp [z])) e⟩) (fun _ _ _ _ n=>n)
  (fun b o hc e=>⟨o,k b o (fun z=>hc (by simp [z])) e⟩) (fun _ _ e=>e) (fun _ _ _ e=>e) (fun b ps e=>⟨#[],by rw[e];simp⟩) (fun m hm=>?_) (fun b u e=>?_) I.bare
 ·have e:b=it:=by simpa using hb
  subst e
  exact⟨h1,hL,h2,h3⟩
 ·obtain⟨o,es,ep,ho,r⟩:=hm
  exact⟨o,es,ep,k _ o (Ne.symm hL) ho,r⟩
 ·refine(I.hok b u e).stay (fun c v hc q=>k c v ?_ q) (fun _ q=>q) fun _ _ q=>q
  rcases hc with z |z
  ·rw[z];exact nit b u e
  ·exact nit c _ z
theorem Inv.tok(I:Inv X pins σ H s)(t:Nat):Inv X pins σ H { s with toks:=t }:=I.un (h':=s.heap) (t':=t) Un.refl I.hok
theorem Inv.kept{t':Nat}(I:Inv X pins σ H s)(k:∀b u,s.heap.get? b=some u->h'.get? b=some u):Inv X pins σ H { s with heap:=h',toks:=t' }:=I.un (Un.kept k) (I.hok.kept k)
theorem Inv.laid{a:Addr}{o:HO}{t':Nat}(I:Inv X pins σ H s)(k:∀b u,s.heap.get? b=some u->h'.get? b=some u)(hp:s.heap.objs.size<=a)(new:ObjOk X.prog X.w (upd H a o) h' a o):
  Inv X pins σ (upd H a o) { s with heap:=h',toks:=t' }:=I.un (Un.laid k hp (I.hok.fresh hp)) (I.hok.laid k hp new)
theorem Inv.write{x e:Addr}{o:HO}{t':Nat}(I:Inv X pins σ H s)(mu:Mut (H x))(he:e=x∨H e=some (.own x))(k:∀b u,b≠e->s.heap.get? b=some u->h'.get? b=some u)(heo:∃u,h'.get? e=some u)
  (new:ObjOk X.prog X.w (upd H x o) h' x o):Inv X pins σ (upd H x o) { s with heap:=h',toks:=t' }:=I.un (Un.write mu he k heo) (I.hok.write mu he k heo new)
theorem Inv.pins_of{pins':List (Addr×Obj)}(I:Inv X pins σ H s)(h:∀p∈pins',s.heap.get? p.1=some p.2/\H p.1=none/\p.1≠X.env.locals/\p.1∉X.fs/\∀v,p.2.data≠ .cell v):Inv X pins' σ H s:=
 ⟨I.ok,I.os,I.bare,I.base,I.loc,I.cell,I.free,I.freeC,fun p hp=>(List.mem_append.mp hp).elim (fun z=>I.pin p (List.mem_append_left _ z)) (h p),I.hok,I.len⟩
theorem Jz{N:List Str}(hN:N.Nodup){i j:Nat}{x:Str}(a:N[i]?=some x)(b:N[j]?=some x):i=j:=by
 obtain⟨h1,e1⟩:=List.getElem?_eq_some_iff.mp a
 obtain⟨h2,e2⟩:=List.getElem?_eq_some_iff.mp b
 exact(List.getElem_inj hN).mp (e1.trans e2.symm)
theorem JW{M:Model}{A:Around}{E:Value->Shared->Prop}{i:Nat}{x:Str}{v:V}{u:Value}{Q:Unit->Shared->Prop}(I:Inv X pins σ H s)(hN:X.N.Nodup)(hi:X.N[i]?=some x)(hx:Loc X.env.scope x)(r:RelV v u)
  (h:∀s',Inv X pins (σ.set i (some v)) H s'->(∃a,Heap.SameBut a s.heap s'.heap/\(a=X.env.locals∨X.env.cells.lookup x=some a))->Q () s') (hf:X.fn x=true∨X.env.scope.names.lookup x=some .local:=by first |exact .inl rfl |exact .inr rfl |assumption):wpAny M A (storeName X.env x u) Q E s:=by
 obtain⟨m,hn,hl⟩:=id I.loc
 have hcls:(X.env.scope.kind== .class||(X.env.scope.kind== .module&&X.env.locals != X.env.globals))=false:=by rw[I.ok.kind];rfl
 have hiσ:i < σ.length:=by rw[I.len];exact(List.getElem?_eq_some_iff.mp hi).1
 have cne:=I.cne
 have tracked:∀{a:Addr} {h':Heap},(∃o,s.heap.get? a=some o/\H a=none)->Heap.SameBut a s.heap h'->HOk X.prog X.w H h':=fun {a h'} ha hs b ob e=>by
  obtain⟨_,_,hfree⟩:=ha
  refine(I.hok b ob e).stay (fun c w' hc q=>(hs.2 c ?_).trans q) (fun _ q=>q) fun _ _ q=>q
  rintro rfl
  rcases hc with rfl |hc
  ·rw[hfree]at e;cases e
  ·rw[hfree]at hc;cases hc
 rcases hx with hk |hk
 ·refine wpAny_storeName_local hk hn (fun h' hn' hs=>?_) hcls
  obtain⟨oL,_,_,hoL,_⟩:=id hn
  refine h _ ⟨I.ok,I.os,I.bare,⟨fun b o e n hb hx=>?_,fun b o e n hb hx=>?_,I.base.free,fun b o e hx=>?_,I.base.tups,I.base.frzs,I.base.tbls⟩,⟨_,hn',fun j y v' e1 e2 e3=>?_⟩,fun y c e=>?_,I.free,I.freeC,fun p hp=>?_,tracked ⟨oL,hoL,I.free⟩ hs,by simpa using I.len⟩ ⟨_,hs,.inl rfl⟩
  ·exact(hs.2 b (Nat.ne_of_lt (Nat.lt_of_lt_of_le (Heap.lt_size e) I.ok.above))).trans (I.base.keep b o e n hb hx)
  ·obtain⟨sl,e1⟩:=I.base.slot b o e n hb hx
   exact⟨sl,(hs.2 b (Nat.ne_of_lt (Nat.lt_of_lt_of_le (Heap.lt_size e) I.ok.above))).trans e1⟩
  ·obtain⟨o',e1⟩:=I.base.there b o e hx
   exact⟨o',(hs.2 b (Nat.ne_of_lt (Nat.lt_of_lt_of_le (Heap.lt_size e) I.ok.above))).trans e1⟩
  ·by_cases hj:j=i
   ·subst hj
    rw[hi]at e1;cases e1
    rw[List.getElem?_set_self hiσ]at e2
    cases e2
    exact⟨u,r,.inl ⟨hk,by simp⟩⟩
   ·rw[List.getElem?_set_ne (Ne.symm hj)]at e2
    obtain⟨u',r',q⟩:=hl j y v' e1 e2 e3
    refine⟨u',r',?_⟩
    rcases q with ⟨k,e⟩ | ⟨k,c,e,z⟩
    ·refine .inl ⟨k,?_⟩
     have:y≠x:=fun e=>hj (Jz hN e1 (e▸hi))
     simp [this,e]
    ·exact .inr ⟨k,c,e,z.sameBut hs (cne y c e)⟩
  ·obtain⟨w',z⟩:=I.cell y c e
   exact⟨w',z.sameBut hs (cne y c e)⟩
  ·obtain⟨e,n,ne,nf,d⟩:=I.pin p hp
   exact⟨(hs.2 p.1 ne).trans e,n,ne,nf,d⟩
 ·have hfn:X.fn x=true:=by
   rcases hf with z |z
   ·exact z
   ·rw[z]at hk;cases hk
  obtain⟨c,hc⟩:=I.ok.has x (.inl hk)
  obtain⟨w',z⟩:=I.cell x c hc
  refine wpAny_storeName_cell I.ok.kind hk hc z (fun h' hc' hs=>?_)
  obtain⟨oc,hoc,hocd⟩:=id z
  refine h { s with heap:=h' } ⟨I.ok,I.os,I.bare,⟨fun b o e n hb hx=>?_,fun b o e n hb hx=>?_,I.base.free,fun b o e hx=>?_,I.base.tups,I.base.frzs,I.base.tbls⟩,⟨m,hn.sameBut hs (Ne.symm (cne x c hc)),fun j y v' e1 e2 e3=>?_⟩,fun y c' e=>?_,I.free,I.freeC,fun p hp=>?_,tracked ⟨oc,hoc,I.freeC x c hc⟩ hs,by simpa using I.len⟩ ⟨c,hs,.inr hc⟩
  ·exact(hs.2 b (Nat.ne_of_lt (Nat.lt_of_lt_of_le (Heap.lt_size e) (I.ok.cab x c hfn hc)))).trans (I.base.keep b o e n hb hx)
  ·obtain⟨sl,e1⟩:=I.base.slot b o e n hb hx
   exact⟨sl,(hs.2 b (Nat.ne_of_lt (Nat.lt_of_lt_of_le (Heap.lt_size e) (I.ok.cab x c hfn hc)))).trans e1⟩
  ·obtain⟨o',e1⟩:=I.base.there b o e hx
   exact⟨o',(hs.2 b (Nat.ne_of_lt (Nat.lt_of_lt_of_le (Heap.lt_size e) (I.ok.cab x c hfn hc)))).trans e1⟩
  ·by_cases hj:j=i
   ·subst hj
    rw[hi]at e1;cases e1
    rw[List.getElem?_set_self hiσ]at e2
    cases e2
    exact⟨u,r,.inr ⟨.inl hk,c,hc,hc'⟩⟩
   ·rw[List.getElem?_set_ne (Ne.symm hj)]at e2
    obtain⟨u',r',q⟩:=hl j y v' e1 e2 e3
    refine⟨u',r',?_⟩
    rcases q with q | ⟨k,c',e,z'⟩
    ·exact .inl q
    ·refine .inr ⟨k,c',e,z'.sameBut hs ?_⟩
     rintro rfl
     exact hj (Jz hN e1 (I.ok.inj _ _ _ e hc▸hi))
  ·by_cases hcc:c'=c
   ·subst hcc;exact⟨_,hc'⟩
   ·obtain⟨w2,z2⟩:=I.cell y c' e
    exact⟨w2,z2.sameBut hs hcc⟩
  ·obtain⟨e,n,ne,nf,d⟩:=I.pin p hp
   refine⟨(hs.2 p.1 ?_).trans e,n,ne,nf,d⟩
   intro q
   rw[q,hoc]at e
   have q':oc=p.2:=Option.some.inj e
   exact d w' (by rw[<- q'];exact hocd)
theorem zH{M:Model}{A:Around}{E:Value->Shared->Prop}{i:Nat}{x:Str}{v:V}{u:Value}{Q:Unit->Shared->Prop}(I:Inv X pins σ H s)(hN:X.N.Nodup)(hi:X.N[i]?=some x)(hx:Loc X.env.scope x)(r:RelV v u)
  (h:∀s',Inv X pins (σ.set i (some v)) H s'->Q () s') (hf:X.fn x=true∨X.env.scope.names.lookup x=some .local:=by first |exact .inl rfl |exact .inr rfl |assumption):wpAny M A (storeName X.env x u) Q E s:=
 JW I hN hi hx r (fun s' I' _=>h s' I') hf
theorem Inv.call'{s':Shared}{ch:List Addr}(I:Inv X pins σ H s)(ho:s'.os=s.os)(u:Un (frs X.stack) ch H H' s.heap s'.heap)(hok:HOk X.prog X.w H' s'.heap)(hg:AllBare s'.gens)
  (hch:∀b∈ch,(b∈X.ex∨X.s₀.heap.objs.size<=b)/\b≠X.env.locals/\(∀x c,X.env.cells.lookup x=some c->c≠b)/\∀p∈X.pn++pins,p.1≠b):Inv X pins σ H' s':=by
 obtain⟨h',g',d',t',o'⟩:=s'
 have e:o'=s.os:=ho
 subst e
 exact I.call (g':=g') (t':=t') (d':=d') u hok hg hch
end
abbrev XK:=Value->Option Addr->Hp->Prop
abbrev St:=List (Option V)
abbrev VK:=V->Hp->Prop
abbrev TE:=St->Hp->VK->Prop
abbrev TT:=St->Hp->(Bool->Hp->Prop)->Prop
abbrev TA:=St->Hp->(List V->Hp->Prop)->Prop
structure Ends where
 nx:St->Hp->Prop
 rt:VK
 bk:St->Hp->Prop:=fun _ _=>False
 ct:St->Hp->Prop:=fun _ _=>False
abbrev TS:=Ends->St->Hp->Prop
def EP(X:Cx)(pins:List (Addr×Obj))(σ:St)(Q:VK)(u:Value)(s':Shared):Prop:=∃v H',Inv X pins σ H' s'/\RelV v u/\Q v H'
def TP(X:Cx)(pins:List (Addr×Obj))(σ:St)(Q:Bool->Hp->Prop)(b:Bool)(s':Shared):Prop:=∃H',Inv X pins σ H' s'/\Q b H'
def AP(X:Cx)(pins:List (Addr×Obj))(σ:St)(Q:List V->Hp->Prop)(us:List Value)(s':Shared):Prop:=∃vs H',Inv X pins σ H' s'/\Vals vs us/\Q vs H'
def SP(X:Cx)(pins:List (Addr×Obj))(D:Ends)(f:Flow)(s':Shared):Prop:=
 match f with
 | .next=>∃σ' H',Inv X pins σ' H' s'/\D.nx σ' H'
 | .brk=>∃σ' H',Inv X pins σ' H' s'/\D.bk σ' H'
 | .cont=>∃σ' H',Inv X pins σ' H' s'/\D.ct σ' H'
 | .ret u=>∃v σ' H',Inv X pins σ' H' s'/\RelV v u/\D.rt v H'
def PE(X:Cx)(e:Expr)(t:TE):Prop:=
 ∀(pins:List (Addr×Obj)) (s:Shared) (σ:St) (H:Hp) (Q:VK),Inv X pins σ H s->t σ H Q->wpAny (model X.prog X.w) X.A (eval e X.env) (EP X pins σ Q) X.xe s
def PT(X:Cx)(e:Expr)(t:TT):Prop:=
 ∀(pins:List (Addr×Obj)) (s:Shared) (σ:St) (H:Hp) (Q:Bool->Hp->Prop),Inv X pins σ H s->t σ H Q->wpAny (model X.prog X.w) X.A (isTrue e X.env (eval e X.env)) (TP X pins σ Q) X.xe s
def PW(X:Cx)(e:Expr)(t:TT):Prop:=
 ∀(whole:Sem Value) (pins:List (Addr×Obj)) (s:Shared) (σ:St) (H:Hp) (Q:Bool->Hp->Prop),Inv X pins σ H s->t σ H Q->wpAny (model X.prog X.w) X.A (isTrue e X.env whole) (TP X pins σ Q) X.xe s
theorem PW.pt{X:Cx}{e:Expr}{t:TT}(h:PW X e t):PT X e t:=h _
def PA(X:Cx)(es:List Expr)(t:TA):Prop:=
 ∀(pos:Pos) (pins:List (Addr×Obj)) (s:Shared) (σ:St) (H:Hp) (Q:List V->Hp->Prop),Inv X pins σ H s->t σ H Q->wpAny (model X.prog X.w) X.A (spliced (backTo pos (starEach es X.env))) (AP X pins σ Q) X.xe s
def PS(X:Cx)(st:Stmt)(t:TS):Prop:=
 ∀(pins:List (Addr×Obj)) (s:Shared) (σ:St) (H:Hp) (D:Ends),Inv X pins σ H s->t D σ H->wpAny (model X.prog X.w) X.A (exec st X.env) (SP X pins D) X.xe s
def PSs(X:Cx)(st:List Stmt)(t:TS):Prop:=
 ∀(pins:List (Addr×Obj)) (s:Shared) (σ:St) (H:Hp) (D:Ends),Inv X pins σ H s->t D σ H->wpAny (model X.prog X.w) X.A (execs st X.env) (SP X pins D) X.xe s
theorem thn{α:Type}{t:Sem α}{Q Q':α->Shared->Prop}{M:Model}{A:Around}{E:Value->Shared->Prop}{s:Shared}(h:wpAny M A t Q E s)(hQ:∀a s,Q a s->Q' a s):wpAny M A t Q' E s:=wpAny_mono h hQ fun _ _ x=>x
section
variable {X:Cx}
def tVar(i:Nat):TE:=fun σ H Q=>∃v,σ[i]?=some (some v)/\Q v H
def tC(v:V):TE:=fun _ H Q=>Q v H
theorem pe_var{i:Nat}{x:Str}{pos:Pos}(hN:X.N[i]?=some x)(hv:Vis X.env.scope x)(hd:(x==("__debug__":Str))=false:=by decide)(hcd:(x==("__classdict__":Str))=false:=by decide):PE X (.Name x pos) (tVar i):=by
 intro pins s σ H Q I h
 obtain⟨v,e,h⟩:=h
 obtain⟨m,hn,hl⟩:=I.loc
 obtain⟨u,r,l⟩:=hl i x v hN e hv
 have fin:EP X pins σ Q u s:=⟨v,H,I,r,h⟩
 rcases l with ⟨hk,hm⟩ | ⟨hk,c,hc,hcell⟩
 ·exact wpAny_Name (wpAny_loadName_local I.ok.kind hk hn hm fin) hd
 ·rcases hk with hk |hk
  ·exact wpAny_Name (wpAny_loadName_cell I.ok.kind hk hc hcell fin) hd
  ·exact wpAny_Name (wpAny_loadName_free I.ok.kind hk hc hcell fin hcd) hd
theorem jf{i j pos}:PE X (.Constant (.int i) j pos) (tC (.int i)):=fun _ _ _ H _ I h=>wpAny_Constant_int ⟨.int i,H,I.tok _,⟨_,rfl⟩,h⟩
theorem pe_bl{b j pos}:PE X (.Constant (.bool b) j pos) (tC (.bl b)):=fun _ _ _ H _ I h=>Constant_bool ⟨.bl b,H,I,rfl,h⟩
theorem kY{j pos}:PE X (.Constant .none j pos) (tC .non):=fun _ _ _ H _ I h=>Constant_none ⟨.non,H,I,rfl,h⟩
theorem jk{x j pos}:PE X (.Constant (.str x) j pos) (tC (.str x)):=fun _ _ _ H _ I h=>Calls.Constant_str ⟨.str x,H,I.tok _,⟨_,rfl⟩,h⟩
def Gl(X:Cx)(x:Str):Prop:=X.env.kindOf x=some .globalImplicit
theorem zn{E:Value->Shared->Prop}{pins:List (Addr×Obj)}{s:Shared}{σ:St}{H:Hp}{x:Str}{u:Value}{pos:Pos}{Q:Value->Shared->Prop}(I:Inv X pins σ H s)(hg:Gl X x)(hm:X.mg x=some u)(h:Q u s)
  (hd:(x==("__debug__":Str))=false:=by decide):wpAny (model X.prog X.w) X.A (eval (.Name x pos) X.env) Q E s:=
 Calls.Name_function_global I.ok.kind hg (Calls.loadGlobal_global (by rw[I.ok.glob];exact I.mod.glob.keeps I.bk) hm h) hd
theorem zN{E:Value->Shared->Prop}{pins:List (Addr×Obj)}{s:Shared}{σ:St}{H:Hp}{x:Str}{u:Value}{pos:Pos}{Q:Value->Shared->Prop}(I:Inv X pins σ H s)(hg:Gl X x)(hm:X.mg x=none)(hv:bootBuiltins x=some u)(h:Q u s)
  (hn:x≠"__name__":=by decide) (hd:(x==("__debug__":Str))=false:=by decide):wpAny (model X.prog X.w) X.A (eval (.Name x pos) X.env) Q E s:=by
 obtain⟨mb,h1,h2⟩:=I.mod.blt
 exact Calls.Name_function_global I.ok.kind hg (Calls.loadGlobal_builtin (by rw[I.ok.glob];exact I.mod.glob.keeps I.bk) hm (by rw[I.ok.blt];exact h1.keeps I.bk) ((h2 x hn).trans hv) h) hd
theorem jX{x:Str}{v:V}{u:Value}{pos:Pos}(hg:Gl X x)(hm:X.mg x=some u)(r:RelV v u)(hd:(x==("__debug__":Str))=false:=by decide):PE X (.Name x pos) (tC v):=
 fun _ _ _ H _ I h=>zn I hg hm ⟨v,H,I,r,h⟩ hd
theorem Jj{x:Str}{v:V}{u:Value}{pos:Pos}(hg:Gl X x)(hm:X.mg x=none)(hv:bootBuiltins x=some u)(r:RelV v u)(hn:x≠"__name__":=by decide)(hd:(x==("__debug__":Str))=false:=by decide):PE X (.Name x pos) (tC v):=
 fun _ _ _ H _ I h=>zN I hg hm hv ⟨v,H,I,r,h⟩ hn hd
variable {a b:Expr}{ta tb:TE}{pos:Pos}
def PC(X:Cx)(op:CmpOp)(a b:Expr)(t:TE):Prop:=
 ∀(pins:List (Addr×Obj)) (s:Shared) (σ:St) (H:Hp) (Q:VK),Inv X pins σ H s->t σ H Q->
  wpAny (model X.prog X.w) X.A (eval a X.env) (fun v s₁=>wpAny (model X.prog X.w) X.A (eval b X.env) (fun u s₂=>wpAny (model X.prog X.w) X.A (compareOp op v u) (EP X pins σ Q) X.xe s₂) X.xe s₁) X.xe s
def tIsN(ta:TE):TE:=fun σ H Q=>ta σ H fun x H1=>Q (.bl (decide (x= .non))) H1
theorem RelV.none_iff{x:V}{v:Value}(r:RelV x v):(v==Value.none)=decide (x= .non):=by
 cases x with
 |non=>cases r;rfl
 |bl _=>cases r;rfl
 |int _=>obtain⟨t,rfl⟩:=r;rfl
 |str _=>obtain⟨t,rfl⟩:=r;rfl
 |byt _=>obtain⟨t,rfl⟩:=r;rfl
 |flt _=>obtain⟨t,rfl⟩:=r;rfl
 |ref _=>cases r;rfl
 |ty _=>cases r;rfl
theorem zE{j pos'}(ha:PE X a ta):PC X .Is a (.Constant .none j pos') (tIsN ta):=by
 intro pins s σ H Q I h
 refine thn (ha pins s σ H _ I h) fun v s1 ⟨x,H1,I1,r1,q1⟩=>?_
 exact Constant_none (is_none_gen ⟨.bl _,H1,I1,by rw[r1.none_iff];rfl,q1⟩)
def tB(t:TE):TT:=fun σ H Q=>t σ H fun x H1=>∃c,x= .bl c/\Q c H1
theorem pe_cmp{op:CmpOp}{t:TE}(h:PC X op a b t)(h1:behindInMarks op b=false:=by first |exact nobehind _ (by decide) (by decide) |rfl):PE X (.Compare a [op] [b] pos) t:=fun pins s σ H Q I hw=>wpAny_Compare1 (h pins s σ H Q I hw) h1
theorem zO{op:CmpOp}{t:TE}(h:PC X op a b t)(h1:behindInMarks op b=false:=by first |exact nobehind _ (by decide) (by decide) |rfl):PT X (.Compare a [op] [b] pos) (tB t):=by
 intro pins s σ H Q I hw
 refine wpAny_isTrue_Compare1 (thn (h pins s σ H _ I hw) fun v s1 h1=>thn h1 fun u s2 h2=>thn h2 fun c s3 ⟨x,H1,I1,r1,q1⟩=>?_) h1
 obtain⟨d,rfl,q⟩:=q1
 cases r1
 exact wpAny_truthy_bool ⟨H1,I1,q⟩
theorem jW{e:Expr}{t:TE}(h:PE X e t)(he:∀whole,isTrue e X.env whole=(do let v <- whole;standAt e.pos;holding [v] (truthy v)):=by intro _;rfl):PT X e (tB t):=by
 intro pins s σ H Q I hw
 refine isTrue_plain (thn (h pins s σ H _ I hw) fun v s1 ⟨x,H1,I1,r1,q1⟩=>?_) (he _)
 obtain⟨d,rfl,q⟩:=q1
 cases r1
 exact wpAny_truthy_bool ⟨H1,I1,q⟩
variable {tA tB':TT}{rest:List Expr}
def tAnd(t u:TT):TT:=fun σ H Q=>t σ H fun c H1=>if c=true then u σ H1 Q else Q false H1
def tOr(t u:TT):TT:=fun σ H Q=>t σ H fun c H1=>if c=true then Q true H1 else u σ H1 Q
def tNot(t:TT):TT:=fun σ H Q=>t σ H fun c H1=>Q (!c) H1
theorem zd(ha:PT X a tA):PW X (.BoolOp .And [a] pos) tA:=by
 intro wh pins s σ H Q I h
 refine isTrue_and (thn (ha pins s σ H Q I h) fun c s1 e=>?_)
 cases c with
 |true=>exact isTrue_and_nil e
 |false=>exact e
theorem kC(ha:PT X a tA):PW X (.BoolOp .Or [a] pos) tA:=by
 intro wh pins s σ H Q I h
 refine isTrue_or (thn (ha pins s σ H Q I h) fun c s1 e=>?_)
 cases c with
 |false=>exact isTrue_or_nil e
 |true=>exact e
theorem zi(ha:PT X a tA)(hb:PW X (.BoolOp .And (b::rest) pos) tB'):PW X (.BoolOp .And (a::b::rest) pos) (tAnd tA tB'):=by
 intro wh pins s σ H Q I h
 refine isTrue_and (thn (ha pins s σ H _ I h) fun c s1 ⟨H1,I1,q1⟩=>?_)
 cases c with
 |true=>exact hb wh pins s1 σ H1 Q I1 q1
 |false=>exact⟨H1,I1,q1⟩
theorem kL(ha:PT X a tA)(hb:PW X (.BoolOp .Or (b::rest) pos) tB'):PW X (.BoolOp .Or (a::b::rest) pos) (tOr tA tB'):=by
 intro wh pins s σ H Q I h
 refine isTrue_or (thn (ha pins s σ H _ I h) fun c s1 ⟨H1,I1,q1⟩=>?_)
 cases c with
 |true=>exact⟨H1,I1,q1⟩
 |false=>exact hb wh pins s1 σ H1 Q I1 q1
theorem j7(ha:PT X a tA):PT X (.UnaryOp .Not a pos) (tNot tA):=by
 intro pins s σ H Q I h
 exact isTrue_not (ha pins s σ H (fun c H1=>Q (!c) H1) I h)
def tAndV(ta tb:TE):TE:=fun σ H Q=>ta σ H fun x H1=>∃c,x= .bl c/\if c=true then tb σ H1 Q else Q (.bl false) H1
def tOrV(ta tb:TE):TE:=fun σ H Q=>ta σ H fun x H1=>∃c,x= .bl c/\if c=true then Q (.bl true) H1 else tb σ H1 Q
def tNotV(ta:TE):TE:=fun σ H Q=>ta σ H fun x H1=>∃c,x= .bl c/\Q (.bl (!c)) H1
theorem Qy{op}{t:TE}(h:PE X a t):PE X (.BoolOp op [a] pos) t:=fun pins s σ H Q I hw=>BoolOp_one (h pins s σ H Q I hw)
theorem Qz(ha:PE X a ta)(hb:PE X (.BoolOp .And (b::rest) pos) tb):PE X (.BoolOp .And (a::b::rest) pos) (tAndV ta tb):=by
 intro pins s σ H Q I h
 refine BoolOp_and (thn (ha pins s σ H _ I h) fun v s1 ⟨x,H1,I1,r1,q1⟩=>?_)
 obtain⟨c,rfl,q1⟩:=q1
 cases r1
 refine wpAny_truthy_bool ?_
 cases c with
 |true=>exact hb pins s1 σ H1 Q I1 q1
 |false=>exact⟨.bl false,H1,I1,rfl,q1⟩
theorem pe_or(ha:PE X a ta)(hb:PE X (.BoolOp .Or (b::rest) pos) tb):PE X (.BoolOp .Or (a::b::rest) pos) (tOrV ta tb):=by
 intro pins s σ H Q I h
 refine BoolOp_or (thn (ha pins s σ H _ I h) fun v s1 ⟨x,H1,I1,r1,q1⟩=>?_)
 obtain⟨c,rfl,q1⟩:=q1
 cases r1
 refine wpAny_truthy_bool ?_
 cases c with
 |false=>exact hb pins s1 σ H1 Q I1 q1
 |true=>exact⟨.bl true,H1,I1,rfl,q1⟩
theorem YQ(ha:PE X a ta):PE X (.UnaryOp .Not a pos) (tNotV ta):=by
 intro pins s σ H Q I h
 refine UnaryOp_ (thn (ha pins s σ H _ I h) fun v s1 ⟨x,H1,I1,r1,q1⟩=>?_)
 obtain⟨c,rfl,q1⟩:=q1
 cases r1
 exact not_of (wpAny_truthy_bool ⟨.bl (!c),H1,I1,rfl,q1⟩)
def tIf(t:TT)(ta tb:TE):TE:=fun σ H Q=>t σ H fun c H1=>if c=true then ta σ H1 Q else tb σ H1 Q
theorem KU{c:Expr}(hc:PT X c tA)(ha:PE X a ta)(hb:PE X b tb):PE X (.IfExp c a b pos) (tIf tA ta tb):=by
 intro pins s σ H Q I h
 refine wpAny_IfExp (thn (hc pins s σ H _ I h) fun d s1 ⟨H1,I1,q1⟩=>?_)
 cases d with
 |true=>exact ha pins s1 σ H1 Q I1 q1
 |false=>exact hb pins s1 σ H1 Q I1 q1
end
def SqL(K:Frag)(H:Hp)(a:Addr)(xs:List V):Prop:=
 Rd H a (.lst xs)∨
  ∃(o:Obj) (its:Array Value) (n:Nat),K.lookup a=some o/\o.cls= .type "list"/\o.dict=none/\o.data= .seq its n/\its.size<=sizeLine/\Vals xs its.toList
def SqT(K:Frag)(H:Hp)(a:Addr)(xs:List V):Prop:=
 Rd H a (.tup xs)∨
  ∃(o:Obj) (its:Array Value) (n:Nat),K.lookup a=some o/\o.cls= .type "tuple"/\o.data= .seq its n/\its.size<=sizeLine/\Vals xs its.toList
noncomputable def absV:Value->Option V
 | .none=>some .non
 | .bool b=>some (.bl b)
 | .int i _=>some (.int i)
 | .str x _=>some (.str x)
 | .bytes b _=>some (.byt b)
 | .float b _=>some (.flt b)
 | .ref a=>some (.ref a)
 | .type n=>some (.ty n)
 |_=>none
theorem RelV.abs{x:V}{u:Value}(r:RelV x u):absV u=some x:=by
 cases x with
 |non=>cases r;rfl
 |bl _=>cases r;rfl
 |int _=>obtain⟨t,rfl⟩:=r;rfl
 |str _=>obtain⟨t,rfl⟩:=r;rfl
 |byt _=>obtain⟨t,rfl⟩:=r;rfl
 |flt _=>obtain⟨t,rfl⟩:=r;rfl
 |ref _=>cases r;rfl
 |ty _=>cases r;rfl
theorem RelV.inj{x y:V}{u:Value}(r:RelV x u)(q:RelV y u):x=y:=Option.some.inj (r.abs.symm.trans q.abs)
theorem Vals.inj:∀{xs ys:List V} {us:List Value},Vals xs us->Vals ys us->xs=ys
 |_,_,_,.nil,.nil=>rfl
 |_,_,_,.cons r t,.cons r' t'=>by rw[r.inj r',Vals.inj t t']
section
variable {X:Cx}{pins:List (Addr×Obj)}{σ:St}{H:Hp}{s:Shared}{a:Addr}{xs ys:List V}
theorem SqL.of{K:Frag}(h:H a=some (.lst xs)):SqL K H a xs:=.inl (.inl h)
theorem SqT.of{K:Frag}(h:H a=some (.tup xs)):SqT K H a xs:=.inl (.inl h)
theorem Inv.list(I:Inv X pins σ H s)(h:SqL X.K H a xs):∃its:List Value,Vals xs its/\PlainL s.heap a its.toArray/\xs.length<=sizeLine:=by
 rcases h with h | ⟨o,its,n,hk,hc,hd,hs,hz,r⟩
 ·obtain⟨z,its,n,r,e⟩:=h.ok I.hok
  exact⟨its,r,⟨_,n,e,rfl,rfl,rfl⟩,z⟩
 ·refine⟨its.toList,r,⟨o,n,I.kIn a o hk,hc,hd,by simpa using hs⟩,?_⟩
  have e:=r.length
  simp only[Array.length_toList]at e
  omega
theorem Inv.tuple(I:Inv X pins σ H s)(h:SqT X.K H a xs):∃its:List Value,Vals xs its/\IsTup s.heap a its.toArray/\xs.length<=sizeLine:=by
 rcases h with h | ⟨o,its,n,hk,hc,hs,hz,r⟩
 ·obtain⟨z,its,r,p⟩:=h.ok I.hok
  exact⟨its,r,p,z⟩
 ·refine⟨its.toList,r,⟨o,I.kIn a o hk,hc,n,by simpa using hs⟩,?_⟩
  have e:=r.length
  simp only[Array.length_toList]at e
  omega
theorem Inv.list_inj(I:Inv X pins σ H s)(h:SqL X.K H a xs)(h':SqL X.K H a ys):xs=ys:=by
 obtain⟨its,r,⟨o,n,e,_,_,d⟩,_⟩:=I.list h
 obtain⟨its',r',⟨o',n',e',_,_,d'⟩,_⟩:=I.list h'
 rw[e]at e';cases e'
 rw[d]at d'
 injection d' with d1 _
 have:its=its':=by simpa using congrArg Array.toList d1
 subst this
 exact r.inj r'
theorem Inv.tuple_inj(I:Inv X pins σ H s)(h:SqT X.K H a xs)(h':SqT X.K H a ys):xs=ys:=by
 obtain⟨its,r,⟨o,e,_,n,d⟩,_⟩:=I.tuple h
 obtain⟨its',r',⟨o',e',_,n',d'⟩,_⟩:=I.tuple h'
 rw[e]at e';cases e'
 rw[d]at d'
 injection d' with d1 _
 have:its=its':=by simpa using congrArg Array.toList d1
 subst this
 exact r.inj r'
end
noncomputable abbrev Cx.wish(X:Cx)(E:Value->Shared->Prop):Cx:={ X with xe:=E }
noncomputable abbrev Cx.nox(X:Cx):Cx:=X.wish fun _ _=>False
theorem Cx.Ok.wish{X:Cx}(ok:X.Ok)(E:Value->Shared->Prop):(X.wish E).Ok:=
 ⟨ok.mod,ok.kind,ok.glob,ok.blt,ok.above,ok.inj,ok.has,ok.cab,ok.hd,ok.frames,ok.stk,ok.exf,ok.bs,ok.bsz,ok.noex,ok.exfs,ok.funs,ok.frf⟩
theorem Cx.Ok.unwish{X:Cx}{E:Value->Shared->Prop}(ok:(X.wish E).Ok):X.Ok:=
 ⟨ok.mod,ok.kind,ok.glob,ok.blt,ok.above,ok.inj,ok.has,ok.cab,ok.hd,ok.frames,ok.stk,ok.exf,ok.bs,ok.bsz,ok.noex,ok.exfs,ok.funs,ok.frf⟩
section
variable {X:Cx}{pins:List (Addr×Obj)}{σ:St}{H:Hp}{s:Shared}{E:Value->Shared->Prop}
theorem Inv.wish(I:Inv X pins σ H s)(E:Value->Shared->Prop):Inv (X.wish E) pins σ H s:=⟨I.ok.wish E,I.os,I.bare,I.base,I.loc,I.cell,I.free,I.freeC,I.pin,I.hok,I.len⟩
theorem Inv.unwish(I:Inv (X.wish E) pins σ H s):Inv X pins σ H s:=⟨I.ok.unwish,I.os,I.bare,I.base,I.loc,I.cell,I.free,I.freeC,I.pin,I.hok,I.len⟩
theorem SP.unwish{D:Ends}{f:Flow}{s':Shared}(h:SP (X.wish E) pins D f s'):SP X pins D f s':=by
 cases f with
 |next=>obtain⟨σ',H',I,q⟩:=h;exact⟨σ',H',I.unwish,q⟩
 |brk=>obtain⟨σ',H',I,q⟩:=h;exact⟨σ',H',I.unwish,q⟩
 |cont=>obtain⟨σ',H',I,q⟩:=h;exact⟨σ',H',I.unwish,q⟩
 |ret u=>obtain⟨v,σ',H',I,r,q⟩:=h;exact⟨v,σ',H',I.unwish,r,q⟩
theorem PSs.nox{st:List Stmt}{t:TS}(h:PSs X.nox st t):PSs X st t:=fun pins s σ H D I hw=>
 wpAny_mono (h pins s σ H D (I.wish _) hw) (fun _ _ q=>q.unwish) fun _ _ z=>False.elim z
end
section
variable {X:Cx}{st:Stmt}{rest:List Stmt}{t u:TS}{e:Expr}{te:TE}{pos:Pos}
def tNext:TS:=fun D σ H=>D.nx σ H
def tSeq(t u:TS):TS:=fun D σ H=>t { D with nx:=u D } σ H
theorem jp:PSs X [] tNext:=fun _ _ σ H _ I h=>wpAny_execs_nil ⟨σ,H,I,h⟩
theorem jd(h1:PS X st t)(h2:PSs X rest u):PSs X (st::rest) (tSeq t u):=by
 intro pins s σ H D I h
 refine wpAny_execs_cons (thn (h1 pins s σ H { D with nx:=u D } I h) fun f s1 q=>?_)
 cases f with
 |next=>
  obtain⟨σ',H',I',q⟩:=q
  exact h2 pins s1 σ' H' D I' q
 |ret v=>exact q
 |brk=>exact q
 |cont=>exact q
theorem jg(h1:PS X st t):PSs X [st] t:=by
 intro pins s σ H D I h
 refine wpAny_execs_cons (thn (h1 pins s σ H D I h) fun f s1 q=>?_)
 cases f with
 |next=>exact wpAny_execs_nil q
 |ret v=>exact q
 |brk=>exact q
 |cont=>exact q
def tCont:TS:=fun D σ H=>D.ct σ H
theorem zD:PS X (.Continue pos) tCont:=fun _ _ σ H _ I h=>wpAny_Continue ⟨σ,H,I,h⟩
theorem Inv.quiet{pins:List (Addr×Obj)}{σ:St}{H:Hp}{s:Shared}(I:Inv X pins σ H s):interactive X.env=false:=by simp [interactive,I.ok.kind]
def tDrop(te:TE):TS:=fun D σ H=>te σ H fun _ H1=>D.nx σ H1
theorem jN(he:PE X e te)(hs:swapsWith e none pos.line X.env=pure false:=by rfl):PS X (.Expr e pos) (tDrop te):=by
 intro pins s σ H D I h
 exact wpAny_Expr_any (thn (he pins s σ H _ I h) fun v s1 ⟨x,H1,I1,r1,q1⟩=>⟨σ,H1,I1,q1⟩) I.quiet hs
def tRet(te:TE):TS:=fun D σ H=>te σ H D.rt
theorem jr(he:PE X e te):PS X (.Return (some e) pos) (tRet te):=by
 intro pins s σ H D I h
 exact wpAny_Return_some (thn (he pins s σ H _ I h) fun v s1 ⟨x,H1,I1,r1,q1⟩=>⟨x,σ,H1,I1,r1,q1⟩)
def tIfS(c:TT)(t u:TS):TS:=fun D σ H=>c σ H fun b H1=>if b=true then t D σ H1 else u D σ H1
theorem jx{c:Expr}{a b:List Stmt}{tc:TT}(hc:PT X c tc)(ha:PSs X a t)(hb:PSs X b u):PS X (.If c a b pos) (tIfS tc t u):=by
 intro pins s σ H D I h
 refine wpAny_If (thn (hc pins s σ H _ I h) fun d s1 ⟨H1,I1,q1⟩=>?_)
 cases d with
 |true=>exact ha pins s1 σ H1 D I1 q1
 |false=>exact hb pins s1 σ H1 D I1 q1
end
abbrev TG:=V->St->Hp->(St->Hp->Prop)->Prop
abbrev TGs:=List V->St->Hp->(St->Hp->Prop)->Prop
def PG(X:Cx)(target:Expr)(t:TG):Prop:=
 ∀(pins:List (Addr×Obj)) (s:Shared) (σ:St) (H:Hp) (v:V) (u:Value) (Q:St->Hp->Prop),Inv X pins σ H s->RelV v u->t v σ H Q->
  wpAny (model X.prog X.w) X.A (assign target X.env u) (fun _ s'=>∃σ' H',Inv X pins σ' H' s'/\Q σ' H') X.xe s
def PGs(X:Cx)(ts:List Expr)(t:TGs):Prop:=
 ∀(pins:List (Addr×Obj)) (s:Shared) (σ:St) (H:Hp) (vs:List V) (us:List Value) (Q:St->Hp->Prop),Inv X pins σ H s->Vals vs us->t vs σ H Q->
  wpAny (model X.prog X.w) X.A (assignInOrder ((assignEach ts X.env).map (·.2)) us) (fun _ s'=>∃σ' H',Inv X pins σ' H' s'/\Q σ' H') X.xe s
abbrev TSet:=V->V->V->Hp->(Hp->Prop)->Prop
def PSet(X:Cx)(t:TSet):Prop:=
 ∀(pins:List (Addr×Obj)) (s:Shared) (σ:St) (H:Hp) (o i v:V) (ov iv u:Value) (Q:Hp->Prop),Inv X pins σ H s->RelV o ov->RelV i iv->RelV v u->t o i v H Q->
  wpAny (model X.prog X.w) X.A (setItem ov iv u) (fun _ s'=>∃H',Inv X pins σ H' s'/\Q H') X.xe s
section
variable {X:Cx}{pos:Pos}
def gName(i:Nat):TG:=fun v σ H Q=>Q (σ.set i (some v)) H
theorem jD{i:Nat}{x:Str}(hN:X.N.Nodup)(hi:X.N[i]?=some x)(hx:Loc X.env.scope x)(hf:X.fn x=true∨X.env.scope.names.lookup x=some .local:=by first |exact .inl rfl |exact .inr rfl |assumption):PG X (.Name x pos) (gName i):=by
 intro pins s σ H v u Q I r h
 exact wpAny_assign_Name (zH I hN hi hx r (fun s' I'=>⟨_,H,I',h⟩) hf)
def gNil:TGs:=fun vs σ H Q=>vs=[]/\Q σ H
def gCons(t:TG)(u:TGs):TGs:=fun vs σ H Q=>∃v r,vs=v::r/\t v σ H fun σ' H'=>u r σ' H' Q
theorem qe:PGs X [] gNil:=by
 intro pins s σ H vs us Q I r h
 obtain⟨e,h⟩:=h
 subst e
 cases r
 exact assignInOrder_nil ⟨σ,H,I,h⟩
theorem jY{e:Expr}{es:List Expr}{t:TG}{u:TGs}(h1:PG X e t)(h2:PGs X es u)
  (hs:(assignEach (e::es) X.env).map (·.2)=assign e X.env::(assignEach es X.env).map (·.2):=by rfl):PGs X (e::es) (gCons t u):=by
 intro pins s σ H vs us Q I r h
 obtain⟨v,vr,e1,h⟩:=h
 subst e1
 cases r with
 |cons r rr=>
  rw[hs]
  refine assignInOrder_cons (thn (h1 pins s σ H _ _ _ I r h) fun _ s1 ⟨σ1,H1,I1,q1⟩=>?_)
  exact h2 pins s1 σ1 H1 _ _ Q I1 rr q1
def gTup(K:Frag)(n:Nat)(t:TGs):TG:=fun v σ H Q=>∃a xs,v= .ref a/\SqT K H a xs/\xs.length=n/\t xs σ H Q
theorem qS{es:List Expr}{k:Nat}{t:TGs}{n:Nat}(hc:X.calm=true)(h:PGs X es t)
  (hn:(assignEach es X.env).length=n:=by rfl) (hst:(assignEach es X.env).findIdx? (·.1)=none:=by rfl):PG X (.Tuple es k pos) (gTup X.K n t):=by
 intro pins s σ H v u Q I r hw
 obtain⟨a,xs,e1,hq,hl,hw⟩:=hw
 subst e1
 cases r
 obtain⟨its,rv,ht,hz⟩:=I.tuple hq
 refine assign_Tuple_tuple (I.ok.hd hc) ht (by simp [hn,<- hl,rv.length]) hst fun h' hx=>?_
 have I1:Inv X pins σ H { s with heap:=h' }:=I.kept (t':=s.toks) fun b o e=>hx b o (Nat.ne_of_lt (Heap.lt_size e)) e
 exact h pins _ σ H xs _ Q I1 (by simpa using rv) hw
def gSub(to ti:TE)(t:TSet):TG:=fun v σ H Q=>to σ H fun o H1=>ti σ H1 fun i H2=>t o i v H2 fun H3=>Q σ H3
theorem Jv{o i:Expr}{to ti:TE}{t:TSet}(ho:PE X o to)(hi:PE X i ti)(hs:PSet X t)
  (ha:∀v,assign (.Subscript o i pos) X.env v=(do
   let ov <- holding [v] (eval o X.env)
   let iv <- holding [v,ov] (eval i X.env)
   standAt pos
   holding [v,ov,iv] (setItem ov iv v)
   release [v,ov,iv] []):=by intro _;rfl):PG X (.Subscript o i pos) (gSub to ti t):=by
 intro pins s σ H v u Q I r h
 rw[ha]
 refine wpAny_bind (wpAny_holding (thn (ho pins s σ H _ I h) fun ov s1 ⟨x,H1,I1,r1,q1⟩=>?_))
 refine wpAny_bind (wpAny_holding (thn (hi pins s1 σ H1 _ I1 q1) fun iv s2 ⟨y,H2,I2,r2,q2⟩=>?_))
 refine wpAny_bind (wpAny_standAt (wpAny_bind (wpAny_holding (thn (hs pins s2 σ H2 x y v ov iv u _ I2 r1 r2 r q2) fun _ s3 ⟨H3,I3,q3⟩=>?_))))
 exact wpAny_release ⟨σ,H3,I3,q3⟩
def tAsg(te:TE)(g:TG):TS:=fun D σ H=>te σ H fun x H1=>g x σ H1 D.nx
theorem qu{tg e:Expr}{te:TE}{g:TG}(he:PE X e te)(hg:PG X tg g)(hs:swapsWithSole [tg] e pos.line X.env=pure false:=by rfl)(hw:swappedStores [tg] e X.env=pure none:=by rfl)
  (h1:(assignEach [tg] X.env).map (·.2)=[assign tg X.env]:=by rfl):PS X (.Assign [tg] e pos) (tAsg te g):=by
 intro pins s σ H D I h
 refine wpAny_Assign_stores (thn (he pins s σ H _ I h) fun v s1 ⟨x,H1,I1,r1,q1⟩=>?_) hs hw
 rw[h1]
 exact thn (hg pins s1 σ H1 x v _ I1 r1 q1) fun _ s2 q=>q
theorem js{i:Nat}{x:Str}{e:Expr}{te:TE}{pos':Pos}(hN:X.N.Nodup)(hi:X.N[i]?=some x)(hx:Loc X.env.scope x)(he:PE X e te)(hs:swapsWith e (some (.Name x pos')) pos.line X.env=pure false:=by rfl)(hf:X.fn x=true∨X.env.scope.names.lookup x=some .local:=by first |exact .inl rfl |exact .inr rfl |assumption):
  PS X (.Assign [.Name x pos'] e pos) (tAsg te (gName i)):=by
 intro pins s σ H D I h
 refine wpAny_Assign_Name (thn (he pins s σ H _ I h) fun v s1 ⟨y,H1,I1,r1,q1⟩=>?_) hs
 exact zH I1 hN hi hx r1 (fun s2 I2=>⟨_,H1,I2,q1⟩) hf
end
section
variable {X:Cx}{pos:Pos}
def tWhile(c:TT)(tb:TS):TS:=fun D σ H=>∃W:Nat->St->Hp->Prop,(∃m,W m σ H)/\∀m σ H,W m σ H->
 c σ H fun b H1=>if b=true then ∃N:St->Hp->Prop,(∀σ' H',N σ' H'->∃m',m' < m/\W m' σ' H')/\tb { D with nx:=N,ct:=N,bk:=D.nx } σ H1 else D.nx σ H1
theorem Zm{c:Expr}{body:List Stmt}{tc:TT}{tb:TS}(hp:PassesOwn (model X.prog X.w) X.A X.env X.xe)(hc:PT X c tc)(hb:PSs X body tb):PS X (.While c body [] pos) (tWhile tc tb):=by
 intro pins s σ H D I h
 obtain⟨W,⟨m0,w0⟩,turn⟩:=h
 refine wpAny_While (codeAny_whileLoop (fun n s'=>∃σ' H',Inv X pins σ' H' s'/\W n σ' H') ?_ m0 ⟨σ,H,I,w0⟩)
 rintro n s1 ⟨σ1,H1,I1,w1⟩
 refine wpAny_passesOwn hp (thn (hc pins s1 σ1 H1 _ I1 (turn n σ1 H1 w1)) fun b s2 ⟨H2,I2,q2⟩=>?_)
 cases b with
 |true=>
  obtain⟨N,hN,q2⟩:=q2
  rw[if_pos rfl]
  refine wpAny_passesOwn hp (thn (hb pins s2 σ1 H2 _ I2 q2) fun f s3 q3=>?_)
  cases f with
  |next=>
   obtain⟨σ3,H3,I3,n3⟩:=q3
   obtain⟨m',hm,w3⟩:=hN σ3 H3 n3
   exact⟨m',hm,σ3,H3,I3,w3⟩
  |cont=>
   obtain⟨σ3,H3,I3,n3⟩:=q3
   obtain⟨m',hm,w3⟩:=hN σ3 H3 n3
   exact⟨m',hm,σ3,H3,I3,w3⟩
  |brk=>exact q3
  |ret v=>exact q3
 |false=>
  rw[if_neg Bool.false_ne_true]
  exact wpAny_execs_nil ⟨σ1,H2,I2,q2⟩
end
structure It where
 go:Nat->Hp->Prop
 yld:Nat->Hp->V->Hp->Prop
 stop:Nat->Hp->Prop
def FpOk(X:Cx)(pins:List (Addr×Obj))(H:Hp)(b:Addr):Prop:=
 H b=none/\b≠X.env.locals/\b∉X.fs/\(b∈X.ex∨X.s₀.heap.objs.size<=b)/\(∀x c,X.env.cells.lookup x=some c->c≠b)/\∀p∈X.pn++pins,p.1≠b
theorem Inv.fpOk{X:Cx}{pins:List (Addr×Obj)}{σ:St}{H H':Hp}{s:Shared}{b:Addr}(I:Inv X pins σ H s)(hb:s.heap.objs.size<=b)(hn:H' b=none):FpOk X pins H' b:=by
 refine⟨hn,Nat.ne_of_gt (Nat.lt_of_lt_of_le I.lt hb),I.nofs hb,.inr (Nat.le_trans I.sz hb),fun x c e z=>?_,fun p hp z=>?_⟩
 ·obtain⟨v,q⟩:=I.cell x c e
  exact absurd (Nat.lt_of_lt_of_le q.lt (by rw[z];exact hb)) (Nat.lt_irrefl _)
 ·exact absurd (Nat.lt_of_lt_of_le (Heap.lt_size (I.pin p hp).1) (by rw[z];exact hb)) (Nat.lt_irrefl _)
structure Turn(P:Program)(w:World)(K:Frag)(tg:Expr)(J:It)(fp:List Addr)(it:Addr)(tn:Nat->Heap->Prop):Prop where
 mem:it∈fp
 obj:∀i h,tn i h->∀b∈fp,∃o,h.get? b=some o/\∀v,o.data≠ .cell v
 keep:∀i h h',tn i h->(∀b∈fp,∀o,h.get? b=some o->h'.get? b=some o)->tn i h'
 item:∀(X:Cx),X.prog=P->X.w=w->X.K=K->X.calm=true->∀(i:Nat) (pins:List (Addr×Obj)) (s:Shared) (σ:St) (H:Hp) (E:Value->Shared->Prop),Inv X pins σ H s->(∀b∈fp,FpOk X pins H b)->tn i s.heap->J.go i H->
  wpAny (model P w) X.A (pyNext (.ref it)) (fun r s1=>∃u,r=some u/\
   wpAny (model P w) X.A (letOwnedTupleGo tg (.ref it) u) (fun _ s2=>∃x H',Inv X pins σ H' s2/\RelV x u/\J.yld i H x H'/\tn (i+1) s2.heap/\∀b∈fp,H' b=none) E s1) E s
 done:∀(X:Cx),X.prog=P->X.w=w->X.K=K->X.calm=true->∀(i:Nat) (pins:List (Addr×Obj)) (s:Shared) (σ:St) (H:Hp) (E:Value->Shared->Prop),Inv X pins σ H s->(∀b∈fp,FpOk X pins H b)->tn i s.heap->J.stop i H->
  wpAny (model P w) X.A (pyNext (.ref it)) (fun r s1=>r=none/\Inv X pins σ H s1) E s
 self:∀(A:Around) (i:Nat) (s:Shared) (Q:Value->Shared->Prop) (E:Value->Shared->Prop),tn i s.heap->Q (.ref it) s->wpAny (model P w) A (pyIter (.ref it)) Q E s
abbrev TI:=St->Hp->(It->Hp->Prop)->Prop
def PIE(X:Cx)(pins:List (Addr×Obj))(σ:St)(tg:Expr)(R:It->Hp->Prop)(itv:Value)(s2:Shared):Prop:=
 ∃(it:Addr) (fp:List Addr) (tn:Nat->Heap->Prop) (J:It) (H':Hp),itv= .ref it/\Inv X pins σ H' s2/\Turn X.prog X.w X.K tg J fp it tn/\tn 0 s2.heap/\(∀b∈fp,FpOk X pins H' b)/\R J H'
def PI(X:Cx)(tg iter:Expr)(wi:TI):Prop:=
 ∀(pins:List (Addr×Obj)) (s:Shared) (σ:St) (H:Hp) (R:It->Hp->Prop),Inv X pins σ H s->wi σ H R->
  wpAny (model X.prog X.w) X.A (eval iter X.env) (fun v s1=>wpAny (model X.prog X.w) X.A (pyIter v) (PIE X pins σ tg R) X.xe s1) X.xe s
theorem YJ{M : Model}{A : Around}{E : Value -> Shared -> Prop}{s : Shared}{tg : Expr}{it : Addr}{u : Value}{o : Obj}{n : String}{vs : Array Value}{Q : Unit -> Shared -> Prop}(ho : s.heap.get? it = some o)(hc : o.cls = .type n)(hd : o.data = .fields vs)
    (hn : ["enumerate", "zip", "dict_itemiterator", "dict_reverseitemiterator", "odict_iterator", "itertools.zip_longest", "itertools.pairwise"].contains n = false) (hQ : Q () s) : wpAny M A (letOwnedTupleGo tg (.ref it) u) Q E s := by
  unfold letOwnedTupleGo
  cases tg <;> first
    | exact wpAny_pure hQ
    | (cases u <;> first
        | exact wpAny_pure hQ
        | (refine wpAny_bind (wpAny_load ho ?_)
           rw [hc, hd]
           show wpAny M A (if (["enumerate", "zip", "dict_itemiterator", "dict_reverseitemiterator", "odict_iterator", "itertools.zip_longest", "itertools.pairwise"].contains n && vs[0]? == some (rawInt _)) = true then _ else _) Q E s
           rw [if_neg (by intro h; rw [hn, Bool.false_and] at h; cases h)]
           exact wpAny_pure hQ))
noncomputable def Itl(K:Frag)(a:Addr):It:=
 ⟨fun i H=>∃xs x,SqL K H a xs/\xs[i]?=some x,fun i H x H'=>H'=H/\∀xs,SqL K H a xs->xs[i]?=some x,fun i H=>∃xs,SqL K H a xs/\xs.length<=i⟩
noncomputable def Itt(K:Frag)(a:Addr):It:=
 ⟨fun i H=>∃xs x,SqT K H a xs/\xs[i]?=some x,fun i H x H'=>H'=H/\∀xs,SqT K H a xs->xs[i]?=some x,fun i H=>∃xs,SqT K H a xs/\xs.length<=i⟩
noncomputable def Itr(lo:Int)(n:Nat):It:=⟨fun i _=>i < n,fun i H x H'=>H'=H/\x= .int (lo+i),fun i _=>n<=i⟩
theorem XQ{P:Program}{w:World}{K:Frag}{tg:Expr}(a it:Addr):Turn P w K tg (Itl K a) [it] it (fun i h=>h.IsListIter it a i) where
 mem:=by simp
 obj:=fun i h st b hb=>by
  have e:b=it:=by simpa using hb
  subst e
  obtain⟨o,e,c,d⟩:=st
  exact⟨o,e,fun v z=>by rw[d]at z;cases z⟩
 keep:=fun i h h' st k=>st.at fun o e=>k it (by simp) o e
 item:=by
  intro X hP hw hK hc i pins s σ H E I hf st hg
  subst hP hw hK
  obtain⟨xs,x,hq,hx⟩:=hg
  obtain⟨its,rv,p,hz⟩:=I.list hq
  obtain⟨u,hu,ru⟩:=rv.get hx
  obtain⟨f0,f1,f2,f3,f4,f5⟩:=hf it (by simp)
  refine wpAny_pyNext_list_item st p.isList (x:=u) (by simpa using hu) fun h' st' sb=>?_
  have I1:Inv X pins σ H { s with heap:=h' }:=I.turned (t':=s.toks) (fun b o hb e=>(sb.2 b hb).trans e) f0 f1 f3 f4 f5
  obtain⟨o,e,c,d⟩:=id st'
  exact⟨u,rfl,YJ (s:={ s with heap:=h' }) e c d (by decide) ⟨x,H,I1,ru,⟨rfl,fun ys hy=>by rw[I.list_inj hy hq];exact hx⟩,st',fun b hb=>(hf b hb).1⟩⟩
 done:=by
  intro X hP hw hK hc i pins s σ H E I hf st hg
  subst hP hw hK
  obtain⟨xs,hq,hx⟩:=hg
  obtain⟨its,rv,p,hz⟩:=I.list hq
  obtain⟨f0,f1,f2,f3,f4,f5⟩:=hf it (by simp)
  have hl:=rv.length
  exact wpAny_pyNext_list_end (I.ok.hd hc) st p.isList (by simp;omega) fun h' eb=>⟨rfl,I.turned (t':=s.toks) (fun b o hb e=>eb b o hb e) f0 f1 f3 f4 f5⟩
 self:=fun _ _ _ _ _ st h=>wpAny_pyIter_listiter st h
theorem QK{P:Program}{w:World}{K:Frag}{tg:Expr}(a it:Addr):Turn P w K tg (Itt K a) [it] it (fun i h=>h.IsTupleIter it a i) where
 mem:=by simp
 obj:=fun i h st b hb=>by
  have e:b=it:=by simpa using hb
  subst e
  obtain⟨o,e,c,d⟩:=st
  exact⟨o,e,fun v z=>by rw[d]at z;cases z⟩
 keep:=fun i h h' st k=>st.at fun o e=>k it (by simp) o e
 item:=by
  intro X hP hw hK hc i pins s σ H E I hf st hg
  subst hP hw hK
  obtain⟨xs,x,hq,hx⟩:=hg
  obtain⟨its,rv,p,hz⟩:=I.tuple hq
  obtain⟨u,hu,ru⟩:=rv.get hx
  obtain⟨f0,f1,f2,f3,f4,f5⟩:=hf it (by simp)
  refine wpAny_pyNext_tuple_item st (show s.heap.IsTuple a its.toArray from p) (x:=u) (by simpa using hu) fun h' st' sb=>?_
  have I1:Inv X pins σ H { s with heap:=h' }:=I.turned (t':=s.toks) (fun b o hb e=>(sb.2 b hb).trans e) f0 f1 f3 f4 f5
  obtain⟨o,e,c,d⟩:=id st'
  exact⟨u,rfl,YJ (s:={ s with heap:=h' }) e c d (by decide) ⟨x,H,I1,ru,⟨rfl,fun ys hy=>by rw[I.tuple_inj hy hq];exact hx⟩,st',fun b hb=>(hf b hb).1⟩⟩
 done:=by
  intro X hP hw hK hc i pins s σ H E I hf st hg
  subst hP hw hK
  obtain⟨xs,hq,hx⟩:=hg
  obtain⟨its,rv,p,hz⟩:=I.tuple hq
  obtain⟨f0,f1,f2,f3,f4,f5⟩:=hf it (by simp)
  have hl:=rv.length
  exact wpAny_pyNext_tuple_end (I.ok.hd hc) st (show s.heap.IsTuple a its.toArray from p) (by simp;omega) fun h' eb=>⟨rfl,I.turned (t':=s.toks) (fun b o hb e=>eb b o hb e) f0 f1 f3 f4 f5⟩
 self:=fun _ _ _ _ _ st h=>wpAny_pyIter_tupleiter st h
theorem QL{P:Program}{w:World}{K:Frag}{tg:Expr}(it:Addr)(lo:Int)(n:Nat):Turn P w K tg (Itr lo n) [it] it (fun i h=>IsRangeIter h it (lo+(i:Nat)*1) ((n:Int) - (i:Nat)) 1) where
 mem:=by simp
 obj:=fun i h st b hb=>by
  have e:b=it:=by simpa using hb
  subst e
  exact⟨_,st,fun v z=>by
   have z':Data.fields _=Data.cell v:=z
   cases z'⟩
 keep:=fun i h h' st k=>k it (by simp) _ st
 item:=by
  intro X hP hw hK hc i pins s σ H E I hf st hg
  subst hP hw hK
  obtain⟨f0,f1,f2,f3,f4,f5⟩:=hf it (by simp)
  have W:=Walks.range (prog:=X.prog) (w:=X.w) (I.ok.hd hc) it lo 1 n
  refine W.item i s _ _ hg st fun v h' tk hv st' kk=>?_
  obtain⟨t,rfl⟩:=hv
  have I1:Inv X pins σ H { s with heap:=h',toks:=tk }:=I.turned (fun b o hb e=>kk b o (by simpa using hb) e) f0 f1 f3 f4 f5
  refine⟨_,rfl,YJ (s:={ s with heap:=h',toks:=tk }) (n:="range_iterator") st' rfl rfl (by decide) ⟨.int (lo+i),H,I1,⟨t,?_⟩,⟨rfl,rfl⟩,st',fun b hb=>(hf b hb).1⟩⟩
  rw[Int.mul_one]
 done:=by
  intro X hP hw hK hc i pins s σ H E I hf st hg
  subst hP hw hK
  obtain⟨f0,f1,f2,f3,f4,f5⟩:=hf it (by simp)
  exact wpAny_pyNext_range_end (I.ok.hd hc) st (by have:n<=i:=hg;omega) fun h' eb=>⟨rfl,I.turned (t':=s.toks) (fun b o hb e=>eb b o hb e) f0 f1 f3 f4 f5⟩
 self:=fun _ _ _ _ _ st h=>wpAny_pyIter_rangeiter st h
section
variable {X:Cx}{tg:Expr}
def iList(K:Frag)(tl:TE):TI:=fun σ H R=>tl σ H fun x H1=>∃a,x= .ref a/\(∃xs,SqL K H1 a xs)/\R (Itl K a) H1
def iTup(K:Frag)(tl:TE):TI:=fun σ H R=>tl σ H fun x H1=>∃a,x= .ref a/\(∃xs,SqT K H1 a xs)/\R (Itt K a) H1
theorem ze{l:Expr}{tl:TE}(hl:PE X l tl):PI X tg l (iList X.K tl):=by
 intro pins s σ H R I h
 refine thn (hl pins s σ H _ I h) fun v s1 ⟨x,H1,I1,r1,q1⟩=>?_
 obtain⟨a,e,⟨xs,hq⟩,q⟩:=q1
 subst e
 cases r1
 obtain⟨its,rv,p,hz⟩:=I1.list hq
 refine wpAny_pyIter_list p.isList ?_
 refine⟨s1.heap.objs.size,[s1.heap.objs.size],_,_,H1,rfl,I1.kept (t':=s1.toks) fun b o e=>Heap.get?_push_of_some _ e,XQ a _,⟨_,Heap.get?_push_size _ rfl,rfl,rfl⟩,fun b hb=>?_,q⟩
 have e:b=s1.heap.objs.size:=by simpa using hb
 subst e
 exact I1.fpOk (Nat.le_refl _) (I1.hok.fresh (Nat.le_refl _))
theorem Kn{l:Expr}{tl:TE}(hl:PE X l tl):PI X tg l (iTup X.K tl):=by
 intro pins s σ H R I h
 refine thn (hl pins s σ H _ I h) fun v s1 ⟨x,H1,I1,r1,q1⟩=>?_
 obtain⟨a,e,⟨xs,hq⟩,q⟩:=q1
 subst e
 cases r1
 obtain⟨its,rv,p,hz⟩:=I1.tuple hq
 refine wpAny_pyIter_tuple (show s1.heap.IsTuple a its.toArray from p) ?_
 refine⟨s1.heap.objs.size,[s1.heap.objs.size],_,_,H1,rfl,I1.kept (t':=s1.toks) fun b o e=>Heap.get?_push_of_some _ e,QK a _,⟨_,Heap.get?_push_size _ rfl,rfl,rfl⟩,fun b hb=>?_,q⟩
 have e:b=s1.heap.objs.size:=by simpa using hb
 subst e
 exact I1.fpOk (Nat.le_refl _) (I1.hok.fresh (Nat.le_refl _))
theorem KW{pins:List (Addr×Obj)}{σ:St}{H:Hp}{s:Shared}{R:It->Hp->Prop}{E:Value->Shared->Prop}{lo hi:Int}{t u v:Tok}{tk:Nat}(I:Inv X pins σ H s)(h1: -(2 ^ 62)<=lo)(h2:lo < 2 ^ 62)(h3: -(2 ^ 62)<=hi)(h4:hi < 2 ^ 62)
  (q:R (Itr lo (hi - lo).toNat) H):wpAny (model X.prog X.w) X.A (pyIter (.ref s.heap.objs.size)) (PIE X pins σ tg R) E { s with heap:=s.heap.push { cls:=.type "range",data:=.fields #[.int lo t,.int hi u,.int 1 v] },toks:=tk }:=by
 refine wpAny_pyIter_range (IsRange.new ..) (small_one h1 h2 h3 h4) ?_
 have I1:Inv X pins σ H { s with heap:=s.heap.push { cls:=.type "range",data:=.fields #[.int lo t,.int hi u,.int 1 v] },toks:=tk }:=I.kept fun b o e=>Heap.get?_push_of_some _ e
 refine⟨(s.heap.push { cls:=.type "range",data:=.fields #[.int lo t,.int hi u,.int 1 v] }).objs.size,[(s.heap.push { cls:=.type "range",data:=.fields #[.int lo t,.int hi u,.int 1 v] }).objs.size],_,_,H,rfl,
  I1.kept (t':=tk) fun b o e=>Heap.get?_push_of_some _ e,QL _ lo (hi - lo).toNat,?_,fun b hb=>?_,q⟩
 ·have e1:lo+((0:Nat):Int)*1=lo:=by simp
  have e2:(((hi - lo).toNat:Nat):Int) - ((0:Nat):Int)=Builtin.Range.rangeSize lo hi 1:=by rw[rangeSize_one];split<;>omega
  show IsRangeIter _ _ (lo+((0:Nat):Int)*1) ((((hi - lo).toNat:Nat):Int) - ((0:Nat):Int)) 1
  rw[e1,e2]
  exact Heap.get?_push_size _ rfl
 ·have e:b=(s.heap.push { cls:=.type "range",data:=.fields #[.int lo t,.int hi u,.int 1 v] }).objs.size:=by simpa using hb
  subst e
  exact I1.fpOk (Nat.le_refl _) (I1.hok.fresh (Nat.le_refl _))
def iRng1(ta:TA):TI:=fun σ H R=>ta σ H fun vs H1=>∃j:Int,vs=[.int j]/\ -(2 ^ 62)<=j/\j < 2 ^ 62/\R (Itr 0 j.toNat) H1
def iRng2(ta:TA):TI:=fun σ H R=>ta σ H fun vs H1=>∃i j:Int,vs=[.int i,.int j]/\(-(2 ^ 62)<=i/\i < 2 ^ 62/\ -(2 ^ 62)<=j/\j < 2 ^ 62)/\R (Itr i (j - i).toNat) H1
theorem zc{a:Expr}{ta:TA}{p pos:Pos}(hg:Gl X "range")(hm:X.mg "range"=none)(ha:PA X [a] ta)(hs:starEach [a] X.env=[(false,eval a X.env)]:=by rfl):PI X tg (.Call (.Name "range" p) [a] [] pos) (iRng1 ta):=by
 intro pins s σ H R I h
 refine Call_ (zN I hg hm boot_range (PyProof.Rows.callWith_type1 (thn (ha pos pins s σ H _ I h) fun us s1 ⟨vs,H1,I1,r1,q1⟩=>?_) hs rfl))
 obtain⟨j,e,q1,q2,q⟩:=q1
 subst e
 cases r1 with
 |cons r rr=>
  cases rr
  obtain⟨t,rfl⟩:=r
  exact call_range_1 (KW I1 (by omega) (by omega) q1 q2 (by simpa using q))
theorem JX{a b:Expr}{ta:TA}{p pos:Pos}(hg:Gl X "range")(hm:X.mg "range"=none)(ha:PA X [a,b] ta)(hs:starEach [a,b] X.env=[(false,eval a X.env),(false,eval b X.env)]:=by rfl)(hs2:starEach [b] X.env=[(false,eval b X.env)]:=by rfl):
  PI X tg (.Call (.Name "range" p) [a,b] [] pos) (iRng2 ta):=by
 intro pins s σ H R I h
 refine Call_ (zN I hg hm boot_range (PyProof.Rows.callWith_type1 (thn (ha pos pins s σ H _ I h) fun us s1 ⟨vs,H1,I1,r1,q1⟩=>?_) (by rw[hs,hs2]) (by rw[hs2];rfl)))
 obtain⟨i,j,e,⟨q1,q2,q3,q4⟩,q⟩:=q1
 subst e
 cases r1 with
 |cons r rr=>
  cases rr with
  |cons r' rr=>
   cases rr
   obtain⟨t,rfl⟩:=r
   obtain⟨t',rfl⟩:=r'
   exact call_range_2 (KW I1 q1 q2 q3 q4 q)
def tFor(wi:TI)(g:TG)(tb:TS):TS:=fun D σ H=>wi σ H fun J H1=>∃W:Nat->Nat->St->Hp->Prop,(∃m,W 0 m σ H1)/\∀i m σ H,W i m σ H->
 (J.stop i H/\D.nx σ H)∨(J.go i H/\∃N:St->Hp->Prop,(∀σ' H',N σ' H'->∃m',m' < m/\W (i+1) m' σ' H')/\∀x H',J.yld i H x H'->g x σ H' fun σ2 H2=>tb { D with nx:=N,ct:=N,bk:=D.nx } σ2 H2)
noncomputable def pinsAt(fp:List Addr)(h:Heap):List (Addr×Obj):=fp.filterMap fun b=>(h.get? b).map fun o=>(b,o)
theorem kt{fp:List Addr}{h:Heap}{b:Addr}{o:Obj}(hb:b∈fp)(e:h.get? b=some o):(b,o)∈pinsAt fp h:=List.mem_filterMap.mpr ⟨b,hb,by rw[e];rfl⟩
theorem XS{fp:List Addr}{h:Heap}{p:Addr×Obj}(hp:p∈pinsAt fp h):p.1∈fp/\h.get? p.1=some p.2:=by
 obtain⟨b,hb,e⟩:=List.mem_filterMap.mp hp
 cases q:h.get? b with
 |none=>rw[q]at e;cases e
 |some o=>
  rw[q]at e
  have e':(b,o)=p:=Option.some.inj e
  subst e'
  exact⟨hb,q⟩
theorem Inv.pinned{pins:List (Addr×Obj)}{σ:St}{H:Hp}{s:Shared}{fp:List Addr}(I:Inv X pins σ H s)(hf:∀b∈fp,FpOk X pins H b)(ho:∀b∈fp,∃o,s.heap.get? b=some o/\∀v,o.data≠ .cell v):Inv X (pins++pinsAt fp s.heap) σ H s:=
 I.pins_of fun p hp=>(List.mem_append.mp hp).elim (fun z=>I.pin p (List.mem_append_right _ z)) fun z=>by
  obtain⟨hb,e⟩:=XS z
  obtain⟨f0,f1,f2,_⟩:=hf p.1 hb
  obtain⟨o,e',d⟩:=ho p.1 hb
  rw[e]at e';cases e'
  exact⟨e,f0,f1,f2,d⟩
theorem Inv.unpinned{pins pl:List (Addr×Obj)}{σ:St}{H:Hp}{s:Shared}(I:Inv X (pins++pl) σ H s):Inv X pins σ H s:=I.pins_of fun p hp=>I.pin p (List.mem_append_right _ (List.mem_append_left _ hp))
theorem zj{iter:Expr}{body:List Stmt}{wi:TI}{g:TG}{tb:TS}{pos:Pos}(hp:PassesOwn (model X.prog X.w) X.A X.env X.xe)(hc:X.calm=true)(hi:PI X tg iter wi)(hg:PG X tg g)(hb:PSs X body tb)
  (hs:∀x,foldedSetIterable iter X.env x=pure x:=by intro _;rfl):PS X (.For tg iter body [] pos) (tFor wi g tb):=by
 intro pins s σ H D I h
 refine wpAny_For (thn (hi pins s σ H _ I h) fun v s1 h1=>thn h1 fun itv s2 h2=>?_) hs
 obtain⟨it,fp,tn,J,H2,e,I2,T,st2,f2,W,⟨m0,w0⟩,turn⟩:=h2
 subst e
 have stat:∀{H':Hp},(∀b∈fp,H' b=none)->∀b∈fp,FpOk X pins H' b:=fun hn b hb=>⟨hn b hb,(f2 b hb).2⟩
 refine codeAny_forLoop_any (fun n s'=>∃i σ' H',Inv X pins σ' H' s'/\tn i s'.heap/\(∀b∈fp,H' b=none)/\W i n σ' H') ?_ m0 ⟨0,σ,H2,I2,st2,fun b hb=>(f2 b hb).1,w0⟩
 rintro n s3 ⟨i,σ3,H3,I3,st3,fr3,w3⟩
 rcases turn i n σ3 H3 w3 with ⟨stop,qn⟩ | ⟨go,N,hN,step⟩
 ·refine wpAny_passesOwn hp (thn (T.done X rfl rfl rfl hc i pins s3 σ3 H3 X.xe I3 (stat fr3) st3 stop) fun r s4 ⟨hr,I4⟩=>?_)
  subst hr
  exact wpAny_execs_nil ⟨σ3,H3,I4,qn⟩
 ·refine wpAny_passesOwn hp (thn (T.item X rfl rfl rfl hc i pins s3 σ3 H3 X.xe I3 (stat fr3) st3 go) fun r s4 ⟨u,hr,h4⟩=>?_)
  subst hr
  refine wpAny_passesOwn hp (thn h4 fun _ s5 ⟨x,H5,I5,r5,y5,st5,fr5⟩=>?_)
  have I5':=I5.pinned (stat fr5) (T.obj _ _ st5)
  refine wpAny_passesOwn hp (thn (hg _ s5 σ3 H5 x u _ I5' r5 (step x H5 y5)) fun _ s6 ⟨σ6,H6,I6,q6⟩=>?_)
  refine wpAny_passesOwn hp (thn (hb _ s6 σ6 H6 _ I6 q6) fun f s7 q7=>?_)
  have again:∀{σ7:St} {H7:Hp},Inv X (pins++pinsAt fp s5.heap) σ7 H7 s7->N σ7 H7->∃m,m < n/\∃i σ' H',Inv X pins σ' H' s7/\tn i s7.heap/\(∀b∈fp,H' b=none)/\W i m σ' H':=fun {σ7 H7} I7 n7=>by
   obtain⟨m',hm,w7⟩:=hN σ7 H7 n7
   refine⟨m',hm,i+1,σ7,H7,I7.unpinned,T.keep _ _ _ st5 fun b hb o e=>(I7.pin (b,o) (List.mem_append_right _ (List.mem_append_right _ (kt hb e)))).1,fun b hb=>?_,w7⟩
   obtain⟨o,e,d⟩:=T.obj _ _ st5 b hb
   exact(I7.pin (b,o) (List.mem_append_right _ (List.mem_append_right _ (kt hb e)))).2.1
  cases f with
  |next=>obtain⟨σ7,H7,I7,n7⟩:=q7;exact again I7 n7
  |cont=>obtain⟨σ7,H7,I7,n7⟩:=q7;exact again I7 n7
  |brk=>obtain⟨σ7,H7,I7,q7⟩:=q7;exact⟨σ7,H7,I7.unpinned,q7⟩
  |ret v=>obtain⟨x7,σ7,H7,I7,r7,q7⟩:=q7;exact⟨x7,σ7,H7,I7.unpinned,r7,q7⟩
end
theorem KY{K:Frag}{a:Addr}{xs:List V}{g:TG}{tb:TS}{D:Ends}{σ:St}{H:Hp}(Pv:Nat->St->Hp->Prop)(h0:Pv 0 σ H)(hl:∀i σ H,i<=xs.length->Pv i σ H->SqL K H a xs)
  (hs:∀i x σ H,xs[i]?=some x->Pv i σ H->g x σ H fun σ2 H2=>tb { D with nx:=Pv (i+1),ct:=Pv (i+1),bk:=D.nx } σ2 H2) (hd:∀σ H,Pv xs.length σ H->D.nx σ H):
  ∃W:Nat->Nat->St->Hp->Prop,(∃m,W 0 m σ H)/\∀i m σ H,W i m σ H->
   ((Itl K a).stop i H/\D.nx σ H)∨((Itl K a).go i H/\∃N:St->Hp->Prop,(∀σ' H',N σ' H'->∃m',m' < m/\W (i+1) m' σ' H')/\∀x H',(Itl K a).yld i H x H'->g x σ H' fun σ2 H2=>tb { D with nx:=N,ct:=N,bk:=D.nx } σ2 H2):=by
 refine⟨fun i m σ H=>m=xs.length - i/\i<=xs.length/\Pv i σ H,⟨xs.length,by simp,Nat.zero_le _,h0⟩,?_⟩
 rintro i m σ H ⟨rfl,hi,p⟩
 have q:=hl i σ H hi p
 by_cases hlt:i < xs.length
 ·refine .inr ⟨⟨xs,xs[i],q,by simp [hlt]⟩,Pv (i+1),fun σ' H' p'=>⟨xs.length - (i+1),by omega,rfl,hlt,p'⟩,fun x H' y=>?_⟩
  obtain⟨e,y⟩:=y
  subst e
  exact hs i x σ _ (y xs q) p
 ·have e:i=xs.length:=by omega
  subst e
  exact .inl ⟨⟨xs,q,Nat.le_refl _⟩,hd σ H p⟩
theorem for_tup{K:Frag}{a:Addr}{xs:List V}{g:TG}{tb:TS}{D:Ends}{σ:St}{H:Hp}(Pv:Nat->St->Hp->Prop)(h0:Pv 0 σ H)(hl:∀i σ H,i<=xs.length->Pv i σ H->SqT K H a xs)
  (hs:∀i x σ H,xs[i]?=some x->Pv i σ H->g x σ H fun σ2 H2=>tb { D with nx:=Pv (i+1),ct:=Pv (i+1),bk:=D.nx } σ2 H2) (hd:∀σ H,Pv xs.length σ H->D.nx σ H):
  ∃W:Nat->Nat->St->Hp->Prop,(∃m,W 0 m σ H)/\∀i m σ H,W i m σ H->
   ((Itt K a).stop i H/\D.nx σ H)∨((Itt K a).go i H/\∃N:St->Hp->Prop,(∀σ' H',N σ' H'->∃m',m' < m/\W (i+1) m' σ' H')/\∀x H',(Itt K a).yld i H x H'->g x σ H' fun σ2 H2=>tb { D with nx:=N,ct:=N,bk:=D.nx } σ2 H2):=by
 refine⟨fun i m σ H=>m=xs.length - i/\i<=xs.length/\Pv i σ H,⟨xs.length,by simp,Nat.zero_le _,h0⟩,?_⟩
 rintro i m σ H ⟨rfl,hi,p⟩
 have q:=hl i σ H hi p
 by_cases hlt:i < xs.length
 ·refine .inr ⟨⟨xs,xs[i],q,by simp [hlt]⟩,Pv (i+1),fun σ' H' p'=>⟨xs.length - (i+1),by omega,rfl,hlt,p'⟩,fun x H' y=>?_⟩
  obtain⟨e,y⟩:=y
  subst e
  exact hs i x σ _ (y xs q) p
 ·have e:i=xs.length:=by omega
  subst e
  exact .inl ⟨⟨xs,q,Nat.le_refl _⟩,hd σ H p⟩
theorem JY{lo:Int}{n:Nat}{g:TG}{tb:TS}{D:Ends}{σ:St}{H:Hp}(Pv:Nat->St->Hp->Prop)(h0:Pv 0 σ H)
  (hs:∀i σ H,i < n->Pv i σ H->g (.int (lo+i)) σ H fun σ2 H2=>tb { D with nx:=Pv (i+1),ct:=Pv (i+1),bk:=D.nx } σ2 H2) (hd:∀σ H,Pv n σ H->D.nx σ H):
  ∃W:Nat->Nat->St->Hp->Prop,(∃m,W 0 m σ H)/\∀i m σ H,W i m σ H->
   ((Itr lo n).stop i H/\D.nx σ H)∨((Itr lo n).go i H/\∃N:St->Hp->Prop,(∀σ' H',N σ' H'->∃m',m' < m/\W (i+1) m' σ' H')/\∀x H',(Itr lo n).yld i H x H'->g x σ H' fun σ2 H2=>tb { D with nx:=N,ct:=N,bk:=D.nx } σ2 H2):=by
 refine⟨fun i m σ H=>m=n - i/\i<=n/\Pv i σ H,⟨n,by simp,Nat.zero_le _,h0⟩,?_⟩
 rintro i m σ H ⟨rfl,hi,p⟩
 by_cases hlt:i < n
 ·refine .inr ⟨hlt,Pv (i+1),fun σ' H' p'=>⟨n - (i+1),by omega,rfl,hlt,p'⟩,fun x H' y=>?_⟩
  obtain⟨e,y⟩:=y
  subst e y
  exact hs i σ _ hlt p
 ·have e:i=n:=by omega
  subst e
  exact .inl ⟨Nat.le_refl _,hd σ H p⟩
abbrev R2:=V->V->Hp->VK->Prop
def OpR(X:Cx)(f:Value->Value->Sem Value)(r:R2):Prop:=
 ∀(pins:List (Addr×Obj)) (s:Shared) (σ:St) (H:Hp) (x y:V) (v u:Value) (Q:VK),Inv X pins σ H s->RelV x v->RelV y u->r x y H Q->
  wpAny (model X.prog X.w) X.A (f v u) (EP X pins σ Q) X.xe s
def UnR(X:Cx)(f:Value->Sem Value)(r:V->Hp->VK->Prop):Prop:=
 ∀(pins:List (Addr×Obj)) (s:Shared) (σ:St) (H:Hp) (x:V) (v:Value) (Q:VK),Inv X pins σ H s->RelV x v->r x H Q->
  wpAny (model X.prog X.w) X.A (f v) (EP X pins σ Q) X.xe s
def CallR(X:Cx)(f:Value)(r:List V->Hp->VK->Prop):Prop:=
 ∀(pins:List (Addr×Obj)) (s:Shared) (σ:St) (H:Hp) (xs:List V) (us:List Value) (Q:VK),Inv X pins σ H s->Vals xs us->r xs H Q->
  wpAny (model X.prog X.w) X.A (call f us) (EP X pins σ Q) X.xe s
def TruR(X:Cx)(r:V->Hp->(Bool->Hp->Prop)->Prop):Prop:=
 ∀(pins:List (Addr×Obj)) (s:Shared) (σ:St) (H:Hp) (x:V) (v:Value) (Q:Bool->Hp->Prop),Inv X pins σ H s->RelV x v->r x H Q->
  wpAny (model X.prog X.w) X.A (truthy v) (TP X pins σ Q) X.xe s
def tOp(r:R2)(ta tb:TE):TE:=fun σ H Q=>ta σ H fun x H1=>tb σ H1 fun y H2=>r x y H2 Q
def tUn(r:V->Hp->VK->Prop)(ta:TE):TE:=fun σ H Q=>ta σ H fun x H1=>r x H1 Q
def rI(C:Int->Int->Prop)(g:Int->Int->V):R2:=fun x y H Q=>∃i j,x= .int i/\y= .int j/\C i j/\Q (g i j) H
def rI0(g:Int->Int->V):R2:=fun x y H Q=>∃i j,x= .int i/\y= .int j/\Q (g i j) H
def rU(g:Int->V):V->Hp->VK->Prop:=fun x H Q=>∃i,x= .int i/\Q (g i) H
section
variable {X:Cx}{a b c:Expr}{ta tb tc:TE}{pos:Pos}
theorem binT(ha:PE X a ta)(hb:PE X b tb){pins:List (Addr×Obj)}{s:Shared}{σ:St}{H:Hp}{R:V->V->Hp->Prop}(I:Inv X pins σ H s)
  (h:ta σ H fun x H1=>tb σ H1 fun y H2=>R x y H2) {Q:Value->Shared->Prop} {f:Value->Value->Sem Value}
  (hf:∀v u s2 x y H2,Inv X pins σ H2 s2->RelV x v->RelV y u->R x y H2->wpAny (model X.prog X.w) X.A (f v u) Q X.xe s2):
  wpAny (model X.prog X.w) X.A (eval a X.env) (fun v s₁=>wpAny (model X.prog X.w) X.A (eval b X.env) (fun u s₂=>wpAny (model X.prog X.w) X.A (f v u) Q X.xe s₂) X.xe s₁) X.xe s:=by
 refine thn (ha pins s σ H _ I h) fun v s1 ⟨x,H1,I1,r1,q1⟩=>?_
 refine thn (hb pins s1 σ H1 _ I1 q1) fun u s2 ⟨y,H2,I2,r2,q2⟩=>?_
 exact hf v u s2 x y H2 I2 r1 r2 q2
theorem ju{op:Operator}{r:R2}(ho:OpR X (binaryOp op) r)(ha:PE X a ta)(hb:PE X b tb):PE X (.BinOp a op b pos) (tOp r ta tb):=by
 intro pins s σ H Q I h
 exact wpAny_BinOp (binT ha hb I h fun v u s2 x y H2 I2 rx ry q=>ho pins s2 σ H2 x y v u Q I2 rx ry q)
theorem zY{op:UnaryOp}{r:V->Hp->VK->Prop}(ho:UnR X (unaryOp op) r)(ha:PE X a ta):PE X (.UnaryOp op a pos) (tUn r ta):=by
 intro pins s σ H Q I h
 exact UnaryOp_ (thn (ha pins s σ H _ I h) fun v s1 ⟨x,H1,I1,r1,q1⟩=>ho pins s1 σ H1 x v Q I1 r1 q1)
theorem opI{f:Value->Value->Sem Value}{C:Int->Int->Prop}{g:Int->Int->Int}
  (rule:∀(i j:Int) (t u:Tok) (s:Shared) (Q:Value->Shared->Prop) (E:Value->Shared->Prop),C i j->Q (.int (g i j) s.toks) { s with toks:=s.toks+1 }->wpAny (model X.prog X.w) X.A (f (.int i t) (.int j u)) Q E s):
  OpR X f (rI C fun i j=>.int (g i j)):=by
 intro pins s σ H x y v u Q I rx ry h
 obtain⟨i,j,rfl,rfl,hc,q⟩:=h
 obtain⟨t,rfl⟩:=rx
 obtain⟨t',rfl⟩:=ry
 exact rule i j t t' s _ _ hc ⟨.int (g i j),H,I.tok _,⟨_,rfl⟩,q⟩
theorem opI0{f:Value->Value->Sem Value}{g:Int->Int->Int}
  (rule:∀(i j:Int) (t u:Tok) (s:Shared) (Q:Value->Shared->Prop) (E:Value->Shared->Prop),Q (.int (g i j) s.toks) { s with toks:=s.toks+1 }->wpAny (model X.prog X.w) X.A (f (.int i t) (.int j u)) Q E s):
  OpR X f (rI0 fun i j=>.int (g i j)):=by
 intro pins s σ H x y v u Q I rx ry h
 obtain⟨i,j,rfl,rfl,q⟩:=h
 obtain⟨t,rfl⟩:=rx
 obtain⟨t',rfl⟩:=ry
 exact rule i j t t' s _ _ ⟨.int (g i j),H,I.tok _,⟨_,rfl⟩,q⟩
theorem opB0{f:Value->Value->Sem Value}{g:Int->Int->Bool}
  (rule:∀(i j:Int) (t u:Tok) (s:Shared) (Q:Value->Shared->Prop) (E:Value->Shared->Prop),Q (.bool (g i j)) s->wpAny (model X.prog X.w) X.A (f (.int i t) (.int j u)) Q E s):
  OpR X f (rI0 fun i j=>.bl (g i j)):=by
 intro pins s σ H x y v u Q I rx ry h
 obtain⟨i,j,rfl,rfl,q⟩:=h
 obtain⟨t,rfl⟩:=rx
 obtain⟨t',rfl⟩:=ry
 exact rule i j t t' s _ _ ⟨.bl (g i j),H,I,rfl,q⟩
def CPow(i j:Int):Prop:=0<=j/\j<=1000000/\i.natAbs < 2 ^ 64
def CMul(i j:Int):Prop:=(-(2 ^ 64) < i/\i < 2 ^ 64)∨(-(2 ^ 64) < j/\j < 2 ^ 64)
theorem CMul.ok{i j:Int}(h:CMul i j):IntMulOk i j:=by
 rcases h with ⟨h1,h2⟩ | ⟨h1,h2⟩
 ·exact .of_left (intBits_le_64 h1 h2)
 ·exact .of_right (intBits_le_64 h1 h2)
theorem jQ:OpR X (binaryOp .Add) (rI0 fun i j=>.int (i+j)):=opI0 fun _ _ _ _ _ _ _ q=>add_int q
theorem zP:OpR X (binaryOp .Sub) (rI0 fun i j=>.int (i - j)):=opI0 fun _ _ _ _ _ _ _ q=>sub_int q
theorem zF:OpR X (binaryOp .Mult) (rI CMul fun i j=>.int (i*j)):=opI fun _ _ _ _ _ _ _ hc q=>mul_int q hc.ok
theorem zG:OpR X (binaryOp .Mod) (rI (fun _ j=>0 < j) fun i j=>.int (i % j)):=opI fun i j _ _ _ _ _ hc q=>by
 have h1:(0:Int) < j:=hc
 exact mod_int' (by omega) (by rw[Int.fmod_eq_emod_of_nonneg i (by omega)];exact q)
theorem Ko:OpR X (binaryOp .Pow) (rI CPow fun i j=>.int (i ^ j.toNat)):=opI fun _ _ _ _ _ _ _ hc q=>pow_int_small hc.1 hc.2.1 hc.2.2 q
theorem unI{f:Value->Sem Value}{g:Int->Int}
  (rule:∀(i:Int) (t:Tok) (s:Shared) (Q:Value->Shared->Prop) (E:Value->Shared->Prop),Q (.int (g i) s.toks) { s with toks:=s.toks+1 }->wpAny (model X.prog X.w) X.A (f (.int i t)) Q E s):
  UnR X f (rU fun i=>.int (g i)):=by
 intro pins s σ H x v Q I rx h
 obtain⟨i,rfl,q⟩:=h
 obtain⟨t,rfl⟩:=rx
 exact rule i t s _ _ ⟨.int (g i),H,I.tok _,⟨_,rfl⟩,q⟩
theorem zk:UnR X (unaryOp .USub) (rU fun i=>.int (-i)):=unI fun _ _ _ _ _ q=>neg_int q
end
noncomputable def scal:V->V->Bool
 | .non,.non=>true | .non,.int _=>true | .int _,.non=>true | .non,.bl _=>true | .bl _,.non=>true | .non,.str _=>true | .str _,.non=>true
 | .int _,.int _=>true | .bl _,.bl _=>true | .str _,.str _=>true | .byt _,.byt _=>true
 | .int _,.str _=>true | .str _,.int _=>true | .bl _,.str _=>true | .str _,.bl _=>true
 |_,_=>false
def rEq:R2:=fun x y H Q=>scal x y=true/\Q (.bl (decide (x=y))) H
def rNe:R2:=fun x y H Q=>scal x y=true/\Q (.bl (!decide (x=y))) H
theorem Xg{i j:Int}:decide (V.int i=V.int j)=(i==j):=by
 rw[Bool.eq_iff_iff]
 simp
theorem YR{i j:Bool}:decide (V.bl i=V.bl j)=(i==j):=by
 rw[Bool.eq_iff_iff]
 simp
theorem Xh{i j:Str}:decide (V.str i=V.str j)=(i==j):=by
 rw[Bool.eq_iff_iff]
 simp
theorem Xi{i j:Array UInt8}:decide (V.byt i=V.byt j)=(i.toList==j.toList):=by
 rw[Bool.eq_iff_iff]
 cases i
 cases j
 simp
section
variable {X:Cx}{a b c:Expr}{ta tb tc:TE}{pos:Pos}
theorem jO{pins:List (Addr×Obj)}{σ:St}{H:Hp}{s:Shared}{Q:VK}{k k':Bool}(I:Inv X pins σ H s)(q:Q (.bl k) H)(e:k=k'):EP X pins σ Q (.bool k') s:=by
 subst e
 exact⟨.bl k,H,I,rfl,q⟩
theorem jI:OpR X (compareOp .Eq) rEq:=by
 intro pins s σ H x y v u Q I rx ry h
 obtain⟨hs,q⟩:=h
 cases x with
 |non=>
  cases rx
  cases y with
  |non=>cases ry;exact PySem.EqNone.eq_none_none (jO I q (by simp))
  |bl j=>cases ry;exact PySem.EqNone.eq_none_bool (jO I q (by simp))
  |int j=>obtain⟨t',rfl⟩:=ry;exact PySem.EqNone.eq_none_int (jO I q (by simp))
  |str j=>obtain⟨t',rfl⟩:=ry;exact PySem.EqNone.eq_none_str (jO I q (by simp))
  |_=>exact absurd (show false=true from hs) Bool.false_ne_true
 |bl i=>
  cases rx
  cases y with
  |non=>cases ry;exact PySem.EqNone.eq_bool_none (jO I q (by simp))
  |bl j=>cases ry;exact eq_bool (jO I q YR)
  |str j=>obtain⟨t',rfl⟩:=ry;exact PySem.EqMixed.eq_bool_str (jO I q (by simp))
  |_=>exact absurd (show false=true from hs) Bool.false_ne_true
 |int i=>
  obtain⟨t,rfl⟩:=rx
  cases y with
  |non=>cases ry;exact PySem.EqNone.eq_int_none (jO I q (by simp))
  |int j=>obtain⟨t',rfl⟩:=ry;exact eq_int (jO I q Xg)
  |str j=>obtain⟨t',rfl⟩:=ry;exact PySem.EqMixed.eq_int_str (jO I q (by simp))
  |_=>exact absurd (show false=true from hs) Bool.false_ne_true
 |str i=>
  obtain⟨t,rfl⟩:=rx
  cases y with
  |non=>cases ry;exact PySem.EqNone.eq_str_none (jO I q (by simp))
  |bl j=>cases ry;exact PySem.EqMixed.eq_str_bool (jO I q (by simp))
  |int j=>obtain⟨t',rfl⟩:=ry;exact PySem.EqMixed.eq_str_int (jO I q (by simp))
  |str j=>obtain⟨t',rfl⟩:=ry;exact eq_str (jO I q Xh)
  |_=>exact absurd (show false=true from hs) Bool.false_ne_true
 |byt i=>
  obtain⟨t,rfl⟩:=rx
  cases y with
  |byt j=>obtain⟨t',rfl⟩:=ry;exact PySem.W.eq_bytes (jO I q Xi)
  |_=>exact absurd (show false=true from hs) Bool.false_ne_true
 |_=>cases y<;>exact absurd (show false=true from hs) Bool.false_ne_true
theorem qm:OpR X (compareOp .NotEq) rNe:=by
 intro pins s σ H x y v u Q I rx ry h
 obtain⟨hs,q⟩:=h
 cases x with
 |non=>
  cases rx
  cases y with
  |non=>cases ry;exact PySem.EqNone.ne_none_none (jO I q (by simp))
  |bl j=>cases ry;exact PySem.EqNone.ne_none_bool (jO I q (by simp))
  |int j=>obtain⟨t',rfl⟩:=ry;exact PySem.EqNone.ne_none_int (jO I q (by simp))
  |str j=>obtain⟨t',rfl⟩:=ry;exact PySem.EqNone.ne_none_str (jO I q (by simp))
  |_=>exact absurd (show false=true from hs) Bool.false_ne_true
 |bl i=>
  cases rx
  cases y with
  |non=>cases ry;exact PySem.EqNone.ne_bool_none (jO I q (by simp))
  |bl j=>cases ry;exact ne_bool (jO I q (congrArg not YR))
  |str j=>obtain⟨t',rfl⟩:=ry;exact PySem.EqMixed.ne_bool_str (jO I q (by simp))
  |_=>exact absurd (show false=true from hs) Bool.false_ne_true
 |int i=>
  obtain⟨t,rfl⟩:=rx
  cases y with
  |non=>cases ry;exact PySem.EqNone.ne_int_none (jO I q (by simp))
  |int j=>obtain⟨t',rfl⟩:=ry;exact ne_int (jO I q (congrArg not Xg))
  |str j=>obtain⟨t',rfl⟩:=ry;exact PySem.EqMixed.ne_int_str (jO I q (by simp))
  |_=>exact absurd (show false=true from hs) Bool.false_ne_true
 |str i=>
  obtain⟨t,rfl⟩:=rx
  cases y with
  |non=>cases ry;exact PySem.EqNone.ne_str_none (jO I q (by simp))
  |bl j=>cases ry;exact PySem.EqMixed.ne_str_bool (jO I q (by simp))
  |int j=>obtain⟨t',rfl⟩:=ry;exact PySem.EqMixed.ne_str_int (jO I q (by simp))
  |str j=>obtain⟨t',rfl⟩:=ry;exact ne_str (jO I q (congrArg not Xh))
  |_=>exact absurd (show false=true from hs) Bool.false_ne_true
 |byt i=>
  obtain⟨t,rfl⟩:=rx
  cases y with
  |byt j=>obtain⟨t',rfl⟩:=ry;exact PySem.W.ne_bytes (jO I q (congrArg not Xi))
  |_=>exact absurd (show false=true from hs) Bool.false_ne_true
 |_=>cases y<;>exact absurd (show false=true from hs) Bool.false_ne_true
theorem qA:OpR X (compareOp .Lt) (rI0 fun i j=>.bl (decide (i < j))):=opB0 fun _ _ _ _ _ _ _ q=>lt_int q
theorem Xb:OpR X (compareOp .LtE) (rI0 fun i j=>.bl (decide (i<=j))):=opB0 fun _ _ _ _ _ _ _ q=>le_int q
theorem qo:OpR X (compareOp .Gt) (rI0 fun i j=>.bl (decide (j < i))):=opB0 fun _ _ _ _ _ _ _ q=>gt_int q
theorem op_ge:OpR X (compareOp .GtE) (rI0 fun i j=>.bl (decide (j<=i))):=opB0 fun _ _ _ _ _ _ _ q=>ge_int q
theorem XU:OpR X (compareOp .In) (fun x y H Q=>∃i j,x= .str i/\y= .str j/\Q (.bl (!(Builtin.Str.occurrences j i 0 j.length 1).isEmpty)) H):=by
 intro pins s σ H x y v u Q I rx ry h
 obtain⟨i,j,rfl,rfl,q⟩:=h
 obtain⟨t,rfl⟩:=rx
 obtain⟨t',rfl⟩:=ry
 exact in_str (jO I q rfl)
theorem nomark(b:Expr){op:CmpOp}(h:op≠ .In:=by decide)(h2:op≠ .NotIn:=by decide):behindInMarks op b=false:=by
 have e1:(op==CmpOp.In)=false:=by cases op<;>first |rfl |exact absurd rfl h
 have e2:(op==CmpOp.NotIn)=false:=by cases op<;>first |rfl |exact absurd rfl h2
 cases b<;>simp [behindInMarks,e1,e2]
theorem j5{op:CmpOp}{r:R2}(ho:OpR X (compareOp op) r)(ha:PE X a ta)(hb:PE X b tb)(hm:behindInMarks op b=false):PE X (.Compare a [op] [b] pos) (tOp r ta tb):=by
 intro pins s σ H Q I h
 exact wpAny_Compare1 (binT ha hb I h fun v u s2 x y H2 I2 rx ry q=>ho pins s2 σ H2 x y v u Q I2 rx ry q) hm
def tTest(t:TE):TT:=fun σ H Q=>t σ H fun x H'=>∃k,x= .bl k/\Q k H'
theorem jq{op:CmpOp}{r:R2}(ho:OpR X (compareOp op) r)(ha:PE X a ta)(hb:PE X b tb)(hm:behindInMarks op b=false):PT X (.Compare a [op] [b] pos) (tTest (tOp r ta tb)):=by
 intro pins s σ H Q I h
 refine wpAny_isTrue_Compare1 (thn (ha pins s σ H _ I h) fun v s1 ⟨x,H1,I1,r1,q1⟩=>thn (hb pins s1 σ H1 _ I1 q1) fun u s2 ⟨y,H2,I2,r2,q2⟩=>
  thn (ho pins s2 σ H2 x y v u _ I2 r1 r2 q2) fun c s3 ⟨z,H3,I3,r3,k,e,q3⟩=>?_) hm
 subst e
 cases r3
 exact wpAny_truthy_bool ⟨H3,I3,q3⟩
def tChain(r r':R2)(ta tb tc:TE):TE:=fun σ H Q=>ta σ H fun x H1=>tb σ H1 fun y H2=>r x y H2 fun z H3=>∃k,z= .bl k/\
 (if k=true then tc σ H3 fun w' H4=>r' y w' H4 Q else Q (.bl false) H3)
theorem Zn{op op':CmpOp}{r r':R2}(ho:OpR X (compareOp op) r)(ho':OpR X (compareOp op') r')(ha:PE X a ta)(hb:PE X b tb)(hc:PE X c tc)
  (hm:lastMarks [op,op'] [b,c]=false:=by with_unfolding_all rfl):PE X (.Compare a [op,op'] [b,c] pos) (tChain r r' ta tb tc):=by
 intro pins s σ H Q I h
 refine Compare_chain (thn (ha pins s σ H _ I h) fun v s1 ⟨x,H1,I1,r1,q1⟩=>chain_link (thn (hb pins s1 σ H1 _ I1 q1) fun u s2 ⟨y,H2,I2,r2,q2⟩=>
  thn (ho pins s2 σ H2 x y v u _ I2 r1 r2 q2) fun d s3 ⟨z,H3,I3,r3,k,e,q3⟩=>?_)) hm
 subst e
 cases r3
 refine wpAny_truthy_bool ?_
 cases k with
 |false=>exact ite_ff ⟨.bl false,H3,I3,rfl,q3⟩
 |true=>exact ite_tt (chain_last (thn (hc pins s3 σ H3 _ I3 q3) fun w' s4 ⟨z',H4,I4,r4,q4⟩=>ho' pins s4 σ H4 y z' u w' Q I4 r2 r4 q4))
theorem Zo{op op':CmpOp}{r r':R2}(ho:OpR X (compareOp op) r)(ho':OpR X (compareOp op') r')(ha:PE X a ta)(hb:PE X b tb)(hc:PE X c tc)
  (hm:lastMarks [op,op'] [b,c]=false:=by with_unfolding_all rfl):PT X (.Compare a [op,op'] [b,c] pos) (tTest (tChain r r' ta tb tc)):=by
 intro pins s σ H Q I h
 refine isTrue_chain (thn (ha pins s σ H _ I h) fun v s1 ⟨x,H1,I1,r1,q1⟩=>test_link (thn (hb pins s1 σ H1 _ I1 q1) fun u s2 ⟨y,H2,I2,r2,q2⟩=>
  thn (ho pins s2 σ H2 x y v u _ I2 r1 r2 q2) fun d s3 ⟨z,H3,I3,r3,k,e,q3⟩=>?_)) hm
 subst e
 cases r3
 refine wpAny_truthy_bool ?_
 cases k with
 |false=>
  obtain⟨k',e',q'⟩:=q3
  cases e'
  exact ite_ff ⟨H3,I3,q'⟩
 |true=>
  refine ite_tt (test_last (thn (hc pins s3 σ H3 _ I3 q3) fun w' s4 ⟨z',H4,I4,r4,q4⟩=>thn (ho' pins s4 σ H4 y z' u w' _ I4 r2 r4 q4) fun d' s5 ⟨z2,H5,I5,r5,k2,e2,q5⟩=>?_))
  subst e2
  cases r5
  exact wpAny_truthy_bool ⟨H5,I5,q5⟩
def TruV(K:Frag)(x:V)(H:Hp)(k:Bool):Prop:=
 match x with
 | .non=>k=false
 | .bl b=>k=b
 | .int i=>k=(i != 0)
 | .str y=>y.length<=sizeLine/\k=((y.length:Int) != 0)
 | .byt y=>y.size<=sizeLine/\k=((y.size:Int) != 0)
 | .ref p=>(∃xs,SqL K H p xs/\k=!xs.isEmpty)∨(∃xs,SqT K H p xs/\k=!xs.isEmpty)∨∃kvs,H p=some (.dK kvs)/\k=!kvs.isEmpty
 |_=>False
theorem QM{κ:Type}{kvs:List (κ×V)}{vs:List (κ×Value)}(r:KV kvs vs):(!vs.isEmpty)=!kvs.isEmpty:=by
 cases r<;>rfl
theorem JH{xs:List V}{its:List Value}(r:Vals xs its):(!its.toArray.isEmpty)=!xs.isEmpty:=by
 cases r<;>simp
theorem line63:(sizeLine:Nat) < 2 ^ 63:=by rw[sizeLine_eq];decide
theorem tru_ok:TruR X (fun x H Q=>∃k,TruV X.K x H k/\Q k H):=by
 intro pins s σ H x v Q I rx h
 obtain⟨k,e,q⟩:=h
 have hl:=line63
 have hs:sizeLine=16777216:=sizeLine_eq
 cases x with
 |non=>
  cases rx
  have e':k=false:=e
  subst e'
  exact truthy_none ⟨H,I,q⟩
 |bl b=>
  cases rx
  have e':k=b:=e
  subst e'
  exact wpAny_truthy_bool ⟨H,I,q⟩
 |int i=>
  obtain⟨t,rfl⟩:=rx
  have e':k=(i != 0):=e
  subst e'
  exact PySem.P.truthy_int ⟨H,I,q⟩
 |str y=>
  obtain⟨t,rfl⟩:=rx
  obtain⟨hy,e'⟩:y.length<=sizeLine/\k=((y.length:Int) != 0):=e
  subst e'
  exact PySem.P.truthy_str (by omega) ⟨H,I.tok _,q⟩
 |byt y=>
  obtain⟨t,rfl⟩:=rx
  obtain⟨hy,e'⟩:y.size<=sizeLine/\k=((y.size:Int) != 0):=e
  subst e'
  exact PySem.W.truthy_bytes (by omega) ⟨H,I.tok _,q⟩
 |ref p=>
  cases rx
  have e':(∃xs,SqL X.K H p xs/\k=!xs.isEmpty)∨(∃xs,SqT X.K H p xs/\k=!xs.isEmpty)∨∃kvs,H p=some (.dK kvs)/\k=!kvs.isEmpty:=e
  rcases e' with ⟨xs,hx,e'⟩ | ⟨xs,hx,e'⟩ | ⟨kvs,hx,e'⟩
  ·subst e'
   obtain⟨its,r,pl,hz⟩:=I.list hx
   have hlen:=r.length
   exact wpAny_truthy_list pl.isList (by simp only[List.size_toArray];omega) ⟨H,I.tok _,by rw[JH r];exact q⟩
  ·subst e'
   obtain⟨its,r,pl,hz⟩:=I.tuple hx
   have hlen:=r.length
   exact truthy_tuple pl (by simp only[List.size_toArray];omega) ⟨H,I.tok _,by rw[JH r];exact q⟩
  ·subst e'
   obtain⟨hz,hS,vs,r,m⟩:kvs.length<=sizeLine/\(p==sysModules)=false/\∃vs,KV kvs vs/\s.heap.DictOf (mixKind X.prog X.w) p vs:=I.hok p _ hx
   have hlen:kvs.length=vs.length:=Paired.length r
   exact wpAny_truthy_dict hS m (by omega) ⟨H,I.tok _,by rw[QM r];exact q⟩
 |_=>exact(show False from e).elim
theorem kG(ha:PE X a ta)(he:∀whole,isTrue a X.env whole=(do let v <- whole;standAt a.pos;holding [v] (truthy v))):
  PT X a (fun σ H Q=>ta σ H fun x H'=>∃k,TruV X.K x H' k/\Q k H'):=by
 intro pins s σ H Q I h
 exact isTrue_plain (thn (ha pins s σ H _ I h) fun v s1 ⟨x,H1,I1,r1,q1⟩=>tru_ok pins s1 σ H1 x v Q I1 r1 q1) (he _)
theorem jP:OpR X (binaryOp .Add) (fun x y H Q=>∃i j,x= .str i/\y= .str j/\i.length+j.length<=sizeLine/\Q (.str (i++j)) H):=by
 intro pins s σ H x y v u Q I rx ry h
 obtain⟨i,j,rfl,rfl,hz,q⟩:=h
 obtain⟨t,rfl⟩:=rx
 obtain⟨t',rfl⟩:=ry
 exact add_str (fun t' tk=>⟨.str (i++j),H,I.tok _,⟨_,rfl⟩,q⟩) hz
theorem vals1{x:V}{us:List Value}(r:Vals [x] us):∃u,us=[u]/\RelV x u:=by
 cases r with
 |cons r1 r2=>cases r2;exact⟨_,rfl,r1⟩
theorem vals2{x y:V}{us:List Value}(r:Vals [x,y] us):∃u w',us=[u,w']/\RelV x u/\RelV y w':=by
 cases r with
 |cons r1 r2=>
  cases r2 with
  |cons r3 r4=>cases r4;exact⟨_,_,rfl,r1,r3⟩
theorem XV(hc:X.calm=true):CallR X (.builtin "min") (fun xs H Q=>∃i j,xs=[.int i,.int j]/\Q (.int (if j < i then j else i)) H):=by
 intro pins s σ H xs us Q I r h
 obtain⟨i,j,rfl,q⟩:=h
 obtain⟨u,w',rfl,⟨t,rfl⟩,⟨t',rfl⟩⟩:=vals2 r
 refine min_two_ints (I.ok.hd hc) fun h' tk k=>⟨_,H,I.kept k,?_,q⟩
 by_cases hj:j < i
 ·rw[if_pos hj,if_pos hj];exact⟨_,rfl⟩
 ·rw[if_neg hj,if_neg hj];exact⟨_,rfl⟩
theorem JZ:CallR X (.type "int") (fun xs H Q=>(∃i,xs=[.int i]/\Q (.int i) H)∨∃k,xs=[.bl k]/\Q (.int (if k then 1 else 0)) H):=by
 intro pins s σ H xs us Q I r h
 rcases h with ⟨i,rfl,q⟩ | ⟨k,rfl,q⟩
 ·obtain⟨u,rfl,t,rfl⟩:=vals1 r
  exact call_int_int ⟨.int i,H,I,⟨_,rfl⟩,q⟩
 ·obtain⟨u,rfl,r1⟩:=vals1 r
  cases r1
  exact call_int_bool ⟨.int (if k then 1 else 0),H,I.tok _,⟨_,rfl⟩,q⟩
theorem KM:CallR X (.type "str") (fun xs H Q=>∃i,xs=[.int i]/\i.natAbs.log2 < 1920/\Q (.str (toString i)) H):=by
 intro pins s σ H xs us Q I r h
 obtain⟨i,rfl,hz,q⟩:=h
 obtain⟨u,rfl,t,rfl⟩:=vals1 r
 exact PySem.P.str_of_int hz ⟨.str _,H,I.tok _,⟨_,rfl⟩,q⟩
end
structure ObjM(h:Heap)(x dx C:Addr)(mA:Str->Option Value):Prop where
 obj:h.get? x=some (instObj C dx)
 ns:h.Ns1 dx mA
 ne:dx≠x
theorem J1{h:Heap}{dx:Addr}{mA:Str->Option Value}(n:h.Ns1 dx mA):∃od,h.get? dx=some od/\∀name,lookIn name od=some (mA name):=by
 obtain⟨o,es,ep,ho,hd,hk,_,hm⟩:=n
 refine⟨o,ho,fun name=>?_⟩
 have e:=hm name
 unfold nsFind findBy at e
 rw[<- Array.find?_toList]at e
 unfold lookIn
 rw[hd]
 dsimp only
 split
 ·rename_i y q
  rw[q]at e
  exact congrArg some e
 ·rename_i q
  rw[q]at e
  have a:es.toList.any (·.refKey)=false:=by
   rw[List.any_eq_false]
   intro y hy
   obtain⟨z,t,hkey⟩:=hk y (Array.mem_toList_iff.mp hy)
   simp [DictEntry.refKey,hkey]
  have a':¬es.toList.any (·.refKey)=true:=by rw[a];exact Bool.false_ne_true
  rw[if_neg a']
  exact congrArg some e
theorem ObjM.look{h:Heap}{x dx C:Addr}{mA:Str->Option Value}(I:ObjM h x dx C mA):∃od,PySem.W.InstAt h x (instObj C dx) C (some od)/\∀name,lookIn name od=some (mA name):=
 let ⟨od,ho,hl⟩:=J1 I.ns
 ⟨od,⟨I.obj,rfl,rfl,ho⟩,hl⟩
section
variable {prog:Program}{w:World}{A:Around}{E:Value->Shared->Prop}{s:Shared}{K:Frag}{x dx C f:Addr}{mA:Str->Option Value}{name:Str}{v:Value}
theorem get_map{expr:Bool}{Q:Value->Shared->Prop}(X:K.In s.heap)(I:ObjM s.heap x dx C mA)(hg:plainGet K C name=true)(hh:hasDictIn K C=true)
  (ha:findIn K (.ref C) name=some none) (hv:mA name=some v) (hv':PySem.W.handedIn v=true) (h:Q v { s with toks:=s.toks+1 }):
  wpAny (model prog w) A (getAttr (.ref x) name expr) Q E s:=by
 obtain⟨od,J,hl⟩:=I.look
 exact PySem.W.get_value X J (PySem.W.plainGet_of hg).1 (PySem.W.findObj_own hh ha rfl (by rw[hl,hv])) hv' h
theorem Zp{pl:Sem Bool}{Q:Value×List Value->Shared->Prop}(X:K.In s.heap)(I:ObjM s.heap x dx C mA)(hg:plainGet K C name=true)
  (hf:findIn K (.ref C) name=some (some (.ref f))) (ht:isFn K (.ref f)=true) (hv:mA name=none) (h:Q (.ref f,[.ref x]) s):
  wpAny (model prog w) A (getMethod (.ref x) name pl) Q E s:=by
 obtain⟨od,J,hl⟩:=I.look
 exact PySem.W.method_fn X J (PySem.W.plainGet_of hg).1 (PySem.W.plainGet_of hg).2 hf (beq_iff_eq.mp ht) (by show(lookIn name od).map (·.isSome)=some false;rw[hl,hv];rfl) h
theorem set_map{ns:List Str}{Q:Unit->Shared->Prop}(X:K.In s.heap)(I:ObjM s.heap x dx C mA)
  (hs:findIn K (.ref C) "__setattr__"=some (some (.builtin "object.__setattr__"))) (hp:PySem.W.plainOver K C=true) (ht:PySem.W.takerIn K C name=some none) (hh:hasDictIn K C=true)
  (hw:PySem.Within mA ns) (hsz:ns.length<=sizeLine)
  (h:∀h',ObjM h' x dx C (fun y=>if y=name then some v else mA y)->Heap.SameBut dx s.heap h'->Q () { s with heap:=h',toks:=s.toks+2 }):
  wpAny (model prog w) A (setAttr (.ref x) name v) Q E s:=by
 obtain⟨od,J,hl⟩:=I.look
 refine PySem.W.set_plain X J hs (PySem.W.osa_open (s:={ s with toks:=s.toks+1 }) (r:=none) X J hp ht fun b=>?_)
 obtain⟨cd,hc,hd'⟩:=PySem.W.any_some hh
 have hx:s.heap.get? x=some ⟨.ref C,some dx,.plain,#[]⟩:=I.obj
 refine wpAny_bind (wpAny_pure (wpAny_bind (wpAny_bind (wpAny_loadPart hx (wpAny_bind (PySem.W.Looks.here (s:={ s with toks:=s.toks+1 }) (PySem.W.looks_clsIn X hc) ?_))))))
 rw[hd']
 refine wpAny_pure (a:=some dx) (wpAny_bind (wpAny_pure (wpAny_bind ?_)))
 refine wpAny_nsSet1 (s:={ s with toks:=s.toks+1 }) I.ns fun h' hn2 hs2=>?_
 obtain⟨oD,esD,epD,hoD,hdD,hcD⟩:=hn2.count (PySem.Within.cons name v hw)
 refine wpAny_bind (wpAny_lookBehind hoD (by rw[hdD];exact pastItsLine_dict (Nat.le_trans hcD (by rw[List.length_cons];omega))) ?_)
 exact wpAny_pure (h _ ⟨(hs2.2 _ (Ne.symm I.ne)).trans I.obj,hn2,I.ne⟩ hs2)
theorem Zq{R:Result->Shared->Prop}{vs:List Value}{kw:List (Str×Value)}(X:K.In s.heap)(hm:PySem.W.makesIn K C=true)
  (hi:findIn K (.ref C) "__init__"=some (some (.ref f))) (hf:typeIn K (.ref f)=some (.type "function"))
  (h:codeAny (model prog w) (A.under (.builtin "type.__call__" ⟨.ref C::vs,kw⟩)) (.call (.ref f) ⟨.ref (s.heap.objs.size+1)::vs,kw⟩) (PySem.W.InitBack (s.heap.objs.size+1) R)
   { s with heap:=(s.heap.push emptyDict).push (instObj C s.heap.objs.size) }):
  codeAny (model prog w) A (.call (.ref C) ⟨vs,kw⟩) R s:=by
 obtain⟨hh,g,d,t,os⟩:=s
 exact PySem.W.make_core (PySem.W.makes_of X hm) (PySem.W.looks_findIn X hi) (fun self=>PySem.W.bind_fn X self hf) (.inl rfl) h
end
noncomputable def putF(f:Str)(v:V):List (Str×V)->List (Str×V)
 | []=>[(f,v)]
 | (g,x)::r=>if g=f then (g,v)::r else (g,x)::putF f v r
theorem Jb(f g:Str)(v:V):∀fs:List (Str×V),(putF f v fs).lookup g=if g=f then some v else fs.lookup g
 | []=>by
  show List.lookup g [(f,v)]=_
  by_cases h:g=f
  ·have hb:(g==f)=true:=beq_iff_eq.mpr h
   simp only[List.lookup,hb,if_pos h]
  ·have hb:(g==f)=false:=beq_eq_false_iff_ne.mpr h
   simp only[List.lookup,hb,if_neg h]
 | (k,x)::r=>by
  have ih:=Jb f g v r
  rw[show putF f v ((k,x)::r)=(if k=f then (k,v)::r else (k,x)::putF f v r) from rfl]
  by_cases hk:k=f
  ·rw[if_pos hk]
   by_cases h:g=k
   ·have hb:(g==k)=true:=beq_iff_eq.mpr h
    simp only[List.lookup,hb,if_pos (h.trans hk)]
   ·have hb:(g==k)=false:=beq_eq_false_iff_ne.mpr h
    simp only[List.lookup,hb,if_neg (fun e:g=f=>h (e.trans hk.symm))]
  ·rw[if_neg hk]
   by_cases h:g=k
   ·have hb:(g==k)=true:=beq_iff_eq.mpr h
    simp only[List.lookup,hb,if_neg (fun e:g=f=>hk (h.symm.trans e))]
   ·have hb:(g==k)=false:=beq_eq_false_iff_ne.mpr h
    simp only[List.lookup,hb]
    exact ih
theorem qV(f:Str)(v:V):∀fs:List (Str×V),f∈(putF f v fs).map (·.1)/\∀g,g∈fs.map (·.1)->g∈(putF f v fs).map (·.1)
 | []=>⟨by simp [putF],fun g h=>by simp at h⟩
 | (k,x)::r=>by
  obtain⟨i1,i2⟩:=qV f v r
  rw[show putF f v ((k,x)::r)=(if k=f then (k,v)::r else (k,x)::putF f v r) from rfl]
  by_cases hk:k=f
  ·rw[if_pos hk]
   subst hk
   exact⟨by simp,fun g h=>by simpa using h⟩
  ·rw[if_neg hk]
   refine⟨?_,fun g h=>?_⟩
   ·rw[List.map_cons]
    exact List.mem_cons_of_mem _ i1
   ·rw[List.map_cons]at h ⊢
    rcases List.mem_cons.mp h with e |e
    ·exact List.mem_cons.mpr (.inl e)
    ·exact List.mem_cons_of_mem _ (i2 g e)
theorem Jc(f:Str)(v:V):∀fs:List (Str×V),(putF f v fs).length<=fs.length+1
 | []=>by simp [putF]
 | (k,x)::r=>by
  have ih:=Jc f v r
  rw[show putF f v ((k,x)::r)=(if k=f then (k,v)::r else (k,x)::putF f v r) from rfl]
  by_cases hk:k=f
  ·rw[if_pos hk,List.length_cons,List.length_cons];omega
  ·rw[if_neg hk,List.length_cons,List.length_cons];omega
theorem RelO.some_of{v:V}{o:Option Value}(r:RelO (some v) o):∃u,o=some u/\RelV v u:=by
 cases o with
 |none=>exact(show False from r).elim
 |some u=>exact⟨u,rfl,r⟩
theorem RelO.none_of{o:Option Value}(r:RelO none o):o=none:=by
 cases o with
 |none=>rfl
 |some u=>exact(show False from r).elim
theorem J2{v:V}{u:Value}(r:RelV v u):PySem.W.handedIn u=true:=by
 cases v with
 |non=>cases (show u=Value.none from r);rfl
 |bl b=>cases (show u=Value.bool b from r);rfl
 |int i=>obtain⟨t,e⟩:=(show ∃t,u=Value.int i t from r);cases e;rfl
 |str x=>obtain⟨t,e⟩:=(show ∃t,u=Value.str x t from r);cases e;rfl
 |byt b=>obtain⟨t,e⟩:=(show ∃t,u=Value.bytes b t from r);cases e;rfl
 |flt b=>obtain⟨t,e⟩:=(show ∃t,u=Value.float b t from r);cases e;rfl
 |ref a=>cases (show u=Value.ref a from r);rfl
 |ty n=>cases (show u=Value.type n from r);rfl
section
variable {P:Program}{w:World}{H H':Hp}{h h':Heap}{a C dx:Addr}{fs fs':List (Str×V)}
theorem Jk(hok:HOk P w H h)(e:H a=some (.ins C dx fs)):∃mA,ObjM h a dx C mA/\(∀f,RelO (fs.lookup f) (mA f))/\PySem.Within mA (fs.map (·.1))/\fs.length<=1000/\H dx=some (.own a):=by
 obtain⟨d,z,ne,ob,mA,n,r,q⟩:=(show ObjOk P w H h a (.ins C dx fs) from hok a _ e)
 exact⟨mA,⟨ob,n,ne⟩,r,q,z,d⟩
end
structure Cls(K:Frag)(C:Addr):Prop where
 pg:plainGet K C Str.empty=true
 hd:hasDictIn K C=true
 po:PySem.W.plainOver K C=true
 sa:findIn K (.ref C) "__setattr__"=some (some (.builtin "object.__setattr__"))
theorem Cls.get{K:Frag}{C:Addr}(c:Cls K C)(f:Str):plainGet K C f=true:=c.pg
def NoAttr(K:Frag)(C:Addr)(f:Str):Prop:=findIn K (.ref C) f=some none
theorem NoAttr.taker{K:Frag}{C:Addr}{f:Str}(n:NoAttr K C f):PySem.W.takerIn K C f=some none:=by
 unfold PySem.W.takerIn
 rw[show findIn K (.ref C) f=some none from n]
 rfl
structure Meth(K:Frag)(C:Addr)(m:Str)(f:Addr):Prop where
 at_:findIn K (.ref C) m=some (some (.ref f))
 fn:isFn K (.ref f)=true
 kp:keepIn K (.ref f)=true
section
variable {X:Cx}{pins:List (Addr×Obj)}{σ:St}{H:Hp}{s:Shared}{a C dx:Addr}{fs:List (Str×V)}{f:Str}{v:V}{A:Around}{E:Value->Shared->Prop}
theorem QN{b:Bool}{Q:Value->Shared->Prop}(I:Inv X pins σ H s)(e:H a=some (.ins C dx fs))(c:Cls X.K C)(n:NoAttr X.K C f)(l:fs.lookup f=some v)
  (h:∀u s',Inv X pins σ H s'->RelV v u->Q u s'):wpAny (model X.prog X.w) A (getAttr (.ref a) f b) Q E s:=by
 obtain⟨mA,O,r,_,_,_⟩:=Jk I.hok e
 obtain⟨u,hu,ru⟩:=RelO.some_of (v:=v) (o:=mA f) (by rw[<- l];exact r f)
 exact get_map I.kIn O (c.get f) c.hd n hu (J2 ru) (h u _ (I.tok _) ru)
theorem JI{m:Str}{g:Addr}{pl:Sem Bool}{Q:Value×List Value->Shared->Prop}(I:Inv X pins σ H s)(e:H a=some (.ins C dx fs))(c:Cls X.K C)(k:Meth X.K C m g)(l:fs.lookup m=none)
  (h:Q (.ref g,[.ref a]) s):wpAny (model X.prog X.w) A (getMethod (.ref a) m pl) Q E s:=by
 obtain⟨mA,O,r,_,_,_⟩:=Jk I.hok e
 have hn:mA m=none:=RelO.none_of (by rw[<- l];exact r m)
 exact Zp I.kIn O (c.get m) k.at_ k.fn hn h
theorem QO{y:V}{u:Value}{Q:Unit->Shared->Prop}(I:Inv X pins σ H s)(e:H a=some (.ins C dx fs))(c:Cls X.K C)(n:NoAttr X.K C f)(hl:fs.length < 1000)(ry:RelV y u)
  (h:∀s',Inv X pins σ (upd H a (.ins C dx (putF f y fs))) s'->Q () s'):wpAny (model X.prog X.w) A (setAttr (.ref a) f u) Q E s:=by
 obtain⟨mA,O,r,wi,_,ho⟩:=Jk I.hok e
 have hz:(fs.map (·.1)).length<=sizeLine:=by rw[List.length_map,sizeLine_eq];omega
 refine set_map I.kIn O c.sa c.po n.taker c.hd wi hz fun h' O' sb=>h _ ?_
 have hd:∃o,h'.get? dx=some o:=let ⟨o,_,_,e',_⟩:=O'.ns;⟨o,e'⟩
 refine I.write (x:=a) (e:=dx) (by rw[e];exact True.intro) (.inr ho) (fun b q hb z=>(sb.2 b hb).trans z) hd ?_
 refine⟨by rw[jh O.ne];exact ho,?_,O.ne,O'.obj,_,O'.ns,fun g=>?_,fun g hg=>?_⟩
 ·have:=Jc f y fs;omega
 ·show RelO ((putF f y fs).lookup g) (if g=f then some u else mA g)
  rw[Jb]
  by_cases q:g=f
  ·rw[if_pos q,if_pos q];exact ry
  ·rw[if_neg q,if_neg q];exact r g
 ·by_cases q:g=f
  ·rw[q];exact(qV f y fs).1
  ·refine(qV f y fs).2 g (wi g fun z=>hg ?_)
   show(if g=f then some u else mA g)=none
   rw[if_neg q];exact z
theorem Inv.made(I:Inv X pins σ H s):Inv X pins σ (upd (upd H s.heap.objs.size (.own (s.heap.objs.size+1))) (s.heap.objs.size+1) (.ins C s.heap.objs.size []))
  { s with heap:=(s.heap.push emptyDict).push (instObj C s.heap.objs.size) }:=by
 have e1:(s.heap.push emptyDict).get? s.heap.objs.size=some emptyDict:=Heap.get?_push_size s.heap rfl
 have e2:((s.heap.push emptyDict).push (instObj C s.heap.objs.size)).get? (s.heap.objs.size+1)=some (instObj C s.heap.objs.size):=by
  have:=Heap.get?_push_size (s.heap.push emptyDict) (o:=instObj C s.heap.objs.size) rfl
  rwa [Heap.size_push]at this
 have e3:(s.heap.push emptyDict).Ns s.heap.objs.size (fun _=>none):=⟨emptyDict,#[],_,e1,rfl,(fun e he=>absurd he (by simp)),fun _=>rfl⟩
 have I1:=I.laid (a:=s.heap.objs.size) (o:=.own (s.heap.objs.size+1)) (h':=s.heap.push emptyDict) (t':=s.toks) (fun b u q=>Heap.get?_push_of_some _ q) (Nat.le_refl _) ⟨_,e1⟩
 refine I1.laid (a:=s.heap.objs.size+1) (o:=.ins C s.heap.objs.size []) (t':=s.toks) (fun b u q=>Heap.get?_push_of_some _ q) (Nat.le_of_eq (Heap.size_push _ _)) ?_
 have ne:s.heap.objs.size≠s.heap.objs.size+1:=Nat.ne_of_lt (Nat.lt_succ_self _)
 refine⟨by rw[jh ne,jb],Nat.zero_le _,ne,e2,fun _=>none,(Heap.Ns1.of_empty e3).at fun o q=>Heap.get?_push_of_some _ q,fun _=>True.intro,fun y hy=>absurd rfl hy⟩
theorem Xj{prog:Program}{w:World}{env:Env}{e:Expr}{f:Str}{pos:Pos}{s:Shared}{Q:Value->Shared->Prop}(hb:attributeBase e f env (eval e env)=eval e env)
  (h:wpAny (model prog w) A (eval e env) (fun o s₁=>wpAny (model prog w) A (getAttr o f true) Q E s₁) E s):wpAny (model prog w) A (eval (.Attribute e f pos) env) Q E s:=
 Attribute_any_ h (by rw[arm_eval_Attribute,hb])
end
def tFld(K:Frag)(ta:TE)(f:Str):TE:=fun σ H Q=>ta σ H fun x H1=>∃a C dx fs v,x= .ref a/\H1 a=some (.ins C dx fs)/\Cls K C/\NoAttr K C f/\fs.lookup f=some v/\Q v H1
def sFld(K:Frag)(ta tv:TE)(f:Str):TS:=fun D σ H=>tv σ H fun y H1=>ta σ H1 fun x H2=>∃a C dx fs,x= .ref a/\H2 a=some (.ins C dx fs)/\Cls K C/\NoAttr K C f/\fs.length < 1000/\
 D.nx σ (upd H2 a (.ins C dx (putF f y fs)))
section
variable {X:Cx}{o e value:Expr}{f:Str}{pos pos' tpos:Pos}{ta tv:TE}
theorem jT(he:PE X e ta)(hb:attributeBase e f X.env (eval e X.env)=eval e X.env):PE X (.Attribute e f pos) (tFld X.K ta f):=by
 intro pins s σ H Q I h
 refine Xj hb (thn (he pins s σ H _ I h) fun u s1 ⟨x,H1,I1,rx,a,C,dx,fs,v,ex,ea,c,n,l,q⟩=>?_)
 subst ex
 obtain rfl:u=Value.ref a:=rx
 exact QN I1 ea c n l fun u' s2 I2 ru=>⟨v,H1,I2,ru,q⟩
theorem Kq(ha:PE X o ta)(hv:PE X value tv)(hs:swapsWith value (some (.Attribute o f pos')) pos.line X.env=pure false):PS X (.Assign [.Attribute o f pos'] value pos) (sFld X.K ta tv f):=by
 intro pins s σ H D I h
 refine plainObj_wpAny_Assign_Attribute (thn (hv pins s σ H _ I h) fun u s1 ⟨y,H1,I1,ry,q⟩=>thn (ha pins s1 σ H1 _ I1 q) fun ov s2 ⟨x,H2,I2,rx,a,C,dx,fs,ex,ea,c,n,l,q2⟩=>?_) hs
 subst ex
 obtain rfl:ov=Value.ref a:=rx
 exact QO I2 ea c n l ry fun s3 I3=>⟨σ,_,I3,q2⟩
end
section
variable {X:Cx}{pins:List (Addr×Obj)}{σ:St}{H:Hp}{s:Shared}{A:Around}{E:Value->Shared->Prop}{Q:Value->Shared->Prop}{c:Value}{b:Bool}
inductive TyOf(K:Frag)(H:Hp):V->Value->Prop where
 |non:TyOf K H .non (.type "NoneType")
 |bl (x:Bool):TyOf K H (.bl x) (.type "bool")
 |int (i:Int):TyOf K H (.int i) (.type "int")
 |str (x:Str):TyOf K H (.str x) (.type "str")
 |flt (x:UInt64):TyOf K H (.flt x) (.type "float")
 |lst {a:Addr} {xs:List V} (e:H a=some (.lst xs)):TyOf K H (.ref a) (.type "list")
 |frz {a:Addr} {o:Obj} {xs:List V} (e:H a=some (.frz o (.lst xs))):TyOf K H (.ref a) (.type "list")
 |tup {a:Addr} {xs:List V} (e:H a=some (.tup xs)):TyOf K H (.ref a) (.type "tuple")
 |dK {a:Addr} {kvs:List (Key×V)} (e:H a=some (.dK kvs)):TyOf K H (.ref a) (.type "dict")
 |dT {a:Addr} {kvs:List (List Key×V)} (e:H a=some (.dT kvs)):TyOf K H (.ref a) (.type "dict")
 |ins {a C dx:Addr} {fs:List (Str×V)} (e:H a=some (.ins C dx fs)) (cl:Cls K C) (ha:findIn K (.ref C) "__class__"=some (some (.builtin "object.__class__")))
   (hn:specialIn K (.builtin "object.__class__") "__get__"=some (some (.builtin "getset_descriptor.__get__"))) (htk:PySem.W.takesIn K (.builtin "object.__class__")=some true)
   (hm:mroIn K C (.type "object")=some true):TyOf K H (.ref a) (.ref C)
theorem XX{x:V}{u t:Value}(I:Inv X pins σ H s)(rx:RelV x u)(ty:TyOf X.K H x t)(e:kitOne X.K t c=some b)(h:∀tk,Q (.bool b) { s with toks:=tk }):
  wpAny (model X.prog X.w) A (call (.builtin "isinstance") [u,c]) Q E s:=by
 cases ty with
 |non=>cases (show u=Value.none from rx);exact kia_one PySem.W.kitx_none I.kIn True.intro e (fun z=>nomatch z) h
 |bl y=>cases (show u=Value.bool y from rx);exact kia_one PySem.W.kitx_bool I.kIn True.intro e (fun z=>nomatch z) h
 |int i=>obtain⟨t,q⟩:=(show ∃t,u=Value.int i t from rx);cases q;exact kia_one PySem.W.kitx_int I.kIn True.intro e (fun z=>nomatch z) h
 |str y=>obtain⟨t,q⟩:=(show ∃t,u=Value.str y t from rx);cases q;exact kia_one PySem.W.kitx_str I.kIn True.intro e (fun z=>nomatch z) h
 |flt y=>obtain⟨t,q⟩:=(show ∃t,u=Value.float y t from rx);cases q;exact kia_one PySem.W.kitx_float I.kIn True.intro e (fun z=>nomatch z) h
 | @lst a xs ea=>
  cases (show u=Value.ref a from rx)
  obtain⟨_,_,n,_,h1⟩:=(show ObjOk X.prog X.w H s.heap a (.lst xs) from I.hok a _ ea)
  exact kia_one PySem.W.kitx_list I.kIn ⟨_,h1,rfl⟩ e (fun z=>nomatch z) h
 | @frz a ob xs ea=>
  cases (show u=Value.ref a from rx)
  obtain⟨_,_,_,n,_,h1⟩:=(show ObjOk X.prog X.w H s.heap a (.frz ob (.lst xs)) from I.hok a _ ea)
  exact kia_one PySem.W.kitx_list I.kIn ⟨_,h1,rfl⟩ e (fun z=>nomatch z) h
 | @tup a xs ea=>
  cases (show u=Value.ref a from rx)
  obtain⟨_,_,_,p⟩:=(show ObjOk X.prog X.w H s.heap a (.tup xs) from I.hok a _ ea)
  obtain⟨o,h1,h2,_⟩:=p
  exact kia_one PySem.W.kitx_tuple I.kIn ⟨o,h1,h2⟩ e (fun z=>nomatch z) h
 | @dK a kvs ea=>
  cases (show u=Value.ref a from rx)
  obtain⟨_,_,vs,_,p⟩:=(show ObjOk X.prog X.w H s.heap a (.dK kvs) from I.hok a _ ea)
  obtain⟨o,es,ep,h1,h2,_⟩:=p
  exact kia_one PySem.W.kitx_dict I.kIn ⟨o,h1,h2.1⟩ e (fun z=>nomatch z) h
 | @dT a kvs ea=>
  cases (show u=Value.ref a from rx)
  obtain⟨_,_,xs,_,o,es,ep,h1,h2,_⟩:=(show ObjOk X.prog X.w H s.heap a (.dT kvs) from I.hok a _ ea)
  exact kia_one PySem.W.kitx_dict I.kIn ⟨o,h1,h2.1⟩ e (fun z=>nomatch z) h
 | @ins a C dx fs ea cl ha hn htk hm=>
  cases (show u=Value.ref a from rx)
  obtain⟨mA,O,_⟩:=Jk I.hok ea
  obtain⟨od,J,_⟩:=O.look
  exact kia_one (PySem.W.kitx_own (cl.get _) cl.hd ha hn htk hm) I.kIn J e (fun z=>nomatch z) h
end
structure Room(k:Nat)(A:Around):Prop where
 hd:A.handled=none
 dp:A.depth+3*k+5 < recursionLimit
 un:A.units+16*k+200 < cLine
theorem Room.mono{j k:Nat}{A:Around}(r:Room k A)(h:j<=k):Room j A:=⟨r.hd,by have:=r.dp;omega,by have:=r.un;omega⟩
theorem Room.deeper{k:Nat}{A:Around}(r:Room (k+1) A)(env:Env):Room k (A.deeper env):=
 ⟨r.hd,by have:=r.dp;show A.depth+1+3*k+5 < _;omega,by have:=r.un;show A.units+3+16*k+200 < _;omega⟩
theorem QP{A:Around}{C:Addr}{us:List Value}{kw:List (Str×Value)}:(A.under (.builtin "type.__call__" ⟨.ref C::us,kw⟩)).depth=A.depth+1:=by
 first |rfl |simp [Around.under,Code.weight,Code.isCreation,Code.isGuard,Code.isCaller,Code.frames,Code.isFrame,guardIds]
theorem QQ{A:Around}{C:Addr}{us:List Value}{kw:List (Str×Value)}:(A.under (.builtin "type.__call__" ⟨.ref C::us,kw⟩)).units=A.units+1:=by
 first |rfl |simp [Around.under,Code.cUnits,Code.frames,Code.isFrame]
theorem Room.make{k:Nat}{A:Around}(r:Room (k+1) A)(C:Addr)(us:List Value)(kw:List (Str×Value)):Room k (A.under (.builtin "type.__call__" ⟨.ref C::us,kw⟩)):=
 ⟨r.hd,by have:=r.dp;rw[QP];omega,by have:=r.un;rw[QQ];omega⟩
theorem Room.depth{k:Nat}{A:Around}(r:Room k A):A.depth < recursionLimit:=by have:=r.dp;omega
theorem Room.units{k:Nat}{A:Around}(r:Room k A):A.units+64 < cLine:=by have:=r.un;omega
def tNil:TA:=fun _ H Q=>Q [] H
def tCons(ta:TE)(tr:TA):TA:=fun σ H Q=>ta σ H fun x H1=>tr σ H1 fun xs H2=>Q (x::xs) H2
section
variable {X:Cx}{e:Expr}{es:List Expr}{te:TE}{t:TA}{pos:Pos}
theorem jc:PA X [] tNil:=fun _ _ _ _ H Q I h=>Calls.spliced_nil ⟨[],H,I,.nil,h⟩
theorem ja(ha:PE X e te)(hr:PA X es t)(hs:starEach (e::es) X.env=(false,eval e X.env)::starEach es X.env:=by rfl):PA X (e::es) (tCons te t):=by
 intro pos pins s σ H Q I h
 rw[hs]
 show wpAny _ _ (spliced ((false,eval e X.env)::backTo pos (starEach es X.env))) _ _ s
 refine Calls.spliced_cons (thn (ha pins s σ H _ I h) fun u s1 ⟨x,H1,I1,r1,q1⟩=>?_)
 exact thn (hr pos pins s1 σ H1 _ I1 q1) fun us s2 ⟨xs,H2,I2,r2,q2⟩=>⟨x::xs,H2,I2,.cons r1 r2,q2⟩
def tTup(t:TA):TE:=fun σ H Q=>t σ H fun xs H1=>xs.length<=sizeLine/\∀p,H1 p=none->Q (.ref p) (upd H1 p (.tup xs))
def tLst(t:TA):TE:=fun σ H Q=>t σ H fun xs H1=>xs.length<=sizeLine/\∀p,H1 p=none->Q (.ref p) (upd H1 p (.lst xs))
theorem jH{x1}(h:PA X es t):PE X (.Tuple es x1 pos) (tTup t):=by
 intro pins s σ H Q I hq
 refine wpAny_Tuple_spliced (thn (h pos pins s σ H _ I hq) fun us s1 ⟨xs,H1,I1,r,z,q⟩=>⟨by rw[<- r.length];exact z,?_⟩)
 have hf:H1 s1.heap.objs.size=none:=I1.hok.fresh (Nat.le_refl _)
 refine⟨.ref s1.heap.objs.size,upd H1 s1.heap.objs.size (.tup xs),I1.laid (t':=s1.toks) (fun b u e=>Heap.get?_push_of_some _ e) (Nat.le_refl _) ?_,rfl,q _ hf⟩
 exact⟨z,us,r,⟨_,Heap.get?_push_size _ rfl,rfl,_,rfl⟩⟩
theorem jC(h:PA X es t):PE X (.List es pos) (tLst t):=by
 intro pins s σ H Q I hq
 refine wpAny_List_spliced (thn (h pos pins s σ H _ I hq) fun us s1 ⟨xs,H1,I1,r,z,q⟩=>⟨by rw[<- r.length];exact z,?_⟩)
 have hf:H1 s1.heap.objs.size=none:=I1.hok.fresh (Nat.le_refl _)
 refine⟨.ref s1.heap.objs.size,upd H1 s1.heap.objs.size (.lst xs),I1.laid (t':=s1.toks) (fun b u e=>Heap.get?_push_of_some _ e) (Nat.le_refl _) ?_,rfl,q _ hf⟩
 exact⟨z,us,0,r,Heap.get?_push_size _ rfl⟩
end
abbrev Sp:=List V->Hp->VK->XK->Prop
abbrev CXT:=List Env->Hp->Shared->XK->Value->Shared->Prop
structure Env0(P:Program)(w:World)(K:Frag)(mg:Str->Option Value)(base:Heap)(A:Around)(outer:List Env)(s:Shared)(H:Hp):Prop where
 frames:A.frames=some outer
 mod:Mod K mg base
 bs:∀b o,base.get? b=some o->s.heap.get? b=some o/\H b=none
 bsz:base.objs.size<=s.heap.objs.size
 funs:s.heap.FunFrames base outer
 frf:∀b∈frs outer,H b=none
 hok:HOk P w H s.heap
 bare:AllBare s.gens
def CE(outer:List Env)(P:Program)(w:World)(H:Hp)(s:Shared)(Q:VK)(u:Value)(s':Shared):Prop:=
 ∃v H',s'.os=s.os/\AllBare s'.gens/\Un (frs outer) [] H H' s.heap s'.heap/\HOk P w H' s'.heap/\RelV v u/\Q v H'
def CR(CX:CXT)(outer:List Env)(P:Program)(w:World)(H:Hp)(s:Shared)(Q:VK)(E:XK)(r:Result)(s':Shared):Prop:=
 match r with
 | .ok (.ret u)=>CE outer P w H s Q u s'
 | .ok _=>False
 | .error e=>CX outer H s E e s'
structure FnOk(P:Program)(w:World)(K:Frag)(mg:Str->Option Value)(base:Heap)(CX:CXT)(k:Nat)(f:Addr)(fd:FuncData)(ps:List Str)(sp:Sp):Prop where
 len:∀vs H Q E,sp vs H Q E->vs.length=ps.length
 run:∀(A:Around) (outer:List Env) (s:Shared) (H:Hp) (args:Args) (us:List Value) (vs:List V) (Q:VK) (E:XK),Room k A->Env0 P w K mg base A outer s H->BindsTo s fd args (ps.zip us)->Vals vs us->sp vs H Q E->
  codeAny (model P w) A (.call (.ref f) args) (CR CX outer P w H s Q E) s
theorem Env0.make{P:Program}{w:World}{K:Frag}{mg:Str->Option Value}{base:Heap}{A:Around}{outer:List Env}{s:Shared}{H:Hp}(e:Env0 P w K mg base A outer s H)(C:Addr)(us:List Value)(kw:List (Str×Value)):
  Env0 P w K mg base (A.under (.builtin "type.__call__" ⟨.ref C::us,kw⟩)) outer s H:=⟨by first |exact e.frames | (simpa [Around.under,Code.envs,Code.isFrame,pushEnvs] using e.frames),e.mod,e.bs,e.bsz,e.funs,e.frf,e.hok,e.bare⟩
section
variable {X:Cx}{pins:List (Addr×Obj)}{σ:St}{H:Hp}{s s':Shared}
theorem Inv.env0(I:Inv X pins σ H s):Env0 X.prog X.w X.K X.mg X.base X.A X.stack s H:=
 ⟨I.ok.frames,I.ok.mod,I.bs,Nat.le_trans I.ok.bsz I.sz,I.stack,I.stkFree,I.hok,I.bare⟩
theorem Inv.after{Q:VK}{u:Value}(I:Inv X pins σ H s)(h:CE X.stack X.prog X.w H s Q u s'):EP X pins σ Q u s':=by
 obtain⟨v,H',os,bare,un,hok,r,q⟩:=h
 obtain⟨hh,g,d,t,os'⟩:=s'
 obtain rfl:os'=s.os:=os
 exact⟨v,H',I.call (h':=hh) (g':=g) (d':=d) (t':=t) (ch:=[]) un hok bare (fun b z=>absurd z (by simp)),r,q⟩
end
def tCall(sp:Sp)(dvs:List V)(E:XK)(t:TA):TE:=fun σ H Q=>t σ H fun vs H1=>sp (vs++dvs) H1 Q E
def tMeth(C:Addr)(m:Str)(sp:Sp)(dvs:List V)(E:XK)(ta:TE)(t:TA):TE:=fun σ H Q=>ta σ H fun x H1=>∃a dx fs,x= .ref a/\H1 a=some (.ins C dx fs)/\fs.lookup m=none/\
 t σ H1 fun vs H2=>sp (x::(vs++dvs)) H2 Q E
def tMake(C:Addr)(sp:Sp)(dvs:List V)(E:XK)(t:TA):TE:=fun σ H Q=>t σ H fun vs H1=>∀x dx,H1 x=none->H1 dx=none->dx≠x->
 sp (.ref x::(vs++dvs)) (upd (upd H1 dx (.own x)) x (.ins C dx [])) (fun v H2=>v= .non/\Q (.ref x) H2) E
def Binds(K:Frag)(fd:FuncData)(ps:List Str)(ds:List Value):Prop:=
 ∀(s:Shared) (us:List Value),K.In s.heap->(us++ds).length=ps.length->BindsTo s fd ⟨us,[]⟩ (ps.zip (us++ds))
theorem Binds.all{K:Frag}{fd:FuncData}{ps:List Str}(h:∀us:List Value,us.length=ps.length->bindArgs fd ⟨us,[]⟩=pure (ps.zip us)):Binds K fd ps []:=fun s us _ hl=>by
 rw[List.append_nil]at hl ⊢
 exact .of_eq (h us hl)
def Passes(CX:CXT)(X:Cx)(E:XK):Prop:=∀(pins:List (Addr×Obj)) (σ:St) (H:Hp) (s:Shared) (e:Value) (s':Shared),Inv X pins σ H s->CX X.stack H s E e s'->X.xe e s'
section
variable {X:Cx}{CX:CXT}{k:Nat}{f C:Addr}{fd:FuncData}{ps:List Str}{sp:Sp}{dvs:List V}{ds:List Value}{E:XK}{x m:Str}{p pos apos:Pos}{e o:Expr}{es:List Expr}{ta:TE}{t:TA}
theorem Kr{pins:List (Addr×Obj)}{σ:St}{H:Hp}{s:Shared}{Q:VK}{us:List Value}{vs:List V}(F:FnOk X.prog X.w X.K X.mg X.base CX k f fd ps sp)(hr:Room k X.A)(hb:Binds X.K fd ps ds)(hd:Vals dvs ds)(hx:Passes CX X E)
  (I:Inv X pins σ H s) (r:Vals vs us) (h:sp (vs++dvs) H Q E):wpAny (model X.prog X.w) X.A (call (.ref f) us) (EP X pins σ Q) X.xe s:=by
 have r2:Vals (vs++dvs) (us++ds):=r.append hd
 have hl:(us++ds).length=ps.length:=by rw[<- r2.length];exact F.len _ _ _ _ h
 refine wpAny_call (codeAny_mono (F.run X.A X.stack s H ⟨us,[]⟩ (us++ds) (vs++dvs) Q E hr I.env0 (hb s us I.kIn hl) r2 h) fun r s' hq=>?_)
 cases r with
 |error e=>exact hx pins σ H s e s' I hq
 |ok fl=>
  cases fl with
  |ret u=>exact I.after hq
  |next=>exact False.elim hq
  |brk=>exact False.elim hq
  |cont=>exact False.elim hq
theorem ji(F:FnOk X.prog X.w X.K X.mg X.base CX k f fd ps sp)(hr:Room k X.A)(hg:Gl X x)(hm:X.mg x=some (.ref f))(hk:keepIn X.K (.ref f)=true)(hb:Binds X.K fd ps ds)(hd:Vals dvs ds)(hx:Passes CX X E)
  (ha:PA X (e::es) t) (hdb:(x==("__debug__":Str))=false:=by decide) (he:starEach (e::es) X.env=(false,eval e X.env)::starEach es X.env:=by rfl) (hpl:(backTo pos (starEach es X.env)).any (·.1)=false:=by rfl):
  PE X (.Call (.Name x p) (e::es) [] pos) (tCall sp dvs E t):=by
 intro pins s σ H Q I h
 refine wpAny_Call_Name_kw (zn I hg hm ?_ hdb)
 refine callWith_K (h₀:=X.base) I.ok.mod.kin hk (thn (ha pos pins s σ H _ I h) fun us s1 ⟨vs,H1,I1,r,q⟩=>⟨I1.kIn,?_⟩) he hpl
 exact Kr F hr hb hd hx I1 r q
theorem Zr(F:FnOk X.prog X.w X.K X.mg X.base CX k f fd ps sp)(hr:Room k X.A)(hg:Gl X x)(hm:X.mg x=some (.ref f))(hk:keepIn X.K (.ref f)=true)(hb:Binds X.K fd ps ds)(hd:Vals dvs ds)(hx:Passes CX X E)
  (hdb:(x==("__debug__":Str))=false:=by decide):PE X (.Call (.Name x p) [] [] pos) (tCall sp dvs E tNil):=by
 intro pins s σ H Q I h
 refine wpAny_Call_Name_kw (zn I hg hm ?_ hdb)
 exact PySem.W.callWith_K0 I.kIn hk (Kr (us:=[]) F hr hb hd hx I .nil h)
theorem qB{pl:Sem Bool}(he:PE X o ta)(c:Cls X.K C)(hm:Meth X.K C m f)(F:FnOk X.prog X.w X.K X.mg X.base CX k f fd ps sp)(hr:Room k X.A)(hb:Binds X.K fd ps ds)(hd:Vals dvs ds)(hx:Passes CX X E)(ha:PA X (e::es) t)
  (hst:starEach (e::es) X.env=(false,eval e X.env)::starEach es X.env:=by rfl) (hpl:(backTo pos (starEach es X.env)).any (·.1)=false:=by rfl)
  (ht:eval (.Call (.Attribute o m apos) (e::es) [] pos) X.env=(do
   let ov <- eval o X.env
   standAt apos.atName
   let (f,first) <- holding [ov] (getMethod ov m pl)
   callWith pos f first (backTo pos (starEach (e::es) X.env)) (backToKw pos (keywordEach [] X.env))):=by rfl):
  PE X (.Call (.Attribute o m apos) (e::es) [] pos) (tMeth C m sp dvs E ta t):=by
 intro pins s σ H Q I h
 refine PySem.W.methodCall_KW (pl:=pl) (thn (he pins s σ H _ I h) fun u s1 ⟨x,H1,I1,rx,a,dx,fs,ex,ea,l,q⟩=>?_) ht
 subst ex
 obtain rfl:u=Value.ref a:=rx
 refine JI I1 ea c hm l ?_
 refine callWith_K (first:=[.ref a]) (h₀:=X.base) I.ok.mod.kin hm.kp (thn (ha pos pins s1 σ H1 _ I1 q) fun us s2 ⟨vs,H2,I2,r,q2⟩=>⟨I2.kIn,?_⟩) hst hpl
 exact Kr (us:=.ref a::us) (vs:=.ref a::vs) F hr hb hd hx I2 (.cons rfl r) q2
theorem zI{pl:Sem Bool}(he:PE X o ta)(c:Cls X.K C)(hm:Meth X.K C m f)(F:FnOk X.prog X.w X.K X.mg X.base CX k f fd ps sp)(hr:Room k X.A)(hb:Binds X.K fd ps ds)(hd:Vals dvs ds)(hx:Passes CX X E)
  (ht:eval (.Call (.Attribute o m apos) [] [] pos) X.env=(do
   let ov <- eval o X.env
   standAt apos.atName
   let (f,first) <- holding [ov] (getMethod ov m pl)
   callWith pos f first (backTo pos (starEach [] X.env)) (backToKw pos (keywordEach [] X.env))):=by rfl):
  PE X (.Call (.Attribute o m apos) [] [] pos) (tMeth C m sp dvs E ta tNil):=by
 intro pins s σ H Q I h
 refine PySem.W.methodCall_KW (pl:=pl) (thn (he pins s σ H _ I h) fun u s1 ⟨x,H1,I1,rx,a,dx,fs,ex,ea,l,q⟩=>?_) ht
 subst ex
 obtain rfl:u=Value.ref a:=rx
 refine JI I1 ea c hm l ?_
 exact PySem.W.callWith_K0 (first:=[.ref a]) I1.kIn hm.kp (Kr (us:=[.ref a]) (vs:=[.ref a]) F hr hb hd hx I1 (.cons rfl .nil) q)
structure Mk(K:Frag)(C f:Addr):Prop where
 makes:PySem.W.makesIn K C=true
 init:findIn K (.ref C) "__init__"=some (some (.ref f))
 fn:isFn K (.ref f)=true
 kp:keepIn K (.ref C)=true
theorem KZ{pins:List (Addr×Obj)}{σ:St}{H:Hp}{s:Shared}{Q:VK}{us:List Value}{vs:List V}(M:Mk X.K C f)(F:FnOk X.prog X.w X.K X.mg X.base CX k f fd ps sp)(hr:Room (k+1) X.A)(hb:Binds X.K fd ps ds)(hd:Vals dvs ds)
  (hx:Passes CX X E) (I:Inv X pins σ H s) (r:Vals vs us)
  (h:∀x dx,H x=none->H dx=none->dx≠x->sp (.ref x::(vs++dvs)) (upd (upd H dx (.own x)) x (.ins C dx [])) (fun v H2=>v= .non/\Q (.ref x) H2) E):
  wpAny (model X.prog X.w) X.A (call (.ref C) us) (EP X pins σ Q) X.xe s:=by
 have hq:=h (s.heap.objs.size+1) s.heap.objs.size (I.hok.fresh (Nat.le_succ _)) (I.hok.fresh (Nat.le_refl _)) (Nat.ne_of_lt (Nat.lt_succ_self _))
 have I2:=Inv.made (C:=C) I
 have r2:Vals (V.ref (s.heap.objs.size+1)::(vs++dvs)) (Value.ref (s.heap.objs.size+1)::(us++ds)):=.cons rfl (r.append hd)
 have hl:(Value.ref (s.heap.objs.size+1)::us++ds).length=ps.length:=by
  have e:=r2.length
  rw[F.len _ _ _ _ hq]at e
  exact e.symm
 refine wpAny_call (Zq (f:=f) I.kIn M.makes M.init (beq_iff_eq.mp M.fn) (codeAny_mono (F.run _ X.stack _ _ ⟨Value.ref (s.heap.objs.size+1)::us,[]⟩ (Value.ref (s.heap.objs.size+1)::(us++ds)) _ _ E (hr.make C us [])
  (I2.env0.make C us []) (hb _ (Value.ref (s.heap.objs.size+1)::us) I2.kIn hl) r2 hq) fun r s' hq'=>?_))
 cases r with
 |error e=>exact hx pins σ _ _ e s' I2 hq'
 |ok fl=>
  cases fl with
  |ret u=>
   obtain⟨v,H',I3,rv,ev,q3⟩:=I2.after hq'
   subst ev
   exact⟨rv,⟨V.ref (s.heap.objs.size+1),H',I3,rfl,q3⟩⟩
  |next=>exact False.elim hq'
  |brk=>exact False.elim hq'
  |cont=>exact False.elim hq'
theorem pe_make(M:Mk X.K C f)(F:FnOk X.prog X.w X.K X.mg X.base CX k f fd ps sp)(hr:Room (k+1) X.A)(hg:Gl X x)(hm:X.mg x=some (.ref C))(hb:Binds X.K fd ps ds)(hd:Vals dvs ds)(hx:Passes CX X E)
  (ha:PA X (e::es) t) (hdb:(x==("__debug__":Str))=false:=by decide) (he:starEach (e::es) X.env=(false,eval e X.env)::starEach es X.env:=by rfl) (hpl:(backTo pos (starEach es X.env)).any (·.1)=false:=by rfl):
  PE X (.Call (.Name x p) (e::es) [] pos) (tMake C sp dvs E t):=by
 intro pins s σ H Q I h
 refine wpAny_Call_Name_kw (zn I hg hm ?_ hdb)
 refine callWith_K (h₀:=X.base) I.ok.mod.kin M.kp (thn (ha pos pins s σ H _ I h) fun us s1 ⟨vs,H1,I1,r,q⟩=>⟨I1.kIn,?_⟩) he hpl
 exact KZ M F hr hb hd hx I1 r q
theorem K0(M:Mk X.K C f)(F:FnOk X.prog X.w X.K X.mg X.base CX k f fd ps sp)(hr:Room (k+1) X.A)(hg:Gl X x)(hm:X.mg x=some (.ref C))(hb:Binds X.K fd ps ds)(hd:Vals dvs ds)(hx:Passes CX X E)
  (hdb:(x==("__debug__":Str))=false:=by decide):PE X (.Call (.Name x p) [] [] pos) (tMake C sp dvs E tNil):=by
 intro pins s σ H Q I h
 refine wpAny_Call_Name_kw (zn I hg hm ?_ hdb)
 exact PySem.W.callWith_K0 I.kIn M.kp (KZ (us:=[]) M F hr hb hd hx I .nil h)
end
structure FnScope(N P:List Str)(sc:Scope):Prop where
 kind:sc.kind= .function
 co:sc.isCoroutine=false
 gen:sc.isGenerator=false
 nd:N.Nodup
 pre:N.take P.length=P
 par:∀x∈P,sc.names.lookup x=some .local∨sc.names.lookup x=some .cell
 nofree:∀y∈sc.names,y.2≠ .free
theorem J3{kindOf:Str->Option NameKind}{x:Str}:∀{binds:List (Str×Value)} {m:Str->Option Value},(∀v,(x,v)∉binds)->bindL kindOf binds m x=m x
 | [],_,_=>rfl
 | (n,v)::r,m,h=>by
  unfold bindL
  rw[J3 fun w hw=>h w (List.mem_cons_of_mem _ hw)]
  split
  ·have:x≠n:=by rintro rfl;exact h v List.mem_cons_self
   simp [this]
  ·rfl
theorem J4{kindOf:Str->Option NameKind}{x:Str}:∀{binds:List (Str×Value)} {m:Str->Option Value},(∀v,(x,v)∉binds)->bindC kindOf binds m x=m x
 | [],_,_=>rfl
 | (n,v)::r,m,h=>by
  unfold bindC
  rw[J4 fun w hw=>h w (List.mem_cons_of_mem _ hw)]
  split
  ·rfl
  ·have:x≠n:=by rintro rfl;exact h v List.mem_cons_self
   simp [this]
theorem J5{kindOf:Str->Option NameKind}{x:Str}{v:Value}:∀{P:List Str} {vs:List Value} {i:Nat} {m:Str->Option Value},P.Nodup->P[i]?=some x->vs[i]?=some v->kindOf x=some .local->
  bindL kindOf (P.zip vs) m x=some v
 | [],_,_,_,_,h,_,_=>by simp at h
 |_::_,[],_,_,_,_,h,_=>by simp at h
 |p::P,w::vs,0,m,nd,h1,h2,hk=>by
  simp at h1 h2;subst h1;subst h2
  show bindL kindOf ((p,w)::P.zip vs) m p=_
  unfold bindL
  rw[J3 fun v hv=>(List.nodup_cons.mp nd).1 (List.of_mem_zip hv).1,if_pos hk]
  simp
 |p::P,w::vs,i+1,m,nd,h1,h2,hk=>by
  show bindL kindOf ((p,w)::P.zip vs) m x=_
  unfold bindL
  exact J5 (i:=i) (List.nodup_cons.mp nd).2 (by simpa using h1) (by simpa using h2) hk
theorem J6{kindOf:Str->Option NameKind}{x:Str}{v:Value}:∀{P:List Str} {vs:List Value} {i:Nat} {m:Str->Option Value},P.Nodup->P[i]?=some x->vs[i]?=some v->kindOf x≠some .local->
  bindC kindOf (P.zip vs) m x=some v
 | [],_,_,_,_,h,_,_=>by simp at h
 |_::_,[],_,_,_,_,h,_=>by simp at h
 |p::P,w::vs,0,m,nd,h1,h2,hk=>by
  simp at h1 h2;subst h1;subst h2
  show bindC kindOf ((p,w)::P.zip vs) m p=_
  unfold bindC
  rw[J4 fun v hv=>(List.nodup_cons.mp nd).1 (List.of_mem_zip hv).1,if_neg hk]
  simp
 |p::P,w::vs,i+1,m,nd,h1,h2,hk=>by
  show bindC kindOf ((p,w)::P.zip vs) m x=_
  unfold bindC
  exact J6 (i:=i) (List.nodup_cons.mp nd).2 (by simpa using h1) (by simpa using h2) hk
noncomputable def start(N:List Str)(vs:List V):St:=vs.map some++List.replicate (N.length - vs.length) none
noncomputable def cxOf(CX:CXT)(P:Program)(w:World)(K:Frag)(mg:Str->Option Value)(base:Heap)(N:List Str)(qual:Str)(scope:Scope)(f:Addr)(cd:Value)(A:Around)(outer:List Env)(s:Shared)(H:Hp)(E:XK):Cx where
 prog:=P
 w:=w
 K:=K
 mg:=mg
 base:=base
 A:=A.deeper (envOfC qual scope s.heap.objs.size f cd)
 N:=N
 s₀:=s
 H₀:=H
 env:=envOfC qual scope s.heap.objs.size f cd
 outer:=outer
 stack:=envOfC qual scope s.heap.objs.size f cd::outer
 ex:=[]
 calm:=true
 fn:=fun _=>true
 pn:=[]
 xe:=fun e s'=>wpAny (model P w) (A.deeper (envOfC qual scope s.heap.objs.size f cd)) (leaving (envOfC qual scope s.heap.objs.size f cd) e) (fun _ s''=>CX outer H s E e s'') (fun e' s''=>CX outer H s E e' s'') s'
theorem K2{sc:Scope}{n:Nat}{x:Str}(h:sc.names.lookup x=some .cell):∃c,(cellsFrom n sc.names []).lookup x=some c:=by
 have q:=PySem.W.cellsFrom_some sc.names n [] (.inl h)
 exact Option.isSome_iff_exists.mp q
theorem J7{CX:CXT}{P:Program}{w:World}{K:Frag}{mg:Str->Option Value}{base:Heap}{N ps:List Str}{qual:Str}{scope:Scope}{f:Addr}{cd:Value}{A:Around}{outer:List Env}{s s1:Shared}{H:Hp}{E:XK}{us:List Value}{vs:List V}
  (S:FnScope N ps scope) (hd:A.handled=none) (e0:Env0 P w K mg base A outer s H) (hl:vs.length=ps.length) (r:Vals vs us)
  (x:InCallC s s.heap.objs.size (bindL (envOfC qual scope s.heap.objs.size f cd).kindOf (ps.zip us) fun _=>none) (cellsFrom (s.heap.objs.size+1) scope.names []) (bindC (envOfC qual scope s.heap.objs.size f cd).kindOf (ps.zip us) fun _=>none) s1):
  Inv (cxOf CX P w K mg base N qual scope f cd A outer s H E) [] (start N vs) H s1:=by
 have hpl:ps.length<=N.length:=by have:=congrArg List.length S.pre;rw[List.length_take]at this;omega
 obtain⟨h1,tk,rfl,hk⟩:=x.done
 have noA:∀b:Addr,b∉(cxOf CX P w K mg base N qual scope f cd A outer s H E).ex:=fun b z=>absurd (show b∈([]:List Addr) from z) (by simp)
 refine⟨⟨e0.mod,S.kind,rfl,rfl,Nat.le_refl _,fun y z c h1 h2=>?_,fun y hy=>?_,fun y c _ h=>?_,fun _=>hd,Around.frames_deeper e0.frames,.inr ⟨rfl,rfl⟩,fun b z=>absurd z (noA b),e0.bs,e0.bsz,fun b _ _=>noA b,fun b z=>absurd z (noA b),e0.funs,e0.frf⟩,
  rfl,e0.bare,Un.kept hk,⟨_,x.toInCall.ns,fun i y v h1 h2 h3=>?_⟩,fun y c h=>⟨_,x.cell y c h⟩,e0.hok.fresh (Nat.le_refl _),fun y c h=>?_,fun p hp=>absurd (show p∈([]:List (Addr×Obj)) from hp) (by simp),e0.hok.kept hk,?_⟩
 ·exact name_of_addr x.apart (PySem.mem_of_lookup h1) (PySem.mem_of_lookup h2)
 ·have hy:scope.names.lookup y=some .cell∨scope.names.lookup y=some .free:=hy
  rcases hy with hy |hy
  ·exact K2 hy
  ·exact absurd rfl (S.nofree _ (PySem.mem_of_lookup hy))
 ·exact Nat.le_of_lt (x.above y c (PySem.mem_of_lookup h))
 ·have hi:i < vs.length:=by
   unfold start at h2
   by_cases hi:i < vs.length
   ·exact hi
   ·rw[List.getElem?_append_right (by simpa using hi)]at h2
    rw[List.getElem?_replicate]at h2
    split at h2<;>cases h2
  have ha:vs[i]?=some v:=by
   unfold start at h2
   rw[List.getElem?_append_left (by simpa using hi),List.getElem?_map]at h2
   cases e:vs[i]? with
   |none=>rw[e]at h2;cases h2
   |some a=>rw[e]at h2;cases h2;rfl
  obtain⟨u,hu,rv⟩:=r.get ha
  have hp:ps[i]?=some y:=by
   rw[<- S.pre,List.getElem?_take_of_lt (by omega)];exact h1
  have ndP:ps.Nodup:=by rw[<- S.pre];exact S.nd.sublist (List.take_sublist _ _)
  refine⟨u,rv,?_⟩
  rcases S.par y (List.mem_of_getElem? hp) with k |k
  ·exact .inl ⟨k,J5 ndP hp hu k⟩
  ·obtain⟨c,e⟩:=K2 (n:=s.heap.objs.size+1) k
   refine .inr ⟨.inl k,c,e,?_⟩
   have q:=x.cell y c e
   rw[J6 ndP hp hu (by show scope.names.lookup y≠_;rw[k];decide)]at q
   exact q
 ·exact e0.hok.fresh (Nat.le_of_lt (x.above y c (PySem.mem_of_lookup h)))
 ·unfold start
  show _=N.length
  rw[List.length_append,List.length_map,List.length_replicate]
  omega
theorem fn_of{CX:CXT}{P:Program}{w:World}{K:Frag}{mg:Str->Option Value}{base:Heap}{k:Nat}{f:Addr}{name qual:Str}{params:Arguments}{body:List Stmt}{scope:Scope}{dV kV doc pm cdv ct oc:Value}{an od:Option Addr}
  {osl:Array (Option Value)} {N ps:List Str} {sp:Sp} (lk:K.lookup f=some ⟨oc,od,.func (fnOf name qual params body scope dV kV doc pm an cdv ct),osl⟩) (hcd:codeIn K cdv qual=true) (S:FnScope N ps scope)
  (len:∀vs H Q E,sp vs H Q E->vs.length=ps.length)
  (hbody:∀(A:Around) (outer:List Env) (s:Shared) (H:Hp) (vs:List V) (Q:VK) (E:XK),Room k (A.deeper (envOfC qual scope s.heap.objs.size f cdv))->sp vs H Q E->
   ∃t,PSs (cxOf CX P w K mg base N qual scope f cdv A outer s H E) body t/\t { nx:=fun _ H'=>Q .non H',rt:=Q } (start N vs) H):
  FnOk P w K mg base CX (k+1) f (fnOf name qual params body scope dV kV doc pm an cdv ct) ps sp:=by
 refine⟨len,fun A outer s H args us vs Q E hr e0 hb r hsp=>?_⟩
 have hl:=len _ _ _ _ hsp
 have KX:K.In s.heap:=e0.mod.kin.keeps fun b o e=>(e0.bs b o e).1
 have lim:s.heap.NoLimit:=e0.mod.nolimit.keeps fun b o e=>(e0.bs b o e).1
 have hkind:∀y∈ps.zip us,scope.names.lookup y.1=some .local∨(scope.names.lookup y.1=some .cell/\((cellsFrom (s.heap.objs.size+1) scope.names []).lookup y.1).isSome=true):=fun⟨n,v⟩ hy=>by
  rcases S.par n (List.of_mem_zip hy).1 with q |q
  ·exact .inl q
  ·exact .inr ⟨q,PySem.W.cellsFrom_some _ _ _ (.inl q)⟩
 refine codeAny_call_function hr.depth (KX _ _ lk) rfl S.co S.gen rfl (PySem.W.codeRec_of KX hcd) (hb _ _ _ _ ?_)
 refine wpAny_newFunctionEnv_cells S.kind hkind fun env he s1 x=>?_
 subst he
 refine⟨lim.keeps x.toInCall.keep,codeAny_func ?_⟩
 obtain⟨t,ht,hq⟩:=hbody A outer s H vs Q E (hr.deeper _) hsp
 have I:Inv (cxOf CX P w K mg base N qual scope f cdv A outer s H E) [] (start N vs) H s1:=J7 S hr.hd e0 hl r x
 refine wpAny_mono (ht [] s1 (start N vs) H _ I hq) (fun fl s' hs=>?_) fun e s' hs=>hs
 have fin:∀{σ':St} {H':Hp} {v:V} {u:Value},Inv (cxOf CX P w K mg base N qual scope f cdv A outer s H E) [] σ' H' s'->RelV v u->Q v H'->CE outer P w H s Q u s':=
  fun {σ' H' v u} J rv q=>⟨v,H',J.os,J.bare,J.base,J.hok,rv,q⟩
 cases fl with
 |ret u=>
  obtain⟨v,σ',H',J,rv,q⟩:=hs
  exact fin J rv q
 |next=>
  obtain⟨σ',H',J,q⟩:=hs
  exact fin (v:=V.non) (u:=Value.none) J rfl q
 |brk=>
  obtain⟨_,_,_,q⟩:=hs
  exact False.elim q
 |cont=>
  obtain⟨_,_,_,q⟩:=hs
  exact False.elim q
section
variable {X:Cx}{x:Str}{p pos:Pos}{e:Expr}{es:List Expr}{t:TA}{id T:String}{r:List V->Hp->VK->Prop}
def tCB(r:List V->Hp->VK->Prop)(t:TA):TE:=fun σ H Q=>t σ H fun vs H1=>r vs H1 Q
theorem jz(hc:CallR X (.builtin id) r)(hg:Gl X x)(hm:X.mg x=none)(hv:bootBuiltins x=some (.builtin id))(ha:PA X (e::es) t)(hn:x≠"__name__":=by decide)(hdb:(x==("__debug__":Str))=false:=by decide)
  (he:starEach (e::es) X.env=(false,eval e X.env)::starEach es X.env:=by rfl) (hpl:(backTo pos (starEach es X.env)).any (·.1)=false:=by rfl):PE X (.Call (.Name x p) (e::es) [] pos) (tCB r t):=by
 intro pins s σ H Q I h
 refine wpAny_Call_Name_kw (zN I hg hm hv ?_ hn hdb)
 exact PyProof.Rows.callWith_builtin1 (thn (ha pos pins s σ H _ I h) fun us s1 ⟨vs,H1,I1,r1,q1⟩=>hc pins s1 σ H1 vs us Q I1 r1 q1) he hpl
theorem jG(hc:CallR X (.type T) r)(hg:Gl X x)(hm:X.mg x=none)(hv:bootBuiltins x=some (.type T))(ha:PA X (e::es) t)(hn:x≠"__name__":=by decide)(hdb:(x==("__debug__":Str))=false:=by decide)
  (he:starEach (e::es) X.env=(false,eval e X.env)::starEach es X.env:=by rfl) (hpl:(backTo pos (starEach es X.env)).any (·.1)=false:=by rfl):PE X (.Call (.Name x p) (e::es) [] pos) (tCB r t):=by
 intro pins s σ H Q I h
 refine wpAny_Call_Name_kw (zN I hg hm hv ?_ hn hdb)
 exact PyProof.Rows.callWith_type1 (thn (ha pos pins s σ H _ I h) fun us s1 ⟨vs,H1,I1,r1,q1⟩=>hc pins s1 σ H1 vs us Q I1 r1 q1) he hpl
end
end L2
namespace HT
open PySem PyProof.Rows
section
variable {prog:Program}{w:World}{A:Around}{E:Value->Shared->Prop}{s:Shared}
theorem cat_tup{t b:Addr}{vs ws:List Value}{Q:Value->Shared->Prop}(ht:IsTup s.heap t vs.toArray)(hb:IsTup s.heap b ws.toArray)(hv:vs≠[])
  (h1:ws=[]->Q (.ref t) s) (h2:ws≠[]->Q (.ref s.heap.objs.size) { s with heap:=s.heap.push { cls:=.type "tuple",data:=.seq (vs++ws).toArray } })
  (hsz:vs.length+ws.length<=sizeLine):wpAny (model prog w) A (binaryOp .Add (.ref t) (.ref b)) Q E s:=by
 obtain⟨⟨cls,dd,data,sl⟩,ho,hc,n,hd⟩:=id ht
 obtain⟨⟨cls2,dd2,data2,sl2⟩,ho2,hc2,n2,hd2⟩:=id hb
 simp only at hc hd hc2 hd2
 subst hc hd hc2 hd2
 have e:vs.toArray++ws.toArray=(vs++ws).toArray:=by simp
 by_cases hw:ws=[]
 ·exact concat_meets ⟨_,ho,rfl⟩ ⟨_,ho2,rfl⟩ noFill_tuple_add seq_tuple_add PySem.F.slot_tuple_add PySem.F.entry_tuple_add (PySem.F.args_tuple_add_2 _ _)
   (tuple_addW1 t b vs.toArray ws.toArray n n2 dd dd2 sl sl2 (by simpa using hv) (by simp [hw])) ⟨ho,ho2,h1 hw⟩
 ·refine concat_meets ⟨_,ho,rfl⟩ ⟨_,ho2,rfl⟩ noFill_tuple_add seq_tuple_add PySem.F.slot_tuple_add PySem.F.entry_tuple_add (PySem.F.args_tuple_add_2 _ _)
   (tuple_addW2 t b vs.toArray ws.toArray n n2 dd dd2 sl sl2 (by simpa using hv) (by simpa using hw) (by rw[List.size_toArray,List.size_toArray];exact hsz)) ⟨ho,ho2,?_⟩
  rw[e]
  exact h2 hw
noncomputable def sIx(n d:Nat):Option Int->Nat
 |none=>d
 |some v=>if v < 0 then (v+(n:Int)).toNat else min v.toNat n
theorem sIx_none(n d:Nat):sIx n d none=d:=rfl
theorem sIx_nat(n d k:Nat):sIx n d (some (k:Int))=min k n:=by
 show(if (k:Int) < 0 then ((k:Int)+(n:Int)).toNat else min (k:Int).toNat n)=min k n
 rw[if_neg (by omega),Int.toNat_natCast]
theorem sIx_le(n d:Nat)(hd:d<=n)(o:Option Int):sIx n d o<=n:=by
 cases o with
 |none=>exact hd
 |some v=>
  show(if v < 0 then (v+(n:Int)).toNat else min v.toNat n)<=n
  by_cases hv:v < 0
  ·rw[if_pos hv];omega
  ·rw[if_neg hv];exact Nat.min_le_right _ _
theorem Xk(v:Int)(n d:Nat):(if v < 0 then max (v+(n:Int)) 0 else min v (n:Int))=((sIx n d (some v):Nat):Int):=by
 show(if v < 0 then max (v+(n:Int)) 0 else min v (n:Int))=(((if v < 0 then (v+(n:Int)).toNat else min v.toNat n):Nat):Int)
 by_cases hv:v < 0
 ·simp only[if_pos hv];omega
 ·simp only[if_neg hv];omega
theorem QR(lo hi:Option Int)(n:Nat):Builtin.Slice.sliceAdjust lo hi 1 (n:Int)=(((sIx n 0 lo:Nat):Int),((sIx n n hi:Nat):Int)):=by
 have h1:¬((1:Int) < 0):=by omega
 unfold Builtin.Slice.sliceAdjust
 simp only[h1,if_false]
 refine Prod.ext ?_ ?_
 ·cases lo with
  |none=>rfl
  |some v=>exact Xk v n 0
 ·cases hi with
  |none=>rfl
  |some v=>exact Xk v n n
theorem QS(i j:Nat):Builtin.Slice.slicePlaces (i:Int) (j:Int) 1=j - i:=by
 unfold Builtin.Slice.slicePlaces
 have h1:(1:Int) > 0:=by omega
 simp only[h1,if_true,Int.ediv_one]
 split<;>omega
theorem JJ{v:Value}{o:Option Int}{Q:Option Int->Shared->Prop}(p:IsPart v o)(h:Q o s):wpAny (model prog w) A (Builtin.Slice.slicePartIndex v) Q E s:=by
 cases p with
 |none=>exact slicePart_none h
 |int i t=>exact slicePart_int h
theorem sliceApplied_gen{sl:Addr}{vl vu:Value}{lo hi:Option Int}{n:Nat}{Q:Int×Int×Nat->Shared->Prop}(hs:s.heap.IsSliceOf sl vl vu .none)(pl:IsPart vl lo)(pu:IsPart vu hi)
  (h:Q (((sIx n 0 lo:Nat):Int),1,sIx n n hi - sIx n 0 lo) s):wpAny (model prog w) A (Builtin.Slice.sliceApplied (.ref sl) (pure (n:Int))) Q E s:=by
 obtain⟨os,hos,hcs,hds⟩:=id hs
 unfold Builtin.Slice.sliceApplied Builtin.Slice.sliceFields
 refine wpAny_bind (wpAny_bind (wpAny_field hos hds (x:=vl) rfl (wpAny_bind (wpAny_field hos hds (x:=vu) rfl (wpAny_bind (wpAny_field hos hds (x:=.none) rfl (wpAny_pure ?_)))))))
 refine wpAny_bind (slicePart_none ?_)
 show wpAny _ _ (if ((1:Int)==0)=true then _ else _) _ _ s
 rw[if_neg (by decide)]
 refine wpAny_bind (JJ pl (wpAny_bind (JJ pu (wpAny_bind (wpAny_pure ?_)))))
 show wpAny _ _ (match Builtin.Slice.sliceAdjust lo hi 1 (n:Int) with | (lo,hi)=>pure (lo,(1:Int),Builtin.Slice.slicePlaces lo hi 1)) _ _ s
 rw[QR lo hi n]
 show wpAny _ _ (pure (((sIx n 0 lo:Nat):Int),(1:Int),Builtin.Slice.slicePlaces ((sIx n 0 lo:Nat):Int) ((sIx n n hi:Nat):Int) 1)) _ _ s
 rw[QS]
 exact wpAny_pure h
theorem Zs(xs:Array Value)(i k:Nat):((List.range k).filterMap fun(m:Nat)=>xs[((i:Int)+(m:Int)*1).toNat]?).toArray=((xs.toList.drop i).take k).toArray:=by
 have e:(fun(m:Nat)=>xs[((i:Int)+(m:Int)*1).toNat]?)=fun m=>xs[i+m]?:=by
  funext m
  have:((i:Int)+(m:Int)*1).toNat=i+m:=by omega
  rw[this]
 rw[e]
 have:=pick_run xs i k
 rw[List.filterMap_map]at this
 have e2:((fun x=>xs[x]?) ∘ fun x=>i+x)=fun m=>xs[i+m]?:=rfl
 rw[e2]at this
 rw[this]
theorem getItem_tuple_cut{t sl:Addr}{items:Array Value}{vl vu:Value}{lo hi:Option Int}{Q:Value->Shared->Prop}(ht:IsTup s.heap t items)(hs:s.heap.IsSliceOf sl vl vu .none)(pl:IsPart vl lo)(pu:IsPart vu hi)
  (hw:¬(sIx items.size 0 lo=0/\sIx items.size items.size hi=items.size))
  (h:Q (.ref s.heap.objs.size) { s with heap:=s.heap.push { cls:=.type "tuple",data:=.seq ((items.toList.drop (sIx items.size 0 lo)).take (sIx items.size items.size hi - sIx items.size 0 lo)).toArray } })
  (hsz:items.size<=sizeLine):wpAny (model prog w) A (getItem (.ref t) (.ref sl)) Q E s:=by
 have htake:sizeOk (.seq ((items.toList.drop (sIx items.size 0 lo)).take (sIx items.size items.size hi - sIx items.size 0 lo)).toArray):=by
  show((items.toList.drop (sIx items.size 0 lo)).take (sIx items.size items.size hi - sIx items.size 0 lo)).toArray.size<=sizeLine
  rw[List.size_toArray,List.length_take,List.length_drop,Array.length_toList]
  omega
 have hj:sIx items.size items.size hi<=items.size:=sIx_le _ _ (Nat.le_refl _) hi
 obtain⟨os,hos,hcs,hds⟩:=id hs
 have hTs:s.TypeIs (.ref sl) "slice":=⟨os,hos,hcs⟩
 unfold getItem
 try with_reducible refine wpAny_holding ?_
 first |refine wpAny_bind (wpAny_pure ?_) |skip
 refine wpAny_bind (wpAny_sequenceKey ht.typeIs (by decide) ?_)
 refine wpAny_bind (wpAny_callSpecial?_slot (name:=Str.ofString "__getitem__") ht.typeIs PyProof.Rows.slot_tuple_getitem
  (wpAny_call_entry PyProof.Rows.slot_tuple_getitem ht.typeIs entry_tuple_getitem ?_ (args_tuple_getitem _ _)))
 show wpAny _ _ (Builtin.Tuple.tupleItemsOf (.ref t) >>= _) _ _ s
 refine wpAny_bind (tupleItemsOf_ ht ?_)
 refine wpAny_bind (wpAny_typeOf hTs ?_)
 rw[if_pos (by decide)]
 refine wpAny_bind (sliceApplied_gen hs pl pu ?_)
 have hno:¬((((sIx items.size 0 lo:Nat):Int)==0&&(1:Int)==1&&(sIx items.size items.size hi - sIx items.size 0 lo)==items.size)=true):=by
  intro q
  rw[Bool.and_eq_true,Bool.and_eq_true]at q
  have q1:((sIx items.size 0 lo:Nat):Int)=0:=eq_of_beq q.1.1
  have q2:sIx items.size items.size hi - sIx items.size 0 lo=items.size:=eq_of_beq q.2
  exact hw ⟨by omega,by omega⟩
 show wpAny _ _ (if (((sIx items.size 0 lo:Nat):Int)==0&&(1:Int)==1&&(sIx items.size items.size hi - sIx items.size 0 lo)==items.size)=true then _ else _) _ _ s
 rw[if_neg hno,Zs]
 first
  |exact wpAny_bind (m:=Builtin.Tuple.tupleExact _) (wpAny_newObj_type (wpAny_pure ⟨_,rfl,wpAny_pure h⟩) htake)
  |exact wpAny_bind (m:=Builtin.Tuple.tupleExact _) (wpAny_newObj_type (wpAny_bind (wpAny_pure (wpAny_pure ⟨_,rfl,wpAny_pure h⟩))) htake)
  |exact wpAny_bind (wpAny_bind (m:=Builtin.Tuple.tupleExact _) (wpAny_newObj_type (wpAny_pure (wpAny_pure ⟨_,rfl,wpAny_pure h⟩)) htake))
  |exact wpAny_bind (wpAny_bind (m:=Builtin.Tuple.tupleExact _) (wpAny_newObj_type (wpAny_pure ⟨_,rfl,wpAny_pure h⟩) htake))
end
end HT
namespace L2
open PySem PySem.Spec PyProof.Rows
abbrev TO:=St->Hp->(Option Int->Hp->Prop)->Prop
def PO(X:Cx)(e:Option Expr)(t:TO):Prop:=
 ∀(pins:List (Addr×Obj)) (s:Shared) (σ:St) (H:Hp) (Q:Option Int->Hp->Prop),Inv X pins σ H s->t σ H Q->
  wpAny (model X.prog X.w) X.A (evalPart e X.env) (fun u s'=>∃o H',Inv X pins σ H' s'/\IsPart u o/\Q o H') X.xe s
def tNoPart:TO:=fun _ H Q=>Q none H
def tPart(t:TE):TO:=fun σ H Q=>t σ H fun x H1=>∃i,x= .int i/\Q (some i) H1
section
variable {X:Cx}{e:Expr}{te:TE}{lo hi:Option Expr}{tl th:TO}{pos p2:Pos}
theorem jR:PO X none tNoPart:=by
 intro pins s σ H Q I h
 rw[evalPart_none]
 exact wpAny_pure ⟨none,H,I,.none,h⟩
theorem jE(h:PE X e te):PO X (some e) (tPart te):=by
 intro pins s σ H Q I hw
 rw[evalPart_some]
 refine thn (h pins s σ H _ I hw) fun u s1 ⟨x,H1,I1,r1,q1⟩=>?_
 obtain⟨i,rfl,q⟩:=q1
 obtain⟨t,rfl⟩:=r1
 exact⟨some i,H1,I1,.int i t,q⟩
def SlR(X:Cx)(r:V->Option Int->Option Int->Hp->VK->Prop):Prop:=
 ∀(pins:List (Addr×Obj)) (s:Shared) (σ:St) (H:Hp) (x:V) (v vl vu:Value) (lo hi:Option Int) (sl:Addr) (Q:VK),Inv X pins σ H s->RelV x v->s.heap.IsSliceOf sl vl vu .none->IsPart vl lo->IsPart vu hi->r x lo hi H Q->
  ∃T id,typeLookup (.type T) "__getitem__"=pure (some (.builtin id))/\s.TypeIs v T/\wpAny (model X.prog X.w) X.A (getItem v (.ref sl)) (EP X pins σ Q) X.xe s
def tSl(r:V->Option Int->Option Int->Hp->VK->Prop)(te:TE)(tl th:TO):TE:=fun σ H Q=>te σ H fun x H1=>tl σ H1 fun l H2=>th σ H2 fun u H3=>r x l u H3 Q
theorem jF{r:V->Option Int->Option Int->Hp->VK->Prop}(hr:SlR X r)(he:PE X e te)(hl:PO X lo tl)(hu:PO X hi th):PE X (.Subscript e (.Slice lo hi none p2) pos) (tSl r te tl th):=by
 intro pins s σ H Q I h
 refine Subscript_ (thn (he pins s σ H _ I h) fun v s1 ⟨x,H1,I1,r1,q1⟩=>?_)
 refine wpAny_Slice (thn (hl pins s1 σ H1 _ I1 q1) fun vl s2 ⟨l,H2,I2,pl,q2⟩=>thn (hu pins s2 σ H2 _ I2 q2) fun vu s3 ⟨u,H3,I3,pu,q3⟩=>?_)
 rw[evalPart_none]
 refine wpAny_pure ?_
 have I4:Inv X pins σ H3 { s3 with heap:=s3.heap.push { cls:=.type "slice",data:=.fields #[vl,vu,.none] } }:=I3.kept (t':=s3.toks) fun b ob q=>Heap.get?_push_of_some _ q
 obtain⟨T,id,hT,ht,hg⟩:=hr pins { s3 with heap:=s3.heap.push { cls:=.type "slice",data:=.fields #[vl,vu,.none] } } σ H3 x v vl vu l u s3.heap.objs.size Q I4 r1 (Heap.IsSliceOf.new ..) pl pu q3
 show wpAny (model X.prog X.w) X.A (subscriptTail e (.Slice lo hi none p2) v (.ref s3.heap.objs.size)) (EP X pins σ Q) X.xe { s3 with heap:=s3.heap.push { cls:=.type "slice",data:=.fields #[vl,vu,.none] } }
 exact tail_any (ops:=[.ref s3.heap.objs.size,v]) ht hT hg (by with_unfolding_all rfl)
noncomputable def cutV(xs:List V)(lo hi:Option Int):List V:=(xs.drop (HT.sIx xs.length 0 lo)).take (HT.sIx xs.length xs.length hi - HT.sIx xs.length 0 lo)
theorem ku(xs:List V)(lo hi:Option Int):(cutV xs lo hi).length<=xs.length:=by
 unfold cutV
 rw[List.length_take,List.length_drop]
 omega
def rSlT(K:Frag):V->Option Int->Option Int->Hp->VK->Prop:=fun x lo hi H Q=>∃a xs,x= .ref a/\SqT K H a xs/\
 ¬(HT.sIx xs.length 0 lo=0/\HT.sIx xs.length xs.length hi=xs.length)/\∀p,H p=none->Q (.ref p) (upd H p (.tup (cutV xs lo hi)))
theorem sl_tup:SlR X (rSlT X.K):=by
 intro pins s σ H x v vl vu lo hi sl Q I rx hs pl pu h
 obtain⟨a,xs,rfl,hx,hw,q⟩:=h
 cases rx
 obtain⟨its,r,ht,hz⟩:=I.tuple hx
 have hlen:its.toArray.size=xs.length:=by rw[List.size_toArray];exact r.length.symm
 refine⟨"tuple",_,PyProof.Rows.slot_tuple_getitem.lookup,ht.typeIs,?_⟩
 refine HT.getItem_tuple_cut ht hs pl pu (by rw[hlen];exact hw) ?_ (by rw[hlen];exact hz)
 rw[hlen]
 refine⟨.ref s.heap.objs.size,_,I.laid (t':=s.toks) (o:=.tup (cutV xs lo hi)) (fun b ob q=>Heap.get?_push_of_some _ q) (Nat.le_refl _) ?_,rfl,q _ (I.hok.fresh (Nat.le_refl _))⟩
 exact⟨Nat.le_trans (ku xs lo hi) hz,_,(r.drop (HT.sIx xs.length 0 lo)).take (HT.sIx xs.length xs.length hi - HT.sIx xs.length 0 lo),IsTup.new _ _⟩
def rCatT(K:Frag):R2:=fun x y H Q=>∃a b xs ys,x= .ref a/\y= .ref b/\SqT K H a xs/\SqT K H b ys/\xs≠[]/\xs.length+ys.length<=sizeLine/\
 (ys=[]->Q (.ref a) H)/\(ys≠[]->∀p,H p=none->Q (.ref p) (upd H p (.tup (xs++ys))))
theorem Vals.nil_iff{xs:List V}{us:List Value}(r:Vals xs us):us=[]↔xs=[]:=by
 cases r with
 |nil=>simp
 |cons _ _=>simp
theorem op_catT:OpR X (binaryOp .Add) (rCatT X.K):=by
 intro pins s σ H x y v u Q I rx ry h
 obtain⟨a,b,xs,ys,rfl,rfl,ha,hb,hx,hz,q1,q2⟩:=h
 cases rx
 cases ry
 obtain⟨its,r1,p1,_⟩:=I.tuple ha
 obtain⟨its2,r2,p2,_⟩:=I.tuple hb
 refine HT.cat_tup p1 p2 (fun z=>hx (r1.nil_iff.mp z)) (fun z=>⟨.ref a,H,I,rfl,q1 (r2.nil_iff.mp z)⟩) (fun z=>?_) (by rw[<- r1.length,<- r2.length];exact hz)
 refine⟨.ref s.heap.objs.size,_,I.laid (t':=s.toks) (o:=.tup (xs++ys)) (fun b ob q=>Heap.get?_push_of_some _ q) (Nat.le_refl _) ?_,rfl,q2 (fun w=>z (r2.nil_iff.mpr w)) _ (I.hok.fresh (Nat.le_refl _))⟩
 exact⟨by rw[List.length_append];exact hz,_,r1.append r2,IsTup.new _ _⟩
end
noncomputable def ixN(n:Nat)(i:Int):Option Nat:=if 0<=i then (if i < n then some i.toNat else none) else if -(n:Int)<=i then some (i+n).toNat else none
noncomputable def atI{α:Type}(xs:List α)(i:Int):Option α:=(ixN xs.length i).bind fun j=>xs[j]?
theorem Xl{n:Nat}{i:Int}{j:Nat}(h:ixN n i=some j):seqIndex? i n=some j/\j < n/\ -(n:Int)<=i/\i < n:=by
 unfold ixN at h
 by_cases h0:0<=i
 ·rw[if_pos h0]at h
  by_cases h1:i < n
  ·rw[if_pos h1]at h
   have e:i.toNat=j:=Option.some.inj h
   exact⟨by rw[seqIndex_of h0 h1,e],by omega,by omega,h1⟩
  ·rw[if_neg h1]at h;cases h
 ·rw[if_neg h0]at h
  by_cases h1: -(n:Int)<=i
  ·rw[if_pos h1]at h
   have e:(i+n).toNat=j:=Option.some.inj h
   exact⟨by rw[seqIndex_neg (by omega) h1,e],by omega,h1,by omega⟩
  ·rw[if_neg h1]at h;cases h
theorem Ky{α:Type}{xs:List α}{i:Int}{v:α}(h:atI xs i=some v):∃j,seqIndex? i xs.length=some j/\xs[j]?=some v/\j < xs.length/\ -(xs.length:Int)<=i/\i < xs.length:=by
 unfold atI at h
 cases e:ixN xs.length i with
 |none=>rw[e]at h;cases h
 |some j=>
  rw[e]at h
  obtain⟨h1,h2,h3,h4⟩:=Xl e
  exact⟨j,h1,h,h2,h3,h4⟩
theorem jo{α:Type}{xs:List α}{j:Nat}{v:α}(h:xs[j]?=some v):atI xs (j:Int)=some v:=by
 have hj:j < xs.length:=(List.getElem?_eq_some_iff.mp h).1
 have e:ixN xs.length (j:Int)=some j:=by
  unfold ixN
  rw[if_pos (by omega),if_pos (by omega)];simp
 unfold atI;rw[e];exact h
def PlainIx(b:Expr):Prop:=∀o i,subscripted b false o i=operate [o,i] (getItem o i)
def IxR(X:Cx)(r:R2):Prop:=
 ∀(value slice:Expr) (pins:List (Addr×Obj)) (s:Shared) (σ:St) (H:Hp) (x y:V) (v u:Value) (Q:VK),Inv X pins σ H s->RelV x v->RelV y u->r x y H Q->
  subscripted slice false v u=operate [v,u] (getItem v u)->wpAny (model X.prog X.w) X.A (subscriptTail value slice v u) (EP X pins σ Q) X.xe s
def MtR(X:Cx)(id:String)(r:V->List V->Hp->VK->Prop):Prop:=
 ∀(pins:List (Addr×Obj)) (s:Shared) (σ:St) (H:Hp) (x:V) (xs:List V) (v:Value) (us:List Value) (Q:VK),Inv X pins σ H s->RelV x v->Vals xs us->r x xs H Q->
  wpAny (model X.prog X.w) X.A (call (.builtin id) (v::us)) (EP X pins σ Q) X.xe s
section
variable {X:Cx}{a b:Expr}{ta tb:TE}{pos:Pos}
theorem jv{r:R2}(hr:IxR X r)(ha:PE X a ta)(hb:PE X b tb)(hs:PlainIx b):PE X (.Subscript a b pos) (tOp r ta tb):=by
 intro pins s σ H Q I h
 exact Subscript_ (binT ha hb I h fun v u s2 x y H2 I2 rx ry q=>hr a b pins s2 σ H2 x y v u Q I2 rx ry q (hs _ _))
def rIxL(K:Frag):R2:=fun x y H Q=>∃p xs i v,x= .ref p/\y= .int i/\SqL K H p xs/\atI xs i=some v/\Q v H
def rIxT(K:Frag):R2:=fun x y H Q=>∃p xs i v,x= .ref p/\y= .int i/\SqT K H p xs/\atI xs i=some v/\Q v H
def rIxS:R2:=fun x y H Q=>∃z i c,x= .str z/\y= .int i/\z.length<=sizeLine/\atI z.cps.toList i=some c/\Q (.str ⟨#[c]⟩) H
theorem jy:IxR X (rIxL X.K):=by
 intro value slice pins s σ H x y v u Q I rx ry h hs
 obtain⟨p,xs,i,z,rfl,rfl,hq,he,q⟩:=h
 cases rx
 obtain⟨t,rfl⟩:=ry
 obtain⟨its,r,pl,hz⟩:=I.list hq
 obtain⟨j,h1,h2,h3,h4,h5⟩:=Ky he
 obtain⟨w,ew,rw'⟩:=r.get h2
 have hl:=r.length
 have hn:=line63
 have fin:EP X pins σ Q w s:=⟨z,H,I,rw',q⟩
 by_cases h0:0<=i
 ·have hj:i.toNat=j:=by
   rw[seqIndex_of h0 h5]at h1
   exact Option.some.inj h1
  exact item_listR pl.isList h0 (by omega) (by rw[hj];simpa using ew) fin hs
 ·have hj:(i+(its.toArray.size:Int)).toNat=j:=by
   rw[seqIndex_neg (by omega) h4]at h1
   rw[List.size_toArray,<- hl]
   exact Option.some.inj h1
  exact subscriptTail_builtinR (x:=w) pl.isList.typeIs slot_list_getitem.lookup
   (wpAny_getItem_list_neg (Q:=fun r s'=>r=w/\EP X pins σ Q r s') pl.isList (by omega) (by rw[List.size_toArray]<;>omega) (by omega) (by rw[hj];simpa using ew) ⟨rfl,fin⟩) hs
theorem jK:IxR X (rIxT X.K):=by
 intro value slice pins s σ H x y v u Q I rx ry h hs
 obtain⟨p,xs,i,z,rfl,rfl,hq,he,q⟩:=h
 cases rx
 obtain⟨t,rfl⟩:=ry
 obtain⟨its,r,pl,hz⟩:=I.tuple hq
 obtain⟨j,h1,h2,h3,h4,h5⟩:=Ky he
 obtain⟨w,ew,rw'⟩:=r.get h2
 have hl:=r.length
 have hn:=line63
 have fin:EP X pins σ Q w s:=⟨z,H,I,rw',q⟩
 exact subscriptTail_builtinR (x:=w) pl.typeIs slot_tuple_getitem.lookup
  (getItem_tuple (j:=j) (Q:=fun r s'=>r=w/\EP X pins σ Q r s') pl (by omega) (by omega) (by rw[List.size_toArray,<- hl];exact h1) (by simpa using ew) ⟨rfl,fin⟩) hs
theorem Jw:IxR X rIxS:=by
 intro value slice pins s σ H x y v u Q I rx ry h hs
 obtain⟨z,i,c,rfl,rfl,hz,he,q⟩:=h
 obtain⟨t,rfl⟩:=rx
 obtain⟨t',rfl⟩:=ry
 obtain⟨j,h1,h2,h3,h4,h5⟩:=Ky he
 have hl:z.cps.toList.length=z.length:=by simp [Str.length]
 rw[hl]at h1 h4 h5
 have hn:=line63
 exact tail_any (typeIs_str s z t) slot_str_getitem.lookup (getItem_str (c:=c) (by
  have e1:decide (i < -(2 ^ 63:Int))=false:=decide_eq_false (by omega)
  have e2:decide (i≥2 ^ 63)=false:=decide_eq_false (by omega)
  rw[e1,e2,Bool.or_false]) (by rw[h1];simpa using h2) ⟨.str ⟨#[c]⟩,H,I.tok _,⟨_,rfl⟩,q⟩) hs
theorem QT(its:List Value)(n j:Nat)(u:Value):Obj.mapSeq (·.setIfInBounds j u) { cls:=.type "list",data:=.seq its.toArray n }={ cls:=.type "list",data:=.seq (its.set j u).toArray n }:=by
 simp [Obj.mapSeq]
theorem Inv.lst{pins:List (Addr×Obj)}{σ:St}{H:Hp}{s:Shared}{p:Addr}{xs:List V}(I:Inv X pins σ H s)(h:H p=some (.lst xs)):
  ∃(its:List Value) (n:Nat),Vals xs its/\s.heap.get? p=some { cls:=.type "list",data:=.seq its.toArray n }/\xs.length<=sizeLine:=by
 obtain⟨z,its,n,r,e⟩:=I.hok p _ h
 exact⟨its,n,r,e,z⟩
theorem Inv.lstUpd{pins:List (Addr×Obj)}{σ:St}{H:Hp}{s:Shared}{p:Addr}{xs ys:List V}{its its':List Value}{n n':Nat}{f:Obj->Obj}(I:Inv X pins σ H s)(h:H p=some (.lst xs))
  (ho:s.heap.get? p=some { cls:=.type "list",data:=.seq its.toArray n }) (hf:f { cls:=.type "list",data:=.seq its.toArray n }={ cls:=.type "list",data:=.seq its'.toArray n' }) (r:Vals ys its') (hz:ys.length<=sizeLine) (t:Nat):
  Inv X pins σ (upd H p (.lst ys)) { s with heap:=s.heap.update p f,toks:=t }:=by
 have e:(s.heap.update p f).get? p=some { cls:=.type "list",data:=.seq its'.toArray n' }:=by
  rw[Heap.get?_update_self f ho (by rw[hf]<;>rfl),hf]
 refine I.write (x:=p) (e:=p) (by rw[h];trivial) (.inl rfl) (fun b u hb q=>(Heap.get?_update_other _ _ (Ne.symm hb)).trans q) ⟨_,e⟩ ?_
 exact⟨hz,its',n',r,e⟩
def rSetL:V->V->V->Hp->(Hp->Prop)->Prop:=fun o i v H Q=>∃p xs k j,o= .ref p/\i= .int k/\H p=some (.lst xs)/\ixN xs.length k=some j/\Q (upd H p (.lst (xs.set j v)))
theorem z6:PSet X rSetL:=by
 intro pins s σ H o i v ov iv u Q I ro ri rv h
 obtain⟨p,xs,k,j,rfl,rfl,hp,hj,q⟩:=h
 cases ro
 obtain⟨t,rfl⟩:=ri
 obtain⟨its,n,r,ho,hz⟩:=I.lst hp
 obtain⟨h1,h2,h3,h4⟩:=Xl hj
 have hl:=r.length
 have hn:=line63
 have I':Inv X pins σ (upd H p (.lst (xs.set j v))) { s with heap:=s.heap.update p (Obj.mapSeq (·.setIfInBounds j u)) }:=
  I.lstUpd hp ho (QT its n j u) (r.set rv j) (by rw[List.length_set];exact hz) s.toks
 by_cases h0:0<=k
 ·have hk:k.toNat=j:=by
   rw[seqIndex_of h0 h4]at h1
   exact Option.some.inj h1
  exact PySem.W.ki_setAt ho h0 (by omega) (by rw[List.size_toArray,<- hl];exact h4) (by rw[hk];exact⟨_,I',q⟩)
 ·have hk:(k+(its.toArray.size:Int)).toNat=j:=by
   rw[seqIndex_neg (by omega) h3]at h1
   rw[List.size_toArray,<- hl]
   exact Option.some.inj h1
  exact PySem.W.ki_setBack ho (by omega) (by rw[List.size_toArray,<- hl];exact h3) (by omega) (by rw[hk];exact⟨_,I',q⟩)
theorem KN(lo hi:Option Int)(n:Nat):(sliceBounds lo hi none n).1=((HT.sIx n 0 lo:Nat):Int)/\(sliceBounds lo hi none n).2.1=((HT.sIx n n hi:Nat):Int)/\(sliceBounds lo hi none n).2.2=1:=by
 refine⟨?_,?_,rfl⟩
 ·cases lo with
  |none=>simp [sliceBounds,HT.sIx]
  |some i=>
   simp only[sliceBounds,HT.sIx,Option.getD_none,show(1:Int) > 0 by decide,if_true]
   by_cases h:i < 0
   ·simp only[h,if_true]<;>omega
   ·simp only[h,if_false]<;>omega
 ·cases hi with
  |none=>simp [sliceBounds,HT.sIx]
  |some i=>
   simp only[sliceBounds,HT.sIx,Option.getD_none,show(1:Int) > 0 by decide,if_true]
   by_cases h:i < 0
   ·simp only[h,if_true]<;>omega
   ·simp only[h,if_false]<;>omega
theorem JR(its:List Value)(lo hi:Option Int):slicePick its.toArray lo hi none=((its.drop (HT.sIx its.length 0 lo)).take (HT.sIx its.length its.length hi - HT.sIx its.length 0 lo)).toArray:=by
 obtain⟨h1,h2,h3⟩:=KN lo hi its.toArray.size
 unfold slicePick
 rw[h1,h2,h3]
 simp only[sliceRange_one,pick_run,List.size_toArray]<;>rfl
def rSlL(K:Frag):V->Option Int->Option Int->Hp->VK->Prop:=fun x lo hi H Q=>∃a xs,x= .ref a/\SqL K H a xs/\∀p,H p=none->Q (.ref p) (upd H p (.lst (cutV xs lo hi)))
theorem jJ:SlR X (rSlL X.K):=by
 intro pins s σ H x v vl vu lo hi sl Q I rx hs pl pu h
 obtain⟨a,xs,rfl,hx,q⟩:=h
 cases rx
 obtain⟨its,r,ht,hz⟩:=I.list hx
 have hlen:=r.length
 refine⟨"list",_,slot_list_getitem.lookup,ht.isList.typeIs,?_⟩
 refine wpAny_getItem_list_slice ht.isList hs pl pu .none (by simp) ?_ (by rw[List.size_toArray]<;>omega)
 rw[JR,<- hlen]
 refine⟨.ref s.heap.objs.size,_,I.laid (t':=s.toks) (o:=.lst (cutV xs lo hi)) (fun b ob q=>Heap.get?_push_of_some _ q) (Nat.le_refl _) ?_,rfl,q _ (I.hok.fresh (Nat.le_refl _))⟩
 exact⟨Nat.le_trans (ku xs lo hi) hz,_,0,(r.drop (HT.sIx xs.length 0 lo)).take (HT.sIx xs.length xs.length hi - HT.sIx xs.length 0 lo),Heap.get?_push_size _ rfl⟩
noncomputable def flatV:V->Bool
 | .non=>true
 | .bl _=>true
 | .int _=>true
 | .str _=>true
 |_=>false
noncomputable def eqV:V->V->Bool
 | .non,.non=>true
 | .bl a,.bl b=>a==b
 | .bl a,.int b=>(if a then 1 else 0)==b
 | .int a,.bl b=>a==(if b then 1 else 0)
 | .int a,.int b=>a==b
 | .str a,.str b=>a==b
 |_,_=>false
theorem eqAt_V{A:Around}{s:Shared}{y x:V}{u v:Value}(ry:RelV y u)(rx:RelV x v)(fy:flatV y=true)(fx:flatV x=true):SeqAt.EqAt A s u v (eqV y x):=by
 cases y with
 |non=>
  cases ry
  cases x with
  |non=>cases rx;exact SeqAt.EqAt.same _
  |bl b=>cases rx;exact SeqAt.EqAt.none_bool b
  |int b=>obtain⟨t,rfl⟩:=rx;exact SeqAt.EqAt.none_int b t
  |str b=>obtain⟨t,rfl⟩:=rx;exact SeqAt.EqAt.none_str b t
  |_=>exact absurd (show false=true from fx) Bool.false_ne_true
 |bl a=>
  cases ry
  cases x with
  |non=>cases rx;exact SeqAt.EqAt.bool_none a
  |bl b=>cases rx;exact SeqAt.EqAt.bool_bool a b
  |int b=>obtain⟨t,rfl⟩:=rx;exact SeqAt.EqAt.bool_int a b t
  |str b=>obtain⟨t,rfl⟩:=rx;exact SeqAt.EqAt.bool_str a b t
  |_=>exact absurd (show false=true from fx) Bool.false_ne_true
 |int a=>
  obtain⟨t',rfl⟩:=ry
  cases x with
  |non=>cases rx;exact SeqAt.EqAt.int_none a t'
  |bl b=>cases rx;exact SeqAt.EqAt.int_bool a t' b
  |int b=>obtain⟨t,rfl⟩:=rx;exact SeqAt.EqAt.int_int a t' b t
  |str b=>obtain⟨t,rfl⟩:=rx;exact SeqAt.EqAt.int_str a t' b t
  |_=>exact absurd (show false=true from fx) Bool.false_ne_true
 |str a=>
  obtain⟨t',rfl⟩:=ry
  cases x with
  |non=>cases rx;exact SeqAt.EqAt.str_none a t'
  |bl b=>cases rx;exact SeqAt.EqAt.str_bool a t' b
  |int b=>obtain⟨t,rfl⟩:=rx;exact SeqAt.EqAt.str_int a t' b t
  |str b=>obtain⟨t,rfl⟩:=rx;exact SeqAt.EqAt.str_str a t' b t
  |_=>exact absurd (show false=true from fx) Bool.false_ne_true
 |_=>exact absurd (show false=true from fy) Bool.false_ne_true
noncomputable def eqU(x:V)(u:Value):Bool:=match u with
 | .none=>eqV .non x
 | .bool b=>eqV (.bl b) x
 | .int i _=>eqV (.int i) x
 | .str z _=>eqV (.str z) x
 |_=>false
theorem YS{x y:V}{u:Value}(r:RelV y u)(f:flatV y=true):eqU x u=eqV y x:=by
 cases y with
 |non=>cases r;rfl
 |bl b=>cases r;rfl
 |int i=>obtain⟨t,rfl⟩:=r;rfl
 |str z=>obtain⟨t,rfl⟩:=r;rfl
 |_=>exact absurd (show false=true from f) Bool.false_ne_true
theorem qC{x:V}:∀{xs:List V} {us:List Value},Vals xs us->xs.all flatV=true->us.any (eqU x)=xs.any fun y=>eqV y x
 |_,_,.nil,_=>rfl
 |y::xs,u::us,.cons r t,f=>by
  rw[List.all_cons,Bool.and_eq_true]at f
  rw[List.any_cons,List.any_cons,YS r f.1,qC t f.2]
theorem z7{A:Around}{s:Shared}{x:V}{v:Value}(rx:RelV x v)(fx:flatV x=true):∀{xs:List V} {us:List Value},Vals xs us->xs.all flatV=true->∀u∈us,SeqAt.EqAt A s u v (eqU x u)
 |_,_,.nil,_=>fun u hu=>by cases hu
 |y::xs,u::us,.cons r t,f=>fun u' hu=>by
  rw[List.all_cons,Bool.and_eq_true]at f
  rcases List.mem_cons.mp hu with rfl |hu
  ·rw[YS r f.1];exact eqAt_V r rx f.1 fx
  ·exact z7 rx fx t f.2 u' hu
noncomputable def inV(x:V)(xs:List V):Bool:=xs.any fun y=>eqV y x
def rIn(K:Frag)(neg:Bool):R2:=fun x y H Q=>∃p xs,y= .ref p/\(SqL K H p xs∨SqT K H p xs)/\flatV x=true/\xs.all flatV=true/\Q (.bl (if neg then !inV x xs else inV x xs)) H
theorem jZ:OpR X (compareOp .In) (rIn X.K false):=by
 intro pins s σ H x y v u Q I rx ry h
 obtain⟨p,xs,rfl,hq,fx,fs,q⟩:=h
 cases ry
 rcases hq with hq |hq
 ·obtain⟨its,r,pl,hz⟩:=I.list hq
  refine SeqAt.in_listAt (eqU x) pl.isList (fun w hw=>z7 rx fx r fs w (by simpa using hw)) ⟨.bl _,H,I,rfl,?_⟩
  rw[show its.toArray.any (eqU x)=its.any (eqU x) by simp,qC r fs]
  exact q
 ·obtain⟨its,r,pl,hz⟩:=I.tuple hq
  refine SeqAt.in_tupleAt (eqU x) pl (fun w hw=>z7 rx fx r fs w (by simpa using hw)) ⟨.bl _,H,I,rfl,?_⟩
  rw[show its.toArray.any (eqU x)=its.any (eqU x) by simp,qC r fs]
  exact q
theorem qM:OpR X (compareOp .NotIn) (rIn X.K true):=by
 intro pins s σ H x y v u Q I rx ry h
 obtain⟨p,xs,rfl,hq,fx,fs,q⟩:=h
 cases ry
 rcases hq with hq |hq
 ·obtain⟨its,r,pl,hz⟩:=I.list hq
  refine SeqAt.notIn_listAt (eqU x) pl.isList (fun w hw=>z7 rx fx r fs w (by simpa using hw)) ⟨.bl _,H,I,rfl,?_⟩
  rw[show its.toArray.any (eqU x)=its.any (eqU x) by simp,qC r fs]
  exact q
 ·obtain⟨its,r,pl,hz⟩:=I.tuple hq
  refine SeqAt.notIn_tupleAt (eqU x) pl (fun w hw=>z7 rx fx r fs w (by simpa using hw)) ⟨.bl _,H,I,rfl,?_⟩
  rw[show its.toArray.any (eqU x)=its.any (eqU x) by simp,qC r fs]
  exact q
theorem jw:CallR X (.builtin "len") (fun xs H Q=>∃p ys,xs=[.ref p]/\(SqL X.K H p ys∨SqT X.K H p ys)/\Q (.int ys.length) H):=by
 intro pins s σ H xs us Q I r h
 obtain⟨p,ys,rfl,hq,q⟩:=h
 obtain⟨u,rfl,rx⟩:=vals1 r
 cases rx
 have hn:=line63
 rcases hq with hq |hq
 ·obtain⟨its,r',pl,hz⟩:=I.list hq
  have hlen:=r'.length
  exact Calls.call_len_list pl.isList (by simp only[List.size_toArray]<;>omega) ⟨.int ys.length,H,I.tok _,⟨s.toks+1,by rw[List.size_toArray,hlen]⟩,q⟩
 ·obtain⟨its,r',pl,hz⟩:=I.tuple hq
  have hlen:=r'.length
  exact len_tuple pl (by simp only[List.size_toArray]<;>omega) ⟨.int ys.length,H,I.tok _,⟨s.toks+1,by rw[List.size_toArray,hlen]⟩,q⟩
theorem qN:CallR X (.builtin "len") (fun xs H Q=>∃z,xs=[.str z]/\z.length<=sizeLine/\Q (.int z.length) H):=by
 intro pins s σ H xs us Q I r h
 obtain⟨z,rfl,hz,q⟩:=h
 obtain⟨u,rfl,t,rfl⟩:=vals1 r
 have hn:=line63
 exact len_str (by omega) ⟨.int z.length,H,I.tok _,⟨_,rfl⟩,q⟩
theorem CallR.or{f:Value}{r r':List V->Hp->VK->Prop}(h:CallR X f r)(h':CallR X f r'):CallR X f (fun xs H Q=>r xs H Q∨r' xs H Q):=by
 intro pins s σ H xs us Q I rs q
 rcases q with q |q
 ·exact h pins s σ H xs us Q I rs q
 ·exact h' pins s σ H xs us Q I rs q
theorem KO:CallR X (.type "list") (fun xs H Q=>∃p ys,xs=[.ref p]/\(SqL X.K H p ys∨SqT X.K H p ys)/\∀l,H l=none->Q (.ref l) (upd H l (.lst ys))):=by
 intro pins s σ H xs us Q I r h
 obtain⟨p,ys,rfl,hq,q⟩:=h
 obtain⟨u,rfl,rx⟩:=vals1 r
 cases rx
 have fin:∀(its:List Value),Vals ys its->ys.length<=sizeLine->∀(h':Heap) (c':Nat),(∀b o',s.heap.get? b=some o'->h'.get? b=some o')->
   h'.get? s.heap.objs.size=some { cls:=.type "list",dict:=none,data:=.seq its.toArray c',slots:=#[] }->EP X pins σ Q (.ref s.heap.objs.size) { s with heap:=h' }:=fun its r' hz h' c' kp e=>
  ⟨.ref s.heap.objs.size,_,I.laid (t':=s.toks) kp (Nat.le_refl _) (show ObjOk X.prog X.w _ h' _ (.lst ys) from ⟨hz,its,c',r',e⟩),rfl,q _ (I.hok.fresh (Nat.le_refl _))⟩
 rcases hq with hq |hq
 ·obtain⟨its,r',pl,hz⟩:=I.list hq
  have hlen:=r'.length
  obtain⟨o,ho,hc,n,hd⟩:=pl.isList
  exact call_list_seq p (.inl rfl) ho hc hd (fun h' c' kp e=>fin its r' hz h' c' kp e) (by simp only[List.size_toArray]<;>omega)
 ·obtain⟨its,r',pl,hz⟩:=I.tuple hq
  have hlen:=r'.length
  obtain⟨o,ho,hc,n,hd⟩:=pl
  exact call_list_seq p (.inr rfl) ho hc hd (fun h' c' kp e=>fin its r' hz h' c' kp e) (by simp only[List.size_toArray]<;>omega)
theorem jA:CallR X (.type "tuple") (fun xs H Q=>∃p ys,xs=[.ref p]/\((SqL X.K H p ys/\∀l,H l=none->Q (.ref l) (upd H l (.tup ys)))∨(SqT X.K H p ys/\Q (.ref p) H))):=by
 intro pins s σ H xs us Q I r h
 obtain⟨p,ys,rfl,h⟩:=h
 obtain⟨u,rfl,rx⟩:=vals1 r
 cases rx
 rcases h with ⟨hq,q⟩ | ⟨hq,q⟩
 ·obtain⟨its,r',pl,hz⟩:=I.list hq
  have hlen:=r'.length
  refine call_tuple_list pl.isList (fun h' kp=>?_) (by simp only[List.size_toArray]<;>omega)
  have I1:Inv X pins σ H { s with heap:=h' }:=I.kept (t':=s.toks) kp
  have I2:Inv X pins σ (upd H h'.objs.size (.tup ys)) { s with heap:=h'.push { cls:=.type "tuple",data:=.seq its.toArray } }:=
   I1.laid (t':=s.toks) (fun b o e=>Heap.get?_push_of_some _ e) (Nat.le_refl _) (show ObjOk X.prog X.w _ _ _ (.tup ys) from ⟨hz,its,r',IsTup.new _ _⟩)
  exact⟨.ref h'.objs.size,_,I2,rfl,q _ (I1.hok.fresh (Nat.le_refl _))⟩
 ·obtain⟨its,r',pl,hz⟩:=I.tuple hq
  exact call_tuple_same pl ⟨.ref p,H,I,rfl,q⟩
def tyV(K:Frag)(T:String)(x:V)(H:Hp):Prop:=match x with
 | .str _=>T="str"
 | .int _=>T="int"
 | .ref p=>(T="list"/\∃xs,SqL K H p xs)∨(T="tuple"/\∃o,K.lookup p=some o/\o.cls= .type "tuple"/\o.dict=none)∨
   (T="dict"/\((∃kvs,H p=some (.dK kvs))∨∃kvs,H p=some (.dT kvs)))∨(T="set"/\∃S n,H p=some (.set S n))
 |_=>False
theorem Ks{pins:List (Addr×Obj)}{σ:St}{H:Hp}{s:Shared}{T:String}{x:V}{v:Value}(I:Inv X pins σ H s)(r:RelV x v)(ty:tyV X.K T x H):
  s.TypeIs v T/\∀a,v= .ref a->∃ob,s.heap.get? a=some ob/\ob.dict=none:=by
 cases x with
 |str z=>
  obtain⟨t,rfl⟩:=r
  cases (show T="str" from ty)
  exact⟨typeIs_str s z t,fun _ e=>nomatch e⟩
 |int i=>
  obtain⟨t,rfl⟩:=r
  cases (show T="int" from ty)
  exact⟨typeIs_int s i t,fun _ e=>nomatch e⟩
 |ref p=>
  cases r
  rcases ty with ⟨rfl,xs,hq⟩ | ⟨rfl,o,hk,hc,hd⟩ | ⟨rfl,hk⟩ | ⟨rfl,S,n,hk⟩
  ·obtain⟨its,_,pl,_⟩:=I.list hq
   refine⟨pl.isList.typeIs,fun a e=>?_⟩
   cases e
   obtain⟨o,n,e,c,hd,_⟩:=pl
   exact⟨o,e,hd⟩
  ·refine⟨⟨o,I.kIn p o hk,hc⟩,fun a e=>?_⟩
   cases e
   exact⟨o,I.kIn _ o hk,hd⟩
  ·have z:∃o,s.heap.get? p=some o/\o.ExactDict:=by
    rcases hk with ⟨kvs,hk⟩ | ⟨kvs,hk⟩
    ·obtain⟨_,_,_,_,o,_,_,e,ex,_⟩:=I.hok p _ hk
     exact⟨o,e,ex⟩
    ·obtain⟨_,_,_,_,o,_,_,e,ex,_⟩:=I.hok p _ hk
     exact⟨o,e,ex⟩
   obtain⟨o,e,ex⟩:=z
   refine⟨⟨o,e,ex.1⟩,fun a e2=>?_⟩
   cases e2
   exact⟨o,e,ex.2.1⟩
  ·obtain⟨o,_,_,_,e,ex,_⟩:=I.hok p _ hk
   refine⟨⟨o,e,ex.1⟩,fun a e2=>?_⟩
   cases e2
   exact⟨o,e,ex.2.1⟩
 |_=>exact False.elim ty
def tBM0(K:Frag)(T:String)(r:V->List V->Hp->VK->Prop)(to:TE):TE:=fun σ H Q=>to σ H fun x H1=>tyV K T x H1/\r x [] H1 Q
def tBM(K:Frag)(T:String)(r:V->List V->Hp->VK->Prop)(to:TE)(t:TA):TE:=fun σ H Q=>to σ H fun x H1=>tyV K T x H1/\t σ H1 fun xs H2=>r x xs H2 Q
variable {o e:Expr}{es:List Expr}{to:TE}{t:TA}{name:Str}{apos cpos:Pos}{T id:String}{r:V->List V->Hp->VK->Prop}
theorem qv(pa:PlainAttrs T)(slot:Slot T name id)(hty:typeOf (.builtin id)=pure (.type "method_descriptor"))(hm:MtR X id r)(ho:PE X o to)
  (hbase:attributeBase o name X.env (eval o X.env)=eval o X.env:=by rfl) (hline:(apos.endLine==cpos.line)=true:=by rfl):PE X (.Call (.Attribute o name apos) [] [] cpos) (tBM0 X.K T r to):=by
 intro pins s σ H Q I h
 refine wpAny_Call_method0_late hbase hline (thn (ho pins s σ H _ I h) fun v s1 ⟨x,H1,I1,r1,ty,q1⟩=>?_)
 obtain⟨h1,h2⟩:=Ks I1 r1 ty
 exact⟨T,id,pa,slot,hty,h1,h2,Calls.callWith_builtin rfl (PySem.evalArgs_none (hm pins s1 σ H1 x [] v [] Q I1 r1 .nil q1))⟩
theorem jS(pa:PlainAttrs T)(slot:Slot T name id)(hty:typeOf (.builtin id)=pure (.type "method_descriptor"))(hm:MtR X id r)(ho:PE X o to)(ha:PA X (e::es) t)
  (hbase:attributeBase o name X.env (eval o X.env)=eval o X.env:=by rfl)
  (hfew:((backTo cpos (starEach (e::es) X.env)).all (fun x=>!x.1)&&(backToKw cpos (keywordEach [] X.env)).all (fun x=>x.1.isSome)
   &&decide ((e::es).length+([]:List Keyword).length+(if ([]:List Keyword).isEmpty then 0 else 1) < 30))=true:=by rfl)
  (hline:(apos.endLine==cpos.line)=true:=by rfl) (hs:starEach (e::es) X.env=(false,eval e X.env)::starEach es X.env:=by rfl) (hplain:(backTo cpos (starEach es X.env)).any (·.1)=false:=by rfl):
  PE X (.Call (.Attribute o name apos) (e::es) [] cpos) (tBM X.K T r to t):=by
 intro pins s σ H Q I h
 refine wpAny_Call_method_late hbase hfew hline rfl (thn (ho pins s σ H _ I h) fun v s1 ⟨x,H1,I1,r1,ty,q1⟩=>?_)
 obtain⟨h1,h2⟩:=Ks I1 r1 ty
 refine⟨T,id,pa,slot,hty,h1,h2,?_⟩
 have hA:=ha cpos pins s1 σ H1 _ I1 q1
 rw[hs]at hA ⊢
 refine Calls.callWith_builtin (by show(false||(backTo cpos (starEach es X.env)).any (·.1))=false;rw[hplain]<;>rfl) (Calls.evalArgs_plain ?_)
 exact thn hA fun us s2 ⟨vs,H2,I2,r2,q2⟩=>hm pins s2 σ H2 x vs v us Q I2 r1 r2 q2
end
def MtM(X:Cx)(id:String)(r:V->List V->Hp->VK->Prop):Prop:=
 ∀(pins:List (Addr×Obj)) (s:Shared) (σ:St) (H:Hp) (x:V) (xs:List V) (v:Value) (us:List Value) (Q:VK),Inv X pins σ H s->RelV x v->Vals xs us->r x xs H Q->
  wpAny (model X.prog X.w) X.A (call (.builtin id) (v::us)) (EP X pins σ Q) X.xe s
theorem Vals.one:∀{x:V} {us:List Value},Vals [x] us->∃u,us=[u]/\RelV x u
 |_,_,.cons r .nil=>⟨_,rfl,r⟩
theorem Vals.zero:∀{us:List Value},Vals [] us->us=[]
 |_,.nil=>rfl
theorem Vals.dropLast{xs:List V}{us:List Value}(h:Vals xs us):Vals xs.dropLast us.dropLast:=by
 induction h with
 |nil=>exact .nil
 |cons r t ih=>
  cases t with
  |nil=>exact .nil
  |cons q t'=>exact .cons r ih
theorem Vals.reverse{xs:List V}{us:List Value}(h:Vals xs us):Vals xs.reverse us.reverse:=by
 induction h with
 |nil=>exact .nil
 |cons r t ih=>rw[List.reverse_cons,List.reverse_cons];exact Vals.append ih (.cons r .nil)
theorem QU{α:Type}(l:List α):l.eraseIdx (l.length - 1)=l.dropLast:=by
 induction l with
 |nil=>rfl
 |cons a r ih=>
  cases r with
  |nil=>rfl
  |cons b r=>
   have e:(a::b::r).length - 1=((b::r).length - 1)+1:=by
    have h1:(a::b::r).length=r.length+2:=rfl
    have h2:(b::r).length=r.length+1:=rfl
    omega
   rw[e,List.eraseIdx_cons_succ,ih]
   all_goals rfl
section
variable {X:Cx}{pins:List (Addr×Obj)}{σ:St}{H:Hp}{s:Shared}{l b:Addr}{xs ys zs:List V}
theorem Inv.lset{its its':List Value}{n:Nat}{f:Array Value->Array Value}{t':Nat}(I:Inv X pins σ H s)(hH:H l=some (.lst xs))
  (e:s.heap.get? l=some { cls:=.type "list",data:=.seq its.toArray n }) (hf:f its.toArray=its'.toArray) (hv:Vals ys its') (hz:ys.length<=sizeLine):
  Inv X pins σ (upd H l (.lst ys)) { s with heap:=s.heap.update l (Obj.mapSeq f),toks:=t' }:=by
 have q:=PySem.IsL.update e f
 rw[hf]at q
 refine I.write (x:=l) (e:=l) (by rw[hH];exact trivial) (.inl rfl) (fun b' u hb hu=>(Heap.get?_update_other s.heap (Obj.mapSeq f) (Ne.symm hb)).trans hu) ⟨_,q⟩ ?_
 exact⟨hz,its',_,hv,q⟩
theorem Inv.lnew{its:List Value}{t':Nat}(I:Inv X pins σ H s)(hv:Vals ys its)(hz:ys.length<=sizeLine):
  Inv X pins σ (upd H s.heap.objs.size (.lst ys)) { s with heap:=s.heap.push { cls:=.type "list",data:=.seq its.toArray },toks:=t' }:=
 I.laid (fun _ _ q=>Heap.get?_push_of_some _ q) (Nat.le_refl _) ⟨hz,its,0,hv,Heap.get?_push_size _ rfl⟩
theorem Inv.fresh(I:Inv X pins σ H s):H s.heap.objs.size=none:=I.hok.fresh (Nat.le_refl _)
theorem Inv.lstM(I:Inv X pins σ H s)(hH:H l=some (.lst xs)):xs.length<=sizeLine/\∃(its:List Value) (n:Nat),Vals xs its/\xs.length=its.length/\s.heap.get? l=some { cls:=.type "list",data:=.seq its.toArray n }:=by
 obtain⟨z,its,n,r,e⟩:=I.hok l _ hH
 exact⟨z,its,n,r,r.length,e⟩
theorem notLongL{n:Nat}(h:n<=sizeLine):Builtin.List.listTooLong n=false:=by
 unfold Builtin.List.listTooLong
 exact decide_eq_false (by omega)
end
section
variable {X:Cx}
def rAppend:V->List V->Hp->VK->Prop:=fun x vs H Q=>∃l xs y,x= .ref l/\vs=[y]/\H l=some (.lst xs)/\xs.length < sizeLine/\Q .non (upd H l (.lst (xs++[y])))
theorem jL:MtM X "list.append" rAppend:=by
 intro pins s σ H x vs v us Q I rx rv h
 obtain⟨l,xs,y,rfl,rfl,hH,hz,q⟩:=h
 cases rx
 obtain⟨u,rfl,ru⟩:=rv.one
 obtain⟨z,its,n,r,hl,e⟩:=I.lstM hH
 refine call_meets F.slot_list_append ⟨_,e,rfl⟩ F.entry_list_append (F.args_list_append_2 _ _) (PySem.list_append l its.toArray n u (by rw[List.size_toArray];omega)) ⟨e,?_⟩
 refine⟨.non,_,I.lset (its':=its++[u]) hH e (by simp) (r.append (.cons ru .nil)) ?_,rfl,q⟩
 rw[List.length_append,List.length_singleton]
 omega
def rExtend:V->List V->Hp->VK->Prop:=fun x vs H Q=>∃l b xs zs,x= .ref l/\vs=[.ref b]/\H l=some (.lst xs)/\H b=some (.lst zs)/\xs.length+zs.length<=sizeLine/\Q .non (upd H l (.lst (xs++zs)))
theorem J8:MtM X "list.extend" rExtend:=by
 intro pins s σ H x vs v us Q I rx rv h
 obtain⟨l,b,xs,zs,rfl,rfl,hH,hB,hz,q⟩:=h
 cases rx
 obtain⟨u,rfl,ru⟩:=rv.one
 cases ru
 obtain⟨z,its,n,r,hl,e⟩:=I.lstM hH
 obtain⟨z2,its2,n2,r2,hl2,e2⟩:=I.lstM hB
 have hsz:its.toArray.size+its2.toArray.size<=sizeLine:=by rw[List.size_toArray,List.size_toArray];omega
 have hlong:¬(!its.toArray.isEmpty&&Builtin.List.listTooLong (its.toArray.size+its2.toArray.size))=true:=by
  rw[notLongL hsz,Bool.and_false]
  exact Bool.false_ne_true
 refine call_meets F.slot_list_extend ⟨_,e,rfl⟩ F.entry_list_extend (F.args_list_extend_2 _ _)
  (AutoSeq1.list_extend_list_list_0 l its.toArray n b its2.toArray n2 hlong (by rw[List.size_toArray];omega) (by omega)) ⟨e,e2,?_⟩
 refine⟨.non,_,I.lset (its':=its++its2) hH e (by simp) (r.append r2) ?_,rfl,q⟩
 rw[List.length_append]
 omega
def rPop:V->List V->Hp->VK->Prop:=fun x vs H Q=>∃l xs y,x= .ref l/\vs=[]/\H l=some (.lst xs)/\xs[xs.length - 1]?=some y/\Q y (upd H l (.lst xs.dropLast))
theorem Jx:MtM X "list.pop" rPop:=by
 intro pins s σ H x vs v us Q I rx rv h
 obtain⟨l,xs,y,rfl,rfl,hH,hy,q⟩:=h
 cases rx
 have hus:=rv.zero
 subst hus
 obtain⟨z,its,n,r,hl,e⟩:=I.lstM hH
 obtain⟨u,hu,ru⟩:=r.get hy
 have hy':its.toArray[its.toArray.size - 1]?=some u:=by
  show its.toArray[its.length - 1]?=some u
  rw[<- Array.getElem?_toList,<- hl]
  exact hu
 refine call_meets F.slot_list_pop ⟨_,e,rfl⟩ F.entry_list_pop (F.args_list_pop_1 _) (MeetsSeq.list_pop_last l its.toArray n u hy' (by rw[List.size_toArray];omega)) ⟨e,?_⟩
 refine⟨y,_,I.lset (its':=its.dropLast) hH e ?_ r.dropLast ?_,ru,q⟩
 ·show its.toArray.eraseIdxIfInBounds (its.toArray.size - 1)=its.dropLast.toArray
  rw[List.size_toArray,List.eraseIdxIfInBounds_toArray,QU]
 ·rw[List.length_dropLast]
  omega
def rCat:R2:=fun x y H Q=>∃l b xs zs,x= .ref l/\y= .ref b/\H l=some (.lst xs)/\H b=some (.lst zs)/\xs.length+zs.length<=sizeLine/\∀p,H p=none->Q (.ref p) (upd H p (.lst (xs++zs)))
theorem j8:OpR X (binaryOp .Add) rCat:=by
 intro pins s σ H x y v u Q I rx ry h
 obtain⟨l,b,xs,zs,rfl,rfl,hH,hB,hz,q⟩:=h
 cases rx
 cases ry
 obtain⟨z,its,n,r,hl,e⟩:=I.lstM hH
 obtain⟨z2,its2,n2,r2,hl2,e2⟩:=I.lstM hB
 refine PySem.P.add_list e e2 ?_ (by rw[List.size_toArray,List.size_toArray];omega)
 have ea:its.toArray++its2.toArray=(its++its2).toArray:=by simp
 rw[ea]
 exact⟨.ref _,_,I.lnew (t':=s.toks) (r.append r2) (by rw[List.length_append];omega),rfl,q _ I.fresh⟩
end
section
variable {prog:Program}{w:World}{A:Around}{E:Value->Shared->Prop}{s:Shared}
theorem XY(its its2 : List Value)(a c : Nat) : its.toArray.extract 0 a ++ its2.toArray ++ its.toArray.extract c its.toArray.size = (its.take a ++ its2 ++ its.drop c).toArray := by
  apply Array.toList_inj.mp
  first
    | (simp
       exact List.take_of_length_le (by simp))
    | simp [List.take_of_length_le]
    | simp
theorem QV{a c n:Nat}(hac:a<=c)(hc:c<=n):sliceBounds (some (a:Int)) (some (c:Int)) none n=((a:Int),(c:Int),1):=by
 simp only[sliceBounds,Option.getD_none]
 have h1:¬((a:Int) < 0):=by omega
 have h2:¬((c:Int) < 0):=by omega
 simp only[h1,h2,if_false,show(1:Int) > 0 by decide,if_true]
 congr 1
 ·omega
 ·congr 1;omega
set_option maxRecDepth 100000 in
theorem JS{l b sl:Addr}{items new:Array Value}{n n2:Nat}{vl vu:Value}{a c:Nat}{Q:Unit->Shared->Prop}
  (e:s.heap.get? l=some { cls:=.type "list",data:=.seq items n }) (e2:s.heap.get? b=some { cls:=.type "list",data:=.seq new n2 }) (hne:l≠b)
  (hs:s.heap.IsSliceOf sl vl vu .none) (pl:IsPart vl (some (a:Int))) (pu:IsPart vu (some (c:Int))) (hac:a<=c) (hc:c<=items.size)
  (hsz:items.size+new.size<=sizeLine) (h:Q () { s with heap:=s.heap.update l (Obj.mapSeq fun xs=>xs.extract 0 a++new++xs.extract c xs.size) }):
  wpAny (model prog w) A (setItem (.ref l) (.ref sl) (.ref b)) Q E s:=by
 have hl:s.heap.IsList l items:=PySem.IsL.isList e
 have hb:s.heap.IsList b new:=PySem.IsL.isList e2
 obtain⟨os,hos,hcs,hds⟩:=id hs
 have hTs:s.TypeIs (.ref sl) "slice":=⟨os,hos,hcs⟩
 have hstep:¬((rawPart none==rawInt 0)=true):=Bool.false_ne_true
 have hsame:Builtin.List.listSameRef (.ref l) (.ref b)=false:=by
  unfold Builtin.List.listSameRef
  exact beq_eq_false_iff_ne.mpr hne
 have hmax:(max (a:Int) (c:Int)).toNat=c:=by omega
 have hz':((fun xs:Array Value=>xs.extract 0 a++new++xs.extract c xs.size) items).size<=sizeLine+1:=by
  simp only[Array.size_append,Array.size_extract]
  omega
 unfold setItem
 try with_reducible refine wpAny_holding ?_
 first |refine wpAny_bind (wpAny_pure ?_) |skip
 refine wpAny_bind (wpAny_sequenceKey hl.typeIs (by decide) ?_)
 refine wpAny_bind (wpAny_callSpecial?_slot (name:=Str.ofString "__setitem__") hl.typeIs slot_list_setitem
  (wpAny_call_entry slot_list_setitem hl.typeIs entry_list_setitem ?_ (args_list_setitem _ _ _)))
 show wpAny _ _ (Builtin.List.listSubscript? (.ref sl) >>= _) _ _ s
 refine wpAny_bind ?_
 unfold Builtin.List.listSubscript?
 refine wpAny_bind (wpAny_specialOf hTs slice_no_index ?_)
 simp only[Option.isNone_none,if_true]
 refine wpAny_pure ?_
 show wpAny _ _ (typeOf (.ref sl) >>= _) _ _ s
 refine wpAny_bind (wpAny_typeOf hTs ?_)
 first
  |rw[if_neg (by decide)]
  |refine PySem.W.KFB.if_not (by decide) ?_
 rw[listSliceParts_eq]
 refine wpAny_bind (wpAny_bind (wpAny_field hos hds (x:=.none) rfl (wpAny_bind (wpAny_listPart .none ?_))))
 rw[if_neg hstep]
 refine wpAny_bind (wpAny_field hos hds (x:=vl) rfl (wpAny_bind (wpAny_listPart pl ?_)))
 refine wpAny_bind (wpAny_field hos hds (x:=vu) rfl (wpAny_bind (wpAny_listPart pu (wpAny_pure ?_))))
 first
  |simp only[hsame,Bool.false_eq_true,if_false]
  |refine PySem.W.KFB.if_not hsame ?_
  | (dsimp only;rw[if_neg (by rw[hsame];exact Bool.false_ne_true)])
 refine wpAny_bind (m:=Builtin.List.listAllItems (.ref b) "must assign iterable to extended slice") ?_
 unfold Builtin.List.listAllItems
 refine wpAny_bind (wpAny_typeOf hb.typeIs ?_)
 first
  |refine PySem.W.KFB.if_so (by decide) ?_
  |rw[if_pos (by decide)]
  |simp only[beq_self_eq_true,Bool.true_or,if_true]
 unfold Builtin.List.listItems
 refine wpAny_bind (wpAny_seqItems e2 rfl (wpAny_pure ?_))
 refine wpAny_bind (wpAny_bind (wpAny_seqItems e rfl (wpAny_pure ?_)))
 refine wpAny_bind (wpAny_of_eq ((sliceIndices_raw (some (a:Int)) (some (c:Int)) none items.size (by simp)).trans (congrArg (pure:Int×Int×Int->Sem (Int×Int×Int)) (QV hac hc))) ?_)
 show wpAny _ _ (if ((1:Int)==1)=true then _ else _) _ _ s
 rw[if_pos (by decide)]
 refine wpAny_bind (wpAny_rule ?_)
 first
  |simp only[notLongL hsz,Bool.false_eq_true,if_false]
  |refine PySem.W.KFB.if_not (notLongL hsz) ?_
 first |refine wpAny_bind (wpAny_pure ?_) |skip
 show wpAny _ _ (updateSeq l (fun xs=>xs.extract 0 ((a:Int)).toNat++new++xs.extract (max (a:Int) (c:Int)).toNat xs.size) >>= _) _ _ s
 rw[hmax,Int.toNat_natCast]
 refine wpAny_bind (wpAny_updateSeq (hz:=Nat.le_trans (Nat.le_add_right _ _) hsz) (_hz':=hz') e rfl ?_)
 refine wpAny_bind (wpAny_letGo ?_)
 first
  |exact wpAny_bind (wpAny_pure (wpAny_pure ⟨.none,rfl,wpAny_pure h⟩))
  |exact wpAny_pure ⟨.none,rfl,wpAny_pure h⟩
end
section
variable {X:Cx}
theorem XZ{pins:List (Addr×Obj)}{s:Shared}{σ:St}{H:Hp}{l b sl:Addr}{xs ys:List V}{a c:Int}{vl vu:Value}{Q:Unit->Shared->Prop}(I:Inv X pins σ H s)
  (hH:H l=some (.lst xs)) (hB:H b=some (.lst ys)) (hne:l≠b) (hs:s.heap.IsSliceOf sl vl vu .none) (ra:RelV (.int a) vl) (rc:RelV (.int c) vu) (h0:0<=a) (hac:a<=c) (hc:c<=xs.length)
  (hz:xs.length+ys.length<=sizeLine) (h:∀s',Inv X pins σ (upd H l (.lst (xs.take a.toNat++ys++xs.drop c.toNat))) s'->Q () s'):
  wpAny (model X.prog X.w) X.A (setItem (.ref l) (.ref sl) (.ref b)) Q X.xe s:=by
 obtain⟨ta,rfl⟩:=ra
 obtain⟨tc,rfl⟩:=rc
 obtain⟨z,its,n,r,hl,e⟩:=I.lstM hH
 obtain⟨z2,its2,n2,r2,hl2,e2⟩:=I.lstM hB
 obtain⟨a',rfl⟩:=Int.eq_ofNat_of_zero_le h0
 obtain⟨c',rfl⟩:=Int.eq_ofNat_of_zero_le (Int.le_trans h0 hac)
 simp only[Int.toNat_natCast]at h
 refine JS (a:=a') (c:=c') e e2 hne hs (.int _ _) (.int _ _) (by omega) (by rw[List.size_toArray];omega) (by rw[List.size_toArray,List.size_toArray];omega) (h _ ?_)
 refine I.lset (its':=its.take a'++its2++its.drop c') (t':=s.toks) hH e ?_ (Vals.append (Vals.append (r.take _) r2) (r.drop _)) ?_
 ·exact XY its its2 a' c'
 ·rw[List.length_append,List.length_append,List.length_take,List.length_drop]
  omega
end
end L2
namespace Att
open PySem PySem.W PySem.Calls PyProof.Rows
theorem Ji{P:Params}{h:Heap}:∀(ns:List Int) (vs:List Value),WellAll P h vs (ns.map WData.int)->IntsAre vs ns:=by
 intro ns
 induction ns with
 |nil=>
  intro vs w
  rw[List.map_nil]at w
  cases w
  exact .nil
 |cons n ns ih=>
  intro vs w
  rw[List.map_cons]at w
  cases w with
  |cons a b=>
   cases a
   exact .cons _ _ (ih _ b)
theorem X0{l:OpenLaw}{n:Nat}(hn:l.most=some n){P:Params}{h:Heap}{args:List WData}{vals:List Value}
  (hpre:l.row.toRowW.claim.pre args=true) (hwl:WellAll P h vals args):
  ∃a vs ns,vals=[Value.ref a]/\args=[WData.list (ns.map WData.int)]/\h.get? a=some { cls:=.type "list",data:=.seq vs.toArray }/\IntsAre vs ns/\ns.length<=n:=by
 have hsh:WShape.hasAll [] args [.list .int]=true:=(pre_splitW hpre).1
 have hc:l.pre.holds [] { args:=args }=true:=(pre_splitW hpre).2
 obtain⟨d,r,rfl,h1,h2⟩:=hasAllW_cons hsh
 obtain rfl:=hasAllW_nil h2
 obtain⟨xs,rfl,h3⟩:=hasW_list h1
 obtain⟨ns,rfl⟩:=items_int h3
 have hlen:ns.length<=n:=by
  unfold OpenLaw.pre at hc
  have h4:(WTm.not (.lt (.lit (.int (n:Int))) (.len (.arg 0)))).holds [] { args:=[.list (ns.map .int)] }=true:=by
   have h4:=(holds_andW hc).1
   rw[hn]at h4
   exact h4
  have h5:=condW_of h4 (w_not (w_lt w_lit (w_len_list (w_arg rfl))))
  rw[List.length_map]at h5
  refine Nat.le_of_not_lt fun q=>?_
  have q':(n:Int) < ((ns.length:Nat):Int):=by omega
  first
   | (rw[decide_eq_true q']at h5;exact absurd h5 (by decide))
   | (simp at h5;omega)
 cases hwl with
 |cons w1 w2=>
  cases w2
  cases w1 with
  |list ho hall=>exact⟨_,_,ns,rfl,rfl,ho,Ji ns _ hall,hlen⟩
theorem X1(l:OpenLaw)(args:List WData):l.row.toRowW.claim.post args (.bool true) args=true:=
 postW_of (r:=l.row.toRowW) (X:=(true==true))
  (show WShape.has [] (.bool true) .bool=true by first |rfl |decide |simp [WShape.has,WShape.arms,WShape.armsAll])
  (show(WTm.eq .res (.lit (.bool true))).value [] { args:=args,res:=some (.bool true),after:=args }=some (.bool (true==true)) from w_eq_bool (w_res rfl) w_lit) rfl
theorem attach_call{l:OpenLaw}{n:Nat}{q:Program}{loose:List Str}{XP:(Str->Option Value)->Heap->Prop}{YP:World->Heap->Prop}{d:DefRec}
  (hn:l.most=some n) (hdf:d.params.defaults=[])
  (call:∀(w:World) (s₀ s₁:Shared) (mg mb:Str->Option Value) (fa:Addr) (o:Obj) (pm cd doc:Value) (a:Addr) (vs:List Value) (ns:List Int),
   Ground q loose [] XP w s₀ mg mb s₁.heap->YP w s₁.heap->
   s₁.heap.get? fa=some o->o.data= .func (docDef d.name d.params d.body d.scope pm cd doc)->s₁.heap.CodeRec cd d.name->mg d.name=some (.ref fa)->
   s₁.heap.get? a=some { cls:=.type "list",data:=.seq vs.toArray }->IntsAre vs ns->ns.length<=n->s₁.gens=#[]->
   codeAny (model l.prog w) callerA (.call (.ref fa) ⟨[.ref a],[]⟩) (fun r s'=>r= .ok (.ret (.bool true))/\OldK s₁.heap s'.heap/\s'.os=s₁.os/\AllBare s'.gens) s₁):
  WalkO q loose XP YP l.row.toRowW d [] (fun f vs=>PySem.call f vs):=by
 intro w s₀ s₁ mg mb G Y fa o pm cd doc dV kV ho hd hcd hD hmg hg args vals as hpre hlay hrd hwl hlo
 obtain rfl:dV= .none:=Dflts.none hD hdf
 obtain rfl:kV= .none:=Dflts.noKw hD
 obtain⟨a,vs,ns,rfl,rfl,hobj,hints,hlen⟩:=X0 hn hpre hwl
 refine enter_call (codeAny_mono (call w s₀ s₁ mg mb fa o pm cd doc a vs ns G Y ho (fd_plain hd) hcd hmg hobj hints hlen hg) fun r s' hq=>?_)
 obtain⟨rfl,h2,h3,h4⟩:=hq
 exact⟨.inl ⟨.bool true,.bool true,[],rfl,fun _=>rfl,.bool true,X1 l _,fun _=>⟨List.Pairwise.nil,fun _ hm=>(nomatch hm)⟩⟩,h2,h3,h4⟩
end Att
namespace L2
open PySem PySem.Spec PyProof.Rows
theorem J9:∀{vs:List Value} {ns:List Int},IntsAre vs ns->Vals (ns.map V.int) vs
 |_,_,.nil=>.nil
 |_,_,.cons n t h=>.cons ⟨t,rfl⟩ (J9 h)
def Only(H:Hp):Prop:=∀b,H b=none∨∃o xs,H b=some (.frz o (.lst xs))
theorem Zt{P:Program}{w:World}{K:Frag}{mg mb:Str->Option Value}{CX:CXT}{k:Nat}{fa a:Addr}{fd:FuncData}{x:Str}{sp:Sp}{s₁:Shared}{vs:List Value}{ns:List Int}
  (KX:K.In s₁.heap) (hns:s₁.heap.Ns mainGlobals mg) (hb:s₁.heap.Ns builtinsNs mb) (hbb:∀x:Str,x≠"__name__"->mb x=bootBuiltins x) (hlim:s₁.heap.NoLimit) (hg:s₁.gens=#[])
  (ha:s₁.heap.get? a=some { cls:=.type "list",data:=.seq vs.toArray }) (hi:IntsAre vs ns) (hl:ns.length<=sizeLine) (hr:Room k callerA)
  (F:∀base:Heap,K.In base->base.Ns mainGlobals mg->FnOk P w K mg base CX k fa fd [x] sp) (hbind:∀(s:Shared) (u:Value),BindsTo s fd ⟨[u],[]⟩ [(x,u)])
  (hsp:∀H:Hp,Only H->SqL K H a (ns.map V.int)->sp [.ref a] H (fun v _=>v= .bl true) fun _ _ _=>False)
  (hCX:∀H e s',CX [] H s₁ (fun _ _ _=>False) e s'->False):
  codeAny (model P w) callerA (.call (.ref fa) ⟨[.ref a],[]⟩) (fun r s'=>r= .ok (.ret (.bool true))/\OldK s₁.heap s'.heap/\s'.os=s₁.os/\AllBare s'.gens) s₁:=by
 have rv:=J9 hi
 have lenV:=hi.length
 have core:∀H:Hp,Only H->SqL K H a (ns.map V.int)->HOk P w H s₁.heap->(∀b,H b≠none->b=a)->(H a≠none->K.lookup a=none)->
   codeAny (model P w) callerA (.call (.ref fa) ⟨[.ref a],[]⟩) (fun r s'=>r= .ok (.ret (.bool true))/\OldK s₁.heap s'.heap/\s'.os=s₁.os/\AllBare s'.gens) s₁:=by
  intro H hO hS hok hA hK
  have base_of:∀{b:Addr} {o:Obj},s₁.heap.get? b=some o->H b=none->(hidT s₁.heap H).get? b=some o:=fun e n=>Zl e n
  have noA:∀{b:Addr} {o:Obj} {es:Array DictEntry} {ep:Nat},s₁.heap.get? b=some o->o.data= .dict es ep->H b=none:=fun {b o es ep} e d=>by
   cases q:H b with
   |none=>rfl
   |some u=>
    have e':b=a:=hA b (by rw[q];simp)
    subst e'
    rw[ha]at e;cases e
    have d':Data.seq vs.toArray _=Data.dict es ep:=d
    cases d'
  have nsK:∀{b:Addr} {m:Str->Option Value},s₁.heap.Ns b m->(hidT s₁.heap H).Ns b m:=fun {b m} ⟨o,es,ep,e,d,r⟩=>⟨o,es,ep,base_of e (noA e d),d,r⟩
  have hKb:K.In (hidT s₁.heap H):=fun b o e=>base_of (KX b o e) (by
   cases q:H b with
   |none=>rfl
   |some u=>
    have e':b=a:=hA b (by rw[q];simp)
    subst e'
    rw[hK (by rw[q];simp)]at e;cases e)
  have hM:Mod K mg (hidT s₁.heap H):=⟨hKb,nsK hns,⟨mb,nsK hb,hbb⟩,let ⟨mc,h1,h2⟩:=hlim;⟨mc,nsK h1,h2⟩⟩
  have e0:Env0 P w K mg (hidT s₁.heap H) callerA [] s₁ H:=⟨rfl,hM,fun b o e=>of_hidT e,Nat.le_of_eq (XN _ _),trivial,fun b hb=>absurd (show b∈([]:List Addr) from hb) (by simp),hok,.of_eq hg⟩
  refine codeAny_mono ((F _ hKb (nsK hns)).run callerA [] s₁ H ⟨[.ref a],[]⟩ [.ref a] [.ref a] _ _ hr e0 (hbind s₁ (.ref a)) (.cons rfl .nil) (hsp H hO hS)) fun r s' h=>?_
  cases r with
  |error e=>exact(hCX H e s' h).elim
  |ok fl=>
   cases fl with
   |next=>exact False.elim h
   |brk=>exact False.elim h
   |cont=>exact False.elim h
   |ret u=>
    obtain⟨v,H',os,bare,un,hok',r',q⟩:=h
    have q':v= .bl true:=q
    subst q'
    obtain rfl:u=Value.bool true:=r'
    refine⟨rfl,OldK.of_keep fun b o e=>?_,os,bare⟩
    cases q:H b with
    |none=>exact un.keep b o e q (by intro z;exact absurd (show b∈([]:List Addr) from z) (by simp)) (by simp)
    |some u=>
     rcases hO b with z | ⟨ob,xs,z⟩
     ·rw[q]at z;cases z
     ·have z2:=un.frzs b ob _ z
      obtain⟨e1,_⟩:=hok b _ z
      obtain⟨e2,_⟩:=hok' b _ z2
      rw[e]at e1;cases e1
      exact e2
 cases hk:K.lookup a with
 |some o=>
  have e:=KX a o hk
  rw[ha]at e
  cases e
  refine core (fun _=>none) (fun _=>.inl rfl) (.inr ⟨_,vs.toArray,_,hk,rfl,rfl,rfl,by rw[List.size_toArray,lenV];exact hl,by simpa using rv⟩) (fun b u z=>by have z':(none:Option HO)=some u:=z;cases z') (fun b z=>absurd rfl z) fun z=>absurd rfl z
 |none=>
  refine core (fun b=>if b=a then some (.frz { cls:=.type "list",data:=.seq vs.toArray } (.lst (ns.map V.int))) else none) (fun b=>?_) (.inl (.inr ⟨{ cls:=.type "list",data:=.seq vs.toArray },if_pos rfl⟩)) (fun b u z=>?_) (fun b z=>?_) fun _=>hk
  ·by_cases hb:b=a
   ·exact .inr ⟨_,_,if_pos hb⟩
   ·exact .inl (if_neg hb)
  ·by_cases hb:b=a
   ·have z':=(if_pos hb).symm.trans z
    cases z'
    subst hb
    exact⟨ha,by rw[List.length_map];exact hl,vs,_,rv,ha⟩
   ·have z':=(if_neg hb).symm.trans z
    cases z'
  ·by_cases hb:b=a
   ·exact hb
   ·exact absurd (if_neg hb) z
theorem walk_of{l:PySem.W.OpenLaw}{n k:Nat}{q:Program}{loose:List Str}{XP:(Str->Option Value)->Heap->Prop}{YP:World->Heap->Prop}{d:DefRec}{K:Params->Frag}{CX:World->CXT}{sp:World->Sp}{x:Str}
  (hn:l.most=some n) (hn2:n<=sizeLine) (hdf:d.params.defaults=[]) (hr:Room k callerA)
  (hY:∀(w:World) (h:Heap),YP w h->(K w.params).In h)
  (F:∀(w:World) (mg:Str->Option Value) (fa:Addr) (h:Heap),(K w.params).In h->h.Ns mainGlobals mg->mg d.name=some (.ref fa)->
   ∃fd:FuncData,(∀(s:Shared) (u:Value),BindsTo s fd ⟨[u],[]⟩ [(x,u)])/\
    ∀base:Heap,(K w.params).In base->base.Ns mainGlobals mg->FnOk l.prog w (K w.params) mg base (CX w) k fa fd [x] (sp w))
  (hsp:∀(w:World) (H:Hp) (a:Addr) (ns:List Int),ns.length<=n->Only H->SqL (K w.params) H a (ns.map V.int)->sp w [.ref a] H (fun v _=>v= .bl true) fun _ _ _=>False)
  (hCX:∀(w:World) (H:Hp) (s:Shared) (e:Value) (s':Shared),CX w [] H s (fun _ _ _=>False) e s'->False):
  PySem.W.WalkO q loose XP YP l.row.toRowW d [] (fun f vs=>PySem.call f vs):=by
 refine Att.attach_call hn hdf fun w s₀ s₁ mg mb fa o pm cd doc a vs ns G Y ho hd hcd hmg hobj hints hlen hg=>?_
 have KX:=hY w _ Y
 obtain⟨fd,hb,hF⟩:=F w mg fa _ KX G.T.g hmg
 exact Zt KX G.T.g G.T.b G.T.builtins G.T.nolimit hg hobj hints (Nat.le_trans hlen hn2) hr hF hb (fun H hO hS=>hsp w H a ns hlen hO hS) fun H e s'=>hCX w H s₁ e s'
noncomputable def inClass(s:Stmt)(j:Nat):Stmt:=match s with
 | .ClassDef _ _ _ body _ _ _ _ _ _ _=>body.getD j (.Pass ⟨0,0,0,0⟩)
 |_=>.Pass ⟨0,0,0,0⟩
noncomputable def defArgs(s:Stmt):Arguments:=match s with
 | .FunctionDef _ a _ _ _ _ _ _ _ _=>a
 |_=>{ posonlyargs:=[],args:=[],vararg:=none,kwonlyargs:=[],kw_defaults:=[],kwarg:=none,defaults:=[] }
noncomputable def defBody(s:Stmt):List Stmt:=match s with
 | .FunctionDef _ _ b _ _ _ _ _ _ _=>b
 |_=>[]
noncomputable def defScope(s:Stmt):Scope:=match s with
 | .FunctionDef _ _ _ _ _ _ sc _ _ _=>sc
 |_=>{ kind:=.function,names:=[],isGenerator:=false,isCoroutine:=false }
abbrev CX0:CXT:=fun _ _ _ _ _ _=>False
abbrev E0:XK:=fun _ _ _=>False
theorem pass0{X:Cx}:Passes CX0 X E0:=fun _ _ _ _ _ _ _ h=>h.elim
structure Fun(K:Frag)(x qual:Str)(st:Stmt)(f:Addr)(fd:FuncData):Prop where
 ex:∃(oc:Value) (od:Option Addr) (kV doc pm:Value) (an:Option Addr) (cdv ct:Value) (osl:Array (Option Value)),
  fd=fnOf x qual (defArgs st) (defBody st) (defScope st) .none kV doc pm an cdv ct/\K.lookup f=some ⟨oc,od,.func fd,osl⟩/\codeIn K cdv qual=true
 kp:keepIn K (.ref f)=true
section
variable {P:Program}{w:World}{K:Frag}{mg:Str->Option Value}{base:Heap}
theorem Fun.ok{x qual:Str}{st:Stmt}{f:Addr}{fd:FuncData}{N ps:List Str}{k:Nat}{sp:Sp}(F:Fun K x qual st f fd)(S:FnScope N ps (defScope st))(len:∀vs H Q E,sp vs H Q E->vs.length=ps.length)
  (hbody:∀(cdv:Value) (A:Around) (outer:List Env) (s:Shared) (H:Hp) (vs:List V) (Q:VK) (E:XK),Room k (A.deeper (envOfC qual (defScope st) s.heap.objs.size f cdv))->sp vs H Q E->
   ∃t,PSs (cxOf CX0 P w K mg base N qual (defScope st) f cdv A outer s H E).nox (defBody st) t/\t { nx:=fun _ H'=>Q .non H',rt:=Q } (start N vs) H):FnOk P w K mg base CX0 (k+1) f fd ps sp:=by
 obtain⟨oc,od,kV,doc,pm,an,cdv,ct,osl,rfl,lk,hcd⟩:=F.ex
 refine fn_of lk hcd S len fun A outer s H vs Q E hr hsp=>?_
 obtain⟨t,h,q⟩:=hbody cdv A outer s H vs Q E hr hsp
 exact⟨t,h.nox,q⟩
theorem Fun.binds{x qual:Str}{st:Stmt}{f:Addr}{fd:FuncData}{ps:List Str}(F:Fun K x qual st f fd)
  (h:∀(kV doc pm:Value) (an:Option Addr) (cdv ct:Value) (us:List Value),us.length=ps.length->bindArgs (fnOf x qual (defArgs st) (defBody st) (defScope st) .none kV doc pm an cdv ct) ⟨us,[]⟩=pure (ps.zip us)):Binds K fd ps []:=by
 obtain⟨oc,od,kV,doc,pm,an,cdv,ct,osl,rfl,lk,hcd⟩:=F.ex
 exact .all (h kV doc pm an cdv ct)
theorem YT{x qual:Str}{st:Stmt}{f:Addr}{oc:Value}{od an:Option Addr}{osl:Array (Option Value)}{kV doc pm cdv ct:Value}(l:K.lookup f=some ⟨oc,od,.func (fnOf x qual (defArgs st) (defBody st) (defScope st) .none kV doc pm an cdv ct),osl⟩)
  (c:codeIn K cdv qual=true) (k:keepIn K (.ref f)=true):Fun K x qual st f (fnOf x qual (defArgs st) (defBody st) (defScope st) .none kV doc pm an cdv ct):=⟨⟨oc,od,kV,doc,pm,an,cdv,ct,osl,rfl,l,c⟩,k⟩
end
theorem hu_of{A:Around}{k:Nat}(hr:Room k A):A.units+1 < cLine:=Nat.lt_of_le_of_lt (Nat.add_le_add_left (by decide:1<=64) _) hr.units
section
variable {X:Cx}
theorem pv(i:Nat){x:Str}{pos:Pos}(hN:X.N[i]?=some x:=by rfl)(hv:Vis X.env.scope x:=by first |exact Or.inl rfl |exact Or.inr (Or.inl rfl) |exact Or.inr (Or.inr rfl))(hd:(x==("__debug__":Str))=false:=by decide)
  (hcd:(x==("__classdict__":Str))=false:=by decide):PE X (.Name x pos) (tVar i):=pe_var hN hv hd hcd
end
theorem iteF{A B:Prop}(h:B):if false=true then A else B:=by
 rw[if_neg Bool.false_ne_true]
 exact h
theorem iteT{A B:Prop}(h:A):if true=true then A else B:=by
 rw[if_pos rfl]
 exact h
theorem ite2{c A B:Prop}[Decidable c](h1:c->A)(h2:¬c->B):if c then A else B:=by
 by_cases h:c
 ·rw[if_pos h]
  exact h1 h
 ·rw[if_neg h]
  exact h2 h
def Same(H H':Hp):Prop:=∀b o,H b=some o->H' b=some o
theorem Same.refl(H:Hp):Same H H:=fun _ _ h=>h
theorem Same.trans{H H1 H2:Hp}(a:Same H H1)(b:Same H1 H2):Same H H2:=fun c o h=>b c o (a c o h)
theorem Same.free{H H':Hp}(e:Same H H'){l:Addr}(h:H' l=Option.none):H l=Option.none:=by
 cases q:H l with
 |none=>rfl
 |some o=>
  rw[e l o q]at h
  cases h
theorem Same.seq{K:Frag}{H H':Hp}{a:Addr}{xs:List V}(e:Same H H')(h:SqL K H a xs):SqL K H' a xs:=by
 rcases h with (h | ⟨o,h⟩) |h
 ·exact .inl (.inl (e _ _ h))
 ·exact .inl (.inr ⟨o,e _ _ h⟩)
 ·exact .inr h
section
variable {prog:Program}{w:World}{A:Around}{R:Result->Shared->Prop}{s:Shared}
abbrev NoE:Value->Shared->Prop:=fun _ _=>False
theorem X2{elt target iter:Expr}{ifs:List Expr}{scope:Scope}{pos:Pos}{it acc:Value}{env:Env}(I:Nat->Shared->Prop)
  (turn:∀n s,I n s->wpAny (model prog w) A (pyNext it) (fun r s₁=>match r with
   |none=>R (.ok .next) s₁
   |some v=>wpAny (model prog w) A (letOwnedTupleGo target it v) (fun _ s₂=>wpAny (model prog w) A (assign target env v) (fun _ s₃=>
     wpAny (model prog w) A (forIn ifs true fun c r=>if r=true then do let ok <- isTrue c env (eval c env);pure (ForInStep.yield ok) else pure (ForInStep.yield r)) (fun ok s₄=>
      if ok=true then wpAny (model prog w) A (eval elt env) (fun x s₅=>
       wpAny (model prog w) A (call (.builtin "list.append") [acc,x]) (fun _ s₆=>∃m,m < n/\I m s₆) NoE s₅) NoE s₄
      else ∃m,m < n/\I m s₄) NoE s₃) NoE s₂) NoE s₁) NoE s)
  (n:Nat) (h:I n s):
  codeAny (model prog w) A (.compLoop (.ListComp elt [⟨target,iter,ifs,0⟩] scope pos) 0 it acc env) R s:=by
 refine codeAny_loop rfl I (fun n s hI=>?_) n h
 show wpAny _ A ((compTurn (.ListComp elt [⟨target,iter,ifs,0⟩] scope pos) 0 it acc env).onRaise (fun x=>do noteFrame x env;theTreesLotGoes x)) _ _ s
 refine wpAny_noted ?_
 rw[compTurn_list]
 refine wpAny_bind (wpAny_standAt (wpAny_bind (wpAny_mono (turn n s hI) (fun r s₁ h₁=>?_) fun _ _ f=>f.elim)))
 cases r with
 |none=>exact wpAny_pure h₁
 |some v=>
  refine wpAny_bind (wpAny_mono h₁ (fun _ s₂ h₂=>?_) fun _ _ f=>f.elim)
  refine wpAny_bind (wpAny_mono h₂ (fun _ s₃ h₃=>wpAny_bind (wpAny_mono h₃ (fun ok s₄ h₄=>?_) fun _ _ f=>f.elim)) fun _ _ f=>f.elim)
  cases ok with
  |false=>exact wpAny_pure ⟨rfl,h₄⟩
  |true=>
   exact wpAny_bind (wpAny_bind (wpAny_mono h₄ (fun x s₅ h₅=>wpAny_bind (wpAny_mono h₅ (fun _ s₆ h₆=>wpAny_pure (wpAny_pure ⟨rfl,h₆⟩)) fun _ _ f=>f.elim)) fun _ _ f=>f.elim))
end
noncomputable def compCx(X:Cx)(scope:Scope)(M:List Str)(cl:List (Str×Addr))(C:Addr)(fp:List Addr)(sB:Shared)(HB:Hp):Cx where
 prog:=X.prog
 w:=X.w
 K:=X.K
 mg:=X.mg
 base:=X.base
 A:=X.A
 N:=M
 s₀:=sB
 H₀:=HB
 env:=compEnvC scope cl C X.env
 outer:=X.stack
 stack:=X.stack
 ex:=fp
 fn:=fun _=>false
 calm:=X.calm
 pn:=[]
 xe:=fun _ _=>False
noncomputable def sIn(nT:Nat)(ix:List Nat)(σ:St):St:=List.replicate nT none++ix.map fun i=>(σ[i]?).getD none
structure CompSc(N:List Str)(sc scope:Scope)(M:List Str)(nT:Nat)(ix:List Nat):Prop where
 cell:∀y∈scope.names,y.2≠ .cell
 kind:scope.kind= .function
 loc:∀y∈scope.names,y.2= .local->scope.names.lookup y.1=some .local
 fre:∀y∈scope.names,y.2= .free->sc.names.lookup y.1=some .cell
 nms:M.drop nT=ix.map fun i=>N.getD i Str.empty
 len:M.length=nT+ix.length
 vis:∀i∈ix,scope.names.lookup (N.getD i Str.empty)=some .free
theorem qO{env:Env}(hk:env.scope.kind= .function):∀{names:List (Str×NameKind)} {y:Str},names.lookup y=some .free->env.kindOf y=some .cell->
  (names.map fun(n,k)=>if (k==NameKind.free&&env.scope.kind== .function&&env.kindOf n==some .cell) then (n,NameKind.cell) else (n,k)).lookup y=some .cell
 | [],_,h,_=>by simp at h
 | (n,k)::r,y,h,hc=>by
  have ih:=@qO env hk r y
  show List.lookup y ((if (k==NameKind.free&&env.scope.kind== .function&&env.kindOf n==some .cell)=true then (n,NameKind.cell) else (n,k))::_)=_
  cases hx:y==n with
  |true=>
   simp only[List.lookup_cons,hx]at h
   cases h
   have e:y=n:=by simpa using hx
   subst e
   rw[if_pos (by rw[hk,hc];rfl)]
   simp [List.lookup_cons]
  |false=>
   simp only[List.lookup_cons,hx]at h
   by_cases hc':(k==NameKind.free&&env.scope.kind== .function&&env.kindOf n==some .cell)=true
   ·rw[if_pos hc'];simp only[List.lookup_cons,hx];exact ih h hc
   ·rw[if_neg hc'];simp only[List.lookup_cons,hx];exact ih h hc
theorem JK{env:Env}:∀{names:List (Str×NameKind)} {y:Str} {k':NameKind},
  (names.map fun(n,k)=>if (k==NameKind.free&&env.scope.kind== .function&&env.kindOf n==some .cell) then (n,NameKind.cell) else (n,k)).lookup y=some k'->
  ∃k,names.lookup y=some k/\(k'=k∨k= .free)
 | [],_,_,h=>by simp at h
 | (n,k)::r,y,k',h=>by
  have ih:=@JK env r y k'
  have h:List.lookup y ((if (k==NameKind.free&&env.scope.kind== .function&&env.kindOf n==some .cell)=true then (n,NameKind.cell) else (n,k))::_)=some k':=h
  cases hx:y==n with
  |true=>
   refine⟨k,by simp only[List.lookup_cons,hx],?_⟩
   by_cases hc':(k==NameKind.free&&env.scope.kind== .function&&env.kindOf n==some .cell)=true
   ·right
    simp only[Bool.and_eq_true]at hc'
    simpa using hc'.1.1
   ·rw[if_neg hc']at h;simp only[List.lookup_cons,hx]at h;left;exact(Option.some.inj h).symm
  |false=>
   have h2:List.lookup y (r.map fun(n,k)=>if (k==NameKind.free&&env.scope.kind== .function&&env.kindOf n==some .cell) then (n,NameKind.cell) else (n,k))=some k':=by
    by_cases hc':(k==NameKind.free&&env.scope.kind== .function&&env.kindOf n==some .cell)=true
    ·rw[if_pos hc']at h;simp only[List.lookup_cons,hx]at h;exact h
    ·rw[if_neg hc']at h;simp only[List.lookup_cons,hx]at h;exact h
   obtain⟨k2,e,q⟩:=ih h2
   exact⟨k2,by simp only[List.lookup_cons,hx];exact e,q⟩
noncomputable def clFrom(env:Env):List (Str×NameKind)->List (Str×Addr)->List (Str×Addr)
 | [],acc=>acc
 | (n,k)::r,acc=>if k== .free then clFrom env r ((n,(env.cells.lookup n).getD 0)::acc) else clFrom env r acc
theorem zX{env:Env}:∀{names:List (Str×NameKind)} {acc:List (Str×Addr)},(∀y∈names,y.2= .free->∃c,env.cells.lookup y.1=some c)->(∀x c,acc.lookup x=some c->env.cells.lookup x=some c)->
  ∀x c,(clFrom env names acc).lookup x=some c->env.cells.lookup x=some c
 | [],_,_,ha,x,c,h=>ha x c h
 | (n,k)::r,acc,hy,ha,x,c,h=>by
  unfold clFrom at h
  by_cases hk:(k==NameKind.free)=true
  ·rw[if_pos hk]at h
   refine zX (fun y hy'=>hy y (List.mem_cons_of_mem _ hy')) (fun x' c' h'=>?_) x c h
   obtain⟨c0,e0⟩:=hy (n,k) List.mem_cons_self (by simpa using hk)
   have e0:env.cells.lookup n=some c0:=e0
   simp only[List.lookup_cons]at h'
   cases hx:x'==n with
   |true=>
    rw[hx]at h'
    have e:x'=n:=by simpa using hx
    subst e
    rw[e0]at h'
    rw[e0]
    exact h'
   |false=>rw[hx]at h';exact ha _ _ h'
  ·rw[if_neg hk]at h
   exact zX (fun y hy'=>hy y (List.mem_cons_of_mem _ hy')) ha x c h
theorem qd{x:Str}:∀{acc:List (Str×Addr)},(∃c,(x,c)∈acc)->∃c,acc.lookup x=some c
 | [],h=>by obtain⟨_,h⟩:=h;cases h
 | (n,c)::r,h=>by
  simp only[List.lookup_cons]
  cases hx:x==n with
  |true=>exact⟨c,rfl⟩
  |false=>
   obtain⟨c',h⟩:=h
   rcases List.mem_cons.mp h with e |h
   ·injection e with e1 _
    subst e1
    simp at hx
   ·exact qd ⟨c',h⟩
theorem qx{env:Env}{x:Str}:∀{names:List (Str×NameKind)} {acc:List (Str×Addr)},((∃c,(x,c)∈acc)∨(x,NameKind.free)∈names)->∃c,(x,c)∈clFrom env names acc
 | [],_,h=>by
  rcases h with h |h
  ·exact h
  ·cases h
 | (n,k)::r,acc,h=>by
  unfold clFrom
  by_cases hk:(k==NameKind.free)=true
  ·rw[if_pos hk]
   refine qx ?_
   rcases h with ⟨c,h⟩ |h
   ·exact .inl ⟨c,List.mem_cons_of_mem _ h⟩
   ·rcases List.mem_cons.mp h with e |h
    ·injection e with e1 _
     subst e1
     exact .inl ⟨_,List.mem_cons_self⟩
    ·exact .inr h
  ·rw[if_neg hk]
   refine qx ?_
   rcases h with h |h
   ·exact .inl h
   ·rcases List.mem_cons.mp h with e |h
    ·injection e with _ e2
     subst e2
     exact absurd rfl hk
    ·exact .inr h
theorem qp{env:Env}:∀(names:List (Str×NameKind)) (acc:List (Str×Addr)),(∀y∈names,y.2= .free->∃c,env.cells.lookup y.1=some c)->
  (forIn names acc (fun x r=>match x with | (name,kind)=>if (kind==NameKind.free)=true then (do let a <- cellOf env name;pure (ForInStep.yield ((name,a)::r))) else pure (ForInStep.yield r)):Sem (List (Str×Addr)))=pure (clFrom env names acc)
 | [],acc,_=>rfl
 | (n,k)::r,acc,hy=>by
  have ih:=fun acc=>qp r acc fun y hy'=>hy y (List.mem_cons_of_mem _ hy')
  rw[List.forIn_cons]
  unfold clFrom
  by_cases hk:(k==NameKind.free)=true
  ·obtain⟨c0,e0⟩:=hy (n,k) List.mem_cons_self (by simpa using hk)
   have e0:env.cells.lookup n=some c0:=e0
   have e1:cellOf env n=pure c0:=by unfold cellOf;rw[e0]
   rw[if_pos hk]
   simp only[hk,if_true,e1,e0]
   exact ih _
  ·rw[if_neg hk]
   simp only[hk]
   exact ih _
theorem qq{env:Env}{scope:Scope}(hy:∀y∈scope.names,y.2= .free->∃c,env.cells.lookup y.1=some c):closureFor scope env=pure (clFrom env scope.names []):=by
 have h:=qp scope.names [] hy
 exact congrArg (fun t:Sem (List (Str×Addr))=>t >>= fun s=>pure s) h
section
variable {X:Cx}{pins:List (Addr×Obj)}{σ:St}{H:Hp}{s:Shared}
theorem qH{scope:Scope}{M:List Str}{nT:Nat}{ix:List Nat}(I:Inv X pins σ H s)(S:CompSc X.N X.env.scope scope M nT ix):∀y∈scope.names,y.2= .free->∃c,X.env.cells.lookup y.1=some c:=
 fun y hy e=>I.ok.has y.1 (.inl (S.fre y hy e))
theorem Zu{scope:Scope}{M:List Str}{nT:Nat}{ix:List Nat}{fp:List Addr}{C:Addr}{h₁:Heap}{m:Str->Option Value}{tk:Nat}(I:Inv X pins σ H s)(hf:∀b∈fp,FpOk X pins H b)(hfs:∀b∈fp,b < s.heap.objs.size)
  (S:CompSc X.N X.env.scope scope M nT ix) (hC:s.heap.objs.size<=C) (old:∀b o,s.heap.get? b=some o->h₁.get? b=some o) (hns:h₁.Ns C m):
  Inv (compCx X scope M (clFrom X.env scope.names []) C fp s H) [] (sIn nT ix σ) H { s with heap:=h₁,toks:=tk }:=by
 have sub:∀x c,(clFrom X.env scope.names []).lookup x=some c->X.env.cells.lookup x=some c:=zX (qH I S) (fun x c h=>by simp at h)
 have hs2:∀x,scope.names.lookup x=some .free->∃c,(clFrom X.env scope.names []).lookup x=some c:=fun x e=>qd (qx (.inr (PySem.mem_of_lookup e)))
 have hex:∀x k',(relabel scope X.env).names.lookup x=some k'->(k'= .cell∨k'= .free)->scope.names.lookup x=some .free:=fun x k' e hk=>by
  obtain⟨k,e1,q⟩:=JK e
  rcases q with q |q
  ·rcases hk with z |z
   ·exact absurd (q.symm.trans z) (S.cell (x,k) (PySem.mem_of_lookup e1))
   ·rw[e1,<- q,z]
  ·rw[e1,q]
 refine⟨⟨I.ok.mod,S.kind,I.ok.glob,I.ok.blt,hC,fun x y c h1 h2=>I.ok.inj x y c (sub x c h1) (sub y c h2),fun x hx=>?_,fun x c hx=>?_,I.ok.hd,I.ok.frames,.inl rfl,fun b hb=>⟨fun z=>?_,fun x c e=>?_⟩,I.bs,Nat.le_trans I.ok.bsz I.sz,fun b o e hb=>?_,fun b hb hz=>?_,I.stack,I.stkFree⟩,
  rfl,I.bare,Un.kept old,⟨m,hns,fun k y v e1 e2 _=>?_⟩,fun x c e=>?_,I.hok.fresh hC,fun x c e=>I.freeC x c (sub x c e),fun p hp=>absurd (show p∈([]:List (Addr×Obj)) from hp) (by simp),I.hok.kept old,?_⟩
 ·rcases hx with hx |hx
  ·exact hs2 x (hex x _ hx (.inl rfl))
  ·exact hs2 x (hex x _ hx (.inr rfl))
 ·exact absurd (show false=true from hx) (by decide)
 ·have z':b=C:=z
  have:=hfs b hb
  rw[z']at this
  exact absurd this (Nat.not_lt.mpr hC)
 ·exact(hf b hb).2.2.2.2.1 x c (sub x c e)
 ·rcases(hf b hb).2.2.2.1 with z |z
  ·exact I.ok.noex b o e z
  ·exact absurd (Nat.lt_of_lt_of_le (Heap.lt_size e) (Nat.le_trans I.ok.bsz z)) (Nat.lt_irrefl _)
 ·rcases List.mem_cons.mp (I.stkSub b hz) with z |z
  ·exact(hf b hb).2.1 z
  ·exact(hf b hb).2.2.1 z
 ·have e2:(sIn nT ix σ)[k]?=some (some v):=e2
  have e1:M[k]?=some y:=e1
  unfold sIn at e2
  by_cases hk:k < nT
  ·rw[List.getElem?_append_left (by simpa using hk),List.getElem?_replicate]at e2
   simp [hk]at e2
  ·have hk':nT<=k:=Nat.le_of_not_lt hk
   rw[List.getElem?_append_right (by simpa using hk'),List.length_replicate,List.getElem?_map]at e2
   cases e3:ix[k - nT]? with
   |none=>rw[e3]at e2;cases e2
   |some i=>
    rw[e3]at e2
    have e4:(σ[i]?).getD none=some v:=Option.some.inj e2
    have e5:σ[i]?=some (some v):=by
     cases e6:σ[i]? with
     |none=>rw[e6]at e4;cases e4
     |some o=>rw[e6]at e4;exact congrArg some e4
    have hi:i < X.N.length:=by rw[<- I.len];exact(List.getElem?_eq_some_iff.mp e5).1
    have e7:y=X.N.getD i Str.empty:=by
     have q:(M.drop nT)[k - nT]?=some y:=by rw[List.getElem?_drop];rw[Nat.add_sub_cancel' hk'];exact e1
     rw[S.nms,List.getElem?_map,e3]at q
     exact(Option.some.inj q).symm
    have e8:X.N[i]?=some y:=by rw[e7,List.getElem?_eq_getElem hi,List.getD_eq_getElem?_getD,List.getElem?_eq_getElem hi];rfl
    have hfree:scope.names.lookup y=some .free:=by rw[e7];exact S.vis i (List.mem_of_getElem? e3)
    have hcell:X.env.scope.names.lookup y=some .cell:=S.fre (y,.free) (PySem.mem_of_lookup hfree) rfl
    obtain⟨m',_,hl⟩:=I.loc
    obtain⟨u,r,l⟩:=hl i y v e8 e5 (.inr (.inl hcell))
    refine⟨u,r,?_⟩
    rcases l with ⟨l,_⟩ | ⟨_,c,ec,o,ho,hd⟩
    ·have l:X.env.scope.names.lookup y=some .local:=l
     rw[hcell]at l
     cases l
    ·obtain⟨c',ec'⟩:=hs2 y hfree
     have q:=sub y c' ec'
     rw[ec]at q
     cases q
     exact .inr ⟨.inl (qO I.ok.kind hfree hcell),c,ec',o,old _ _ ho,hd⟩
 ·obtain⟨v,o,ho,hd⟩:=I.cell x c (sub x c e)
  exact⟨v,o,old _ _ ho,hd⟩
 ·show(sIn nT ix σ).length=M.length
  rw[S.len]
  simp [sIn]
theorem Inv.track{D:Addr}{o:HO}(I:Inv X pins σ H s)(f:FpOk X pins H D)(ge:X.s₀.heap.objs.size<=D)(new:ObjOk X.prog X.w (upd H D o) s.heap D o):Inv X pins σ (upd H D o) s:=by
 have n:=f.1
 have ne:∀b u,H b=some u->b≠D:=fun b u e=>jj e n
 refine⟨I.ok,I.os,I.bare,⟨I.base.keep,I.base.slot,fun b ob e q hx=>?_,I.base.there,fun b xs e=>?_,fun b ob u e=>?_,fun b ps e=>?_⟩,I.loc,I.cell,?_,fun x c e=>?_,fun p hp=>?_,fun b u e=>?_,I.len⟩
 ·rw[jh (Nat.ne_of_lt (Nat.lt_of_lt_of_le (Heap.lt_size e) ge))]
  exact I.base.free b ob e q hx
 ·have q:=I.base.tups b xs e
  rw[jh (ne _ _ q)]
  exact q
 ·have q:=I.base.frzs b ob u e
  rw[jh (ne _ _ q)]
  exact q
 ·obtain⟨more,q⟩:=I.base.tbls b ps e
  exact⟨more,by rw[jh (ne _ _ q)];exact q⟩
 ·rw[jh (Ne.symm f.2.1)]
  exact I.free
 ·rw[jh (f.2.2.2.2.1 x c e)]
  exact I.freeC x c e
 ·obtain⟨e,q,r⟩:=I.pin p hp
  exact⟨e,by rw[jh (f.2.2.2.2.2 p hp)];exact q,r⟩
 ·by_cases hb:b=D
  ·subst hb
   rw[jb]at e
   cases e
   exact new
  ·rw[jh hb]at e
   exact(I.hok b u e).stay (fun _ _ _ q=>q) (fun c q=>by rw[jh (ne _ _ q)];exact q) fun c xs q=>by rw[jh (ne _ _ q)];exact q
noncomputable abbrev lstO(us:List Value):Obj:={ cls:=.type "list",data:=.seq us.toArray us.length }
theorem X3(us:List Value)(y:Value):({ cls:=.type "list",data:=.seq (us.toArray.push y) (us.length+1) }:Obj)=lstO (us++[y]):=by
 show({ cls:=.type "list",data:=.seq (us.toArray.push y) (us.length+1) }:Obj)={ cls:=.type "list",data:=.seq (us++[y]).toArray (us++[y]).length }
 rw[List.length_append,List.length_singleton,List.push_toArray]
def PF(X:Cx)(ifs:List Expr)(t:TT):Prop:=
 ∀(pins:List (Addr×Obj)) (s:Shared) (σ:St) (H:Hp) (Q:Bool->Hp->Prop),Inv X pins σ H s->t σ H Q->
  wpAny (model X.prog X.w) X.A (forIn ifs true fun c r=>if r=true then do let ok <- isTrue c X.env (eval c X.env);pure (ForInStep.yield ok) else pure (ForInStep.yield r)) (TP X pins σ Q) X.xe s
def tAll:TT:=fun _ H Q=>Q true H
theorem zq:PF X [] tAll:=fun _ _ _ H _ I h=>wpAny_tests_nil ⟨H,I,h⟩
theorem YU{c:Expr}{t:TT}(h:PT X c t):PF X [c] t:=fun pins s σ H Q I q=>wpAny_tests_one (h pins s σ H Q I q)
noncomputable def sTail(ix:List Nat)(σ:St):St:=ix.map fun i=>(σ[i]?).getD none
def CompR(J:It)(nT:Nat)(tail:St)(g:TG)(tt:TT)(te:TE)(Q:List V->Hp->Prop)(H:Hp):Prop:=
 ∃W:Nat->Nat->List V->Hp->Prop,(∃m,W 0 m [] H)/\∀i m ys H,W i m ys H->
  (J.stop i H/\Q ys H)∨(J.go i H/\ys.length < sizeLine/\∃N:List V->Hp->Prop,(∀ys' H2,N ys' H2->∃m',m' < m/\W (i+1) m' ys' H2)/\
   ∀x H' (ts:St),ts.length=nT->J.yld i H x H'->g x (ts++tail) H' fun σ2 H2=>(∃ts':St,ts'.length=nT/\σ2=ts'++tail)/\tt σ2 H2 fun b H3=>if b=true then te σ2 H3 fun y H4=>N (ys++[y]) H4 else N ys H3)
theorem JL{tg elt iter:Expr}{ifs:List Expr}{scope:Scope}{pos:Pos}{M:List Str}{nT:Nat}{ix:List Nat}{g:TG}{tt:TT}{te:TE}{it:Addr}{fp:List Addr}{tn:Nat->Heap->Prop}{J:It}{E:Value->Shared->Prop}
  {RR:Value->Addr->Result->Shared->Prop} {Qf:List V->Hp->Prop}
  (I:Inv X pins σ H s) (hc:X.calm=true) (T:Turn X.prog X.w X.K tg J fp it tn) (st:tn 0 s.heap) (hf:∀b∈fp,FpOk X pins H b) (S:CompSc X.N X.env.scope scope M nT ix)
  (hg:∀cl C fp s H,PG (compCx X scope M cl C fp s H) tg g) (hi:∀cl C fp s H,PF (compCx X scope M cl C fp s H) ifs tt) (he:∀cl C fp s H,PE (compCx X scope M cl C fp s H) elt te)
  (h:CompR J nT (sTail ix σ) g tt te Qf H)
  (hRR:∀D C ys m H' s',(∀b o u,H b=some (.frz o u)->H' b=some (.frz o u))->H' D=none->Inv X pins σ (upd H' D (.lst ys)) s'->FpOk X pins (upd H' D (.lst ys)) C->s'.heap.Ns C m->Qf ys H'->RR (.ref D) C (.ok .next) s'):
  wpAny (model X.prog X.w) X.A (newList []) (fun acc s₃=>wpAny (model X.prog X.w) X.A (newFunctionEnv scope X.env.globals (clFrom X.env scope.names []) [] X.env.qual none .none (some X.env)) (fun cenv s₄=>
   codeAny (model X.prog X.w) X.A (.compStart (.ListComp elt [⟨tg,iter,ifs,0⟩] scope pos) 0 (.ref it) acc { cenv with scope:=relabel scope X.env }) (RR acc cenv.locals) s₄) E s₃) E s:=by
 obtain⟨W,⟨m0,w0⟩,turn⟩:=h
 have hfs:∀b∈fp,b < s.heap.objs.size:=fun b hb=>by
  obtain⟨o,e,_⟩:=T.obj 0 _ st b hb
  exact Heap.lt_size e
 refine wpAny_newObj_type (wpAny_newFunctionEnv S.cell (by intro y hy;simp at hy) (fun h₁ hns₁ hsb₁=>?_) S.kind)
 dsimp only at hns₁ hsb₁ ⊢
 generalize hH2:s.heap.push { cls:=.type "list",dict:=none,data:=.seq ([]:List Value).toArray }=H2 at hns₁ hsb₁ ⊢
 have hC:H2.objs.size=s.heap.objs.size+1:=by rw[<- hH2,Heap.size_push]
 have hDC:s.heap.objs.size≠H2.objs.size:=by rw[hC];exact Nat.ne_of_lt (Nat.lt_succ_self _)
 have hCle:s.heap.objs.size<=H2.objs.size:=by rw[hC];exact Nat.le_succ _
 have below:∀b,b < s.heap.objs.size->b≠H2.objs.size/\b≠s.heap.objs.size:=fun b hb=>⟨by rw[hC];exact Nat.ne_of_lt (Nat.lt_succ_of_lt hb),Nat.ne_of_lt hb⟩
 have old:∀b o,s.heap.get? b=some o->h₁.get? b=some o:=fun b o e=>hsb₁.extBut b o (below b (Heap.lt_size e)).1 (Heap.get?_push_of_some _ (hH2▸Heap.get?_push_of_some _ e))
 have hacc:h₁.get? s.heap.objs.size=some (lstO []):=hsb₁.extBut _ _ hDC (Heap.get?_push_of_some _ (hH2▸Heap.get?_push_size _ rfl))
 have hDn:H s.heap.objs.size=none:=I.hok.fresh (Nat.le_refl _)
 have hDfs:s.heap.objs.size∉frs X.stack:=fun hb=>(List.mem_cons.mp (I.stkSub _ hb)).elim (fun e=>absurd I.lt (by rw[<- e];exact Nat.lt_irrefl _)) (I.nofs (Nat.le_refl _))
 generalize hD:s.heap.objs.size=D at*
 generalize hCC:H2.objs.size=C at*
 have J0:∀tk,Inv (compCx X scope M (clFrom X.env scope.names []) C fp s H) [] (sIn nT ix σ) H { s with heap:=h₁,toks:=tk }:=fun tk=>Zu I hf (by rw[hD];exact hfs) S (by rw[hD];exact hCle) old hns₁
 have cne:∀x c,(clFrom X.env scope.names []).lookup x=some c->c≠D:=fun x c e z=>by
  have sub:=zX (qH I S) (acc:=[]) (fun x c h=>by simp at h) x c e
  obtain⟨v,o,ho,_⟩:=I.cell x c sub
  have:=Heap.lt_size ho
  rw[z,hD]at this
  exact Nat.lt_irrefl _ this
 have pinD:∀{σ':St} {H':Hp} {s':Shared} {us:List Value},Inv (compCx X scope M (clFrom X.env scope.names []) C fp s H) [] σ' H' s'->s'.heap.get? D=some (lstO us)->H' D=none->
   Inv (compCx X scope M (clFrom X.env scope.names []) C fp s H) [(D,lstO us)] σ' H' s':=fun {σ' H' s' us} I' e n=>I'.pins_of fun p hp=>by
  have ep:p=(D,lstO us):=by simpa using hp
  subst ep
  exact⟨e,n,hDC,hDfs,fun v z=>by cases z⟩
 have stat:∀{H':Hp} {us:List Value},(∀b∈fp,H' b=none)->∀b∈fp,FpOk (compCx X scope M (clFrom X.env scope.names []) C fp s H) [(D,lstO us)] H' b:=fun {H' us} hn b hb=>
  ⟨hn b hb,((J0 0).ok.exf b hb).1,(J0 0).ok.exfs b hb,.inl hb,((J0 0).ok.exf b hb).2,fun p hp z=>by
   have ep:p=(D,lstO us):=by simpa [compCx] using hp
   rw[ep]at z
   have:=hfs b hb
   rw[<- z]at this
   exact Nat.lt_irrefl _ this⟩
 have loop:∀s₃:Shared,(∃tk,s₃={ s with heap:=h₁,toks:=tk })->
   codeAny (model X.prog X.w) X.A (.compLoop (.ListComp elt [⟨tg,iter,ifs,0⟩] scope pos) 0 (.ref it) (.ref D) (compEnvC scope (clFrom X.env scope.names []) C X.env)) (RR (.ref D) C) s₃:=by
  rintro s₃ ⟨tk,rfl⟩
  refine X2 (fun n s'=>∃i ys us ts H',ts.length=nT/\Inv (compCx X scope M (clFrom X.env scope.names []) C fp s H) [(D,lstO us)] (ts++sTail ix σ) H' s'/\Vals ys us/\ys.length<=sizeLine/\tn i s'.heap/\(∀b∈fp,H' b=none)/\W i n ys H') ?_ m0
   ⟨0,[],[],List.replicate nT none,H,List.length_replicate,pinD (J0 tk) hacc hDn,.nil,Nat.zero_le _,T.keep _ _ _ st fun b hb o e=>old b o e,fun b hb=>(hf b hb).1,w0⟩
  rintro n s1 ⟨i,ys,us,ts,H1,hts,I1,rv,hz,st1,fr1,w1⟩
  rcases turn i n ys H1 w1 with ⟨stop,q⟩ | ⟨go,hlt,N,hN,step⟩
  ·refine thn (T.done (compCx X scope M (clFrom X.env scope.names []) C fp s H) rfl rfl rfl hc i _ s1 _ H1 NoE I1 (stat fr1) st1 stop) fun r s2 ⟨hr,I2⟩=>?_
   subst hr
   have IO:Inv X pins σ H1 s2:=I.call' (ch:=fp) I2.os I2.base I2.hok I2.bare fun b hb=>⟨(hf b hb).2.2.2.1,(hf b hb).2.1,(hf b hb).2.2.2.2.1,(hf b hb).2.2.2.2.2⟩
   have pD:=I2.pin (D,lstO us) (by simp [compCx])
   have hn1:H1 D=none:=pD.2.1
   have fD:FpOk X pins H1 D:=by rw[<- hD];exact I.fpOk (Nat.le_refl _) (by rw[hD];exact hn1)
   have IT:Inv X pins σ (upd H1 D (.lst ys)) s2:=IO.track fD (by rw[<- hD];exact I.sz) ⟨hz,us,us.length,rv,pD.1⟩
   obtain⟨mC,hnC,_⟩:=I2.loc
   have hC1:H1 C=none:=I2.free
   exact hRR D C ys mC H1 s2 I2.base.frzs hn1 IT (I.fpOk (by rw[hD];exact hCle) (by rw[jh (Ne.symm hDC)];exact hC1)) hnC q
  ·refine thn (T.item (compCx X scope M (clFrom X.env scope.names []) C fp s H) rfl rfl rfl hc i _ s1 _ H1 NoE I1 (stat fr1) st1 go) fun r s2 ⟨u,hr,h2⟩=>?_
   subst hr
   refine thn h2 fun _ s3 ⟨x,H3,I3,r3,y3,st3,fr3⟩=>?_
   have I3':=I3.pinned (stat fr3) (T.obj _ _ st3)
   refine thn (hg _ _ _ _ _ _ s3 _ H3 x u _ I3' r3 (step x H3 ts hts y3)) fun _ s4 ⟨σ4,H4,I4,⟨ts4,hts4,e4⟩,q4⟩=>?_
   subst e4
   refine thn (hi _ _ _ _ _ _ s4 _ H4 _ I4 q4) fun b s5 ⟨H5,I5,q5⟩=>?_
   cases b with
   |false=>
    obtain⟨m',hm,w'⟩:∃m',m' < n/\W (i+1) m' ys H5:=hN _ _ q5
    refine⟨m',hm,i+1,ys,us,ts4,H5,hts4,I5.unpinned,rv,hz,T.keep _ _ _ st3 fun b hb o e=>(I5.pin (b,o) (List.mem_append_right _ (List.mem_append_right _ (kt hb e)))).1,fun b hb=>?_,w'⟩
    obtain⟨o,e,d⟩:=T.obj _ _ st3 b hb
    exact(I5.pin (b,o) (List.mem_append_right _ (List.mem_append_right _ (kt hb e)))).2.1
   |true=>
    refine thn (he _ _ _ _ _ _ s5 _ H5 _ I5 q5) fun v s6 ⟨y,H6,I6,r6,q6⟩=>?_
    obtain⟨m',hm,w'⟩:=hN _ _ q6
    have pD:=I6.pin (D,lstO us) (List.mem_append_right _ (List.mem_append_left _ List.mem_cons_self))
    have hl:=rv.length
    have keepfp:∀b∈fp,∀o,s3.heap.get? b=some o->s6.heap.get? b=some o:=fun b hb o e=>(I6.pin (b,o) (List.mem_append_right _ (List.mem_append_right _ (kt hb e)))).1
    have freefp:∀b∈fp,H6 b=none:=fun b hb=>by
     obtain⟨o,e,d⟩:=T.obj _ _ st3 b hb
     exact(I6.pin (b,o) (List.mem_append_right _ (List.mem_append_right _ (kt hb e)))).2.1
    refine append_at (hsz:=by rw[List.size_toArray,<- hl];exact hz) pD.1 fun h7 sb hD7=>?_
    have I7:Inv (compCx X scope M (clFrom X.env scope.names []) C fp s H) [] (ts4++sTail ix σ) H6 { s6 with heap:=h7 }:=
     (I6.pins_of (pins':=[]) fun p hp=>absurd hp (by simp)).turned (t':=s6.toks) (it:=D) (fun b o hb e=>(sb.2 b hb).trans e) pD.2.1 hDC (.inr (by show s.heap.objs.size<=D;rw[hD];exact Nat.le_refl _)) cne fun p hp=>absurd (show p∈([]:List (Addr×Obj)) from hp) (by simp)
    refine⟨m',hm,i+1,ys++[y],us++[v],ts4,H6,hts4,pinD I7 (hD7.trans (congrArg some (X3 us v))) pD.2.1,rv.append (.cons r6 .nil),by rw[List.length_append,List.length_singleton];exact hlt,
     T.keep _ _ _ (T.keep _ _ _ st3 keepfp) fun b hb o e=>(sb.2 b fun z=>?_).trans e,freefp,w'⟩
    have:=hfs b hb
    rw[z]at this
    exact Nat.lt_irrefl _ this
 exact codeAny_compStart_list (loop _ ⟨_,rfl⟩) (T.self _ 0 _ _ _ (T.keep _ _ _ st fun b hb o e=>old b o e) (loop _ ⟨_,rfl⟩))
def tComp(wi:TI)(nT:Nat)(ix:List Nat)(g:TG)(tt:TT)(te:TE):TE:=fun σ H Q=>wi σ H fun J H1=>CompR J nT (sTail ix σ) g tt te (fun ys H'=>∀p,H' p=none->Q (.ref p) (upd H' p (.lst ys))) H1
theorem kU{tg elt iter:Expr}{ifs:List Expr}{scope:Scope}{pos:Pos}{M:List Str}{nT:Nat}{ix:List Nat}{wi:TI}{g:TG}{tt:TT}{te:TE}(hc:X.calm=true)(hI:PI X tg iter wi)(S:CompSc X.N X.env.scope scope M nT ix)
  (hg:∀cl C fp s H,PG (compCx X scope M cl C fp s H) tg g) (hi:∀cl C fp s H,PF (compCx X scope M cl C fp s H) ifs tt) (he:∀cl C fp s H,PE (compCx X scope M cl C fp s H) elt te)
  (hs:∀x,foldedSetIterable iter X.env x=pure x:=by intro _;rfl):
  PE X (.ListComp elt [⟨tg,iter,ifs,0⟩] scope pos) (tComp wi nT ix g tt te):=by
 intro pins s σ H Q I h
 rw[eval_ListComp]
 refine wpAny_comprehension_free (use:=none) rfl hs (qq (qH I S)) S.kind S.loc (thn (hI pins s σ H _ I h) fun xv s1 h1=>thn h1 fun itv s2 h2=>?_)
 obtain⟨it,fp,tn,J,H2,e,I2,T,st2,f2,R⟩:=h2
 subst e
 refine JL (RR:=fun acc C=>compPost (model X.prog X.w) X.A X.xe none (EP X pins σ Q) acc C) I2 hc T st2 f2 S hg hi he R ?_
 intro D C ys m H' s' _ n I' fC ns q
 exact⟨m,ns,fun h' sb=>⟨.ref D,_,I'.turned (t':=s'.toks) (fun b o hb e=>(sb.2 b hb).trans e) fC.1 fC.2.1 fC.2.2.2.1 fC.2.2.2.2.1 fC.2.2.2.2.2,rfl,q D n⟩⟩
theorem Xm{tg elt iter:Expr}{ifs:List Expr}{scope:Scope}{pos py spos:Pos}{y:Str}{i:Nat}{M:List Str}{nT:Nat}{ix:List Nat}{wi:TI}{g:TG}{tt:TT}{te:TE}(hN:X.N.Nodup)(hy:X.N[i]?=some y)(hx:Loc X.env.scope y)
  (hc:X.calm=true) (hI:PI X tg iter wi) (S:CompSc X.N X.env.scope scope M nT ix)
  (hg:∀cl C fp s H,PG (compCx X scope M cl C fp s H) tg g) (hi:∀cl C fp s H,PF (compCx X scope M cl C fp s H) ifs tt) (he:∀cl C fp s H,PE (compCx X scope M cl C fp s H) elt te)
  (hsw:swapsWith (.ListComp elt [⟨tg,iter,ifs,0⟩] scope pos) (some (.Name y py)) spos.line X.env=pure true:=by rfl)
  (hf:X.fn y=true∨X.env.scope.names.lookup y=some .local:=by first |exact .inl rfl |exact .inr rfl |assumption)
  (hs:∀x,foldedSetIterable iter X.env x=pure x:=by intro _;rfl):
  PS X (.Assign [.Name y py] (.ListComp elt [⟨tg,iter,ifs,0⟩] scope pos) spos) (fun D σ H=>tComp wi nT ix g tt te σ H fun v H1=>D.nx (σ.set i (some v)) H1):=by
 intro pins s σ H D I h
 rw[exec_Assign_Name_used _ _ _ _ hsw]
 refine wpAny_bind (wpAny_standAt (wpAny_bind ?_))
 show wpAny _ X.A (do let _ <- comprehension (.ListComp elt [⟨tg,iter,ifs,0⟩] scope pos) scope X.env _ (newList []) false (eval iter X.env) (some (assign (.Name y py) X.env))) _ _ s
 refine wpAny_bind (thn (wpAny_comprehension_free (use:=some (assign (.Name y py) X.env)) (Q:=fun _ s'=>SP X pins D .next s') rfl hs (qq (qH I S)) S.kind S.loc
  (thn (hI pins s σ H _ I h) fun xv s1 h1=>thn h1 fun itv s2 h2=>?_)) fun _ s' hq=>wpAny_pure (wpAny_pure hq))
 obtain⟨it,fp,tn,J,H2,e,I2,T,st2,f2,R⟩:=h2
 subst e
 refine JL (RR:=fun acc C=>compPost (model X.prog X.w) X.A X.xe (some (assign (.Name y py) X.env)) (fun _ s'=>SP X pins D .next s') acc C) I2 hc T st2 f2 S hg hi he R ?_
 intro Dd C ys m H' s' _ n I' fC ns q
 show wpAny _ X.A (assign (.Name y py) X.env (.ref Dd)) _ _ s'
 refine wpAny_assign_Name (JW I' hN hy hx (v:=.ref Dd) rfl (fun s'' I'' hh=>?_) hf)
 obtain⟨a,sb,ha⟩:=hh
 have hCa:C≠a:=by
  rcases ha with z |z
  ·rw[z];exact fC.2.1
  ·exact Ne.symm (fC.2.2.2.2.1 _ _ z)
 exact⟨m,ns.sameBut sb hCa,fun h' sb'=>⟨_,_,I''.turned (t':=s''.toks) (fun b o hb e=>(sb'.2 b hb).trans e) fC.1 fC.2.1 fC.2.2.2.1 fC.2.2.2.2.1 fC.2.2.2.2.2,q Dd n⟩⟩
end
section
variable {X:Cx}
def CDivB(i j:Int):Prop:=0 < j/\j<=1000000000000000000
theorem K5:OpR X (binaryOp .FloorDiv) (rI CDivB fun i j=>.int (i / j)):=opI fun i j _ _ _ _ _ hc q=>by
 have h1:(0:Int) < j:=hc.1
 have h2:j<=1000000000000000000:=hc.2
 refine floordiv_int (by omega) (by rw[Int.fdiv_eq_ediv_of_nonneg i (by omega)];exact q) (.inl (PyProof.noPylong_of_log2 ?_))
 have h3:j.natAbs≠0:=by omega
 have h4:j.natAbs < 2 ^ 60:=by omega
 have h5:j.natAbs.log2 < 60:=(Nat.log2_lt h3).mpr h4
 omega
noncomputable def clsV:V->Option Value
 | .ty n=>some (.type n)
 | .ref a=>some (.ref a)
 |_=>none
theorem Jd:CallR X (.builtin "isinstance") (fun xs H Q=>∃x y c t b,xs=[x,y]/\clsV y=some c/\TyOf X.K H x t/\kitOne X.K t c=some b/\Q (.bl b) H):=by
 intro pins s σ H xs us Q I r h
 obtain⟨x,y,c,t,b,rfl,hc,ty,e,q⟩:=h
 obtain⟨u,w',rfl,rx,ry⟩:=vals2 r
 have ec:w'=c:=by
  cases y with
  |ty n=>exact Eq.trans ry (Option.some.inj hc)
  |ref a=>exact Eq.trans ry (Option.some.inj hc)
  |_=>cases hc
 subst ec
 exact XX I rx ty e fun tk=>⟨.bl b,H,I.tok tk,rfl,q⟩
theorem Je:∀{bs:List Bool} {us:List Value},Vals (bs.map V.bl) us->LSm.BoolsAre us bs
 | [],_,.nil=>.nil
 |b::r,_,.cons (b:=u) h t=>by
  have e:u=Value.bool b:=h
  subst e
  exact .cons b (Je t)
theorem z8(hc:X.calm=true):CallR X (.builtin "all") (fun xs H Q=>∃(p:Addr) (bs:List Bool),xs=[.ref p]/\SqL X.K H p (bs.map V.bl)/\Q (.bl (bs.all id)) H):=by
 intro pins s σ H xs us Q I r h
 obtain⟨p,bs,rfl,hq,q⟩:=h
 obtain⟨u,rfl,rx⟩:=vals1 r
 cases rx
 obtain⟨its,r',pl,hz⟩:=I.list hq
 have hb:=Je r'
 have hl:=pl.isList
 have hlt:p < s.heap.objs.size:=by obtain⟨_,e,_⟩:=hl;exact Heap.lt_size e
 refine call_all_walk (wpAny_pyIter_list hl ?_)
 refine⟨s.heap.objs.size,[s.heap.objs.size,p],[s.heap.objs.size],its.toArray.size,_,_,fun i=>(bs[i]?).getD true,rfl,Walks.list (A:=X.A.in1) (I.ok.hd hc) _ p (Nat.ne_of_lt hlt) its.toArray,
  ⟨⟨_,Heap.get?_push_size _ rfl,rfl,rfl⟩,hl.push _⟩,fun i v s' Q' E' hP hQ=>?_,fun h' tk hk=>?_⟩
 ·obtain⟨b,e,rfl⟩:=hb.get i v (by simpa using hP)
  simp only[e,Option.getD_some]at hQ
  exact wpAny_truthy_bool hQ
 ·have e:((List.range its.toArray.size).all fun i=>(bs[i]?).getD true)=bs.all id:=by
   rw[List.size_toArray,hb.length];exact LSm.range_all bs
  rw[e]
  exact⟨.bl _,H,I.kept (t':=tk) (LSm.kept_iter hk),rfl,q⟩
theorem JM:∀{ys:List Str} {us:List Value},Vals (ys.map V.str) us->StrsAre us ys
 | [],_,.nil=>.nil
 |y::r,_,.cons (b:=u) h t=>by
  obtain⟨tk,e⟩:∃tk,u=Value.str y tk:=h
  subst e
  exact .cons y tk (JM t)
theorem Ka:∀(ys:List Str) (k:Nat),Vals (ys.map V.str) (strsFrom k ys)
 | [],_=>.nil
 |_::r,k=>.cons ⟨k,rfl⟩ (Ka r (k+1))
theorem zS:MtR X "str.join" (fun x xs H Q=>∃(z:Str) (p:Addr) (ys:List Str),x= .str z/\xs=[.ref p]/\SqL X.K H p (ys.map V.str)/\z.length<=16/\(ys.map (·.length)).sum+ys.length<=1048576/\Q (.str (Txt.join z ys)) H):=by
 intro pins s σ H x xs v us Q I rx rs h
 obtain⟨z,p,ys,rfl,rfl,hq,hz,hw,q⟩:=h
 obtain⟨u,rfl,ru⟩:=vals1 rs
 cases ru
 obtain⟨t,rfl⟩:=rx
 obtain⟨its,r',pl,hz'⟩:=I.list hq
 exact join_listW pl.isList (by simpa using JM r') hz hw fun t' k=>⟨.str _,H,I.tok k,⟨_,rfl⟩,q⟩
theorem Kz:OpR X (binaryOp .Mult) (fun x y H Q=>∃z n,x= .str z/\y= .int n/\MulOk z n/\Q (.str (Txt.mul z n)) H):=by
 intro pins s σ H x y v u Q I rx ry h
 obtain⟨z,n,rfl,rfl,hok,q⟩:=h
 obtain⟨t,rfl⟩:=rx
 obtain⟨t',rfl⟩:=ry
 exact SB.mul hok fun t' k=>⟨.str _,H,I.tok k,⟨_,rfl⟩,q⟩
noncomputable def cstV:Expr->Option V
 | .Constant (.str x) _ _=>some (.str x)
 | .Constant (.int i) _ _=>some (.int i)
 |_=>none
theorem pe_cst{e:Expr}{v:V}(h:cstV e=some v):PE X e (tC v):=by
 cases e with
 |Constant c j p=>
  cases c with
  |str x=>cases h;exact jk
  |int i=>cases h;exact jf
  |_=>cases h
 |_=>cases h
theorem Zv{e:Expr}{es:List Expr}{env:Env}{v:V}(h:cstV e=some v):starEach (e::es) env=(false,eval e env)::starEach es env:=by
 cases e with
 |Constant c j p=>rfl
 |_=>cases h
noncomputable def isCst(e:Expr):Bool:=(cstV e).isSome
noncomputable def cstG(e:Expr):V:=(cstV e).getD .non
theorem KA:∀{es:List Expr},es.all isCst=true->PA X es (fun _ H Q=>Q (es.map cstG) H)
 | [],_=>jc
 |e::es,h=>by
  rw[List.all_cons,Bool.and_eq_true]at h
  obtain⟨v,hv⟩:=Option.isSome_iff_exists.mp (show(cstV e).isSome=true from h.1)
  have hg:cstG e=v:=by unfold cstG;rw[hv];rfl
  rw[List.map_cons,hg]
  exact ja (pe_cst hv) (KA h.2) (Zv hv)
theorem X4{es:List Expr}(h:es.all isCst=true):(es.map cstG).all flatV=true:=by
 rw[List.all_eq_true]at h ⊢
 intro v hv
 obtain⟨e,he,rfl⟩:=List.mem_map.mp hv
 have q:=h e he
 unfold isCst at q
 unfold cstG
 cases e with
 |Constant c j p=>
  cases c with
  |str x=>rfl
  |int i=>rfl
  |_=>exact absurd q Bool.false_ne_true
 |_=>exact absurd q Bool.false_ne_true
def tMid(t:TS):TS:=fun D σ H=>∃R:St->Hp->Prop,t { D with nx:=R } σ H/\∀σ' H',R σ' H'->D.nx σ' H'
theorem zQ{st:Stmt}{t:TS}(h:PS X st t):PS X st (tMid t):=by
 intro pins s σ H D I hw
 obtain⟨R,h1,h2⟩:=hw
 refine thn (h pins s σ H _ I h1) fun f s' q=>?_
 cases f with
 |next=>obtain⟨σ',H',I',q⟩:=q;exact⟨σ',H',I',h2 _ _ q⟩
 |brk=>exact q
 |cont=>exact q
 |ret v=>exact q
noncomputable def Its(x:Str):It:=⟨fun i _=>i < x.cps.size,fun i H v H'=>H'=H/\∃c,x.cps[i]?=some c/\v= .str ⟨#[c]⟩,fun i _=>i=x.cps.size⟩
theorem go_str{M:Model}{A:Around}{E:Value->Shared->Prop}{s:Shared}{tg:Expr}{it:Addr}{x:Str}{t:Tok}{Q:Unit->Shared->Prop}(hQ:Q () s):wpAny M A (letOwnedTupleGo tg (.ref it) (.str x t)) Q E s:=by
 unfold letOwnedTupleGo
 cases tg<;>exact wpAny_pure hQ
theorem K6{P:Program}{w:World}{K:Frag}{tg:Expr}{ty:String}{x:Str}{t:Tok}{it:Addr}
  (hW:∀A':Around,A'.handled=none->Walks P w A' it [it] [it] x.cps.size (SignAt x) (fun i h=>h.IsStrIter it ty x t i))
  (hS:∀(A:Around) (i:Nat) (s:Shared) (Q:Value->Shared->Prop) (E:Value->Shared->Prop),s.heap.IsStrIter it ty x t i->Q (.ref it) s->wpAny (model P w) A (pyIter (.ref it)) Q E s):
  Turn P w K tg (Its x) [it] it (fun i h=>h.IsStrIter it ty x t i) where
 mem:=by simp
 obj:=fun i h st b hb=>by
  have e:b=it:=by simpa using hb
  subst e
  obtain⟨o,e,c,d⟩:=st
  exact⟨o,e,fun v z=>by rw[d]at z;cases z⟩
 keep:=fun i h h' st k=>by
  obtain⟨o,e,r⟩:=st
  exact⟨o,k it (by simp) o e,r⟩
 item:=by
  intro X hP hw hK hc i pins s σ H E I hf st hg
  subst hP hw hK
  obtain⟨f0,f1,f2,f3,f4,f5⟩:=hf it (by simp)
  refine(hW X.A (I.ok.hd hc)).item i s _ _ hg st fun v h' tk hv st' kk=>?_
  obtain⟨c,u,hcx,rfl⟩:=hv
  have I1:Inv X pins σ H { s with heap:=h',toks:=tk }:=I.turned (fun b o hb e=>kk b o (by simpa using hb) e) f0 f1 f3 f4 f5
  exact⟨_,rfl,go_str ⟨.str ⟨#[c]⟩,H,I1,⟨u,rfl⟩,⟨rfl,c,hcx,rfl⟩,st',fun b hb=>(hf b hb).1⟩⟩
 done:=by
  intro X hP hw hK hc i pins s σ H E I hf st hg
  subst hP hw hK
  obtain⟨f0,f1,f2,f3,f4,f5⟩:=hf it (by simp)
  have e:i=x.cps.size:=hg
  subst e
  refine(hW X.A (I.ok.hd hc)).done s _ _ st fun h' tk kk=>⟨rfl,I.turned (fun b o hb e=>kk b o (by simpa using hb) e) f0 f1 f3 f4 f5⟩
 self:=hS
def iStr(tl:TE):TI:=fun σ H R=>tl σ H fun x H1=>∃z,x= .str z/\R (Its z) H1
theorem pi_str{tg l:Expr}{tl:TE}(hl:PE X l tl):PI X tg l (iStr tl):=by
 intro pins s σ H R I h
 refine thn (hl pins s σ H _ I h) fun v s1 ⟨x,H1,I1,r1,q1⟩=>?_
 obtain⟨z,e,q⟩:=q1
 subst e
 obtain⟨t,rfl⟩:=r1
 have fp:∀b∈[s1.heap.objs.size],FpOk X pins H1 b:=fun b hb=>by
  have e:b=s1.heap.objs.size:=by simpa using hb
  subst e
  exact I1.fpOk (Nat.le_refl _) (I1.hok.fresh (Nat.le_refl _))
 cases ha:z.cps.all (· < 128)
 ·refine wpAny_pyIter_wide ha ⟨s1.heap.objs.size,[s1.heap.objs.size],_,_,H1,rfl,I1.kept (t':=s1.toks) fun b o e=>Heap.get?_push_of_some _ e,
   K6 (fun A' hA=>Walks.strWide hA _ z t) (fun _ _ _ _ _ st h=>wpAny_pyIter_striter_wide st h),⟨_,Heap.get?_push_size _ rfl,rfl,rfl⟩,fp,q⟩
 ·refine wpAny_pyIter_ascii ha ⟨s1.heap.objs.size,[s1.heap.objs.size],_,_,H1,rfl,I1.kept (t':=s1.toks) fun b o e=>Heap.get?_push_of_some _ e,
   K6 (fun A' hA=>Walks.strAscii hA _ z t) (fun _ _ _ _ _ st h=>wpAny_pyIter_striter_ascii st h),⟨_,Heap.get?_push_size _ rfl,rfl,rfl⟩,fp,q⟩
theorem len1{ts:St}(h:ts.length=1):∃v,ts=[v]:=by
 match ts,h with
 | [v],_=>exact⟨v,rfl⟩
theorem Qq{lo:Int}{n:Nat}{te:TE}{Qf:List V->Hp->Prop}{σt:St}{H:Hp}(Pv:Nat->List V->Hp->Prop)(h0:Pv 0 [] H)(hz:n<=sizeLine)(hlen:∀i ys H',Pv i ys H'->ys.length<=i)
  (hs:∀i ys H',i < n->Pv i ys H'->te (some (.int (lo+i))::σt) H' fun y H2=>Pv (i+1) (ys++[y]) H2) (hd:∀ys H',Pv n ys H'->Qf ys H'):
  CompR (Itr lo n) 1 σt (gName 0) tAll te Qf H:=by
 refine⟨fun i m ys H'=>m=n - i/\i<=n/\Pv i ys H',⟨n,by simp,Nat.zero_le _,h0⟩,?_⟩
 rintro i m ys H' ⟨rfl,hi,p⟩
 by_cases hlt:i < n
 ·refine .inr ⟨hlt,Nat.lt_of_le_of_lt (hlen i ys H' p) (Nat.lt_of_lt_of_le hlt hz),Pv (i+1),fun ys' H2 p'=>⟨n - (i+1),by omega,rfl,hlt,p'⟩,fun x H2 ts hts y=>?_⟩
  obtain⟨e,y⟩:=y
  subst e y
  obtain⟨v,rfl⟩:=len1 hts
  exact⟨⟨[some _],rfl,rfl⟩,hs i ys _ hlt p⟩
 ·have e:i=n:=by omega
  subst e
  exact .inl ⟨Nat.le_refl _,hd ys H' p⟩
theorem X5{x:Str}{te:TE}{Qf:List V->Hp->Prop}{σt:St}{H:Hp}(f:Nat->V)(hz:x.length<=sizeLine)
  (hs:∀(c:Nat) (Q:VK),Q (f c) H->te (some (.str ⟨#[c]⟩)::σt) H Q) (hd:Qf (x.cps.toList.map f) H):
  CompR (Its x) 1 σt (gName 0) tAll te Qf H:=by
 have hl:x.cps.toList.length=x.cps.size:=Array.length_toList
 have hz':x.cps.size<=sizeLine:=hz
 refine⟨fun i m ys H'=>m=x.cps.size - i/\i<=x.cps.size/\ys=(x.cps.toList.take i).map f/\H'=H,⟨x.cps.size,by simp,Nat.zero_le _,by simp,rfl⟩,?_⟩
 rintro i m ys H' ⟨rfl,hi,rfl,rfl⟩
 by_cases hlt:i < x.cps.size
 ·refine .inr ⟨hlt,?_,fun ys' H2=>ys'=(x.cps.toList.take (i+1)).map f/\H2=H',fun ys' H2 ⟨p1,p2⟩=>⟨x.cps.size - (i+1),by omega,rfl,hlt,p1,p2⟩,fun v H2 ts hts y=>?_⟩
  ·rw[List.length_map,List.length_take]
   omega
  obtain⟨e,c,hc,y⟩:=y
  subst e y
  obtain⟨v,rfl⟩:=len1 hts
  refine⟨⟨[some _],rfl,rfl⟩,hs c _ ⟨?_,rfl⟩⟩
  have hc':x.cps.toList[i]?=some c:=by simpa using hc
  rw[List.take_add_one,hc',List.map_append]
  rfl
 ·have e:i=x.cps.size:=by omega
  subst e
  refine .inl ⟨rfl,?_⟩
  rw[List.take_of_length_le (by omega)]
  exact hd
end
section
open PySem.W PySem.Calls Builtin Builtin.ObjectAttr
variable {prog:Program}{w:World}{A:Around}{E:Value->Shared->Prop}{s:Shared}{K:Frag}{x C:Addr}{ox:Obj}{od:Option Obj}{name:Str}
theorem Zw:builtinKind "BaseException.__getattribute__"=some .slot:=by decide+kernel
theorem X6:splitId "BaseException.__getattribute__"=some ("BaseException","__getattribute__"):=by decide+kernel
theorem ga_run{tk:Tok}{R:Result->Shared->Prop}(X:K.In s.heap)(I:InstAt s.heap x ox C od)(hb:mroIn K C (.type "BaseException")=some true)
  (h:wpAny (model prog w) A.in1 (Builtin.«object.__getattribute__» ⟨[.ref x,.str name tk],[]⟩) (fun fin s'=>match fin with | .done f=>R (.ok f) s' | .again c'=>c'.quiet=true/\codeAny (model prog w) A c' R s') (fun e s'=>R (.error e) s') s):
  codeAny (model prog w) A (.call (.builtin "BaseException.__getattribute__") ⟨[.ref x,.str name tk],[]⟩) R s:=
 codeAny_call_builtin PySem.F.excAttr_ValueError.ga.plain PySem.F.entry_bexc_ga
  (@check_slot (model prog w) _ _ s "BaseException.__getattribute__" "BaseException" "__getattribute__" (.ref x) [.str name tk] [] _ Zw X6 (I.type.andThen (looks_mroIn X hb)) (PySem.F.args_bexc_ga (.ref x) (.str name tk)) h)
theorem YV{tk:Tok}{fill expr:Bool}{Q:Value->Shared->Prop}(X:K.In s.heap)(I:InstAt s.heap x ox C od)(hga:findIn K (.ref C) "__getattribute__"=some (some (.builtin "BaseException.__getattribute__")))(hgh:findIn K (.ref C) "__getattr__"=some none)
  (hb:mroIn K C (.type "BaseException")=some true)
  (h:wpAny (model prog w) A.in1 (Builtin.«object.__getattribute__» ⟨[.ref x,.str name tk],[]⟩) (fun fin s'=>match fin with | .done (.ret v)=>wpAny (model prog w) A (handedOut v) Q E s' |_=>False) (fun _ _=>False) s):
  wpAny (model prog w) A (getAttrBy (.ref x) (.str name tk) fill expr) Q E s:=by
 obtain⟨hh,g,d,t,os⟩:=s
 have L0:=I.type (M:=model prog w)
 have L1:=looks_findIn (M:=model prog w) X hga
 have L2:=looks_findIn (M:=model prog w) X hgh
 unfold getAttrBy
 refine wpAny_holding (wpAny_bind (L0.at (wpAny_bind (L1.at ?_))))
 show wpAny _ _ (getAttrByItsOwn _ _ _ _ _ _) _ _ _
 unfold getAttrByItsOwn
 refine wpAny_bind (show wpAny _ _ (typeLookup (.ref C) "__getattr__") _ _ _ from L2.at ?_)
 refine wpAny_bind (wpAny_attempt (wpAny_holding ?_))
 have e0:callGetattribute (.ref x) (.str name tk) (.builtin "BaseException.__getattribute__") expr=boundAndCalled (.builtin "BaseException.__getattribute__") (.ref x) (.str name tk):=by cases expr<;>rfl
 rw[e0]
 unfold boundAndCalled
 rw[PySem.F.excAttr_ValueError.ga.bind]
 refine wpAny_bind (wpAny_pure (wpAny_call (ga_run X I hb (wpAny_mono h (fun fin s' z=>?_) fun _ _ z=>z.elim))))
 rcases fin with (_ |_ |_ |_) |_<;>first |exact z |exact z.elim
theorem get_exc{v:Value}{expr:Bool}{Q:Value->Shared->Prop}(X:K.In s.heap)(I:InstAt s.heap x ox C od)(hga:findIn K (.ref C) "__getattribute__"=some (some (.builtin "BaseException.__getattribute__")))(hgh:findIn K (.ref C) "__getattr__"=some none)
  (hb:mroIn K C (.type "BaseException")=some true) (hf:findObj K C od name=some (.value v)) (hv:handedIn v=true) (h:Q v { s with toks:=s.toks+1 }):wpAny (model prog w) A (getAttr (.ref x) name expr) Q E s:=by
 unfold getAttr
 refine wpAny_bind (wpAny_mkText (YV (s:={ s with toks:=s.toks+1 }) X I hga hgh hb ?_))
 obtain⟨hh,g,d,t,os⟩:=s
 have L0:=I.type (M:=model prog w)
 have L1:=looks_find (M:=model prog w) X I hf
 refine wpAny_bind (wpAny_pure (wpAny_bind (wpAny_pure (wpAny_bind (L0.at (wpAny_bind (L1.at ?_)))))))
 refine wpAny_pure ?_
 show wpAny _ _ (handedOut v) _ _ _
 rw[handedOut_of hv];exact wpAny_pure h
theorem X7{Q:Option Value->Shared->Prop}(X:K.In s.heap)(I:InstAt s.heap x ox C od)(hga:findIn K (.ref C) "__getattribute__"=some (some (.builtin "BaseException.__getattribute__")))(hgh:findIn K (.ref C) "__getattr__"=some none)
  (hb:mroIn K C (.type "BaseException")=some true) (hf:findObj K C od "__class__"=some (.bind (.builtin "getset_descriptor.__get__") (.builtin "object.__class__"))) (hm:mroIn K C (.type "object")=some true) (h:Q (some (.ref C)) { s with toks:=s.toks+1 }):
  wpAny (model prog w) A (getAttr? (.ref x) "__class__") Q E s:=by
 unfold getAttr? getAttrBy?
 refine wpAny_bind (wpAny_mkText (wpAny_bind (wpAny_attempt (YV (s:={ s with toks:=s.toks+1 }) X I hga hgh hb ?_))))
 obtain⟨hh,g,d,t,os⟩:=s
 have L0:=I.type (M:=model prog w)
 have L1:=looks_find (M:=model prog w) X I hf
 refine wpAny_bind (wpAny_pure (wpAny_bind (wpAny_pure (wpAny_bind (L0.at (wpAny_bind (L1.at ?_)))))))
 show wpAny _ _ (bindTo _ _ _ _) _ _ _
 unfold bindTo
 refine wpAny_bind (wpAny_holding (wpAny_call (class_get (ox:=ox) (od:=od) X I hm ?_)))
 refine wpAny_pure ?_
 exact handed_on rfl (wpAny_pure h)
theorem Qr{a g:Value}(hc:(clsIn K C).isSome=true)(ha:findIn K (.ref C) name=some (some a))(hg:specialIn K a "__get__"=some (some g))(ht:takesIn K a=some true):findObj K C od name=some (.bind g a):=by
 obtain⟨cd,hc⟩:=Option.isSome_iff_exists.mp hc
 unfold findObj
 rw[hc,Option.bind_some,ha,Option.bind_some]
 simp [hg,ht]
structure XCls(K:Frag)(C:Addr):Prop where
 ga:findIn K (.ref C) "__getattribute__"=some (some (.builtin "BaseException.__getattribute__"))
 gh:findIn K (.ref C) "__getattr__"=some none
 sa:findIn K (.ref C) "__setattr__"=some (some (.builtin "object.__setattr__"))
 cl:findIn K (.ref C) "__class__"=some (some (.builtin "object.__class__"))
 gt:specialIn K (.builtin "object.__class__") "__get__"=some (some (.builtin "getset_descriptor.__get__"))
 tk:takesIn K (.builtin "object.__class__")=some true
 mb:mroIn K C (.type "BaseException")=some true
 mo:mroIn K C (.type "object")=some true
 hd:hasDictIn K C=true
theorem Zx(c:XCls K C):KitX K (.ref x) (.ref C) (fun h=>∃ox od,InstAt h x ox C od) where
 ty:=fun _ _ _ ⟨_,_,I⟩=>I.type
 it:=fun _ _ X _=>by
  obtain⟨cdD,hcD,_⟩:=any_some c.hd
  unfold clsIn at hcD
  split at hcD
  ·rename_i c' d' cd' sl' ho
   intro A' Q' E' s' k q
   unfold isType loadHead
   exact wpAny_bind (wpAny_loadPart (k _ _ (X _ _ ho)) (wpAny_pure q))
  ·cases hcD
 ne:=fun h tp dd its n sl X htp=>by
  obtain⟨cdD,hcD,_⟩:=any_some c.hd
  refine Bool.eq_false_iff.mpr fun q=>?_
  have e:C=tp:=Value.ref.inj (beq_iff_eq.mp q)
  subst e
  unfold clsIn at hcD
  split at hcD
  ·rename_i c' d' cd' sl' ho
   have z:=(X _ _ ho).symm.trans htp
   cases z
  ·cases hcD
 ca:=fun X ⟨_,_,I⟩ k=>X7 X I c.ga c.gh c.mb (Qr (by obtain⟨cd,hc,_⟩:=any_some c.hd;rw[hc];rfl) c.cl c.gt c.tk) c.mo k
abbrev bmVE:List Value:=[.type "ValueError",.type "Exception",.type "BaseException",.type "object"]
noncomputable def veTail:List Value->Bool
 | .ref _::r=>veTail r
 |l=>l==bmVE
theorem qW(self:Value):∀{l:List Value},veTail l=true->refuseLoop self "__setattr__" l=pure ()
 | .ref c::r,e=>by rw[refuseLoop_ref];exact qW self (l:=r) e
 | [],e=>by cases (show bmVE=[] from (beq_iff_eq.mp e).symm)
 | .none::r,e=>by rw[show Value.none::r=bmVE from beq_iff_eq.mp e];exact PySem.F.store_ValueError.passes self
 | .bool b::r,e=>by rw[show Value.bool b::r=bmVE from beq_iff_eq.mp e];exact PySem.F.store_ValueError.passes self
 | .type b::r,e=>by rw[show Value.type b::r=bmVE from beq_iff_eq.mp e];exact PySem.F.store_ValueError.passes self
 |v::r,e=>by
  cases v with
  |ref c=>rw[refuseLoop_ref];exact qW self (l:=r) e
  |_=>rw[show _=bmVE from beq_iff_eq.mp e];exact PySem.F.store_ValueError.passes self
theorem X8{tk:Tok}{v:Value}{cd:ClassData}{R:Result->Shared->Prop}(X:K.In s.heap)(I:InstAt s.heap x ox C od)(hc:clsIn K C=some cd)(hv:veTail cd.mro=true)(mo:mroIn K C (.type "object")=some true)(ha:findIn K (.ref C) name=some none)
  (h:wpAny (model prog w) A.in1 (storeInOwnDict (.ref x) (.ref C) (.str name tk) name v false)
   (fun fin s'=>match fin with | .done f=>R (.ok f) s' | .again c'=>c'.quiet=true/\codeAny (model prog w) A c' R s') (fun e s'=>R (.error e) s') s):
  codeAny (model prog w) A (.call (.builtin "object.__setattr__") ⟨[.ref x,.str name tk,v],[]⟩) R s:=by
 have SF:=PySem.F.store_object
 have sub:Looks (model prog w) s.heap (isInstance (.ref x) (.type "object")) true:=I.type.andThen (looks_mroIn X mo)
 refine codeAny_call_builtin SF.slot.plain SF.entry (@check_slot (model prog w) _ _ s "object.__setattr__" "object" "__setattr__" (.ref x) [.str name tk,v] [] _ SF.kind SF.split sub (SF.args (.ref x) (.str name tk) v) ?_)
 have hm:Looks (model prog w) s.heap (mroOf (.ref C)) cd.mro:=(looks_clsIn X hc).andThen .now
 have L3:Looks (model prog w) s.heap (storeTaker? none) none:=.now
 rw[osa_eq,refuse_eq]
 refine wpAny_bind (wpAny_bind (I.type.here (wpAny_bind (hm.here ?_))))
 rw[qW _ hv]
 refine wpAny_pure (wpAny_bind (I.type.here (wpAny_bind ((looks_findIn X ha).here (wpAny_bind (L3.here ?_))))))
 exact h
theorem set_exc{v : Value}{cd : ClassData}{Q : Unit -> Shared -> Prop}(X : K.In s.heap)(hx : s.heap.get? x = some ox)(hcl : ox.cls = .ref C)(hn : notCls ox = true)(hdn : ox.dict = none)(hc : clsIn K C = some cd)(hdct : cd.hasDict = true)(hv : veTail cd.mro = true)
    (mo : mroIn K C (.type "object") = some true) (hs : findIn K (.ref C) "__setattr__" = some (some (.builtin "object.__setattr__"))) (ha : findIn K (.ref C) name = some none)
    (h : ∀ h' tk, h'.get? x = some { ox with dict := some s.heap.objs.size } -> h'.Ns1 s.heap.objs.size (fun y => if y = name then some v else none) -> (∀ b o, b ≠ x -> s.heap.get? b = some o -> h'.get? b = some o) -> Q () { s with heap := h', toks := tk }) :
    wpAny (model prog w) A (setAttr (.ref x) name v) Q E s := by
  have I : InstAt s.heap x ox C none := ⟨hx, hcl, hn, by rw [hdn]; trivial⟩
  refine set_plain X I hs (X8 (s := { s with toks := s.toks + 1 }) X I hc hv mo ha ?_)
  obtain ⟨hp, g, d, t, os⟩ := s
  obtain ⟨oc, odt, oda, osl⟩ := ox
  dsimp only at hcl hdn h hx
  subst hcl hdn
  unfold storeInOwnDict ownDictForStores
  refine wpAny_bind (wpAny_pure (wpAny_bind (wpAny_bind (wpAny_loadPart hx (wpAny_bind (PySem.W.Looks.here (s := ⟨hp, g, d, t + 1, os⟩) (looks_clsIn X hc) ?_))))))
  rw [hdct]
  have hx₁ : (hp.push { cls := .type "dict", data := .dict #[] }).get? x = some ⟨.ref C, none, oda, osl⟩ := Heap.get?_push_of_some _ hx
  have hxs : x ≠ hp.objs.size := Nat.ne_of_lt (Heap.lt_size hx)
  have hfr := (Heap.get?_some_iff.mp hx).2
  have hgd : ((hp.push { cls := .type "dict", data := .dict #[] }).update x fun o => { cls := o.cls, dict := some hp.objs.size, data := o.data, slots := o.slots }).get? hp.objs.size
      = some { cls := .type "dict", data := .dict #[] } :=
    (Heap.get?_update_ne _ _ _ _ hxs.symm).trans (Heap.get?_push_at rfl rfl)
  have hnd : ((hp.push { cls := .type "dict", data := .dict #[] }).update x fun o => { cls := o.cls, dict := some hp.objs.size, data := o.data, slots := o.slots }).Ns hp.objs.size (fun _ => none) :=
    ⟨_, #[], _, hgd, rfl, fun e he => absurd he (by simp), fun _ => rfl⟩
  have fin : wpAny (model prog w) A.in1 (do
        let d <- alloc { cls := .type "dict", data := .dict #[] }
        update x fun o => { o with dict := some d }
        dictMade (.ref C) x d)
      (fun a s' => wpAny (model prog w) A.in1 (match a with
            | some d_1 => storeInDict d_1 (Value.str name t) name v
            | none => noDictFor (Value.ref x) (Value.ref C) name false)
          (fun fin s' => match fin with
              | .done f => (match (Except.ok f : Result) with | .ok (.ret _) => Q () s' | .ok _ => False | .error e => E e s')
              | .again c' => c'.quiet = true /\ codeAny (model prog w) A c' (fun r s' => match r with | .ok (.ret _) => Q () s' | .ok _ => False | .error e => E e s') s')
          (fun e s' => E e s') s') (fun e s' => E e s') ⟨hp, g, d, t + 1, os⟩ := by
    refine wpAny_bind (wpAny_alloc' ?_)
    refine wpAny_bind (wpAny_update' hx₁ ?_)
    refine wpAny_pure ?_
    show wpAny _ _ (storeInDict hp.objs.size (.str name t) name v) _ _ _
    unfold storeInDict newKeyGuard
    refine wpAny_bind (wpAny_pure (wpAny_bind (wpAny_nsSet1 (Heap.Ns1.of_empty hnd) fun h' hn' hs => ?_)))
    obtain ⟨oD, esD, epD, hoD, hdD, hcD⟩ := hn'.count (Within.cons name v Within.nil)
    refine wpAny_bind (wpAny_lookBehind hoD (by rw [hdD]; exact pastItsLine_dict (Nat.le_trans hcD (by rw [List.length_cons, List.length_nil, sizeLine_eq]; omega))) ?_)
    refine wpAny_pure ?_
    refine h h' _ ((hs.2 x hxs).trans (Heap.get?_update_self _ hx₁ ?_)) hn' fun b o hb e => ?_
    · cases oda <;> first | rfl | exact hfr
    · exact (hs.2 b (Nat.ne_of_lt (Heap.lt_size e))).trans ((Heap.get?_update_ne _ _ _ _ hb).trans (Heap.get?_push_of_some _ e))
  cases oda with
  | cls c => exact absurd hn (by simp [notCls])
  | _ => exact fin
end
section
open PySem.W PySem.Calls
variable {prog:Program}{w:World}{A:Around}{E:Value->Shared->Prop}{R:Result->Shared->Prop}{K:Frag}{h:Heap}{g:Array GenState}{d:Drawn}{t:Nat}{os:OsState}{C B:Addr}
structure XMk(K:Frag)(C:Addr):Prop where
 obj:∃nm q N bs bm hdct sn sub ab col dd k0 k1 k2 k3 k5,K.lookup C=some (excClassObj nm q C N bs bm hdct sn sub ab col dd k0 k1 k2 k3 k5 "ValueError.__new__")/\tailIn K bmVE bm=true
 call:specialIn K (.ref C) "__call__"=some (some (.builtin "type.__call__"))
 typ:instIn K (.ref C) (.type "type")=some true
 kp:keepIn K (.ref C)=true
theorem X9(q:excIn K C bmVE "ValueError.__new__"=true):(∃nm q N bs bm hdct sn sub ab col dd k0 k1 k2 k3 k5,K.lookup C=some (excClassObj nm q C N bs bm hdct sn sub ab col dd k0 k1 k2 k3 k5 "ValueError.__new__")/\tailIn K bmVE bm=true/\nsOkIn K N=true/\nsIn K N "__init__"=some none):=by
 unfold excIn at q
 split at q
 ·rename_i dd cd sl ho
  split at q
  ·rename_i C' bm k0 k1 k2 k3 n k5 hm hs
   simp only[Bool.and_eq_true,beq_iff_eq,Bool.not_eq_true']at q
   obtain⟨⟨⟨⟨⟨rfl,rfl⟩,hdel⟩,ht⟩,hok⟩,hni⟩:=q
   obtain⟨nm,bs,mro,ns,qn,hd,sn,sub,ab,col,del⟩:=cd
   dsimp only at hm hdel hok hni
   subst hm hdel
   have hsl:sl=#[k0,k1,k2,k3,some (.builtin "ValueError.__new__"),k5]:=by
    obtain⟨l⟩:=sl
    simp only at hs
    rw[hs]
   subst hsl
   exact⟨nm,qn,ns,bs,bm,hd,sn,sub,ab,col,dd,k0,k1,k2,k3,k5,ho,ht,hok,hni⟩
  ·cases q
 ·cases q
noncomputable abbrev excTup(rest:List Value):Obj:={ cls:=.type "tuple",data:=.seq rest.toArray }
noncomputable abbrev excNew(C t:Addr):Obj:={ cls:=.ref C,data:=.fields #[.ref t,.none,.none,.none,.bool false,.none] }
theorem Zy{rest:List Value}{f:Addr}(X:K.In h)(M:XMk K C)(hi:findIn K (.ref C) "__init__"=some (some (.ref f)))(hf:typeIn K (.ref f)=some (.type "function"))(hrest:rest.length<=sizeLine)
  (hq:codeAny (model prog w) (A.under (.builtin "type.__call__" ⟨.ref C::rest,[]⟩)) (.call (.ref f) ⟨.ref (h.objs.size+1)::rest,[]⟩) (InitBack (h.objs.size+1) R) ⟨(h.push (excTup rest)).push (excNew C h.objs.size),g,d,t,os⟩):
  codeAny (model prog w) A (.call (.ref C) ⟨rest,[]⟩) R ⟨h,g,d,t,os⟩:=by
 obtain⟨nm,q,N,bs,bm,hdct,sn,sub,ab,col,dd,k0,k1,k2,k3,k5,hK,hT⟩:=M.obj
 have hC:=X _ _ hK
 have T:=tail_of_in X hT
 have F:=PySem.F.excBase_ValueError
 have call:=looks_specialIn (M:=model prog w) X M.call
 have typ:=looks_instIn (M:=model prog w) X M.typ
 refine codeAny_of_tree ?_
 show wpAny _ _ (callAny (.ref C) _) _ _ _
 refine nd_load hC ?_
 show wpAny _ _ (callAny.viaDunder (.ref C) _) _ _ _
 unfold callAny.viaDunder
 refine wpAny_bind (call.at ?_)
 dsimp only
 rw[tc_bind]
 refine wpAny_bind (wpAny_pure (wpAny_bind (wpAny_pure ?_)))
 refine wpAny_pure (a:=Fin.again (.call (.builtin "type.__call__") ⟨.ref C::rest,[]⟩)) (And.intro rfl ?_)
 refine codeAny_call_builtin_at (Code.quiet_builtin _ (by decide+kernel)) entry_typeCall (check_slot tc_kind tc_split typ (tc_args _ _ _) ?_)
 unfold Builtin.«type.__call__»
 repeat (first |with_reducible refine wpAny_loadPart_at hC ?_ |with_reducible refine wpAny_madeBy_exc hC ?_ |wp_step)
 refine codeAny_call_builtin_code (Code.quiet_builtin _ F.quiet) (wpAny_check_new_subT F T hC ?_)
 refine codeAny_exc_new_subT F T hC ?_ hrest
 show wpAny _ _ _ _ _ _
 have k:∀b o,h.get? b=some o->((h.push (excTup rest)).push (excNew C h.objs.size)).get? b=some o:=fun b o e=>Heap.get?_push_of_some _ (Heap.get?_push_of_some _ e)
 have hC₁:=k _ _ hC
 have hget:((h.push (excTup rest)).push (excNew C h.objs.size)).get? (h.objs.size+1)=some (excNew C h.objs.size):=by heap_get
 have hcC:(Value.ref C::bm).contains (.ref C)=true:=by simp
 have i1:=(looks_findIn (M:=model prog w) X hi).keeps k
 have b1:=(bind_fn (M:=model prog w) X (.ref (h.objs.size+1)) hf).keeps k
 unfold isInstance
 repeat (first |with_reducible refine wpAny_loadPart_at hget ?_ | (with_reducible refine wpAny_isSubtype_exc hC₁ ?_;rw[hcC]) |wp_step)
 show wpAny _ _ (typeLookup (.ref C) _) _ _ _
 refine i1.at ?_
 refine wpAny_holding (wpAny_bind (b1.at ?_))
 refine wpAny_bind (wpAny_call (codeAny_mono hq fun r s' z=>?_))
 rcases r with e | (v |_ |_ |_)<;>first |exact z |exact z.elim |skip
 obtain⟨rfl,z⟩:=z
 wp_walk
 exact z
end
noncomputable def ExO(C:Addr)(d:Option Addr)(x:Addr):HO:=.ext fun h=>∃o,h.get? x=some o/\o.cls= .ref C/\notCls o=true/\o.dict=d/\∃vs,o.data= .fields vs/\vs[1]?=some .none
theorem YW{P:Program}{w:World}{H:Hp}{h:Heap}{C x:Addr}{d:Option Addr}{o:Obj}(e:h.get? x=some o)(hc:o.cls= .ref C)(hn:notCls o=true)(hd:o.dict=d)(hf:∃vs,o.data= .fields vs/\vs[1]?=some .none):ObjOk P w H h x (ExO C d x):=
 ⟨⟨o,e,hc,hn,hd,hf⟩,⟨o,e⟩,fun h1 h2 ⟨o1,e1,q⟩ k=>⟨o1,k o1 e1,q⟩⟩
section
variable {X:Cx}{pins:List (Addr×Obj)}{σ:St}{H:Hp}{s:Shared}{a C:Addr}{fs:List (Str×V)}{f:Str}{v:V}{A:Around}{E:Value->Shared->Prop}
theorem setX_ok{y:V}{u:Value}{cd:ClassData}{Q:Unit->Shared->Prop}(I:Inv X pins σ H s)(e:H a=some (ExO C none a))(c:XCls X.K C)(n:NoAttr X.K C f)(hc:clsIn X.K C=some cd)(hdct:cd.hasDict=true)(hv:veTail cd.mro=true)(ry:RelV y u)
  (h:∀dx s',H dx=none->Inv X pins σ (upd (upd H a (ExO C (some dx) a)) dx (.xd [(f,y)])) s'->Q () s'):wpAny (model X.prog X.w) A (setAttr (.ref a) f u) Q E s:=by
 obtain⟨⟨o,h1,h2,h3,h4,h5⟩,_⟩:=I.hok a _ e
 refine set_exc I.kIn h1 h2 h3 h4 hc hdct hv c.mo c.sa n fun h' tk g1 g2 g3=>h s.heap.objs.size _ (I.hok.fresh (Nat.le_refl _)) ?_
 have nd:s.heap.objs.size≠a:=Ne.symm (Nat.ne_of_lt (Heap.lt_size h1))
 have I1:Inv X pins σ (upd H a (ExO C (some s.heap.objs.size) a)) { s with heap:=h',toks:=tk }:=
  I.write (x:=a) (e:=a) (by rw[e];exact True.intro) (.inl rfl) g3 ⟨_,g1⟩ (YW g1 h2 h3 rfl h5)
 have hn:upd H a (ExO C (some s.heap.objs.size) a) s.heap.objs.size=none:=by rw[jh nd];exact I.hok.fresh (Nat.le_refl _)
 refine I1.track (I.fpOk (Nat.le_refl _) hn) I.sz ⟨_,g2,fun g=>?_⟩
 show RelO (List.lookup g [(f,y)]) (if g=f then some u else none)
 by_cases q:g=f
 ·subst q;simp [RelO,ry]
 ·rw[if_neg q]
  have:(g==f)=false:=by simpa using q
  simp [List.lookup,this,RelO]
end
def sFldX(K:Frag)(ta tv:TE)(f:Str):TS:=fun D σ H=>tv σ H fun y H1=>ta σ H1 fun x H2=>∃a C cd,x= .ref a/\H2 a=some (ExO C none a)/\XCls K C/\NoAttr K C f/\clsIn K C=some cd/\cd.hasDict=true/\veTail cd.mro=true/\
 ∀dx,H2 dx=none->D.nx σ (upd (upd H2 a (ExO C (some dx) a)) dx (.xd [(f,y)]))
def tMakeX(C:Addr)(sp:Sp)(E:XK)(t:TA):TE:=fun σ H Q=>t σ H fun vs H1=>vs.length<=1000/\∀x,H1 x=none->sp (.ref x::vs) (upd H1 x (ExO C none x)) (fun v H2=>v= .non/\Q (.ref x) H2) E
section
variable {X:Cx}{CX:CXT}{k:Nat}{f C:Addr}{fd:FuncData}{ps:List Str}{sp:Sp}{E:XK}{x m g:Str}{p pos pos':Pos}{e o value:Expr}{es:List Expr}{ta tv:TE}{t:TA}
theorem ps_fldX(ha:PE X o ta)(hv:PE X value tv)(hs:swapsWith value (some (.Attribute o g pos')) pos.line X.env=pure false):PS X (.Assign [.Attribute o g pos'] value pos) (sFldX X.K ta tv g):=by
 intro pins s σ H D I h
 refine plainObj_wpAny_Assign_Attribute (thn (hv pins s σ H _ I h) fun u s1 ⟨y,H1,I1,ry,q⟩=>thn (ha pins s1 σ H1 _ I1 q) fun ov s2 hq'=>?_) hs
 obtain⟨x,H2,I2,rx,a,C,cd,ex,ea,c,n,hc,hd,hv,q2⟩:=hq'
 subst ex
 obtain rfl:ov=Value.ref a:=rx
 exact setX_ok I2 ea c n hc hd hv ry fun dx s3 hn I3=>⟨σ,_,I3,q2 dx hn⟩
theorem Inv.madeX{pins:List (Addr×Obj)}{σ:St}{H:Hp}{s:Shared}{us:List Value}(I:Inv X pins σ H s):Inv X pins σ (upd H (s.heap.objs.size+1) (ExO C none (s.heap.objs.size+1)))
  { s with heap:=(s.heap.push (excTup us)).push (excNew C s.heap.objs.size) }:=by
 have I1:=I.kept (h':=s.heap.push (excTup us)) (t':=s.toks) (fun b u q=>Heap.get?_push_of_some _ q)
 have e2:((s.heap.push (excTup us)).push (excNew C s.heap.objs.size)).get? (s.heap.objs.size+1)=some (excNew C s.heap.objs.size):=by
  have:=Heap.get?_push_size (s.heap.push (excTup us)) (o:=excNew C s.heap.objs.size) rfl
  rwa [Heap.size_push]at this
 exact I1.laid (a:=s.heap.objs.size+1) (t':=s.toks) (fun b u q=>Heap.get?_push_of_some _ q) (Nat.le_of_eq (Heap.size_push _ _)) (YW e2 rfl rfl rfl ⟨_,rfl,rfl⟩)
theorem Ya{pins:List (Addr×Obj)}{σ:St}{H:Hp}{s:Shared}{Q:VK}{us:List Value}{vs:List V}(M:XMk X.K C)(hi:findIn X.K (.ref C) "__init__"=some (some (.ref f)))(hf:isFn X.K (.ref f)=true)
  (F:FnOk X.prog X.w X.K X.mg X.base CX k f fd ps sp) (hr:Room (k+1) X.A) (hb:Binds X.K fd ps []) (hx:Passes CX X E) (I:Inv X pins σ H s) (r:Vals vs us) (hl:vs.length<=1000)
  (h:∀x,H x=none->sp (.ref x::vs) (upd H x (ExO C none x)) (fun v H2=>v= .non/\Q (.ref x) H2) E):
  wpAny (model X.prog X.w) X.A (call (.ref C) us) (EP X pins σ Q) X.xe s:=by
 have hq:=h (s.heap.objs.size+1) (I.hok.fresh (Nat.le_succ _))
 have I2:=Inv.madeX (C:=C) (us:=us) I
 have r2:Vals (V.ref (s.heap.objs.size+1)::vs) (Value.ref (s.heap.objs.size+1)::us):=.cons rfl r
 have hln:(Value.ref (s.heap.objs.size+1)::us).length=ps.length:=by
  have e:=r2.length
  rw[F.len _ _ _ _ hq]at e
  exact e.symm
 have hln':((Value.ref (s.heap.objs.size+1)::us)++[]).length=ps.length:=by rw[List.append_nil];exact hln
 have hbb:=hb _ (Value.ref (s.heap.objs.size+1)::us) I2.kIn hln'
 rw[List.append_nil]at hbb
 obtain⟨hp,g,d,tk,os⟩:=s
 refine wpAny_call (Zy (f:=f) I.kIn M hi (beq_iff_eq.mp hf) (by rw[<- r.length,sizeLine_eq];omega) (codeAny_mono (F.run _ X.stack _ _ ⟨Value.ref (hp.objs.size+1)::us,[]⟩ (Value.ref (hp.objs.size+1)::us) _ _ E (hr.make C us [])
  (I2.env0.make C us []) hbb r2 hq) fun r s' hq'=>?_))
 cases r with
 |error e=>exact hx pins σ _ _ e s' I2 hq'
 |ok fl=>
  cases fl with
  |ret u=>
   obtain⟨v,H',I3,rv,ev,q3⟩:=I2.after hq'
   subst ev
   exact⟨rv,⟨V.ref (hp.objs.size+1),H',I3,rfl,q3⟩⟩
  |next=>exact False.elim hq'
  |brk=>exact False.elim hq'
  |cont=>exact False.elim hq'
theorem K7(M:XMk X.K C)(hi:findIn X.K (.ref C) "__init__"=some (some (.ref f)))(hf:isFn X.K (.ref f)=true)(F:FnOk X.prog X.w X.K X.mg X.base CX k f fd ps sp)(hr:Room (k+1) X.A)(hg:Gl X x)(hm:X.mg x=some (.ref C))(hb:Binds X.K fd ps [])(hx:Passes CX X E)
  (ha:PA X (e::es) t) (hdb:(x==("__debug__":Str))=false:=by decide) (he:starEach (e::es) X.env=(false,eval e X.env)::starEach es X.env:=by rfl) (hpl:(backTo pos (starEach es X.env)).any (·.1)=false:=by rfl):
  PE X (.Call (.Name x p) (e::es) [] pos) (tMakeX C sp E t):=by
 intro pins s σ H Q I h
 refine wpAny_Call_Name_kw (zn I hg hm ?_ hdb)
 refine callWith_K (h₀:=X.base) I.ok.mod.kin M.kp (thn (ha pos pins s σ H _ I h) fun us s1 ⟨vs,H1,I1,r,hl,q⟩=>⟨I1.kIn,?_⟩) he hpl
 exact Ya M hi hf F hr hb hx I1 r hl q
end
theorem Inv.turnedN{X:Cx}{pins:List (Addr×Obj)}{σ:St}{H:Hp}{s:Shared}{h':Heap}{t':Nat}{fp:List Addr}(I:Inv X pins σ H s)(hf:∀b∈fp,FpOk X pins H b)(k:∀b o,b∉fp->s.heap.get? b=some o->h'.get? b=some o):
  Inv X pins σ H { s with heap:=h',toks:=t' }:=by
 have nit:∀b u,H b=some u->b∉fp:=fun b u e z=>by rw[(hf b z).1]at e;cases e
 refine I.step (g':=s.gens) (d':=s.drawn) (ch:=fp) (fun b hb=>?_) (fun b o _ _ hc e _=>k b o hc e) (fun b o _ _ hc e _=>⟨o.slots,k b o hc e⟩) (fun _ _ _ _ n=>n)
  (fun b o hc e=>⟨o,k b o hc e⟩) (fun _ _ e=>e) (fun _ _ _ e=>e) (fun b ps e=>⟨#[],by rw[e];simp⟩) (fun m hm=>?_) (fun b u e=>?_) I.bare
 ·obtain⟨f0,f1,f2,f3,f4,f5⟩:=hf b hb
  exact⟨f3,f1,f4,f5⟩
 ·obtain⟨o,es,ep,ho,r⟩:=hm
  exact⟨o,es,ep,k _ o (fun z=>(hf _ z).2.1 rfl) ho,r⟩
 ·refine(I.hok b u e).stay (fun c v hc q=>k c v ?_ q) (fun _ q=>q) fun _ _ q=>q
  rcases hc with z |z
  ·rw[z];exact nit b u e
  ·exact nit c _ z
noncomputable def Ite(K:Frag)(a:Addr):It:=
 ⟨fun i H=>∃xs x,SqL K H a xs/\xs[i]?=some x,fun i H x H'=>∃p v,x= .ref p/\H p=none/\H'=upd H p (.tup [.int i,v])/\∀xs,SqL K H a xs->xs[i]?=some v,fun i H=>∃xs,SqL K H a xs/\xs.length<=i⟩
theorem Yb{P:Program}{w:World}{K:Frag}{elts:List Expr}{kx:Nat}{tp:Pos}(a e it:Addr)(hei:e≠it):Turn P w K (.Tuple elts kx tp) (Ite K a) [e,it] e (fun i h=>(∃old,IsEnum h e it i old)/\h.IsListIter it a i) where
 mem:=by simp
 obj:=fun i h st b hb=>by
  obtain⟨⟨old,he⟩,⟨o,ei,c,d⟩⟩:=st
  rcases List.mem_cons.mp hb with rfl |hb
  ·exact⟨_,he,fun v z=>by cases (show Data.fields _=Data.cell v from z)⟩
  ·have q:b=it:=by simpa using hb
   subst q
   exact⟨o,ei,fun v z=>by rw[d]at z;cases z⟩
 keep:=fun i h h' st k=>⟨let ⟨old,he⟩:=st.1;⟨old,k e (by simp) _ he⟩,st.2.at fun o q=>k it (by simp) o q⟩
 item:=by
  intro X hP hw hK hc i pins s σ H E I hf st hg
  subst hP hw hK
  obtain⟨⟨old,he⟩,hit⟩:=st
  obtain⟨xs,x,hq,hx⟩:=hg
  obtain⟨its,rv,p,hz⟩:=I.list hq
  obtain⟨u,hu,ru⟩:=rv.get hx
  have lte:e < s.heap.objs.size:=Heap.lt_size he
  have lti:it < s.heap.objs.size:=by obtain⟨_,q,_⟩:=hit;exact Heap.lt_size q
  refine wpAny_pyNext_enum_item he hit p.isList (x:=u) (by simpa using hu) hei fun h' ho hit' hT hsz hk=>⟨_,rfl,?_⟩
  have hn:H s.heap.objs.size=none:=I.hok.fresh (Nat.le_refl _)
  have I1:Inv X pins σ H { s with heap:=h',toks:=s.toks+1 }:=I.turnedN hf fun b o hb q=>hk b o (fun z=>hb (by simp [z])) (fun z=>hb (by simp [z])) q
  have r2:Vals [V.int i,x] [Value.int i s.toks,u]:=.cons ⟨_,rfl⟩ (.cons ru .nil)
  have I2:Inv X pins σ (upd H s.heap.objs.size (.tup [.int i,x])) { s with heap:=h',toks:=s.toks+1 }:=
   I1.track (I.fpOk (Nat.le_refl _) hn) I.sz ⟨by show 2<=sizeLine;decide,_,r2,_,hT,rfl,_,rfl⟩
  have hf2:∀b∈[e,it],FpOk X pins (upd H s.heap.objs.size (.tup [.int i,x])) b:=fun b hb=>by
   obtain⟨f0,f1⟩:=hf b hb
   refine⟨?_,f1⟩
   rw[jh]
   ·exact f0
   ·rcases List.mem_cons.mp hb with rfl |hb
    ·exact Nat.ne_of_lt lte
    ·have q:b=it:=by simpa using hb
     subst q
     exact Nat.ne_of_lt lti
  refine wpAny_letOwnedTupleGo_enum (s:={ s with heap:=h',toks:=s.toks+1 }) ho fun h'' he' hs'=>?_
  replace hs':Heap.SameBut e h' h'':=hs'
  have I3:Inv X pins σ (upd H s.heap.objs.size (.tup [.int i,x])) { s with heap:=h'',toks:=s.toks+1 }:=I2.turnedN hf2 fun b o hb q=>(hs'.2 b fun z=>hb (by simp [z])).trans q
  refine⟨.ref s.heap.objs.size,_,I3,rfl,⟨_,x,rfl,hn,rfl,fun ys hy=>by rw[I.list_inj hy hq];exact hx⟩,⟨⟨u,by simpa using he'⟩,hit'.at fun o q=>(hs'.2 it hei.symm).trans q⟩,fun b hb=>(hf2 b hb).1⟩
 done:=by
  intro X hP hw hK hc i pins s σ H E I hf st hg
  subst hP hw hK
  obtain⟨⟨old,he⟩,hit⟩:=st
  obtain⟨xs,hq,hx⟩:=hg
  obtain⟨its,rv,p,hz⟩:=I.list hq
  have hl:=rv.length
  refine wpAny_pyNext_enum_end (I.ok.hd hc) he hit p.isList (by simp;omega) fun h' eb=>⟨rfl,?_⟩
  exact I.turnedN (t':=s.toks) hf fun b o hb q=>eb b o (fun z=>hb (by simp [z])) q
 self:=fun _ _ _ _ _ st h=>by
  obtain⟨⟨old,he⟩,_⟩:=st
  exact wpAny_pyIter_enum he h
section
variable {X:Cx}{elts:List Expr}{kx:Nat}{tp:Pos}
def iEnum(K:Frag)(ta:TA):TI:=fun σ H R=>ta σ H fun vs H1=>∃a,vs=[.ref a]/\(∃xs,SqL K H1 a xs)/\R (Ite K a) H1
theorem pi_enum{a:Expr}{ta:TA}{p pos:Pos}(hg:Gl X "enumerate")(hm:X.mg "enumerate"=none)(ha:PA X [a] ta)(hs:starEach [a] X.env=[(false,eval a X.env)]:=by rfl):PI X (.Tuple elts kx tp) (.Call (.Name "enumerate" p) [a] [] pos) (iEnum X.K ta):=by
 intro pins s σ H R I h
 refine Call_ (zN I hg hm PyProof.Rows.boot_enumerate (PyProof.Rows.callWith_type1 (thn (ha pos pins s σ H _ I h) fun us s1 ⟨vs,H1,I1,r1,q1⟩=>?_) hs rfl))
 obtain⟨l,e,⟨xs,hq⟩,q⟩:=q1
 subst e
 cases r1 with
 |cons r rr=>
  cases rr
  cases r
  obtain⟨its,rv,p,hz⟩:=I1.list hq
  refine call_enumerate_list p.isList fun h' he hit hsz hk=>?_
  refine wpAny_pyIter_enum he ?_
  refine⟨s1.heap.objs.size+1,[s1.heap.objs.size+1,s1.heap.objs.size],_,_,H1,rfl,I1.kept (t':=s1.toks) hk,Yb l _ _ (Nat.ne_of_gt (Nat.lt_succ_self _)),⟨⟨_,he⟩,hit⟩,fun b hb=>?_,q⟩
  rcases List.mem_cons.mp hb with rfl |hb
  ·exact I1.fpOk (Nat.le_succ _) (I1.hok.fresh (Nat.le_succ _))
  ·have e:b=s1.heap.objs.size:=by simpa using hb
   subst e
   exact I1.fpOk (Nat.le_refl _) (I1.hok.fresh (Nat.le_refl _))
end
section
variable {M:Model}{A:Around}{E:Value->Shared->Prop}{s:Shared}
structure Noted(fl:Value)(frs:List Addr)(x:Addr)(ox:Obj)(h h':Heap):Prop where
 ex:∃T oT ts,h.objs.size<=T/\h'.get? x=some (Obj.mapFields (·.setIfInBounds 1 (.ref T)) ox)/\h'.get? T=some oT/\oT.data= .fields ts/\ts[3]?=some fl
 keep:∀b o,b∉frs->b≠x->h.get? b=some o->h'.get? b=some o
 slot:∀b o,b≠x->h.get? b=some o->∃sl,h'.get? b=some { o with slots:=sl }
theorem Kb{base:Heap}{env:Env}{outer:List Env}{L x:Addr}{ox:Obj}{vs:Array Value}{head:Value}{hadNext:Bool}{Q:Unit->Shared->Prop}
  (hfr:A.frames=some (env::outer)) (hl:s.heap.FunFrames base (env::outer)) (hf:env.frame=some L)
  (hx:s.heap.get? x=some ox) (hd:ox.data= .fields vs) (hsz:1 < vs.size)
  (h:∀h',Noted (rawInt L) ((env::outer).filterMap (·.frame)) x ox s.heap h'->Q () { s with heap:=h' }):
  wpAny M A (do let a <- frameOf env;let pl <- entryPlaceOf L hadNext;let b <- EntryCells.newEntry head a .none (rawInt L) .none pl;setField (.ref x) 1 b) Q E s:=by
 have hxn:x∉(env::outer).filterMap (·.frame):=fun hm=>by
  obtain⟨_,o,ho,hnf⟩:=hl.mem hm
  rw[hx]at ho;injection ho with ho;subst ho;exact hnf vs hd
 refine wpAny_bind (wpAny_frameOf_fun hfr hl hf fun h₁ hs₁=>?_)
 refine wpAny_bind (wpAny_entryPlaceOf fun pl hpl=>?_)
 unfold EntryCells.newEntry newFields
 refine wpAny_bind (wpAny_newObj_type ?_ (hpl.sizeOk5 _ _ _ _ _))
 have hx₁:h₁.get? x=some ox:=(hs₁.2.1 x hxn).trans hx
 have hx₂:=Heap.get?_push_of_some (h:=h₁) { cls:=.type "traceback",dict:=none,data:=.fields ([head,.ref L,.none,rawInt L,.none]++(if pl.isEmpty then List.replicate 6 Value.none else pl)).toArray } hx₁
 refine wpAny_setField hx₂ hd hsz (h _ ?_)
 have hTx:h₁.objs.size≠x:=Nat.ne_of_gt (Heap.lt_size hx₁)
 have hd₃:=Obj.data_mapFields hd (·.setIfInBounds 1 (Value.ref h₁.objs.size))
 have hx₃:=Heap.get?_update_self (Obj.mapFields (·.setIfInBounds 1 (Value.ref h₁.objs.size))) hx₂ (Obj.isFreed_of_fields hd₃)
 have keep:∀b o,b≠x->h₁.get? b=some o->((h₁.push { cls:=.type "traceback",dict:=none,data:=.fields ([head,.ref L,.none,rawInt L,.none]++(if pl.isEmpty then List.replicate 6 Value.none else pl)).toArray }).update x (Obj.mapFields (·.setIfInBounds 1 (Value.ref h₁.objs.size)))).get? b=some o:=fun b o hb e=>by
  rw[Heap.get?_update_other _ _ (Ne.symm hb)]
  exact Heap.get?_push_of_some _ e
 have hT₃:=(Heap.get?_update_other (h₁.push { cls:=.type "traceback",dict:=none,data:=.fields ([head,.ref L,.none,rawInt L,.none]++(if pl.isEmpty then List.replicate 6 Value.none else pl)).toArray })
  (Obj.mapFields (·.setIfInBounds 1 (Value.ref h₁.objs.size))) (Ne.symm hTx)).trans (Heap.get?_push_size h₁ rfl)
 refine⟨⟨h₁.objs.size,_,_,Nat.le_of_eq hs₁.1.symm,hx₃,hT₃,rfl,by simp⟩,fun b o hb hbx e=>keep b o hbx ((hs₁.2.1 b hb).trans e),fun b o hbx e=>?_⟩
 obtain⟨sl,e'⟩:=hs₁.2.2 b o e
 exact⟨sl,keep b _ hbx e'⟩
theorem QW{base:Heap}{env:Env}{outer:List Env}{L x:Addr}{ox:Obj}{vs:Array Value}{Q:Unit->Shared->Prop}
  (hfr:A.frames=some (env::outer)) (hl:s.heap.FunFrames base (env::outer)) (hf:env.frame=some L)
  (hx:s.heap.get? x=some ox) (hd:ox.data= .fields vs) (h1:vs[1]?=some .none)
  (h:∀h',Noted (rawInt L) ((env::outer).filterMap (·.frame)) x ox s.heap h'->Q () { s with heap:=h' }):
  wpAny M A (noteFrame (.ref x) env) Q E s:=by
 unfold noteFrame
 simp only[hf]
 refine wpAny_bind (wpAny_field hx hd h1 ?_)
 rw[if_neg (by decide)]
 exact Kb hfr hl hf hx hd (Array.getElem?_eq_some_iff.mp h1).1 h
theorem land{fl:Value}{frs:List Addr}{x:Addr}{ox:Obj}{vs:Array Value}{h₀:Heap}{Q:Unit->Shared->Prop}(N:Noted fl frs x ox h₀ s.heap)(hx0:h₀.get? x=some ox)(hd:ox.data= .fields vs)(hsz:1 < vs.size)
  (h:∀h',Noted .none frs x ox h₀ h'->Q () { s with heap:=h' }):wpAny M A (setFlight (.ref x) none) Q E s:=by
 obtain⟨T,oT,ts,hT0,hx,hT,hdT,h3⟩:=N.ex
 have hd':=Obj.data_mapFields hd (·.setIfInBounds 1 (Value.ref T))
 have hTx:T≠x:=fun z=>absurd (Nat.lt_of_lt_of_le (Heap.lt_size hx0) (by rw[<- z];exact hT0)) (Nat.lt_irrefl _)
 unfold setFlight
 refine wpAny_bind (wpAny_field hx hd' (x:=.ref T) (by simp [hsz]) ?_)
 rw[if_pos (show(Value.ref T != Value.none)=true from by simp)]
 have h3s:=(Array.getElem?_eq_some_iff.mp h3).1
 refine wpAny_setField hT hdT h3s (h _ ?_)
 have hdT':=Obj.data_mapFields hdT (·.setIfInBounds 3 ((none:Option Addr).elim Value.none fun f=>rawInt f))
 have hT':=Heap.get?_update_self (Obj.mapFields (·.setIfInBounds 3 ((none:Option Addr).elim Value.none fun f=>rawInt f))) hT (Obj.isFreed_of_fields hdT')
 have nT:∀b o,h₀.get? b=some o->T≠b:=fun b o e z=>absurd (Nat.lt_of_lt_of_le (Heap.lt_size e) (by rw[<- z];exact hT0)) (Nat.lt_irrefl _)
 refine⟨⟨T,_,_,hT0,by rw[Heap.get?_update_other _ _ hTx];exact hx,hT',hdT',by simp [h3s]⟩,fun b o hb hbx e=>?_,fun b o hbx e=>?_⟩
 ·rw[Heap.get?_update_other _ _ (nT b o e)]
  exact N.keep b o hb hbx e
 ·obtain⟨sl,q⟩:=N.slot b o hbx e
  exact⟨sl,by rw[Heap.get?_update_other _ _ (nT b o e)];exact q⟩
theorem Qs{base:Heap}{env:Env}{outer:List Env}{L x:Addr}{ox:Obj}{vs:Array Value}{Q:Unit->Shared->Prop}
  (hfr:A.frames=some (env::outer)) (hl:s.heap.FunFrames base (env::outer)) (hf:env.frame=some L)
  (hx:s.heap.get? x=some ox) (hd:ox.data= .fields vs) (h1:vs[1]?=some .none)
  (h:∀h',Noted .none ((env::outer).filterMap (·.frame)) x ox s.heap h'->Q () { s with heap:=h' }):
  wpAny M A (leaving env (.ref x)) Q E s:=by
 unfold leaving
 exact wpAny_bind (QW hfr hl hf hx hd h1 fun h' N=>land (s:={ s with heap:=h' }) N hx hd (Array.getElem?_eq_some_iff.mp h1).1 h)
end
section
variable {M:Model}{A:Around}{E:Value->Shared->Prop}{s:Shared}
noncomputable abbrev clearT(T:Addr)(h:Heap):Heap:=h.update T (Obj.mapFields (·.setIfInBounds 3 Value.none))
theorem Yc{base:Heap}{env:Env}{outer:List Env}{L x T:Addr}{ox oT:Obj}{vs ts:Array Value}{Q:Unit->Shared->Prop}
  (hfr:A.frames=some (env::outer)) (hl:s.heap.FunFrames base (env::outer)) (hf:env.frame=some L)
  (hx:s.heap.get? x=some ox) (hd:ox.data= .fields vs) (h1:vs[1]?=some (.ref T)) (hTx:T≠x) (hT:s.heap.get? T=some oT) (hdT:oT.data= .fields ts) (h3:ts[3]?=some .none)
  (h:∀h',Noted (rawInt L) ((env::outer).filterMap (·.frame)) x ox (clearT T s.heap) h'->Q () { s with heap:=h' }):
  wpAny M A (noteFrame (.ref x) env) Q E s:=by
 unfold noteFrame
 simp only[hf]
 refine wpAny_bind (wpAny_field hx hd h1 ?_)
 rw[if_pos (show(Value.ref T != Value.none)=true from by simp)]
 refine wpAny_bind (wpAny_field hT hdT h3 ?_)
 rw[if_neg (show ¬((Value.none==rawInt L)=true) from by simp [rawInt])]
 refine wpAny_bind (wpAny_setField hT hdT (Array.getElem?_eq_some_iff.mp h3).1 ?_)
 have other:∀b,b≠T->(clearT T s.heap).get? b=s.heap.get? b:=fun b hb=>Heap.get?_update_other _ _ (Ne.symm hb)
 have noRecord:∀b o,s.heap.get? b=some o->(∀vs,o.data≠ .fields vs)->b≠T:=fun b o hb hnf q=>by
  rw[q,hT]at hb;injection hb with hb;subst hb;exact hnf ts hdT
 exact Kb (s:={ s with heap:=clearT T s.heap }) hfr (hl.of_keeps fun b o hb hnf=>⟨o,(other b (noRecord b o hb hnf)).trans hb,rfl⟩) hf ((other x (Ne.symm hTx)).trans hx) hd (Array.getElem?_eq_some_iff.mp h1).1 h
end
noncomputable def TxO(C:Addr)(d:Option Addr)(T x:Addr):HO:=.ext fun h=>∃o vs,h.get? x=some o/\o.cls= .ref C/\notCls o=true/\o.dict=d/\o.data= .fields vs/\vs[1]?=some (.ref T)
noncomputable def TbO(T:Addr):HO:=.ext fun h=>∃o ts,h.get? T=some o/\o.data= .fields ts/\ts[3]?=some .none
theorem txO_ok{P:Program}{w:World}{H:Hp}{h:Heap}{C T x:Addr}{d:Option Addr}{o:Obj}{vs:Array Value}(e:h.get? x=some o)(hc:o.cls= .ref C)(hn:notCls o=true)(hd:o.dict=d)(hf:o.data= .fields vs)(h1:vs[1]?=some (.ref T)):ObjOk P w H h x (TxO C d T x):=
 ⟨⟨o,vs,e,hc,hn,hd,hf,h1⟩,⟨o,e⟩,fun h1 h2 ⟨o1,vs1,e1,q⟩ k=>⟨o1,vs1,k o1 e1,q⟩⟩
theorem YX{P:Program}{w:World}{H:Hp}{h:Heap}{T:Addr}{o:Obj}{ts:Array Value}(e:h.get? T=some o)(hf:o.data= .fields ts)(h3:ts[3]?=some .none):ObjOk P w H h T (TbO T):=
 ⟨⟨o,ts,e,hf,h3⟩,⟨o,e⟩,fun h1 h2 ⟨o1,ts1,e1,q⟩ k=>⟨o1,ts1,k o1 e1,q⟩⟩
def CX1(P:Program)(w:World):CXT:=fun outer H s E e s'=>∃x C d T H',e= .ref x/\s'.os=s.os/\AllBare s'.gens/\Un (frs outer) [] H H' s.heap s'.heap/\HOk P w H' s'.heap/\
 H' x=some (TxO C d T x)/\H' T=some (TbO T)/\T≠x/\E (.ref C) d H'
section
variable {X:Cx}{pins:List (Addr×Obj)}{σ:St}{H:Hp}{s:Shared}{x C:Addr}{d:Option Addr}
theorem Noted.hok{fl:Value}{fr:List Addr}{ox:Obj}{vs:Array Value}{h':Heap}{φ:Heap->Prop}(I:Inv X pins σ H s)(hx:H x=some (.ext φ))(ho:s.heap.get? x=some ox)(h2:ox.cls= .ref C)(h4:ox.dict=d)(h5:ox.data= .fields vs)(hsz:1 < vs.size)(hfr:∀b∈fr,H b=none)
  (N:Noted .none fr x ox s.heap h'):∃T,H T=none/\T≠x/\s.heap.objs.size<=T/\HOk X.prog X.w (upd (upd H T (TbO T)) x (TxO C d T x)) h':=by
 obtain⟨T,oT,ts,hT0,hx',hT,hdT,ht3⟩:=N.ex
 have hn:H T=none:=I.hok.fresh hT0
 have hTx:T≠x:=Ne.symm (jj hx hn)
 have hd':=Obj.data_mapFields h5 (·.setIfInBounds 1 (Value.ref T))
 refine⟨T,hn,hTx,hT0,fun b u e=>?_⟩
 by_cases hb:b=x
 ·subst hb
  rw[jb]at e
  cases e
  refine txO_ok hx' ((Obj.cls_mapFields _ _).trans h2) ?_ ?_ hd' (by simp [hsz])
  ·unfold notCls
   rw[hd']
  ·obtain⟨oc,od,oda,osl⟩:=ox
   simp only at h5
   subst h5
   exact h4
 ·rw[jh hb]at e
  by_cases hbT:b=T
  ·subst hbT
   rw[jb]at e
   cases e
   exact YX hT hdT ht3
  ·rw[jh hbT]at e
   refine(I.hok b u e).stay (fun c v hc q=>?_) (fun c q=>?_) fun c xs q=>?_
   ·have hcx:c≠x:=by
     rcases hc with z |z
     ·rw[z];exact hb
     ·exact jU z hx (by intro q;cases q)
    refine N.keep c v (fun hm=>?_) hcx q
    have:=hfr c hm
    rcases hc with z |z
    ·rw[z,e]at this;cases this
    ·rw[z]at this;cases this
   ·rw[jh (jU q hx (by intro z;cases z)),jh (jj q hn)]
    exact q
   ·rw[jh (jU q hx (by intro z;cases z)),jh (jj q hn)]
    exact q
theorem Noted.un{fr:List Addr}{ox:Obj}{h':Heap}{φ:Heap->Prop}{T:Addr}(I:Inv X pins σ H s)(hex:X.ex=[])(hx:H x=some (.ext φ))(hn:H T=none)(hT0:s.heap.objs.size<=T)(hfr:∀b∈fr,b∈X.fs∨X.s₀.heap.objs.size<=b)
  (N:Noted .none fr x ox s.heap h'):Un X.fs [] X.H₀ (upd (upd H T (TbO T)) x (TxO C d T x)) X.s₀.heap h':=by
 have nx:∀b,H b=none->b≠x:=fun b e z=>by rw[z,hx]at e;cases e
 have nT:∀b o,X.s₀.heap.get? b=some o->b≠T:=fun b o e=>Nat.ne_of_lt (Nat.lt_of_lt_of_le (Heap.lt_size e) (Nat.le_trans I.sz hT0))
 have nin:∀b:Addr,b∉X.ex:=fun b z=>by rw[hex]at z;cases z
 have up:∀b,H b=none->b≠T->upd (upd H T (TbO T)) x (TxO C d T x) b=none:=fun b e z=>by rw[jh (nx b e),jh z];exact e
 have upS:∀b u,H b=some u->(∀φ,u≠ .ext φ)->upd (upd H T (TbO T)) x (TxO C d T x) b=some u:=fun b u e z=>by
  rw[jh (fun q=>by rw[q,hx]at e;cases e;exact z _ rfl),jh (jj e hn)]
  exact e
 refine⟨fun b o e n hb _=>?_,fun b o e n hb _=>?_,fun b o e n _=>?_,fun b o e _=>?_,fun b xs e=>upS b _ (I.base.tups b xs e) (by intro _ q;cases q),fun b o u e=>upS b _ (I.base.frzs b o u e) (by intro _ q;cases q),fun b ps e=>?_⟩
 ·refine N.keep b o (fun z=>?_) (nx b (I.base.free b o e n (nin b))) (I.base.keep b o e n hb (nin b))
  rcases hfr b z with q |q
  ·exact hb q
  ·exact absurd (Nat.lt_of_lt_of_le (Heap.lt_size e) q) (Nat.lt_irrefl _)
 ·obtain⟨sl,q⟩:=I.base.slot b o e n hb (nin b)
  obtain⟨sl',q'⟩:=N.slot b _ (nx b (I.base.free b o e n (nin b))) q
  exact⟨sl',q'⟩
 ·exact up b (I.base.free b o e n (nin b)) (nT b o e)
 ·obtain⟨o',q⟩:=I.base.there b o e (nin b)
  by_cases hb:b=x
  ·obtain⟨T',_,_,_,hx',_⟩:=N.ex
   exact⟨_,by rw[hb];exact hx'⟩
  ·obtain⟨sl,q'⟩:=N.slot b o' hb q
   exact⟨_,q'⟩
 ·obtain⟨more,q⟩:=I.base.tbls b ps e
  exact⟨more,upS b _ q (by intro _ q;cases q)⟩
end
section
variable {P:Program}{w:World}{K:Frag}{mg:Str->Option Value}{base:Heap}{N:List Str}{qual:Str}{scope:Scope}{f:Addr}{cd:Value}{A:Around}{outer:List Env}{s₀:Shared}{H₀:Hp}{E:XK}
variable {pins:List (Addr×Obj)}{σ:St}{H:Hp}{s:Shared}{x C:Addr}{d:Option Addr}
theorem Zz(I:Inv (cxOf (CX1 P w) P w K mg base N qual scope f cd A outer s₀ H₀ E) pins σ H s)(hx:H x=some (ExO C d x))
  (h:∀T,H T=none->E (.ref C) d (upd (upd H T (TbO T)) x (TxO C d T x))):(cxOf (CX1 P w) P w K mg base N qual scope f cd A outer s₀ H₀ E).xe (.ref x) s:=by
 obtain⟨⟨ox,h1,h2,h3,h4,vs,h5,h6⟩,_⟩:=I.hok x _ hx
 have hsz:=(Array.getElem?_eq_some_iff.mp h6).1
 refine Qs (base:=base) I.ok.frames I.stack rfl h1 h5 h6 fun h' Nd=>?_
 obtain⟨T,hn,hTx,hT0,hok⟩:=Nd.hok (C:=C) (d:=d) (fl:=.none) I hx h1 h2 h4 h5 hsz fun b hb=>I.stkFree b hb
 have un:=Nd.un (C:=C) (d:=d) I rfl hx hn hT0 fun b hb=>by
  rcases List.mem_cons.mp (I.stkSub b hb) with e |e
  ·exact .inr (by rw[e];exact I.ok.above)
  ·exact .inl e
 exact⟨x,C,d,T,_,rfl,I.os,I.bare,un,hok,jb,by rw[jh hTx,jb],hTx,h T hn⟩
theorem Inv.cleared{X:Cx}{T:Addr}{oT:Obj}{ts:Array Value}(I:Inv X pins σ H s)(hT:H T=some (TbO T))(h1:s.heap.get? T=some oT)(hd:oT.data= .fields ts)(h3:ts[3]?=some .none):Inv X pins σ H { s with heap:=clearT T s.heap }:=by
 have hd':=Obj.data_mapFields hd (·.setIfInBounds 3 Value.none)
 have e':=Heap.get?_update_self (Obj.mapFields (·.setIfInBounds 3 Value.none)) h1 (Obj.isFreed_of_fields hd')
 have:=I.write (x:=T) (e:=T) (o:=TbO T) (h':=clearT T s.heap) (t':=s.toks) (by rw[hT];exact True.intro) (.inl rfl) (fun b u hb q=>(Heap.get?_update_other _ _ (Ne.symm hb)).trans q) ⟨_,e'⟩ (YX e' hd' (by simp [(Array.getElem?_eq_some_iff.mp h3).1]))
 have eH:upd H T (TbO T)=H:=by
  funext b
  by_cases hb:b=T
  ·rw[hb,jb,hT]
  ·rw[jh hb]
 rw[eH]at this
 exact this
end
section
open PySem.W
variable {prog:Program}{w:World}{A:Around}{E:Value->Shared->Prop}{K:Frag}{x C:Addr}{ox:Obj}{vs:Array Value}{env:Env}
theorem QX{s:Shared}{ev:Sem Value}{Q:Flow->Shared->Prop}(hh:A.handled=none)
  (h:wpAny (model prog w) A ev (fun v s₁=>∃x C ox vs,v= .ref x/\K.In s₁.heap/\XCls K C/\typeIn K (.ref C)=some (.type "type")/\s₁.heap.get? x=some ox/\ox.cls= .ref C/\ox.data= .fields vs/\vs[1]?=some .none/\E (.ref x) s₁) E s):
  wpAny (model prog w) A (raiseStmt env (some ev) none) Q E s:=by
 unfold raiseStmt
 refine wpAny_bind (wpAny_mono h (fun v s₁ h₁=>?_) fun _ _ z=>z)
 obtain⟨x,C,ox,vs,rfl,X,xc,ht,hx,hc,hd,h1,hE⟩:=h₁
 obtain⟨hp,g,d,tk,os⟩:=s₁
 have L0:Looks (model prog w) hp (typeOf (.ref x)) (.ref C):=hc▸(Looks.ld hx).andThen .now
 have L1:Looks (model prog w) hp (isType (.ref x)) false:=by
  intro A' Q' E' s' k q
  unfold isType loadHead
  refine wpAny_bind (wpAny_loadPart (k _ _ hx) ?_)
  rw[hd]
  exact wpAny_pure q
 have L2:=looks_mroIn (M:=model prog w) X xc.mb
 have L3:=looks_typeIn (M:=model prog w) X ht
 have L4:Looks (model prog w) hp (isInstance (.ref x) (.type "BaseException")) true:=L0.andThen L2
 have L5:Looks (model prog w) hp (isExcClass (.ref x)) false:=by
  unfold isExcClass
  exact L1.andThen .now
 have L6:Looks (model prog w) hp (raisedInstance (.ref x)) (.ref x):=by
  unfold raisedInstance
  exact L0.andThen (L3.andThen (by rw[if_pos (by decide)];exact .now))
 have L7:Looks (model prog w) hp (excFromValue (.ref x) "exceptions must derive from BaseException") (.ref x):=by
  unfold excFromValue
  exact L5.andThen (by rw[if_neg (by decide)];exact L4.andThen (by rw[if_pos rfl];exact .now))
 refine wpAny_bind (wpAny_pure ?_)
 refine wpAny_bind (wpAny_holding (L7.at ?_))
 dsimp only
 refine wpAny_bind (L1.at ?_)
 rw[if_neg (by decide)]
 refine wpAny_bind (L6.at ?_)
 unfold setFlight
 refine wpAny_bind (wpAny_bind (wpAny_field hx hd h1 ?_))
 rw[if_neg (by decide)]
 exact wpAny_pure (wpAny_raiseNew_none hh hE)
end
def Flies(X:Cx)(Wx:Addr->Addr->Option Addr->Hp->Prop):Prop:=∀(pins:List (Addr×Obj)) (σ:St) (H:Hp) (s:Shared) (x C:Addr) (d:Option Addr),Inv X pins σ H s->H x=some (ExO C d x)->Wx x C d H->X.xe (.ref x) s
theorem Kc{P:Program}{w:World}{K:Frag}{mg:Str->Option Value}{base:Heap}{N:List Str}{qual:Str}{scope:Scope}{f:Addr}{cd:Value}{A:Around}{outer:List Env}{s₀:Shared}{H₀:Hp}{E:XK}:
  Flies (cxOf (CX1 P w) P w K mg base N qual scope f cd A outer s₀ H₀ E) (fun x C d H=>∀T,H T=none->E (.ref C) d (upd (upd H T (TbO T)) x (TxO C d T x))):=
 fun _ _ _ _ _ _ _ I hx h=>Zz I hx h
def sRaise(K:Frag)(te:TE)(Wx:Addr->Addr->Option Addr->Hp->Prop):TS:=fun _ σ H=>te σ H fun v H1=>∃x C d,v= .ref x/\H1 x=some (ExO C d x)/\XCls K C/\typeIn K (.ref C)=some (.type "type")/\Wx x C d H1
theorem K8{X:Cx}{e:Expr}{te:TE}{pos:Pos}{Wx:Addr->Addr->Option Addr->Hp->Prop}(hc:X.calm=true)(fl:Flies X Wx)(he:PE X e te):PS X (.Raise (some e) none pos) (sRaise X.K te Wx):=by
 intro pins s σ H D I h
 rw[arm_exec_Raise]
 refine wpAny_bind (wpAny_standAt ?_)
 refine QX (K:=X.K) (ev:=do let v <- eval e X.env;standAt pos;pure v) (I.ok.hd hc) (wpAny_bind (thn (he pins s σ H _ I h) fun u s1 hq'=>wpAny_bind (wpAny_standAt (wpAny_pure ?_))))
 obtain⟨v,H1,I1,rv,x,C,d,ev,hx,xc,ht,q⟩:=hq'
 subst ev
 obtain rfl:u=Value.ref x:=rv
 obtain⟨⟨ox,h1,h2,h3,h4,vs,h5,h6⟩,_⟩:=I1.hok x _ hx
 exact⟨x,C,ox,vs,rfl,I1.kIn,xc,ht,h1,h2,h5,h6,fl pins σ H1 s1 x C d I1 hx q⟩
section
variable {X:Cx}{pins:List (Addr×Obj)}{σ:St}{H:Hp}{s:Shared}{x C:Addr}{d:Option Addr}
theorem Inv.noted{ox:Obj}{vs:Array Value}{h':Heap}{φ:Heap->Prop}{t':Nat}(I:Inv X pins σ H s)(hx:H x=some (.ext φ))(ho:s.heap.get? x=some ox)(h2:ox.cls= .ref C)(h4:ox.dict=d)(h5:ox.data= .fields vs)(hsz:1 < vs.size)
  (Nd:Noted .none (frs X.stack) x ox s.heap h'):∃T,H T=none/\T≠x/\Inv X pins σ (upd (upd H T (TbO T)) x (TxO C d T x)) { s with heap:=h',toks:=t' }:=by
 obtain⟨T,hn,hTx,hT0,hok⟩:=Noted.hok (C:=C) (d:=d) (fl:=.none) I hx ho h2 h4 h5 hsz (fun b hb=>I.stkFree b hb) Nd
 have nx:∀b,H b=none->b≠x:=fun b e z=>by rw[z,hx]at e;cases e
 have upS:∀b u,H b=some u->(∀φ,u≠ .ext φ)->upd (upd H T (TbO T)) x (TxO C d T x) b=some u:=fun b u e z=>by
  rw[jh (fun q=>by rw[q,hx]at e;cases e;exact z _ rfl),jh (jj e hn)]
  exact e
 refine⟨T,hn,hTx,I.call (g':=s.gens) (d':=s.drawn) (ch:=[]) ?_ hok I.bare (fun b z=>absurd z (by simp))⟩
 refine⟨fun b o e n hb _=>Nd.keep b o hb (nx b n) e,fun b o e n _ _=>Nd.slot b o (nx b n) e,fun b o e n _=>?_,fun b o e _=>?_,fun b xs e=>upS b _ e (by intro _ q;cases q),fun b o u e=>upS b _ e (by intro _ q;cases q),fun b ps e=>⟨#[],by rw[upS b _ e (by intro _ q;cases q)];simp⟩⟩
 ·rw[jh (nx b n),jh (Nat.ne_of_lt (Nat.lt_of_lt_of_le (Heap.lt_size e) hT0))]
  exact n
 ·by_cases hb:b=x
  ·obtain⟨T',_,_,_,hx',_⟩:=Nd.ex
   exact⟨_,by rw[hb];exact hx'⟩
  ·obtain⟨sl,q⟩:=Nd.slot b o hb e
   exact⟨_,q⟩
theorem Yd{M:Model}{A:Around}{E:Value->Shared->Prop}{i:Nat}{n:Str}{v:V}{pos:Pos}{Q:Unit->Shared->Prop}(I:Inv X pins σ H s)(hN:X.N.Nodup)(hi:X.N[i]?=some n)(hk:X.env.scope.names.lookup n=some .local)(hv:σ[i]?=some (some v))
  (h:∀s',Inv X pins (σ.set i none) H s'->Q () s'):wpAny M A (unbindBehindTheSuite X.env n pos) Q E s:=by
 obtain⟨m,hn,hl⟩:=id I.loc
 have hcls:(X.env.scope.kind== .class||(X.env.scope.kind== .module&&X.env.locals != X.env.globals))=false:=by rw[I.ok.kind];rfl
 obtain⟨u,ru,lk⟩:=hl i n v hi hv (.inl hk)
 have hm:m n=some u:=by
  rcases lk with ⟨_,e⟩ | ⟨k,_⟩
  ·exact e
  ·have k':X.env.scope.names.lookup n=some .cell∨X.env.scope.names.lookup n=some .free:=k
   rw[hk]at k'
   rcases k' with z |z<;>cases z
 have cne:=I.cne
 obtain⟨oL,_,_,hoL,_⟩:=id hn
 unfold unbindBehindTheSuite
 refine wpAny_onRaise (wpAny_unbindName_local hk hn hm hcls fun h' w' hn' hs=>h _ ?_)
 refine⟨I.ok,I.os,I.bare,⟨fun b o e n hb hx=>?_,fun b o e n hb hx=>?_,I.base.free,fun b o e hx=>?_,I.base.tups,I.base.frzs,I.base.tbls⟩,⟨_,hn',fun j y v' e1 e2 e3=>?_⟩,fun y c e=>?_,I.free,I.freeC,fun p hp=>?_,fun b ob e=>?_,by simpa using I.len⟩
 ·exact(hs.2 b (Nat.ne_of_lt (Nat.lt_of_lt_of_le (Heap.lt_size e) I.ok.above))).trans (I.base.keep b o e n hb hx)
 ·obtain⟨sl,e1⟩:=I.base.slot b o e n hb hx
  exact⟨sl,(hs.2 b (Nat.ne_of_lt (Nat.lt_of_lt_of_le (Heap.lt_size e) I.ok.above))).trans e1⟩
 ·obtain⟨o',e1⟩:=I.base.there b o e hx
  exact⟨o',(hs.2 b (Nat.ne_of_lt (Nat.lt_of_lt_of_le (Heap.lt_size e) I.ok.above))).trans e1⟩
 ·have hiσ:i < σ.length:=by rw[I.len];exact(List.getElem?_eq_some_iff.mp hi).1
  by_cases hj:j=i
  ·subst hj
   rw[List.getElem?_set_self hiσ]at e2
   cases e2
  ·rw[List.getElem?_set_ne (Ne.symm hj)]at e2
   obtain⟨u',r',q⟩:=hl j y v' e1 e2 e3
   refine⟨u',r',?_⟩
   rcases q with ⟨k,e⟩ | ⟨k,c,e,z⟩
   ·refine .inl ⟨k,?_⟩
    have:y≠n:=fun e=>hj (Jz hN e1 (e▸hi))
    simp [this,e]
   ·exact .inr ⟨k,c,e,z.sameBut hs (cne y c e)⟩
 ·obtain⟨w2,z⟩:=I.cell y c e
  exact⟨w2,z.sameBut hs (cne y c e)⟩
 ·obtain⟨e,n,ne,nf,d⟩:=I.pin p hp
  exact⟨(hs.2 p.1 ne).trans e,n,ne,nf,d⟩
 ·refine(I.hok b ob e).stay (fun c w' hc q=>(hs.2 c ?_).trans q) (fun _ q=>q) fun _ _ q=>q
  rintro rfl
  rcases hc with z |z
  ·rw[<- z,I.free]at e;cases e
  ·rw[I.free]at z;cases z
end
noncomputable abbrev Cx.mark(X:Cx)(e:Value)(xe:Value->Shared->Prop):Cx:={ X with A:=X.A.mark (some e),calm:=false,xe:=xe }
theorem Inv.mark{X:Cx}{pins:List (Addr×Obj)}{σ:St}{H:Hp}{s:Shared}(I:Inv X pins σ H s)(e:Value)(xe:Value->Shared->Prop):Inv (X.mark e xe) pins σ H s:=
 ⟨⟨I.ok.mod,I.ok.kind,I.ok.glob,I.ok.blt,I.ok.above,I.ok.inj,I.ok.has,I.ok.cab,(fun z=>nomatch (show false=true from z)),I.ok.frames,I.ok.stk,I.ok.exf,I.ok.bs,I.ok.bsz,I.ok.noex,I.ok.exfs,I.ok.funs,I.ok.frf⟩,I.os,I.bare,I.base,I.loc,I.cell,I.free,I.freeC,I.pin,I.hok,I.len⟩
theorem Inv.unmark{X:Cx}{pins:List (Addr×Obj)}{σ:St}{H:Hp}{s:Shared}{e:Value}{xe:Value->Shared->Prop}(ok:X.Ok)(I:Inv (X.mark e xe) pins σ H s):Inv X pins σ H s:=
 ⟨ok,I.os,I.bare,I.base,I.loc,I.cell,I.free,I.freeC,I.pin,I.hok,I.len⟩
section
open PySem.W
theorem JT{M:Model}{K:Frag}{h:Heap}{x C B:Addr}{ox:Obj}(X:K.In h)(hx:h.get? x=some ox)(hc:ox.cls= .ref C)(hB:clsIn K B≠none)(tB:typeIn K (.ref B)=some (.type "type"))(mB:mroIn K B (.type "BaseException")=some true)(mC:mroIn K C (.ref B)=some true):
  Looks M h (excMatches (.ref x) (.ref B)) true:=by
 have L0:Looks M h (typeOf (.ref x)) (.ref C):=hc▸(Looks.ld hx).andThen .now
 have L1:=looks_typeIn (M:=M) X tB
 have L2:Looks M h (isInstance (.ref B) (.type "tuple")) false:=L1.andThen (Looks.of_pure tc_notTuple)
 have L3:Looks M h (isType (.ref B)) true:=by
  unfold clsIn at hB
  split at hB
  ·rename_i ho
   intro A' Q' E' s' k q
   unfold isType loadHead
   exact wpAny_bind (wpAny_loadPart (k _ _ (X _ _ ho)) (wpAny_pure q))
  ·exact absurd rfl hB
 have L4:Looks M h (isExcClass (.ref B)) true:=by
  unfold isExcClass
  exact L3.andThen (by rw[if_pos rfl];exact looks_mroIn X mB)
 have L5:=looks_mroIn (M:=M) X mC
 intro A' Q' E' s' k q
 unfold excMatches
 refine wpAny_bind (L2 A' _ E' s' k ?_)
 rw[if_neg (by decide)]
 refine wpAny_bind (wpAny_pure ?_)
 dsimp only
 refine wpAny_bind ?_
 rw[List.forIn_cons]
 refine wpAny_bind (wpAny_bind (L4 A' _ E' s' k ?_))
 simp only[Bool.not_true,Bool.false_eq_true,if_false]
 refine wpAny_pure ?_
 dsimp only
 rw[List.forIn_nil]
 refine wpAny_pure ?_
 refine wpAny_bind (L0 A' _ E' s' k ?_)
 refine wpAny_bind ?_
 rw[List.forIn_cons]
 refine wpAny_bind (wpAny_bind (L5 A' _ E' s' k ?_))
 simp only[if_true]
 refine wpAny_pure (wpAny_pure ?_)
 exact wpAny_pure q
end
abbrev XR:=Addr->Addr->Option Addr->Addr->Hp->Prop
def XW(X:Cx)(pins:List (Addr×Obj))(σ:St)(R:XR)(e:Value)(s':Shared):Prop:=
 ∃x C d T H',e= .ref x/\Inv X pins σ H' s'/\H' x=some (TxO C d T x)/\H' T=some (TbO T)/\T≠x/\R x C d T H'
abbrev TEX:=St->Hp->VK->XR->Prop
abbrev TSX:=Ends->XR->St->Hp->Prop
def PEX(X:Cx)(e:Expr)(t:TEX):Prop:=
 ∀(pins:List (Addr×Obj)) (s:Shared) (σ:St) (H:Hp) (Q:VK) (R:XR),Inv X pins σ H s->t σ H Q R->wpAny (model X.prog X.w) X.A (eval e X.env) (EP X pins σ Q) (XW X pins σ R) s
def PSX(X:Cx)(st:Stmt)(t:TSX):Prop:=
 ∀(pins:List (Addr×Obj)) (s:Shared) (σ:St) (H:Hp) (D:Ends) (R:XR),Inv X pins σ H s->t D R σ H->wpAny (model X.prog X.w) X.A (exec st X.env) (SP X pins D) (XW X pins σ R) s
def xOf(R:XR):XK:=fun Cv d H'=>∀x C T,Cv= .ref C->H' x=some (TxO C d T x)->H' T=some (TbO T)->T≠x->R x C d T H'
def tCallX(sp:Sp)(dvs:List V)(t:TA):TEX:=fun σ H Q R=>t σ H fun vs H1=>sp (vs++dvs) H1 Q (xOf R)
section
variable {X:Cx}{k:Nat}{f:Addr}{fd:FuncData}{ps:List Str}{sp:Sp}{dvs:List V}{ds:List Value}{x:Str}{p pos:Pos}{e:Expr}{es:List Expr}{t:TA}{te:TEX}
theorem ZA(F:FnOk X.prog X.w X.K X.mg X.base (CX1 X.prog X.w) k f fd ps sp)(hr:Room k X.A)(hg:Gl X x)(hm:X.mg x=some (.ref f))(hk:keepIn X.K (.ref f)=true)(hb:Binds X.K fd ps ds)(hd:Vals dvs ds)
  (ha:PA X.nox (e::es) t) (hdb:(x==("__debug__":Str))=false:=by decide) (he:starEach (e::es) X.env=(false,eval e X.env)::starEach es X.env:=by rfl) (hpl:(backTo pos (starEach es X.env)).any (·.1)=false:=by rfl):
  PEX X (.Call (.Name x p) (e::es) [] pos) (tCallX sp dvs t):=by
 intro pins s σ H Q R I h
 refine wpAny_Call_Name_kw (zn I hg hm ?_ hdb)
 refine callWith_K (h₀:=X.base) I.ok.mod.kin hk (wpAny_mono (ha pos pins s σ H _ (I.wish _) h) (fun us s1 ⟨vs,H1,I1,r,q⟩=>⟨I1.kIn,?_⟩) fun _ _ z=>z.elim) he hpl
 have I1:=I1.unwish
 have r2:Vals (vs++dvs) (us++ds):=r.append hd
 have hl:(us++ds).length=ps.length:=by rw[<- r2.length];exact F.len _ _ _ _ q
 refine wpAny_call (codeAny_mono (F.run X.A X.stack s1 H1 ⟨us,[]⟩ (us++ds) (vs++dvs) Q (xOf R) hr I1.env0 (hb s1 us I1.kIn hl) r2 q) fun r s' hq=>?_)
 cases r with
 |error e=>
  obtain⟨x,C,d,T,H',rfl,os,bare,un,hok,hx,hT,hTx,hw⟩:=hq
  exact⟨x,C,d,T,H',rfl,I1.call' os un hok bare (fun b z=>absurd z (by simp)),hx,hT,hTx,hw x C T rfl hx hT hTx⟩
 |ok fl=>
  cases fl with
  |ret u=>exact I1.after hq
  |next=>exact False.elim hq
  |brk=>exact False.elim hq
  |cont=>exact False.elim hq
theorem ZB(he:PEX X e te)(hs:swapsWith e none pos.line X.env=pure false:=by rfl):PSX X (.Expr e pos) (fun D R σ H=>te σ H (fun _ H1=>D.nx σ H1) R):=by
 intro pins s σ H D R I h
 exact wpAny_Expr_any (thn (he pins s σ H _ R I h) fun v s1 ⟨x,H1,I1,r1,q1⟩=>⟨σ,H1,I1,q1⟩) I.quiet hs
end
theorem qj{X:Cx}{pins:List (Addr×Obj)}{σ:St}{H:Hp}{s:Shared}{M:Model}{A:Around}{E:Value->Shared->Prop}{i:Nat}{n:Str}{pos:Pos}{Q:Unit->Shared->Prop}(I:Inv X pins σ H s)(hN:X.N.Nodup)(hi:X.N[i]?=some n)(hk:X.env.scope.names.lookup n=some .local)
  (h:∀s',Inv X pins (σ.set i none) H s'->Q () s'):wpAny M A (do bindName X.env n .none;unbindBehindTheSuite X.env n pos) Q E s:=by
 have hiσ:i < σ.length:=by rw[I.len];exact(List.getElem?_eq_some_iff.mp hi).1
 refine wpAny_bind ?_
 unfold bindName
 refine wpAny_bind (wpAny_holding (wpAny_point (wpAny_bind (zH (v:=.non) I hN hi (.inl hk) rfl (fun s1 I1=>wpAny_point ?_) (.inr hk)))))
 refine Yd I1 hN hi hk (v:=.non) (List.getElem?_set_self hiσ) fun s2 I2=>h s2 ?_
 rw[List.set_set]at I2
 exact I2
noncomputable def behind(i:Nat)(D:Ends):Ends:={ nx:=fun σ H=>D.nx (σ.set i none) H,rt:=D.rt,bk:=fun σ H=>D.bk (σ.set i none) H,ct:=fun σ H=>D.ct (σ.set i none) H }
def tTry(K:Frag)(B:Addr)(i:Nat)(tb:TSX)(ts:TS):TS:=fun D σ H=>tb D (fun x C d _ H'=>mroIn K C (.ref B)=some true/\∀T',H' T'=none->ts (behind i D) (σ.set i (some (.ref x))) (upd (upd H' T' (TbO T')) x (TxO C d T' x))) σ H
section
variable {X:Cx}{st b₀:Stmt}{suite:List Stmt}{tb:TSX}{ts:TS}{cn n:Str}{np hp pos:Pos}{B:Addr}{i:Nat}
theorem ps_try(hst:X.stack=X.env::X.outer)(hfr:X.env.frame=some X.env.locals)(hb:PSX X st tb)(hg:Gl X cn)(hm:X.mg cn=some (.ref B))(hB:clsIn X.K B≠none)(tB:typeIn X.K (.ref B)=some (.type "type"))(mB:mroIn X.K B (.type "BaseException")=some true)
  (hN:X.N.Nodup) (hi:X.N[i]?=some n) (hk:X.env.scope.names.lookup n=some .local) (hs:∀e,PSs (X.mark e fun _ _=>False) (b₀::suite) ts) (hdb:(cn==("__debug__":Str))=false:=by decide):
  PS X (.Try [st] [.ExceptHandler (some (.Name cn np)) (some n) (b₀::suite) hp] [] [] pos) (tTry X.K B i tb ts):=by
 intro pins s σ H D I h
 refine wpAny_Try_except (wpAny_execs_cons (wpAny_mono (hb pins s σ H D _ I h) (fun f s1 q=>?_) fun e s1 q=>?_))
 ·cases f with
  |next=>exact wpAny_execs_nil (wpAny_execs_nil q)
  |ret v=>exact q
  |brk=>exact q
  |cont=>exact q
 obtain⟨x,C,d,T,H',rfl,I1,hx,hT,hTx,mC,q⟩:=q
 obtain⟨⟨ox,vs,h1,h2,h3,h4,h5,h6⟩,_⟩:=I1.hok x _ hx
 obtain⟨⟨oT,tz,t1,t2,t3⟩,_⟩:=I1.hok T _ hT
 have hsz:=(Array.getElem?_eq_some_iff.mp h6).1
 have fr1:X.A.frames=some (X.env::X.outer):=by rw[<- hst];exact I1.ok.frames
 have fl1:s1.heap.FunFrames X.base (X.env::X.outer):=by rw[<- hst];exact I1.stack
 refine Yc (base:=X.base) fr1 fl1 hfr h1 h5 h6 hTx t1 t2 t3 fun g2 Nd=>?_
 have hx1:(clearT T s1.heap).get? x=some ox:=(Heap.get?_update_other _ _ hTx).trans h1
 refine land (s:={ s1 with heap:=g2 }) Nd hx1 h5 hsz fun g3 Nd3=>?_
 obtain⟨T',hn,hT'x,I3⟩:=(I1.cleared hT t1 t2 t3).noted (C:=C) (d:=d) (t':=s1.toks) hx hx1 h2 h4 h5 hsz (by unfold frs;rw[hst];exact Nd3)
 have I3:Inv X pins σ (upd (upd H' T' (TbO T')) x (TxO C d T' x)) { s1 with heap:=g3 }:=I3
 obtain⟨⟨ox3,vs3,k1,k2,k3,k4,k5,k6⟩,_⟩:=I3.hok x _ jb
 have hT3:upd (upd H' T' (TbO T')) x (TxO C d T' x) T'=some (TbO T'):=by rw[jh hT'x,jb]
 obtain⟨⟨oT3,tz3,u1,u2,u3⟩,_⟩:=I3.hok T' _ hT3
 refine wpAny_handleBy_cons (codeAny_handlers_test ?_) (by intro z;cases z)
 refine zn (I3.mark (.ref x) fun _ _=>False) hg hm ?_ hdb
 refine JT I3.kIn k1 k2 hB tB mB mC _ _ _ _ (fun _ _ e=>e) ?_
 refine codeAny_handlers_suite_as ?_
 unfold setFlight
 refine wpAny_bind (wpAny_field k1 k5 k6 ?_)
 rw[if_pos (show(Value.ref T' != Value.none)=true from by simp)]
 refine wpAny_setField u1 u2 (Array.getElem?_eq_some_iff.mp u3).1 ?_
 have I4:=I3.cleared hT3 u1 u2 u3
 refine zH (v:=.ref x) I4 hN hi (.inl hk) rfl (fun s5 I5=>?_) (.inr hk)
 refine wpAny_mono (hs (.ref x) pins s5 _ _ (behind i D) (I5.mark (.ref x) fun _ _=>False) (q T' hn)) (fun f s6 q6=>?_) fun _ _ z=>z.elim
 cases f with
 |next=>obtain⟨σ',H6,I6,nx⟩:=q6;exact qj (I6.unmark I.ok) hN hi hk fun s7 I7=>⟨_,_,I7,nx⟩
 |brk=>obtain⟨σ',H6,I6,nx⟩:=q6;exact qj (I6.unmark I.ok) hN hi hk fun s7 I7=>⟨_,_,I7,nx⟩
 |cont=>obtain⟨σ',H6,I6,nx⟩:=q6;exact qj (I6.unmark I.ok) hN hi hk fun s7 I7=>⟨_,_,I7,nx⟩
 |ret v=>obtain⟨y,σ',H6,I6,rv,nx⟩:=q6;exact qj (I6.unmark I.ok) hN hi hk fun s7 I7=>⟨y,_,_,I7,rv,nx⟩
end
def ExcC(H:Hp)(a C:Addr)(fs:List (Str×V)):Prop:=(fs=[]/\∃T,H a=some (TxO C none T a))∨∃dx T,H a=some (TxO C (some dx) T a)/\H dx=some (.xd fs)
section
variable {X:Cx}{pins:List (Addr×Obj)}{σ:St}{H:Hp}{s:Shared}{a C:Addr}{fs:List (Str×V)}{f:Str}{v:V}{A:Around}{E:Value->Shared->Prop}
theorem Kd(I:Inv X pins σ H s)(e:ExcC H a C fs):∃ox od,PySem.W.InstAt s.heap a ox C od/\∀f v,fs.lookup f=some v->∃o u,od=some o/\RelV v u/\lookIn f o=some (some u):=by
 rcases e with ⟨rfl,T,e⟩ | ⟨dx,T,e,e2⟩
 ·obtain⟨⟨o,vs,h1,h2,h3,h4,_⟩,_⟩:=I.hok a _ e
  exact⟨o,none,⟨h1,h2,h3,by rw[h4];trivial⟩,fun f v q=>nomatch q⟩
 ·obtain⟨⟨o,vs,h1,h2,h3,h4,_⟩,_⟩:=I.hok a _ e
  obtain⟨mA,n,r⟩:=(show ObjOk X.prog X.w H s.heap dx (.xd fs) from I.hok dx _ e2)
  obtain⟨od,ho,hl⟩:=J1 n
  refine⟨o,some od,⟨h1,h2,h3,by rw[h4];exact ho⟩,fun f v q=>?_⟩
  obtain⟨u,hu,ru⟩:=RelO.some_of (v:=v) (o:=mA f) (by rw[<- q];exact r f)
  exact⟨od,u,rfl,ru,by rw[hl,hu]⟩
theorem getC_ok{b:Bool}{Q:Value->Shared->Prop}(I:Inv X pins σ H s)(e:ExcC H a C fs)(c:XCls X.K C)(n:NoAttr X.K C f)(l:fs.lookup f=some v)
  (h:∀u s',Inv X pins σ H s'->RelV v u->Q u s'):wpAny (model X.prog X.w) A (getAttr (.ref a) f b) Q E s:=by
 obtain⟨ox,od,J,hl⟩:=Kd I e
 obtain⟨o,u,rfl,ru,hu⟩:=hl f v l
 exact get_exc I.kIn J c.ga c.gh c.mb (PySem.W.findObj_own c.hd n rfl hu) (J2 ru) (h u _ (I.tok _) ru)
theorem KP:CallR X (.builtin "isinstance") (fun xs H Q=>∃a C fs y c b,xs=[.ref a,y]/\clsV y=some c/\ExcC H a C fs/\XCls X.K C/\kitOne X.K (.ref C) c=some b/\Q (.bl b) H):=by
 intro pins s σ H xs us Q I r h
 obtain⟨a,C,fs,y,c,b,rfl,hc,ex,xc,e,q⟩:=h
 obtain⟨u,w',rfl,rx,ry⟩:=vals2 r
 have ec:w'=c:=by
  cases y with
  |ty n=>exact Eq.trans ry (Option.some.inj hc)
  |ref a=>exact Eq.trans ry (Option.some.inj hc)
  |_=>cases hc
 subst ec
 cases (show u=Value.ref a from rx)
 obtain⟨ox,od,J,_⟩:=Kd I ex
 exact kia_one (Zx xc) I.kIn ⟨ox,od,J⟩ e (fun z=>nomatch z) fun tk=>⟨.bl b,H,I.tok tk,rfl,q⟩
end
def tFldC(K:Frag)(ta:TE)(f:Str):TE:=fun σ H Q=>ta σ H fun x H1=>∃a C fs v,x= .ref a/\ExcC H1 a C fs/\XCls K C/\NoAttr K C f/\fs.lookup f=some v/\Q v H1
theorem pe_fldC{X:Cx}{g:Str}{pos:Pos}{e:Expr}{ta:TE}(he:PE X e ta)(hb:attributeBase e g X.env (eval e X.env)=eval e X.env):PE X (.Attribute e g pos) (tFldC X.K ta g):=by
 intro pins s σ H Q I h
 refine Xj hb (thn (he pins s σ H _ I h) fun u s1 hq'=>?_)
 obtain⟨x,H1,I1,rx,a,C,fs,v,ex,ea,c,n,l,q⟩:=hq'
 subst ex
 obtain rfl:u=Value.ref a:=rx
 exact getC_ok I1 ea c n l fun u' s2 I2 ru=>⟨v,H1,I2,ru,q⟩
theorem Fun.ok1{P:Program}{w:World}{K:Frag}{mg:Str->Option Value}{base:Heap}{x qual:Str}{st:Stmt}{f:Addr}{fd:FuncData}{N ps:List Str}{k:Nat}{sp:Sp}(F:Fun K x qual st f fd)(S:FnScope N ps (defScope st))(len:∀vs H Q E,sp vs H Q E->vs.length=ps.length)
  (hbody:∀(cdv:Value) (A:Around) (outer:List Env) (s:Shared) (H:Hp) (vs:List V) (Q:VK) (E:XK),Room k (A.deeper (envOfC qual (defScope st) s.heap.objs.size f cdv))->sp vs H Q E->
   ∃t,PSs (cxOf (CX1 P w) P w K mg base N qual (defScope st) f cdv A outer s H E) (defBody st) t/\t { nx:=fun _ H'=>Q .non H',rt:=Q } (start N vs) H):FnOk P w K mg base (CX1 P w) (k+1) f fd ps sp:=by
 obtain⟨oc,od,kV,doc,pm,an,cdv,ct,osl,rfl,lk,hcd⟩:=F.ex
 exact fn_of lk hcd S len fun A outer s H vs Q E hr hsp=>hbody cdv A outer s H vs Q E hr hsp
abbrev TJ:=St->Hp->Str->(Str->Hp->Prop)->Prop
def PJ(X:Cx)(es:List Expr)(t:TJ):Prop:=
 ∀(pins:List (Addr×Obj)) (s:Shared) (σ:St) (H:Hp) (acc:Str) (Q:Str->Hp->Prop),Inv X pins σ H s->t σ H acc Q->Joins (model X.prog X.w) X.A X.xe (evalEach es X.env) acc (fun out s1=>∃H1,Inv X pins σ H1 s1/\Q out H1) s
def tJN:TJ:=fun _ H acc Q=>Q acc H
def tJC(te:TE)(t:TJ):TJ:=fun σ H acc Q=>te σ H fun v H1=>∃y,v= .str y/\(acc++y).length<=sizeLine/\t σ H1 (acc++y) Q
def tFstr(t:TJ):TE:=fun σ H Q=>t σ H Str.empty fun out H1=>out.length<=sizeLine/\Q (.str out) H1
def tFmt(te:TE):TE:=fun σ H Q=>te σ H fun v H1=>(∃y,v= .str y/\y.length<=sizeLine/\Q (.str y) H1)∨∃i:Int,v= .int i/\i.natAbs.log2 < 1920/\Q (.str (toString i)) H1
section
variable {X:Cx}{e v₁ v₂:Expr}{es rest:List Expr}{te:TE}{t:TJ}{pos:Pos}
theorem pj_nil:PJ X [] tJN:=fun _ _ _ H _ _ I h=>⟨H,I,h⟩
theorem zT(h1:PE X e te)(h2:PJ X es t)(he:evalEach (e::es) X.env=eval e X.env::evalEach es X.env:=by rfl):PJ X (e::es) (tJC te t):=by
 intro pins s σ H acc Q I h
 rw[he]
 refine thn (h1 pins s σ H _ I h) fun u s1 ⟨v,H1,I1,r,y,ey,hz,q⟩=>?_
 subst ey
 obtain⟨tk,rfl⟩:=(show ∃tk,u=Value.str y tk from r)
 exact⟨y,tk,rfl,hz,h2 pins s1 σ H1 (acc++y) Q I1 q⟩
theorem JN{M:Model}{A:Around}{E:Value->Shared->Prop}{Q Q':Str->Shared->Prop}(hQ:∀out s,Q out s->Q' out s):∀{parts:List (Sem Value)} {acc:Str} {s:Shared},Joins M A E parts acc Q s->Joins M A E parts acc Q' s
 | [],_,_,h=>hQ _ _ h
 |x::rest,_,_,h=>wpAny_mono h (fun _ _ ⟨y,t,e,z,q⟩=>⟨y,t,e,z,JN hQ q⟩) fun _ _ z=>z
theorem pe_fstr(h:PJ X (v₁::v₂::rest) t):PE X (.JoinedStr (v₁::v₂::rest) pos) (tFstr t):=by
 intro pins s σ H Q I hw
 refine wpAny_JoinedStr (JN (fun out s1 ⟨H1,I1,z,q⟩=>⟨z,.str out,H1,I1.tok _,⟨_,rfl⟩,q⟩) (h pins s σ H Str.empty _ I hw))
theorem QA(he:PE X e te):PE X (.FormattedValue e (-1) none pos) (tFmt te):=by
 intro pins s σ H Q I h
 refine wpAny_FormattedValue_plain (thn (he pins s σ H _ I h) fun u s1 ⟨v,H1,I1,r,q⟩=>?_)
 rcases q with ⟨y,ey,hz,q⟩ | ⟨i,ei,hl,q⟩
 ·subst ey
  obtain⟨tk,rfl⟩:=(show ∃tk,u=Value.str y tk from r)
  exact wpAny_formatField_str ⟨.str y,H1,I1,⟨_,rfl⟩,q⟩ ⟨.str y,H1,I1.tok _,⟨_,rfl⟩,q⟩ hz
 ·subst ei
  obtain⟨tk,rfl⟩:=(show ∃tk,u=Value.int i tk from r)
  exact wpAny_formatField_int hl ⟨.str (toString i),H1,I1.tok _,⟨_,rfl⟩,q⟩
end
section
variable {X:Cx}{o lo hi:Expr}{to tl th:TE}{pos p2:Pos}
def gSl(to tl th:TE):TG:=fun v σ H Q=>to σ H fun ov H1=>tl σ H1 fun a H2=>th σ H2 fun c H3=>∃l b xs ys i j,ov= .ref l/\v= .ref b/\a= .int i/\c= .int j/\H3 l=some (.lst xs)/\H3 b=some (.lst ys)/\l≠b/\0<=i/\i<=j/\j<=(xs.length:Int)/\
 xs.length+ys.length<=sizeLine/\Q σ (upd H3 l (.lst (xs.take i.toNat++ys++xs.drop j.toNat)))
theorem ZC(ho:PE X o to)(hl:PE X lo tl)(hh:PE X hi th)
  (ha:∀v,assign (.Subscript o (.Slice (some lo) (some hi) none p2) pos) X.env v=(do
   let ov <- holding [v] (eval o X.env)
   let iv <- holding [v,ov] (eval (.Slice (some lo) (some hi) none p2) X.env)
   standAt pos
   holding [v,ov,iv] (setItem ov iv v)
   release [iv,v,ov] []):=by intro _;rfl):PG X (.Subscript o (.Slice (some lo) (some hi) none p2) pos) (gSl to tl th):=by
 intro pins s σ H v u Q I r h
 rw[ha]
 refine wpAny_bind (wpAny_holding (thn (ho pins s σ H _ I h) fun ov s1 ⟨x,H1,I1,r1,q1⟩=>?_))
 refine wpAny_bind (wpAny_holding ?_)
 refine wpAny_Slice (thn (hl pins s1 σ H1 _ I1 q1) fun vl s2 ⟨y,H2,I2,r2,q2⟩=>thn (hh pins s2 σ H2 _ I2 q2) fun vu s3 hq'=>?_)
 obtain⟨z,H3,I3,r3,l,b,xs,ys,i,j,e1,e2,e3,e4,h1,h2,hne,h0,hij,hj,hz,q⟩:=hq'
 subst e1 e2 e3 e4
 cases (show ov=Value.ref l from r1)
 cases (show u=Value.ref b from r)
 refine wpAny_pure ?_
 have I4:Inv X pins σ H3 { s3 with heap:=s3.heap.push { cls:=.type "slice",data:=.fields #[vl,vu,.none] } }:=I3.kept (t':=s3.toks) fun b o e=>Heap.get?_push_of_some _ e
 refine wpAny_bind (wpAny_standAt (wpAny_bind (wpAny_holding ?_)))
 exact XZ I4 h1 h2 hne (Heap.IsSliceOf.new s3.heap vl vu .none) r2 r3 h0 hij hj hz fun s5 I5=>wpAny_release ⟨σ,_,I5,q⟩
end
end L2
namespace L2
open PySem PySem.Spec PyProof.Rows Builtin Builtin.Str
section
variable {prog:Program}{w:World}{A:Around}{E:Value->Shared->Prop}{s:Shared}
theorem qR{t sl:Addr}{items:Array Value}{vl vu:Value}{lo hi:Option Int}{Q:Value->Shared->Prop}(ht:IsTup s.heap t items)(hs:s.heap.IsSliceOf sl vl vu .none)(pl:IsPart vl lo)(pu:IsPart vu hi)
  (hw:HT.sIx items.size 0 lo=0/\HT.sIx items.size items.size hi=items.size) (h:Q (.ref t) s):wpAny (model prog w) A (getItem (.ref t) (.ref sl)) Q E s:=by
 obtain⟨os,hos,hcs,hds⟩:=id hs
 have hTs:s.TypeIs (.ref sl) "slice":=⟨os,hos,hcs⟩
 unfold getItem
 try with_reducible refine wpAny_holding ?_
 first |refine wpAny_bind (wpAny_pure ?_) |skip
 refine wpAny_bind (wpAny_sequenceKey ht.typeIs (by decide) ?_)
 refine wpAny_bind (wpAny_callSpecial?_slot (name:=Str.ofString "__getitem__") ht.typeIs PyProof.Rows.slot_tuple_getitem
  (wpAny_call_entry PyProof.Rows.slot_tuple_getitem ht.typeIs PyProof.Rows.entry_tuple_getitem ?_ (PyProof.Rows.args_tuple_getitem _ _)))
 show wpAny _ _ (Builtin.Tuple.tupleItemsOf (.ref t) >>= _) _ _ s
 refine wpAny_bind (PyProof.Rows.tupleItemsOf_ ht ?_)
 refine wpAny_bind (wpAny_typeOf hTs ?_)
 rw[if_pos (by decide)]
 refine wpAny_bind (HT.sliceApplied_gen hs pl pu ?_)
 show wpAny _ _ (if (((HT.sIx items.size 0 lo:Nat):Int)==0&&(1:Int)==1&&(HT.sIx items.size items.size hi - HT.sIx items.size 0 lo)==items.size)=true then _ else _) _ _ s
 rw[hw.1,hw.2,if_pos (by simp)]
 unfold Builtin.Tuple.tupleIsExact
 refine wpAny_bind (wpAny_bind (wpAny_typeOf ht.typeIs (wpAny_pure ?_)))
 rw[if_pos (by decide)]
 first
  |exact wpAny_rule (wpAny_pure ⟨_,rfl,wpAny_pure h⟩)
  |exact wpAny_bind (wpAny_rule (wpAny_pure ⟨_,rfl,wpAny_pure h⟩))
  |exact wpAny_bind (wpAny_pure (wpAny_pure ⟨_,rfl,wpAny_pure h⟩))
end
section
variable {X:Cx}
def rCatH:R2:=fun x y H Q=>∃a b xs ys,x= .ref a/\y= .ref b/\H a=some (.tup xs)/\H b=some (.tup ys)/\xs.length+ys.length<=sizeLine/\∀r H',H' r=some (.tup (xs++ys))->Same H H'->Q (.ref r) H'
theorem zf:OpR X (binaryOp .Add) rCatH:=by
 intro pins s σ H x y v u Q I rx ry h
 obtain⟨a,b,xs,ys,rfl,rfl,ha',hb',hz,q⟩:=h
 have ha:=SqT.of (K:=X.K) ha'
 have hb:=SqT.of (K:=X.K) hb'
 by_cases hx:xs=[]
 ·subst hx
  cases rx
  cases ry
  obtain⟨its,r1,p1,_⟩:=I.tuple ha
  obtain⟨its2,r2,p2,_⟩:=I.tuple hb
  have e0:its=[]:=r1.nil_iff.mpr rfl
  subst e0
  obtain⟨⟨cls,dd,data,sl⟩,ho,hc,n,hd⟩:=id p1
  obtain⟨⟨cls2,dd2,data2,sl2⟩,ho2,hc2,n2,hd2⟩:=id p2
  simp only at hc hd hc2 hd2
  subst hc hd hc2 hd2
  exact concat_meets ⟨_,ho,rfl⟩ ⟨_,ho2,rfl⟩ noFill_tuple_add seq_tuple_add PySem.F.slot_tuple_add PySem.F.entry_tuple_add (PySem.F.args_tuple_add_2 _ _)
   (tuple_addW0 a b ([]:List Value).toArray its2.toArray n n2 dd dd2 sl sl2 rfl) ⟨ho,ho2,.ref b,H,I,rfl,q b H hb' (Same.refl H)⟩
 ·refine op_catT pins s σ H _ _ v u Q I rx ry ⟨a,b,xs,ys,rfl,rfl,ha,hb,hx,hz,fun e=>?_,fun _ p np=>?_⟩
  ·subst e
   exact q a H (by rw[List.append_nil];exact ha') (Same.refl H)
  ·exact q p _ jb fun c o e=>by rw[jh (jj e np)];exact e
def rSlA:V->Option Int->Option Int->Hp->VK->Prop:=fun x lo hi H Q=>∃a xs,x= .ref a/\H a=some (.tup xs)/\∀r H',H' r=some (.tup (cutV xs lo hi))->Same H H'->Q (.ref r) H'
theorem sl_tupA:SlR X rSlA:=by
 intro pins s σ H x v vl vu lo hi sl Q I rx hs pl pu h
 obtain⟨a,xs,rfl,hx',q⟩:=h
 have hx:=SqT.of (K:=X.K) hx'
 by_cases hw:HT.sIx xs.length 0 lo=0/\HT.sIx xs.length xs.length hi=xs.length
 ·cases rx
  obtain⟨its,r,ht,hz⟩:=I.tuple hx
  have hlen:its.toArray.size=xs.length:=by rw[List.size_toArray];exact r.length.symm
  refine⟨"tuple",_,PyProof.Rows.slot_tuple_getitem.lookup,ht.typeIs,?_⟩
  refine qR ht hs pl pu (by rw[hlen];exact hw) ⟨.ref a,H,I,rfl,q a H ?_ (Same.refl H)⟩
  rw[hx']
  unfold cutV
  rw[hw.1,hw.2,List.drop_zero,Nat.sub_zero,List.take_length]
 ·exact sl_tup pins s σ H _ v vl vu lo hi sl Q I rx hs pl pu ⟨a,xs,rfl,hx,hw,fun p np=>q p _ jb fun c o e=>by rw[jh (jj e np)];exact e⟩
end
end L2
namespace L2
open PySem PySem.Spec PyProof.Rows
theorem boolC{G:Bool->Hp->Prop}{b:Bool}{H:Hp}(y:G true H)(n:b=false->G b H):G b H:=by
 cases b
 ·exact n rfl
 ·exact y
theorem opq{A:Prop}(h:∀G:Prop,(A->G)->G):A:=h A fun z=>z
section
variable {t u:TS}{D:Ends}{σ:St}{H:Hp}
theorem seqE(h:∀E:Ends,(∀σ' H',u D σ' H'->E.nx σ' H')->t E σ H):tSeq t u D σ H:=h { D with nx:=u D } fun _ _ h=>h
theorem seqF(h:∀F:St->Hp->Prop,(∀σ' H',u D σ' H'->F σ' H')->t { D with nx:=F } σ H):tSeq t u D σ H:=h _ fun _ _ h=>h
theorem ifG{c:TT}(h:∀F:Bool->Hp->Prop,(∀b H',(if b=true then t D σ H' else u D σ H')->F b H')->c σ H F):tIfS c t u D σ H:=h _ fun _ _ x=>x
theorem midE(R:St->Hp->Prop)(h1:∀E:Ends,E.rt=D.rt->(∀σ' H',R σ' H'->E.nx σ' H')->t E σ H)(h2:∀σ' H',R σ' H'->D.nx σ' H'):tMid t D σ H:=⟨R,h1 { D with nx:=R } rfl fun _ _ h=>h,h2⟩
theorem whileE{c:TT}{tb:TS}(W:Nat->St->Hp->Prop)(m0:Nat)(h0:W m0 σ H)
  (hs:∀m σ H,∀E:Ends,E.rt=D.rt->(∀m' σ' H',m' < m->W m' σ' H'->E.nx σ' H')->∀F:Bool->Hp->Prop,(∀H',tb E σ H'->F true H')->(∀H',D.nx σ H'->F false H')->∀G:Prop,(c σ H F->G)->W m σ H->G):tWhile c tb D σ H:=by
 refine⟨W,⟨m0,h0⟩,fun m σ H w=>?_⟩
 refine hs m σ H { D with nx:=fun σ' H'=>∃m',m' < m/\W m' σ' H',ct:=fun σ' H'=>∃m',m' < m/\W m' σ' H',bk:=D.nx } rfl (fun m' σ' H' l w'=>⟨m',l,w'⟩) _ (fun H' x=>?_) (fun H' x=>?_) _ (fun z=>z) w
 ·show if true=true then _ else _
  rw[if_pos rfl]
  exact⟨_,fun _ _ h=>h,x⟩
 ·show if false=true then _ else _
  rw[if_neg (by decide)];exact x
def ForW(J:It)(g:TG)(tb:TS)(D:Ends)(σ:St)(H:Hp):Prop:=∃W:Nat->Nat->St->Hp->Prop,(∃m,W 0 m σ H)/\∀i m σ H,W i m σ H->
 (J.stop i H/\D.nx σ H)∨(J.go i H/\∃N:St->Hp->Prop,(∀σ' H',N σ' H'->∃m',m' < m/\W (i+1) m' σ' H')/\∀x H',J.yld i H x H'->g x σ H' fun σ2 H2=>tb { D with nx:=N,ct:=N,bk:=D.nx } σ2 H2)
theorem forE{wi:TI}{g:TG}{tb:TS}(h:∀F:It->Hp->Prop,(∀J H',ForW J g tb D σ H'->F J H')->wi σ H F):tFor wi g tb D σ H:=h _ fun _ _ z=>z
theorem tgE{g:TG}{x:V}{Q:St->Hp->Prop}(h:∀F:St->Hp->Prop,(∀σ' H',Q σ' H'->F σ' H')->g x σ H F):g x σ H Q:=h _ fun _ _ z=>z
theorem zx{lo:Int}{n:Nat}{g:TG}{tb:TS}{D:Ends}{σ:St}{H:Hp}(Pv:Nat->St->Hp->Prop)(h0:Pv 0 σ H)
  (hs:∀E:Ends,E.rt=D.rt->∀i σ H,i < n->(∀σ' H',Pv (i+1) σ' H'->E.nx σ' H')->∀G:Prop,((g (.int (lo+i)) σ H fun σ2 H2=>tb E σ2 H2)->G)->Pv i σ H->G) (hd:∀σ H,Pv n σ H->D.nx σ H):ForW (Itr lo n) g tb D σ H:=
 JY Pv h0 (fun i σ H hi p=>hs { D with nx:=Pv (i+1),ct:=Pv (i+1),bk:=D.nx } rfl i σ H hi (fun _ _ h=>h) _ (fun z=>z) p) hd
theorem Ke{K:Frag}{a:Addr}{xs:List V}{g:TG}{tb:TS}{D:Ends}{σ:St}{H:Hp}(Pv:Nat->St->Hp->Prop)(h0:Pv 0 σ H)(hl:∀i σ H,i<=xs.length->Pv i σ H->SqL K H a xs)
  (hs:∀E:Ends,E.rt=D.rt->∀i x σ H,xs[i]?=some x->(∀σ' H',Pv (i+1) σ' H'->E.nx σ' H')->∀G:Prop,((g x σ H fun σ2 H2=>tb E σ2 H2)->G)->Pv i σ H->G) (hd:∀σ H,Pv xs.length σ H->D.nx σ H):ForW (Itl K a) g tb D σ H:=
 KY Pv h0 hl (fun i x σ H hi p=>hs { D with nx:=Pv (i+1),ct:=Pv (i+1),bk:=D.nx } rfl i x σ H hi (fun _ _ h=>h) _ (fun z=>z) p) hd
theorem ZD{K:Frag}{a:Addr}{xs:List V}{g:TG}{tb:TS}{D:Ends}{σ:St}{H:Hp}(Pv:Nat->St->Hp->Prop)(h0:Pv 0 σ H)(hl:∀i σ H,i<=xs.length->Pv i σ H->SqT K H a xs)
  (hs:∀E:Ends,E.rt=D.rt->∀i x σ H,xs[i]?=some x->(∀σ' H',Pv (i+1) σ' H'->E.nx σ' H')->∀G:Prop,((g x σ H fun σ2 H2=>tb E σ2 H2)->G)->Pv i σ H->G) (hd:∀σ H,Pv xs.length σ H->D.nx σ H):ForW (Itt K a) g tb D σ H:=
 for_tup Pv h0 hl (fun i x σ H hi p=>hs { D with nx:=Pv (i+1),ct:=Pv (i+1),bk:=D.nx } rfl i x σ H hi (fun _ _ h=>h) _ (fun z=>z) p) hd
end
theorem ZE:Slot "list_reverseiterator" "__length_hint__" "list_reverseiterator.__length_hint__":=by
 refine Slot.of (owner:="list_reverseiterator") (n:="__length_hint__") (by rw[typeLookup_type,builtinLookup_eq_fast];kernel_rfl) (by decide+kernel) (by decide+kernel) (by decide+kernel) ?_ (by rw[isSubtype_type];kernel_rfl)
 first |exact .inl (by decide+kernel) |exact .inr (by decide+kernel)
theorem Ye:typeLookup (.type "list_reverseiterator") "__len__"=pure none:=by rw[typeLookup_type,builtinLookup_eq_fast];kernel_rfl
theorem sub_lr:isSubtype (.type "list_reverseiterator") (.type "list_reverseiterator")=pure true:=by rw[isSubtype_type];kernel_rfl
section
variable {prog:Program}{w:World}{A:Around}{E:Value->Shared->Prop}{s:Shared}
theorem hintLr{I t:Addr}{k:Int}(hit:s.heap.IsRevIter I t k){Q:Bool->Shared->Prop}(h:Q false s):wpAny (model prog w) A (Builtin.List.listLengthHint (.ref I)) Q E s:=by
 unfold Builtin.List.listLengthHint
 refine wpAny_bind (wpAny_specialOf hit.typeIs Ye ?_)
 show wpAny _ A (specialOf (Value.ref I) (Str.ofString "__length_hint__") >>= _) _ _ _
 refine wpAny_bind (wpAny_specialOf hit.typeIs ZE.lookup ?_)
 have esp:splitId "list_reverseiterator.__length_hint__"=some ("list_reverseiterator","__length_hint__"):=by decide+kernel
 dsimp only
 rw[esp]
 dsimp only
 refine wpAny_bind (wpAny_isInstance (b:=true) hit.typeIs sub_lr ?_)
 simp only[Bool.not_true,Bool.false_eq_true,if_false]
 rw[if_pos (by decide+kernel),if_neg (by decide+kernel)]
 exact wpAny_pure h
end
noncomputable abbrev _root_.PySem.Str.l(x:Str):List Nat:=x.cps.toList
theorem zU{x y:Str}(h:x.l=y.l):x=y:=Str.ext' (Array.toList_inj.mp h)
theorem j3(a b:Str):(a++b).l=a.l++b.l:=by
 show(a.cps++b.cps).toList=_
 exact Array.toList_append
theorem zz(x:Str):x.l.length=x.length:=Array.length_toList
noncomputable def jn(z:List Nat):List (List Nat)->List Nat
 | []=>[]
 | [x]=>x
 |x::y::r=>x++z++jn z (y::r)
theorem Xn(z x:List Nat){r:List (List Nat)}(h:r≠[]):jn z (x::r)=x++z++jn z r:=by
 cases r with
 |nil=>exact absurd rfl h
 |cons y r=>rfl
theorem kQ(z:Str):∀ys:List Str,(Txt.join z ys).l=jn z.l (ys.map Str.l)
 | []=>rfl
 | [y]=>by
  show(Builtin.Str.glued z [y]).l=_
  rw[StrLaws.glued_eq_join]
  rfl
 |y::w::r=>by
  have ih:=kQ z (w::r)
  have ih:(Builtin.Str.glued z (w::r)).l=_:=ih
  show(Builtin.Str.glued z (y::w::r)).l=_
  rw[StrLaws.glued_eq_join]at ih ⊢
  show(y++z++Str.join z (w::r)).l=_
  rw[j3,j3,ih]
  rfl
theorem YY(z:List Nat):∀{a b:List (List Nat)},a≠[]->b≠[]->jn z (a++b)=jn z a++z++jn z b
 | [],_,h,_=>absurd rfl h
 | [x],b,_,hb=>Xn z x hb
 |x::y::r,b,_,hb=>by
  show x++z++jn z ((y::r)++b)=_
  rw[YY z (a:=y::r) (by simp) hb]
  show _=x++z++jn z (y::r)++z++jn z b
  simp only[List.append_assoc]
noncomputable def sp(c:Nat):List Nat->List (List Nat)
 | []=>[[]]
 |a::l=>if a=c then []::sp c l else ((a::(sp c l).headD [])::(sp c l).tail)
theorem Xc(c:Nat):∀l,sp c l≠[]
 | []=>by simp [sp]
 |a::l=>by unfold sp;split<;>simp
theorem sp_ht(c:Nat)(l:List Nat):(sp c l).headD []::(sp c l).tail=sp c l:=by
 cases h:sp c l with
 |nil=>exact absurd h (Xc c l)
 |cons x r=>rfl
theorem qT(c:Nat):∀u v,sp c (u++c::v)=sp c u++sp c v
 | [],v=>by simp [sp]
 |a::u,v=>by
  have ih:sp c (u.append (c::v))=sp c u++sp c v:=qT c u v
  show(if a=c then _ else _)=_
  by_cases h:a=c
  ·rw[if_pos h,ih]
   show _=(if a=c then _ else _)++_
   rw[if_pos h]
   rfl
  ·rw[if_neg h,ih]
   show _=(if a=c then _ else _)++_
   rw[if_neg h]
   cases q:sp c u with
   |nil=>exact absurd q (Xc c u)
   |cons x r=>rfl
theorem zV{c:Nat}:∀{w},c∉w->sp c w=[w]
 | [],_=>rfl
 |a::l,h=>by
  have h1:a≠c:=fun e=>h (by rw[e];exact List.mem_cons_self)
  have h2:=zV (c:=c) (w:=l) fun m=>h (List.mem_cons_of_mem _ m)
  show(if a=c then _ else _)=_
  rw[if_neg h1,h2]
  rfl
theorem Xd{c:Nat}:∀{ps:List (List Nat)},ps≠[]->(∀p∈ps,c∉p)->sp c (jn [c] ps)=ps
 | [],h,_=>absurd rfl h
 | [x],_,h=>zV (h x List.mem_cons_self)
 |x::y::r,_,h=>by
  show sp c (x++[c]++jn [c] (y::r))=_
  rw[List.append_assoc]
  show sp c (x++c::jn [c] (y::r))=_
  rw[qT,zV (h x List.mem_cons_self),Xd (ps:=y::r) (by simp) fun p hp=>h p (List.mem_cons_of_mem _ hp)]
  rfl
theorem ZF(x:Str)(c:Nat):(Builtin.Str.partsBetween x (Builtin.Str.occurrences x ⟨#[c]⟩ 0 x.length (x.length+1)) 1).map Str.l=sp c x.l:=by
 obtain⟨f,hG,hn⟩:=StrLaws.occ_tight x ⟨#[c]⟩ (Nat.le_refl 1)
 have g:=StrLaws.glued_between_self x ⟨#[c]⟩ (x.length+1)
 have fr:=StrLaws.parts_free x c _ 0 f hG hn
 rw[<- StrLaws.partsBetween_eq]at fr
 have l1:(⟨#[c]⟩:Str).length=1:=rfl
 rw[l1]at g fr
 have lp:=length_partsBetween x (Builtin.Str.occurrences x ⟨#[c]⟩ 0 x.length (x.length+1)) 1
 generalize Builtin.Str.partsBetween x (Builtin.Str.occurrences x ⟨#[c]⟩ 0 x.length (x.length+1)) 1=ps at g fr lp
 have e:=congrArg Str.l g
 have e:(Txt.join ⟨#[c]⟩ ps).l=x.l:=e
 rw[kQ]at e
 rw[<- e]
 refine(Xd ?_ fun p hp=>?_).symm
 ·intro z
  have:=congrArg List.length z
  rw[List.length_map,lp]at this
  simp at this
 ·obtain⟨q,hq,rfl⟩:=List.mem_map.mp hp
  exact fr q hq
theorem zu(x:Str)(c:Nat):(Txt.split x ⟨#[c]⟩).map Str.l=sp c x.l:=by
 have e:=congrArg Str.l (StrLaws.join_split x ⟨#[c]⟩)
 rw[<- StrLaws.glued_eq_join]at e
 have e:(Txt.join ⟨#[c]⟩ (Txt.split x ⟨#[c]⟩)).l=x.l:=e
 rw[kQ]at e
 rw[<- e]
 refine(Xd ?_ fun p hp=>?_).symm
 ·intro z
  have h:=split_pos x ⟨#[c]⟩
  have:=congrArg List.length z
  rw[List.length_map]at this
  simp at this
  rw[this]at h
  exact absurd h (by decide)
 ·obtain⟨q,hq,rfl⟩:=List.mem_map.mp hp
  exact StrLaws.split_free x c q hq
theorem QY{c:Nat}{ys:List Str}(h0:ys≠[])(h:∀y∈ys,c∉y.l):Txt.split (Txt.join ⟨#[c]⟩ ys) ⟨#[c]⟩=ys:=by
 have e:=zu (Txt.join ⟨#[c]⟩ ys) c
 rw[kQ]at e
 have e2:sp c (jn [c] (ys.map Str.l))=ys.map Str.l:=Xd (by simpa using h0) fun p hp=>by
  obtain⟨q,hq,rfl⟩:=List.mem_map.mp hp
  exact h q hq
 have e:List.map Str.l (Txt.split (Txt.join ⟨#[c]⟩ ys) ⟨#[c]⟩)=sp c (jn [c] (ys.map Str.l)):=e
 rw[e2]at e
 have inj:∀{a b:List Str},a.map Str.l=b.map Str.l->a=b:=fun {a}=>by
  induction a with
  |nil=>intro b e;cases b with
   |nil=>rfl
   |cons y r=>simp at e
  |cons x r ih=>intro b e;cases b with
   |nil=>simp at e
   |cons y t=>
    rw[List.map_cons,List.map_cons]at e
    injection e with e1 e2
    rw[zU e1,ih e2]
 exact inj e
noncomputable def exL(c:Nat)(z l:List Nat):List Nat:=l.flatMap fun a=>if a=c then z else [a]
theorem KT(c:Nat)(z:List Nat):∀l,jn z (sp c l)=exL c z l
 | []=>rfl
 |a::l=>by
  have ih:=KT c z l
  show jn z (if a=c then _ else _)=(if a=c then z else [a])++exL c z l
  rw[<- ih]
  by_cases h:a=c
  ·rw[if_pos h,if_pos h,Xn z [] (Xc c l)]
   rfl
  ·rw[if_neg h,if_neg h]
   cases q:sp c l with
   |nil=>exact absurd q (Xc c l)
   |cons x r=>
    show jn z ((a::x)::r)=a::jn z (x::r)
    cases r with
    |nil=>rfl
    |cons y r=>rfl
theorem qX(x:Str)(c:Nat)(z:Str):(Txt.replace x ⟨#[c]⟩ z).l=exL c z.l x.l:=by
 have e:=ZF x c
 rw[<- KT,<- e,<- kQ]
 unfold Txt.replace
 have l1:(⟨#[c]⟩:Str).length=1:=rfl
 rw[l1]
 cases h:(Builtin.Str.occurrences x ⟨#[c]⟩ 0 x.length (x.length+1)).isEmpty with
 |true=>
  rw[if_pos (by rfl)]
  have e0:=List.isEmpty_iff.mp h
  rw[e0]at e ⊢
  have e1:Builtin.Str.partsBetween x [] 1=[Builtin.Str.strSub x 0 x.length]:=rfl
  rw[e1,kQ]
  show x.l=(Builtin.Str.strSub x 0 x.length).l
  show _=(Builtin.Str.strSub x 0 x.length).cps.toList
  rw[StrLaws.strSub_toList,List.drop_zero,Nat.sub_zero,<- zz,List.take_length]
 |false=>
  rw[if_neg (by show ¬(false||(false&&z.length==0))=true;simp)]
  rfl
noncomputable def wd(l:List Nat):List (List Nat):=(sp 32 (exL 41 [32,41,32] (exL 40 [32,40,32] l))).filter (fun w=>!w.isEmpty)
theorem Jl(c:Nat)(z a b:List Nat):exL c z (a++b)=exL c z a++exL c z b:=List.flatMap_append
theorem z9(a b:List Nat):wd (a++32::b)=wd a++wd b:=by
 unfold wd
 have e1:∀c z l,c≠32->exL c z (32::l)=32::exL c z l:=fun c z l h=>by
  show(if 32=c then z else [32])++exL c z l=_
  rw[if_neg (Ne.symm h)]
  rfl
 rw[Jl,e1 40 _ _ (by decide),Jl,e1 41 _ _ (by decide),qT,List.filter_append]
theorem YZ(c:Nat)(hc:c=40∨c=41)(a b:List Nat):wd (a++c::b)=wd a++[c]::wd b:=by
 unfold wd
 have h:exL 41 [32,41,32] (exL 40 [32,40,32] (c::b))=32::c::32::exL 41 [32,41,32] (exL 40 [32,40,32] b):=by
  rcases hc with rfl |rfl
  ·rfl
  ·rfl
 rw[Jl,Jl,h,qT,List.filter_append]
 refine congrArg _ ?_
 show List.filter _ (sp 32 ([c]++32::_))=_
 rw[qT,List.filter_append]
 rcases hc with rfl |rfl<;>rfl
theorem JA{c:Nat}{z:List Nat}:∀{w:List Nat},c∉w->exL c z w=w
 | [],_=>rfl
 |a::l,h=>by
  show(if a=c then z else [a])++exL c z l=_
  rw[if_neg (fun e=>h (by rw[e];exact List.mem_cons_self)),JA fun m=>h (List.mem_cons_of_mem _ m)]
  rfl
theorem Xo{w:List Nat}(h0:w≠[])(h1:32∉w)(h2:40∉w)(h3:41∉w):wd w=[w]:=by
 unfold wd
 rw[JA h2,JA h3,zV h1]
 cases w with
 |nil=>exact absurd rfl h0
 |cons a r=>rfl
theorem Y0:wd []=[]:=rfl
theorem YK:∀{ws:List (List Nat)},wd (jn [32] ws)=(ws.map wd).flatten
 | []=>rfl
 | [x]=>by simp [jn]
 |x::y::r=>by
  show wd (x++[32]++jn [32] (y::r))=_
  rw[List.append_assoc]
  show wd (x++32::jn [32] (y::r))=_
  rw[z9,YK (ws:=y::r)]
  rfl
theorem Kt(n:Nat)(l:List Nat):wd (List.replicate n 32++l)=wd l:=by
 induction n with
 |zero=>rfl
 |succ n ih=>
  show wd ([]++32::(List.replicate n 32++l))=_
  rw[z9,ih]
  rfl
theorem KB(c:Nat)(z:List Nat)(hz:z.length<=3):∀l:List Nat,(exL c z l).length<=3*l.length
 | []=>Nat.le_refl 0
 |a::l=>by
  have ih:=KB c z hz l
  show((if a=c then z else [a])++exL c z l).length<=3*(l.length+1)
  rw[List.length_append]
  have:(if a=c then z else [a]).length<=3:=by
   split
   ·exact hz
   ·show 1<=3;decide
  omega
theorem Xe(m:Nat):(Str.ofString (toString ((m:Nat):Int))).l=(Nat.toDigits 10 m).map Char.toNat:=PySem.W.KIN.signs_num m
theorem qD{n:Int}(h0:0<=n):∀c∈(Str.ofString (toString n)).l,48<=c/\c<=57:=by
 obtain⟨m,rfl⟩:=Int.eq_ofNat_of_zero_le h0
 intro c hc
 rw[Xe]at hc
 obtain⟨ch,hch,e⟩:=List.mem_map.mp hc
 have r:=digit_range (Nat.isDigit_of_mem_toDigits (by decide) (by decide) hch)
 rw[<- e]
 exact r
theorem Ku{n:Int}(h0:0<=n):(Str.ofString (toString n)).l≠[]:=by
 obtain⟨m,rfl⟩:=Int.eq_ofNat_of_zero_le h0
 rw[Xe]
 intro e
 have h:=toDigits_len_ge 10 m
 rw[List.map_eq_nil_iff.mp e]at h
 exact absurd h (by decide)
theorem qE{n:Int}(h0:0<=n)(h1:n < 1000000000000000000):(Str.ofString (toString n)).length<=18:=PyProof.Rows.toString_length_le h0 (by decide) h1
theorem Yf{n:Int}(h0:0<=n)(h1:n < 1000000000000000000):PySem.intText? (Str.ofString (toString n))=some n:=by
 have e:=intText_digits (qD h0) (Ku h0) (Nat.le_trans (qE h0 h1) (by decide))
 obtain⟨m,rfl⟩:=Int.eq_ofNat_of_zero_le h0
 have e2:(Str.ofString (toString ((m:Nat):Int))).cps.toList=_:=Xe m
 have e1:PySem.intText? (Str.ofString (toString ((m:Nat):Int)))=some ((NumText.digitsVal (Str.ofString (toString ((m:Nat):Int))).cps.toList:Nat):Int):=e
 rw[e2,PySem.W.KIN.val_back]at e1
 exact e1
theorem Yg:∀d:Nat,d < 10->d≠0->(Nat.digitChar d).toNat≠48:=by decide
theorem Qt(m:Nat):0 < m->∃c r,(Nat.toDigits 10 m).map Char.toNat=c::r/\c≠48:=by
 induction m using Nat.strongRecOn with
 |_ m ih=>
  intro h0
  by_cases h:m < 10
  ·rw[Nat.toDigits_of_lt_base h]
   exact⟨_,[],rfl,Yg m h (by omega)⟩
  ·rw[Nat.toDigits_of_base_le (by decide) (by omega)]
   obtain⟨c,r,e,hc⟩:=ih (m / 10) (by omega) (by omega)
   rw[List.map_append,e]
   exact⟨c,_,rfl,hc⟩
theorem thn1{α:Type}{t:Sem α}{Q Q':α->Shared->Prop}{M:Model}{A:Around}{E:Value->Shared->Prop}{s:Shared}(ht:1<=s.toks)(h:wpAny M A t Q E s)(hQ:∀a s',1<=s'.toks->Q a s'->Q' a s'):wpAny M A t Q' E s:=
 wpAny_mono (wpAny_toks_of ht h) (fun a s' x=>hQ a s' x.1 x.2) fun _ _ x=>x.2
def PE1(X:Cx)(e:Expr)(t:TE):Prop:=
 ∀(pins:List (Addr×Obj)) (s:Shared) (σ:St) (H:Hp) (Q:VK),Inv X pins σ H s->1<=s.toks->t σ H Q->wpAny (model X.prog X.w) X.A (eval e X.env) (EP X pins σ Q) X.xe s
def PS1(X:Cx)(st:Stmt)(t:TS):Prop:=
 ∀(pins:List (Addr×Obj)) (s:Shared) (σ:St) (H:Hp) (D:Ends),Inv X pins σ H s->1<=s.toks->t D σ H->wpAny (model X.prog X.w) X.A (exec st X.env) (SP X pins D) X.xe s
def PSs1(X:Cx)(st:List Stmt)(t:TS):Prop:=
 ∀(pins:List (Addr×Obj)) (s:Shared) (σ:St) (H:Hp) (D:Ends),Inv X pins σ H s->1<=s.toks->t D σ H->wpAny (model X.prog X.w) X.A (execs st X.env) (SP X pins D) X.xe s
def PSt(X:Cx)(st:Stmt)(t:TS):Prop:=
 ∀(pins:List (Addr×Obj)) (s:Shared) (σ:St) (H:Hp) (D:Ends),Inv X pins σ H s->t D σ H->wpAny (model X.prog X.w) X.A (exec st X.env) (fun f s'=>1<=s'.toks/\SP X pins D f s') X.xe s
section
variable {X:Cx}{st:Stmt}{rest:List Stmt}{t u:TS}
theorem PSs.one(h:PSs X rest t):PSs1 X rest t:=fun pins s σ H D I _=>h pins s σ H D I
theorem zK(h1:PS1 X st t)(h2:PSs1 X rest u):PSs1 X (st::rest) (tSeq t u):=by
 intro pins s σ H D I ht h
 refine wpAny_execs_cons (thn1 ht (h1 pins s σ H { D with nx:=u D } I ht h) fun f s1 ht1 q=>?_)
 cases f with
 |next=>
  obtain⟨σ',H',I',q⟩:=q
  exact h2 pins s1 σ' H' D I' ht1 q
 |ret v=>exact q
 |brk=>exact q
 |cont=>exact q
theorem Kf(h1:PSt X st t)(h2:PSs1 X rest u):PSs X (st::rest) (tSeq t u):=by
 intro pins s σ H D I h
 refine wpAny_execs_cons (thn (h1 pins s σ H { D with nx:=u D } I h) fun f s1 q=>?_)
 obtain⟨ht1,q⟩:=q
 cases f with
 |next=>
  obtain⟨σ',H',I',q⟩:=q
  exact h2 pins s1 σ' H' D I' ht1 q
 |ret v=>exact q
 |brk=>exact q
 |cont=>exact q
theorem KC{i:Nat}{x:Str}{e:Expr}{te:TE}{pos pos':Pos}(hN:X.N.Nodup)(hi:X.N[i]?=some x)(hx:Loc X.env.scope x)(he:PE1 X e te)(hs:swapsWith e (some (.Name x pos')) pos.line X.env=pure false:=by rfl)(hf:X.fn x=true∨X.env.scope.names.lookup x=some .local:=by first |exact .inl rfl |exact .inr rfl |assumption):
  PS1 X (.Assign [.Name x pos'] e pos) (tAsg te (gName i)):=by
 intro pins s σ H D I ht h
 refine wpAny_Assign_Name (thn (he pins s σ H _ I ht h) fun v s1 ⟨y,H1,I1,r1,q1⟩=>?_) hs
 exact zH I1 hN hi hx r1 (fun s2 I2=>⟨_,H1,I2,q1⟩) hf
theorem Xp{i:Nat}{x:Str}{e:Expr}{te:TE}{pos pos':Pos}(hN:X.N.Nodup)(hi:X.N[i]?=some x)(hx:Loc X.env.scope x)
  (he:∀(pins:List (Addr×Obj)) (s:Shared) (σ:St) (H:Hp) (Q:VK),Inv X pins σ H s->te σ H Q->wpAny (model X.prog X.w) X.A (eval e X.env) (fun v s'=>1<=s'.toks/\EP X pins σ Q v s') X.xe s)
  (hs:swapsWith e (some (.Name x pos')) pos.line X.env=pure false:=by rfl) (hf:X.fn x=true∨X.env.scope.names.lookup x=some .local:=by first |exact .inl rfl |exact .inr rfl |assumption):
  PSt X (.Assign [.Name x pos'] e pos) (tAsg te (gName i)):=by
 intro pins s σ H D I h
 refine wpAny_Assign_Name (thn (he pins s σ H _ I h) fun v s1 ⟨ht,y,H1,I1,r1,q1⟩=>?_) hs
 exact wpAny_with_toks ht (thn (wpAny_mono (zH I1 hN hi hx r1 (fun s2 I2=>(show SP X pins D .next s2 from ⟨_,H1,I2,q1⟩)) hf) (fun _ _ x=>x) fun _ _ x _=>x) fun f s2 q h2=>⟨h2,q⟩)
theorem Xq{tg iter:Expr}{body:List Stmt}{wi:TI}{g:TG}{tb:TS}{pos:Pos}(hp:PassesOwn (model X.prog X.w) X.A X.env X.xe)(hc:X.calm=true)(hi:PI X tg iter wi)(hg:PG X tg g)(hb:PSs1 X body tb)
  (hs:∀x,foldedSetIterable iter X.env x=pure x:=by intro _;rfl):PS1 X (.For tg iter body [] pos) (tFor wi g tb):=by
 intro pins s σ H D I ht h
 refine wpAny_For (thn1 ht (hi pins s σ H _ I h) fun v s1 ht1 h1=>thn1 ht1 h1 fun itv s2 ht2 h2=>?_) hs
 obtain⟨it,fp,tn,J,H2,e,I2,T,st2,f2,W,⟨m0,w0⟩,turn⟩:=h2
 subst e
 have stat:∀{H':Hp},(∀b∈fp,H' b=none)->∀b∈fp,FpOk X pins H' b:=fun hn b hb=>⟨hn b hb,(f2 b hb).2⟩
 refine codeAny_forLoop_any (fun n s'=>1<=s'.toks/\∃i σ' H',Inv X pins σ' H' s'/\tn i s'.heap/\(∀b∈fp,H' b=none)/\W i n σ' H') ?_ m0 ⟨ht2,0,σ,H2,I2,st2,fun b hb=>(f2 b hb).1,w0⟩
 rintro n s3 ⟨ht3,i,σ3,H3,I3,st3,fr3,w3⟩
 rcases turn i n σ3 H3 w3 with ⟨stop,qn⟩ | ⟨go,N,hN,step⟩
 ·refine wpAny_passesOwn hp (thn (T.done X rfl rfl rfl hc i pins s3 σ3 H3 X.xe I3 (stat fr3) st3 stop) fun r s4 ⟨hr,I4⟩=>?_)
  subst hr
  exact wpAny_execs_nil ⟨σ3,H3,I4,qn⟩
 ·refine wpAny_passesOwn hp (thn1 ht3 (T.item X rfl rfl rfl hc i pins s3 σ3 H3 X.xe I3 (stat fr3) st3 go) fun r s4 ht4 ⟨u,hr,h4⟩=>?_)
  subst hr
  refine wpAny_passesOwn hp (thn1 ht4 h4 fun _ s5 ht5 ⟨x,H5,I5,r5,y5,st5,fr5⟩=>?_)
  have I5':=I5.pinned (stat fr5) (T.obj _ _ st5)
  refine wpAny_passesOwn hp (thn1 ht5 (hg _ s5 σ3 H5 x u _ I5' r5 (step x H5 y5)) fun _ s6 ht6 ⟨σ6,H6,I6,q6⟩=>?_)
  refine wpAny_passesOwn hp (thn1 ht6 (hb _ s6 σ6 H6 _ I6 ht6 q6) fun f s7 ht7 q7=>?_)
  have again:∀{σ7:St} {H7:Hp},Inv X (pins++pinsAt fp s5.heap) σ7 H7 s7->N σ7 H7->∃m,m < n/\1<=s7.toks/\∃i σ' H',Inv X pins σ' H' s7/\tn i s7.heap/\(∀b∈fp,H' b=none)/\W i m σ' H':=fun {σ7 H7} I7 n7=>by
   obtain⟨m',hm,w7⟩:=hN σ7 H7 n7
   refine⟨m',hm,ht7,i+1,σ7,H7,I7.unpinned,T.keep _ _ _ st5 fun b hb o e=>(I7.pin (b,o) (List.mem_append_right _ (List.mem_append_right _ (kt hb e)))).1,fun b hb=>?_,w7⟩
   obtain⟨o,e,d⟩:=T.obj _ _ st5 b hb
   exact(I7.pin (b,o) (List.mem_append_right _ (List.mem_append_right _ (kt hb e)))).2.1
  cases f with
  |next=>obtain⟨σ7,H7,I7,n7⟩:=q7;exact again I7 n7
  |cont=>obtain⟨σ7,H7,I7,n7⟩:=q7;exact again I7 n7
  |brk=>obtain⟨σ7,H7,I7,q7⟩:=q7;exact⟨σ7,H7,I7.unpinned,q7⟩
  |ret v=>obtain⟨x7,σ7,H7,I7,r7,q7⟩:=q7;exact⟨x7,σ7,H7,I7.unpinned,r7,q7⟩
end
structure FnOk1(P:Program)(w:World)(K:Frag)(mg:Str->Option Value)(base:Heap)(CX:CXT)(k:Nat)(f:Addr)(fd:FuncData)(ps:List Str)(sp:Sp):Prop where
 len:∀vs H Q E,sp vs H Q E->vs.length=ps.length
 run:∀(A:Around) (outer:List Env) (s:Shared) (H:Hp) (args:Args) (us:List Value) (vs:List V) (Q:VK) (E:XK),1<=s.toks->Room k A->Env0 P w K mg base A outer s H->BindsTo s fd args (ps.zip us)->Vals vs us->sp vs H Q E->
  codeAny (model P w) A (.call (.ref f) args) (CR CX outer P w H s Q E) s
theorem fn_of1{CX:CXT}{P:Program}{w:World}{K:Frag}{mg:Str->Option Value}{base:Heap}{k:Nat}{f:Addr}{name qual:Str}{params:Arguments}{body:List Stmt}{scope:Scope}{dV kV doc pm cdv ct oc:Value}{an od:Option Addr}
  {osl:Array (Option Value)} {N ps:List Str} {sp:Sp} (lk:K.lookup f=some ⟨oc,od,.func (fnOf name qual params body scope dV kV doc pm an cdv ct),osl⟩) (hcd:codeIn K cdv qual=true) (S:FnScope N ps scope)
  (len:∀vs H Q E,sp vs H Q E->vs.length=ps.length)
  (hbody:∀(A:Around) (outer:List Env) (s:Shared) (H:Hp) (vs:List V) (Q:VK) (E:XK),Room k (A.deeper (envOfC qual scope s.heap.objs.size f cdv))->sp vs H Q E->
   ∃t,PSs1 (cxOf CX P w K mg base N qual scope f cdv A outer s H E) body t/\t { nx:=fun _ H'=>Q .non H',rt:=Q } (start N vs) H):
  FnOk1 P w K mg base CX (k+1) f (fnOf name qual params body scope dV kV doc pm an cdv ct) ps sp:=by
 refine⟨len,fun A outer s H args us vs Q E htk hr e0 hb r hsp=>?_⟩
 have hl:=len _ _ _ _ hsp
 have KX:K.In s.heap:=e0.mod.kin.keeps fun b o e=>(e0.bs b o e).1
 have lim:s.heap.NoLimit:=e0.mod.nolimit.keeps fun b o e=>(e0.bs b o e).1
 have hkind:∀y∈ps.zip us,scope.names.lookup y.1=some .local∨(scope.names.lookup y.1=some .cell/\((cellsFrom (s.heap.objs.size+1) scope.names []).lookup y.1).isSome=true):=fun⟨n,v⟩ hy=>by
  rcases S.par n (List.of_mem_zip hy).1 with q |q
  ·exact .inl q
  ·exact .inr ⟨q,PySem.W.cellsFrom_some _ _ _ (.inl q)⟩
 refine codeAny_call_function hr.depth (KX _ _ lk) rfl S.co S.gen rfl (PySem.W.codeRec_of KX hcd) (hb _ _ _ _ ?_)
 refine wpAny_with_toks htk (wpAny_newFunctionEnv_cells S.kind hkind fun env he s1 x ht1=>?_)
 subst he
 refine⟨lim.keeps x.toInCall.keep,codeAny_func ?_⟩
 obtain⟨t,ht,hq⟩:=hbody A outer s H vs Q E (hr.deeper _) hsp
 have I:Inv (cxOf CX P w K mg base N qual scope f cdv A outer s H E) [] (start N vs) H s1:=J7 S hr.hd e0 hl r x
 refine wpAny_mono (ht [] s1 (start N vs) H _ I ht1 hq) (fun fl s' hs=>?_) fun e s' hs=>hs
 have fin:∀{σ':St} {H':Hp} {v:V} {u:Value},Inv (cxOf CX P w K mg base N qual scope f cdv A outer s H E) [] σ' H' s'->RelV v u->Q v H'->CE outer P w H s Q u s':=
  fun {σ' H' v u} J rv q=>⟨v,H',J.os,J.bare,J.base,J.hok,rv,q⟩
 cases fl with
 |ret u=>
  obtain⟨v,σ',H',J,rv,q⟩:=hs
  exact fin J rv q
 |next=>
  obtain⟨σ',H',J,q⟩:=hs
  exact fin (v:=V.non) (u:=Value.none) J rfl q
 |brk=>
  obtain⟨_,_,_,q⟩:=hs
  exact False.elim q
 |cont=>
  obtain⟨_,_,_,q⟩:=hs
  exact False.elim q
theorem PSs1.nox{X:Cx}{st:List Stmt}{t:TS}(h:PSs1 X.nox st t):PSs1 X st t:=fun pins s σ H D I ht hw=>
 wpAny_mono (h pins s σ H D (I.wish _) ht hw) (fun _ _ q=>q.unwish) fun _ _ z=>False.elim z
theorem Fun.ok1T{P:Program}{w:World}{K:Frag}{mg:Str->Option Value}{base:Heap}{x qual:Str}{st:Stmt}{f:Addr}{fd:FuncData}{N ps:List Str}{k:Nat}{sp:Sp}(F:Fun K x qual st f fd)(S:FnScope N ps (defScope st))(len:∀vs H Q E,sp vs H Q E->vs.length=ps.length)
  (hbody:∀(cdv:Value) (A:Around) (outer:List Env) (s:Shared) (H:Hp) (vs:List V) (Q:VK) (E:XK),Room k (A.deeper (envOfC qual (defScope st) s.heap.objs.size f cdv))->sp vs H Q E->
   ∃t,PSs1 (cxOf CX0 P w K mg base N qual (defScope st) f cdv A outer s H E).nox (defBody st) t/\t { nx:=fun _ H'=>Q .non H',rt:=Q } (start N vs) H):FnOk1 P w K mg base CX0 (k+1) f fd ps sp:=by
 obtain⟨oc,od,kV,doc,pm,an,cdv,ct,osl,rfl,lk,hcd⟩:=F.ex
 refine fn_of1 lk hcd S len fun A outer s H vs Q E hr hsp=>?_
 obtain⟨t,h,q⟩:=hbody cdv A outer s H vs Q E hr hsp
 exact⟨t,h.nox,q⟩
section
variable {X:Cx}{CX:CXT}{k:Nat}{f:Addr}{fd:FuncData}{ps:List Str}{sp:Sp}{dvs:List V}{ds:List Value}{E:XK}{x:Str}{p pos:Pos}{e:Expr}{es:List Expr}{t:TA}
theorem K9(F:FnOk1 X.prog X.w X.K X.mg X.base CX k f fd ps sp)(hr:Room k X.A)(hg:Gl X x)(hm:X.mg x=some (.ref f))(hk:keepIn X.K (.ref f)=true)(hb:Binds X.K fd ps ds)(hd:Vals dvs ds)(hx:Passes CX X E)
  (ha:PA X (e::es) t) (hdb:(x==("__debug__":Str))=false:=by decide) (he:starEach (e::es) X.env=(false,eval e X.env)::starEach es X.env:=by rfl) (hpl:(backTo pos (starEach es X.env)).any (·.1)=false:=by rfl):
  PE1 X (.Call (.Name x p) (e::es) [] pos) (tCall sp dvs E t):=by
 intro pins s σ H Q I ht h
 refine wpAny_Call_Name_kw (zn I hg hm ?_ hdb)
 refine callWith_K (h₀:=X.base) I.ok.mod.kin hk (thn1 ht (ha pos pins s σ H _ I h) fun us s1 ht1 ⟨vs,H1,I1,r,q⟩=>⟨I1.kIn,?_⟩) he hpl
 have r2:Vals (vs++dvs) (us++ds):=r.append hd
 have hl:(us++ds).length=ps.length:=by rw[<- r2.length];exact F.len _ _ _ _ q
 refine wpAny_call (codeAny_mono (F.run X.A X.stack s1 H1 ⟨us,[]⟩ (us++ds) (vs++dvs) Q E ht1 hr I1.env0 (hb s1 us I1.kIn hl) r2 q) fun r s' hq=>?_)
 cases r with
 |error e=>exact hx pins σ H1 s1 e s' I1 hq
 |ok fl=>
  cases fl with
  |ret u=>exact I1.after hq
  |next=>exact False.elim hq
  |brk=>exact False.elim hq
  |cont=>exact False.elim hq
end
section
variable {X:Cx}
theorem PE.one{e:Expr}{t:TE}(h:PE X e t):PE1 X e t:=fun pins s σ H Q I _=>h pins s σ H Q I
def tRepl(y z:Str)(to:TE):TE:=fun σ H Q=>to σ H fun x H1=>∃s:Str,x= .str s/\s.length<=1048576/\Q (.str (Txt.replace s y z)) H1
theorem Qa{o:Expr}{to:TE}{y z:Str}{j1 j2:Nat}{p1 p2 apos cpos:Pos}(hyz:(y==z)=false)(hz:z.length<=14)(ho:PE1 X o to)
  (hbase:attributeBase o "replace" X.env (eval o X.env)=eval o X.env:=by rfl)
  (hfew:((backTo cpos (starEach [.Constant (.str y) j1 p1,.Constant (.str z) j2 p2] X.env)).all (fun x=>!x.1)&&(backToKw cpos (keywordEach [] X.env)).all (fun x=>x.1.isSome)
   &&decide (([.Constant (.str y) j1 p1,.Constant (.str z) j2 p2]:List Expr).length+([]:List Keyword).length+(if ([]:List Keyword).isEmpty then 0 else 1) < 30))=true:=by rfl)
  (hline:(apos.endLine==cpos.line)=true:=by rfl):
  PE1 X (.Call (.Attribute o "replace" apos) [.Constant (.str y) j1 p1,.Constant (.str z) j2 p2] [] cpos) (tRepl y z to):=by
 intro pins s σ H Q I ht h
 refine wpAny_Call_method_late hbase hfew hline rfl (thn1 ht (ho pins s σ H _ I ht h) fun v s1 ht1 ⟨x,H1,I1,r1,q1⟩=>?_)
 obtain⟨a,rfl,hl,q⟩:=q1
 obtain⟨h1,h2⟩:=Ks (T:="str") I1 r1 rfl
 refine⟨"str","str.replace",PySem.F.plainAttrs_str,PySem.F.slot_str_replace,PySem.F.type_str_replace,h1,h2,?_⟩
 refine Calls.callWith_builtin (by rfl) (Calls.evalArgs_plain ?_)
 show wpAny _ _ (spliced ((false,eval (.Constant (.str y) j1 p1) X.env)::backTo cpos (starEach [.Constant (.str z) j2 p2] X.env))) _ _ s1
 refine Calls.spliced_cons (wpAny_Constant_str ?_)
 show wpAny _ _ (spliced ((false,eval (.Constant (.str z) j2 p2) X.env)::backTo cpos (starEach [] X.env))) _ _ _
 refine Calls.spliced_cons (wpAny_Constant_str ?_)
 refine Calls.spliced_nil ?_
 obtain⟨tk,rfl⟩:=r1
 refine SC.replaceW (fun e=>?_) (fun e=>?_) (fun e=>?_) hyz hl hz fun t' k=>⟨.str _,H1,?_,⟨t',rfl⟩,q⟩
 ·rw[e]at ht1;exact absurd ht1 (by decide)
 ·have e:s1.toks+1=0:=e
  omega
 ·have e:s1.toks=s1.toks+1:=e
  omega
 ·exact(I1.tok k)
def tSplit(c:Str)(to:TE):TE:=fun σ H Q=>to σ H fun x H1=>∃a:Str,x= .str a/\a.length<=1048576/\∀p,H1 p=none->Q (.ref p) (upd H1 p (.lst ((Txt.split a c).map V.str)))
theorem Qb{pins:List (Addr×Obj)}{s:Shared}{σ:St}{H:Hp}{Q:VK}{a y:Str}{t u:Tok}(I:Inv X pins σ H s)(hy:(y.length==0)=false)(hl:a.length<=1048576)
  (q:∀p,H p=none->Q (.ref p) (upd H p (.lst ((Txt.split a y).map V.str)))):wpAny (model X.prog X.w) X.A (call (.builtin "str.split") [.str a t,.str y u]) (EP X pins σ Q) X.xe s:=by
 have hsl:=split_le a y
 have big:sizeLine=16777216:=by rw[sizeLine_eq]
 have one:Txt.split a y=[a]->∀(m:Meets (Builtin.«str.split» { pos:=[Value.str a t,Value.str y u] }) (listOfItself a t)),wpAny (model X.prog X.w) X.A (call (.builtin "str.split") [.str a t,.str y u]) (EP X pins σ Q) X.xe s:=fun e m=>by
  refine call_meets F.slot_str_split (typeIs_str _ _ _) F.entry_str_split (F.args_str_split_2 _ _) m ?_
  show EP X pins σ Q (.ref s.heap.objs.size) _
  refine⟨.ref s.heap.objs.size,_,I.laid (t':=s.toks) (fun b o e=>Heap.get?_push_of_some _ e) (Nat.le_refl _) (show ObjOk X.prog X.w _ _ _ (.lst [V.str a]) from ⟨sz1,[.str a t],_,.cons ⟨t,rfl⟩ .nil,Heap.get?_push_size _ rfl⟩),rfl,?_⟩
  have z:=q _ (I.hok.fresh (Nat.le_refl _))
  rw[e]at z
  exact z
 cases h1:(decide (a.length < y.length)||decide (Builtin.Str.strKind a < Builtin.Str.strKind y)) with
 |true=>exact one (by unfold Txt.split;rw[if_pos h1]) (meets_str_split_cannot_occur a y t u h1)
 |false=>
  cases h2:(Builtin.Str.occurrences a y 0 a.length (a.length+1)).isEmpty with
  |true=>exact one (by unfold Txt.split;rw[h1,if_neg (by decide),if_pos h2]) (meets_str_split_not_found a y t u h1 hy h2)
  |false=>
   have e:Txt.split a y=Builtin.Str.partsBetween a (Builtin.Str.occurrences a y 0 a.length (a.length+1)) y.length:=by unfold Txt.split;rw[h1,if_neg (by decide),h2,if_neg (by decide)]
   rw[e]at q hsl
   have hz2:(Builtin.Str.partsBetween a (Builtin.Str.occurrences a y 0 a.length (a.length+1)) y.length).length<=sizeLine:=by omega
   refine call_meets F.slot_str_split (typeIs_str _ _ _) F.entry_str_split (F.args_str_split_2 _ _) (meets_str_split_sep a y t u h1 hy h2 (by omega) hz2) ?_
   show EP X pins σ Q (.ref s.heap.objs.size) _
   refine⟨.ref s.heap.objs.size,_,I.laid (fun b o e=>Heap.get?_push_of_some _ e) (Nat.le_refl _) (show ObjOk X.prog X.w _ _ _ (.lst _) from ⟨by rw[List.length_map];exact hz2,strsFrom s.toks _,_,Ka _ _,Heap.get?_push_size _ rfl⟩),rfl,q _ (I.hok.fresh (Nat.le_refl _))⟩
theorem zo:MtR X "str.split" (fun x xs H Q=>∃a y:Str,x= .str a/\xs=[.str y]/\(y.length==0)=false/\a.length<=1048576/\∀p,H p=none->Q (.ref p) (upd H p (.lst ((Txt.split a y).map V.str)))):=by
 intro pins s σ H x xs v us Q I rx rs h
 obtain⟨a,y,rfl,rfl,hy,hl,q⟩:=h
 obtain⟨u,rfl,t',rfl⟩:=vals1 rs
 obtain⟨t,rfl⟩:=rx
 exact Qb I hy hl q
theorem Kg{o:Expr}{to:TE}{y:Str}{j1:Nat}{p1 apos cpos:Pos}(hy:(y.length==0)=false)(ho:PE X o to)
  (hbase:attributeBase o "split" X.env (eval o X.env)=eval o X.env:=by rfl)
  (hfew:((backTo cpos (starEach [.Constant (.str y) j1 p1] X.env)).all (fun x=>!x.1)&&(backToKw cpos (keywordEach [] X.env)).all (fun x=>x.1.isSome)
   &&decide (([.Constant (.str y) j1 p1]:List Expr).length+([]:List Keyword).length+(if ([]:List Keyword).isEmpty then 0 else 1) < 30))=true:=by rfl)
  (hline:(apos.endLine==cpos.line)=true:=by rfl) (pins:List (Addr×Obj)) (s:Shared) (σ:St) (H:Hp) (Q:VK) (I:Inv X pins σ H s) (h:tSplit y to σ H Q):
  wpAny (model X.prog X.w) X.A (eval (.Call (.Attribute o "split" apos) [.Constant (.str y) j1 p1] [] cpos) X.env) (fun v s'=>1<=s'.toks/\EP X pins σ Q v s') X.xe s:=by
 refine wpAny_Call_method_late hbase hfew hline rfl (thn (ho pins s σ H _ I h) fun v s1 ⟨x,H1,I1,r1,q1⟩=>?_)
 obtain⟨a,rfl,hl,q⟩:=q1
 obtain⟨h1,h2⟩:=Ks (T:="str") I1 r1 rfl
 refine⟨"str","str.split",PySem.F.plainAttrs_str,PySem.F.slot_str_split,PySem.F.type_str_split,h1,h2,?_⟩
 refine Calls.callWith_builtin (by rfl) (Calls.evalArgs_plain ?_)
 show wpAny _ _ (spliced ((false,eval (.Constant (.str y) j1 p1) X.env)::backTo cpos (starEach [] X.env))) _ _ s1
 refine Calls.spliced_cons (wpAny_Constant_str ?_)
 refine Calls.spliced_nil ?_
 obtain⟨tk,rfl⟩:=r1
 have I2:Inv X pins σ H1 { s1 with toks:=s1.toks+1 }:=I1.tok _
 have ht2:1<=({ s1 with toks:=s1.toks+1 }:Shared).toks:=by show 1<=s1.toks+1;omega
 exact wpAny_mono (wpAny_toks_of ht2 (Qb I2 hy hl q)) (fun _ _ x=>x) fun _ _ x=>x.2
theorem Kh:CallR X (.type "int") (fun xs H Q=>∃(x:Str) (n:Int),xs=[.str x]/\PySem.intText? x=some n/\x.length<=640/\Q (.int n) H):=by
 intro pins s σ H xs us Q I r h
 obtain⟨x,n,rfl,hn,hl,q⟩:=h
 obtain⟨u,rfl,rx⟩:=vals1 r
 obtain⟨t,rfl⟩:=(show ∃t,u=Value.str x t from rx)
 exact PySem.W.KIN.call_text hn hl ⟨.int n,H,I.tok _,⟨_,rfl⟩,q⟩
end
theorem KQ(a b:Value):checkTypeCall "enumerate" ⟨[a],[("start",b)]⟩=pure ():=by kernel_rfl
theorem Qu(a b:Value):checkBuiltinCall "enumerate.__new__" ⟨[.type "enumerate",a],[("start",b)]⟩=pure ():=by kernel_rfl
theorem ZG(o a b:Value):argsOk "object.__init__" ⟨[o,a],[("start",b)]⟩:=by
 unfold argsOk;rw[signature?_of (id:="object.__init__") (n:=['_','_','t','i','n','i','_','_']) (o:=['t','c','e','j','b','o']) (by kernel_rfl) F.owner_object];kernel_rfl
theorem Qv(self a b:Value):Meets (Builtin.«object.__init__» ⟨[self,a],[("start",b)]⟩) (fun _ R s=>s.TypeIs self "enumerate"/\R (.ok (.ret .none)) s):=by
 refine Meets.of_wp fun prog w A R s hs=>?_
 obtain⟨hT,hq⟩:=hs
 have hl:=F.called_enumerate.init.lookup
 have hm:=F.called_enumerate.made
 have hne:(some "enumerate.__new__" != some "object.__new__")=true:=by decide
 repeat (any_goals (first |assumption |wp_step))
 exact⟨_,rfl,hq⟩
theorem QZ(l:Addr)(items:Array Value)(n:Nat)(t:Tok)(dct:Option Addr)(sl:Array (Option Value)):
  Meets (Builtin.«enumerate.__new__» ⟨[.type "enumerate",.ref l],[("start",.int 1 t)]⟩) (fun _ R s=>s.heap.get? l=some { cls:=.type "list",dict:=dct,data:=.seq items n,slots:=sl }/\
   R (.ok (.ret (.ref (s.heap.push { cls:=.type "list_iterator",data:=.fields #[.ref l,.int 0 0] }).objs.size)))
    { s with heap:=(s.heap.push { cls:=.type "list_iterator",data:=.fields #[.ref l,.int 0 0] }).push { cls:=.type "enumerate",data:=.fields #[.none,.bool false,.ref s.heap.objs.size,rawInt 1,.none,.none] } }):=
 .of_wp fun prog w A R s h=>by
  obtain⟨hp,g,d,tk,os⟩:=s;obtain⟨hl,h⟩:=h
  have hsub:=sub_enumerate
  have hL:Heap.IsList (Shared.heap ⟨hp,g,d,tk,os⟩) l items:=⟨_,hl,rfl,n,rfl⟩
  wp_walk using AutoSeq1.wpAny_loadPart' hl
  refine wpAny_stack_any fun st=>wpAny_pure ?_
  split
  ·rename_i c _ _ _ _ _
   cases (c==Value.type "enumerate")
   ·wp_walk using AutoSeq1.wpAny_loadPart' hl,wpAny_pyIter_list hL
    exact⟨_,rfl,h⟩
   ·wp_walk using AutoSeq1.wpAny_loadPart' hl,wpAny_pyIter_list hL
    exact⟨_,rfl,h⟩
  ·wp_walk using AutoSeq1.wpAny_loadPart' hl,wpAny_pyIter_list hL
   exact⟨_,rfl,h⟩
section
variable {prog:Program}{w:World}{A:Around}{E:Value->Shared->Prop}{s:Shared}
theorem ZH{l:Addr}{items:Array Value}{t:Tok}{Q:Value->Shared->Prop}(hL:s.heap.IsList l items)
  (h:∀h',IsEnum h' (s.heap.objs.size+1) s.heap.objs.size 1 .none->h'.IsListIter s.heap.objs.size l 0->(∀b o,s.heap.get? b=some o->h'.get? b=some o)->Q (.ref (s.heap.objs.size+1)) { s with heap:=h' }):
  wpAny (model prog w) A (call (.type "enumerate") [.ref l] [("start",.int 1 t)]) Q E s:=by
 obtain⟨⟨c,dct,dt,sl⟩,hl,hc,n,hd⟩:=hL
 replace hc:c= .type "list":=hc
 replace hd:dt= .seq items n:=hd
 subst hc hd
 have ft:=F.called_enumerate
 obtain⟨c,tl,hmro⟩:=ft.mro
 have hmade:=ft.made
 have hsub:=ft.sub
 have hct:=KQ (.ref l) (.int 1 t)
 refine wpAny_call (codeAny_of_tree ?_)
 show wpAny _ _ (callAny (.type "enumerate") _) _ _ _
 refine wpAny_pure ⟨Code.quiet_builtin _ (by decide+kernel),codeAny_builtin F.entry_type_call ?_⟩
 rw[Around.under_plain (weight_type_call_type "enumerate" [.ref l] [("start",.int 1 t)]) (units_type_call_type "enumerate" [.ref l] [("start",.int 1 t)])]
 have h1:=ft.notType
 have h2:=ft.canCreate
 repeat (any_goals (first |assumption |wp_step))
 have hz:(s.heap.push { cls:=.type "list_iterator",data:=.fields #[.ref l,.int 0 0] }).objs.size=s.heap.objs.size+1:=Heap.size_push ..
 have he:IsEnum ((s.heap.push { cls:=.type "list_iterator",data:=.fields #[.ref l,.int 0 0] }).push { cls:=.type "enumerate",data:=.fields #[.none,.bool false,.ref s.heap.objs.size,rawInt 1,.none,.none] }) (s.heap.objs.size+1) s.heap.objs.size 1 .none:=by
  have:=Heap.get?_push_size (s.heap.push { cls:=.type "list_iterator",data:=.fields #[.ref l,.int 0 0] }) (o:={ cls:=.type "enumerate",data:=.fields #[.none,.bool false,.ref s.heap.objs.size,rawInt 1,.none,.none] }) rfl
  rw[hz]at this;exact this
 have hq:=h _ he ⟨_,Heap.get?_push_of_some _ (Heap.get?_push_size _ rfl),rfl,rfl⟩ fun b o x=>Heap.get?_push_of_some _ (Heap.get?_push_of_some _ x)
 refine codeAny_mono (R:=fun r s'=>r= .ok (.ret (.ref (s.heap.objs.size+1)))/\IsEnum s'.heap (s.heap.objs.size+1) s.heap.objs.size 1 .none/\Q (.ref (s.heap.objs.size+1)) s') ?_ fun r s₁ hr=>?_
 ·refine codeAny_call_builtin ft.plain F.entry_enumerate_new (wpAny_of_eq (Qu (.ref l) (.int 1 t)) ?_)
  refine QZ l items n t dct sl prog w A.in1 (fun r s'=>r= .ok (.ret (.ref (s.heap.objs.size+1)))/\IsEnum s'.heap (s.heap.objs.size+1) s.heap.objs.size 1 .none/\Q (.ref (s.heap.objs.size+1)) s') s ⟨hl,?_⟩
  rw[hz]
  exact⟨rfl,he,hq⟩
 obtain⟨rfl,he1,q1⟩:=hr
 have hT:s₁.TypeIs (.ref (s.heap.objs.size+1)) "enumerate":=⟨_,he1,rfl⟩
 have hli:=ft.init.lookup
 have hbi:=ft.init.bind (.ref (s.heap.objs.size+1))
 repeat (any_goals (first |assumption |wp_step))
 refine codeAny_mono (R:=fun r s'=>r= .ok (.ret .none)/\Q (.ref (s.heap.objs.size+1)) s') ?_ fun r₂ s₂ hr₂=>?_
 ·refine codeAny_call_builtin ft.init.plain F.entry_object_init (ft.init.check _ _ _ _ _ _ _ _ hT (ZG _ _ _) ?_)
  exact Qv _ _ _ prog w A.in1 (fun r s'=>r= .ok (.ret .none)/\Q (.ref (s.heap.objs.size+1)) s') s₁ ⟨hT,rfl,q1⟩
 obtain⟨rfl,q2⟩:=hr₂
 repeat (any_goals (first |assumption |wp_step))
end
theorem Draws.shift{prog:Program}{w:World}{A:Around}{it:Addr}{fp:List Addr}{n:Nat}{P:Nat->Value->Prop}{S:Nat->Heap->Prop}(D:Draws prog w A it fp n P S):
  Draws prog w A it fp (n+1) (fun i v=>∃j,i=j+1/\P j v) (fun i h=>∃j,i=j+1/\S j h) where
 live:=fun i h st=>let ⟨j,_,sj⟩:=st;D.live j h sj
 frame:=fun i h h' st hk=>let ⟨j,e,sj⟩:=st;⟨j,e,D.frame j h h' sj hk⟩
 item:=fun i s Q E hi st hQ=>by
  obtain⟨j,rfl,sj⟩:=st
  exact D.item j s Q E (by omega) sj fun x h' tk hp hs hk=>hQ x h' tk ⟨j,rfl,hp⟩ ⟨j+1,rfl,hs⟩ hk
 done:=fun s Q E st hE=>by
  obtain⟨j,e,sj⟩:=st
  obtain rfl:n=j:=by omega
  exact D.done s Q E sj hE
theorem Q0{prog:Program}{w:World}{A:Around}(hh:A.handled=none)(it l:Addr)(items:Array Value)(i:Nat)(hi:items[i]?=none):
  Draws prog w A it [it,l] i (fun _ _=>True) (fun j h=>j=i/\h.IsListIter it l i/\h.IsList l items) where
 live:=fun _ _ st=>let ⟨o,ho,_⟩:=st.2.1;⟨o,ho⟩
 frame:=fun _ _ _ st hk=>⟨st.1,st.2.1.at fun o e=>hk it (by simp) o e,let ⟨o,ho,r⟩:=st.2.2;⟨o,hk l (by simp) o ho,r⟩⟩
 item:=fun j s Q E hj st hQ=>absurd st.1 (Nat.ne_of_lt hj)
 done:=fun s Q E st hE=>wpAny_nextOf_list_end hh st.2.1 st.2.2 hi fun h' e k te=>hE h' e k te
noncomputable def Ite1(K:Frag)(a:Addr):It:=
 ⟨fun i H=>∃xs x,SqL K H a xs/\xs[i]?=some x,fun i H x H'=>∃p v,x= .ref p/\H p=none/\H'=upd H p (.tup [.int ((i+1:Nat):Int),v])/\∀xs,SqL K H a xs->xs[i]?=some v,fun i H=>∃xs,SqL K H a xs/\xs.length<=i⟩
theorem ZI{P:Program}{w:World}{K:Frag}{elts:List Expr}{kx:Nat}{tp:Pos}(a e it:Addr)(hei:e≠it):Turn P w K (.Tuple elts kx tp) (Ite1 K a) [e,it] e (fun i h=>(∃old,IsEnum h e it ((i+1:Nat):Int) old)/\h.IsListIter it a i) where
 mem:=by simp
 obj:=fun i h st b hb=>by
  obtain⟨⟨old,he⟩,⟨o,ei,c,d⟩⟩:=st
  rcases List.mem_cons.mp hb with rfl |hb
  ·exact⟨_,he,fun v z=>by cases (show Data.fields _=Data.cell v from z)⟩
  ·have q:b=it:=by simpa using hb
   subst q
   exact⟨o,ei,fun v z=>by rw[d]at z;cases z⟩
 keep:=fun i h h' st k=>⟨let ⟨old,he⟩:=st.1;⟨old,k e (by simp) _ he⟩,st.2.at fun o q=>k it (by simp) o q⟩
 item:=by
  intro X hP hw hK hc i pins s σ H E I hf st hg
  subst hP hw hK
  obtain⟨⟨old,he⟩,hit⟩:=st
  obtain⟨xs,x,hq,hx⟩:=hg
  obtain⟨its,rv,p,hz⟩:=I.list hq
  obtain⟨u,hu,ru⟩:=rv.get hx
  have lte:e < s.heap.objs.size:=Heap.lt_size he
  have lti:it < s.heap.objs.size:=by obtain⟨_,q,_⟩:=hit;exact Heap.lt_size q
  have pl:=p.isList
  have hta:a≠it:=fun z=>by rw[z]at pl;obtain⟨o1,e1,c1,_⟩:=hit;obtain⟨o2,e2,c2,_⟩:=pl;rw[e1]at e2;cases e2;exact absurd (c1.symm.trans c2) (by decide)
  have hea:e∉[it,a]:=fun z=>by
   rcases List.mem_cons.mp z with z |z
   ·exact hei z
   ·rw[List.mem_singleton.mp z]at he;obtain⟨o2,e2,c2,_⟩:=pl;unfold IsEnum at he;rw[he]at e2;cases e2;exact absurd (show Value.type "enumerate"=Value.type "list" from c2) (by decide)
  refine wpAny_pyNext_enum_itemD (i:=i+1) (Draws.shift (Draws.list (by simpa using I.ok.hd hc) it a hta its.toArray)) he ⟨i,rfl,hit,pl⟩ (by have:=rv.length;have:=(List.getElem?_eq_some_iff.mp hx).1;simp;omega) hei hea fun x' h' tk' hx' ho hit'' hT hsz hk=>⟨_,rfl,?_⟩
  obtain⟨j',e1,hx'⟩:=hx'
  obtain rfl:i=j':=by omega
  obtain⟨j2,e2,hit',_⟩:=hit''
  obtain rfl:i+1=j2:=by omega
  have ex:u=x':=by
   have hu':its.toArray[i]?=some u:=by simpa using hu
   rw[hu']at hx'
   exact Option.some.inj hx'
  subst ex
  have hn:H s.heap.objs.size=none:=I.hok.fresh (Nat.le_refl _)
  have I1:Inv X pins σ H { s with heap:=h',toks:=tk'+1 }:=I.turnedN hf fun b o hb q=>hk b o (fun z=>hb (by simp [z])) (fun z=>hb (by simp [z])) q
  have r2:Vals [V.int ((i+1:Nat):Int),x] [Value.int ((i+1:Nat):Int) tk',u]:=.cons ⟨_,rfl⟩ (.cons ru .nil)
  have I2:Inv X pins σ (upd H s.heap.objs.size (.tup [.int ((i+1:Nat):Int),x])) { s with heap:=h',toks:=tk'+1 }:=
   I1.track (I.fpOk (Nat.le_refl _) hn) I.sz ⟨by show 2<=sizeLine;decide,_,r2,_,hT,rfl,_,rfl⟩
  have hf2:∀b∈[e,it],FpOk X pins (upd H s.heap.objs.size (.tup [.int ((i+1:Nat):Int),x])) b:=fun b hb=>by
   obtain⟨f0,f1⟩:=hf b hb
   refine⟨?_,f1⟩
   rw[jh]
   ·exact f0
   ·rcases List.mem_cons.mp hb with rfl |hb
    ·exact Nat.ne_of_lt lte
    ·have q:b=it:=by simpa using hb
     subst q
     exact Nat.ne_of_lt lti
  refine wpAny_letOwnedTupleGo_enum (s:={ s with heap:=h',toks:=tk'+1 }) ho fun h'' he' hs'=>?_
  replace hs':Heap.SameBut e h' h'':=hs'
  have I3:Inv X pins σ (upd H s.heap.objs.size (.tup [.int ((i+1:Nat):Int),x])) { s with heap:=h'',toks:=tk'+1 }:=I2.turnedN hf2 fun b o hb q=>(hs'.2 b fun z=>hb (by simp [z])).trans q
  refine⟨.ref s.heap.objs.size,_,I3,rfl,⟨_,x,rfl,hn,rfl,fun ys hy=>by rw[I.list_inj hy hq];exact hx⟩,⟨⟨u,by simpa using he'⟩,hit'.at fun o q=>(hs'.2 it hei.symm).trans q⟩,fun b hb=>(hf2 b hb).1⟩
 done:=by
  intro X hP hw hK hc i pins s σ H E I hf st hg
  subst hP hw hK
  obtain⟨⟨old,he⟩,hit⟩:=st
  obtain⟨xs,hq,hx⟩:=hg
  obtain⟨its,rv,p,hz⟩:=I.list hq
  have hl:=rv.length
  have pl:=p.isList
  have hta:a≠it:=fun z=>by rw[z]at pl;obtain⟨o1,e1,c1,_⟩:=hit;obtain⟨o2,e2,c2,_⟩:=pl;rw[e1]at e2;cases e2;exact absurd (c1.symm.trans c2) (by decide)
  refine wpAny_pyNext_enum_endD (Q0 (by simpa using I.ok.hd hc) it a its.toArray i (by simp;omega)) he ⟨rfl,hit,pl⟩ fun h' eb=>⟨rfl,?_⟩
  exact I.turnedN (t':=s.toks) hf fun b o hb q=>eb b o (fun z=>hb (by simp [z])) q
 self:=fun _ _ _ _ _ st h=>by
  obtain⟨⟨old,he⟩,_⟩:=st
  exact wpAny_pyIter_enum he h
section
variable {X:Cx}{elts:List Expr}{kx:Nat}{tp:Pos}
def iEnum1(K:Frag)(ta:TA):TI:=fun σ H R=>ta σ H fun vs H1=>∃a,vs=[.ref a]/\(∃xs,SqL K H1 a xs)/\R (Ite1 K a) H1
theorem Qc{a:Expr}{ta:TA}{p pos kp kp2:Pos}{kj:Nat}(hg:Gl X "enumerate")(hm:X.mg "enumerate"=none)(ha:PA X [a] ta)
  (he:starEach [a] X.env=(false,eval a X.env)::starEach [] X.env:=by rfl) (hall:(backToKw pos (keywordEach [⟨some "start",.Constant (.int 1) kj kp2,kp⟩] X.env)).all (·.1.isSome)=true:=by rfl)
  (hpl:((backTo pos (starEach [a] X.env)).any (·.1)||(backToKw pos (keywordEach [⟨some "start",.Constant (.int 1) kj kp2,kp⟩] X.env)).any (·.1.isNone))=false:=by rfl):
  PI X (.Tuple elts kx tp) (.Call (.Name "enumerate" p) [a] [⟨some "start",.Constant (.int 1) kj kp2,kp⟩] pos) (iEnum1 X.K ta):=by
 intro pins s σ H R I h
 refine wpAny_Call_Name_kw (zN I hg hm PyProof.Rows.boot_enumerate ?_)
 refine PySem.W.callWith_of (P:=fun _=>True) hpl (fun h _=>⟨.machine,.inr (.inl rfl),PySem.W.Looks.of_pure rfl⟩) (evalArgs_kw2 hall (thn (ha pos pins s σ H _ I h) fun us s1 ⟨vs,H1,I1,r1,q1⟩=>?_) he)
 show wpAny _ _ (evalAll [(do let v <- eval (.Constant (.int 1) kj kp2) X.env;standAt pos;pure v)]) _ _ s1
 refine wpAny_evalAll_cons (wpAny_bind (wpAny_Constant_int (wpAny_bind (wpAny_standAt (wpAny_pure (wpAny_evalAll_nil ⟨trivial,?_⟩))))))
 obtain⟨l,e,⟨xs,hq⟩,q⟩:=q1
 subst e
 have I2:Inv X pins σ H1 { s1 with toks:=s1.toks+1 }:=I1.tok _
 cases r1 with
 |cons r rr=>
  cases rr
  cases r
  obtain⟨its,rv,p,hz⟩:=I2.list hq
  refine ZH (s:={ s1 with toks:=s1.toks+1 }) p.isList fun h' he hit hk=>?_
  refine wpAny_pyIter_enum he ?_
  refine⟨s1.heap.objs.size+1,[s1.heap.objs.size+1,s1.heap.objs.size],_,_,H1,rfl,I2.kept (t':=s1.toks+1) hk,ZI l _ _ (Nat.ne_of_gt (Nat.lt_succ_self _)),⟨⟨_,he⟩,hit⟩,fun b hb=>?_,q⟩
  rcases List.mem_cons.mp hb with rfl |hb
  ·exact I1.fpOk (Nat.le_succ _) (I1.hok.fresh (Nat.le_succ _))
  ·have e:b=s1.heap.objs.size:=by simpa using hb
   subst e
   exact I1.fpOk (Nat.le_refl _) (I1.hok.fresh (Nat.le_refl _))
end
theorem Ki{K:Frag}{a:Addr}{xs:List V}{g:TG}{tb:TS}{D:Ends}{σ:St}{H:Hp}(Pv:Nat->St->Hp->Prop)(h0:Pv 0 σ H)(hl:∀i σ H,i<=xs.length->Pv i σ H->SqL K H a xs)
  (hs:∀E:Ends,E.rt=D.rt->∀i x p σ H,xs[i]?=some x->H p=none->(∀σ' H',Pv (i+1) σ' H'->E.nx σ' H'/\E.ct σ' H')->∀G:Prop,((g (.ref p) σ (upd H p (.tup [.int ((i+1:Nat):Int),x])) fun σ2 H2=>tb E σ2 H2)->G)->Pv i σ H->G) (hd:∀σ H,Pv xs.length σ H->D.nx σ H):ForW (Ite1 K a) g tb D σ H:=by
 refine⟨fun i m σ H=>m=xs.length - i/\i<=xs.length/\Pv i σ H,⟨xs.length,by simp,Nat.zero_le _,h0⟩,?_⟩
 rintro i m σ H ⟨rfl,hi,p⟩
 have q1:=hl i σ H hi p
 by_cases hlt:i < xs.length
 ·refine .inr ⟨⟨xs,xs[i],q1,List.getElem?_eq_getElem hlt⟩,Pv (i+1),fun σ' H' p'=>⟨xs.length - (i+1),by omega,rfl,hlt,p'⟩,fun x H' y=>?_⟩
  obtain⟨r,v,rfl,hr,rfl,w1⟩:=y
  exact hs { D with nx:=Pv (i+1),ct:=Pv (i+1),bk:=D.nx } rfl i v r σ H (w1 xs q1) hr (fun _ _ h=>⟨h,h⟩) _ (fun z=>z) p
 ·exact .inl ⟨⟨xs,q1,by omega⟩,hd _ _ (by rw[show xs.length=i by omega];exact p)⟩
section
variable {X:Cx}{st:Stmt}{ss:List Stmt}{e:Expr}{es:List Expr}
def sNo:TS:=fun _ _ _=>False
theorem zZ:PSs X ss sNo:=fun _ _ _ _ _ _ h=>False.elim h
end
theorem FnOk.calm{P:Program}{w:World}{K:Frag}{mg:Str->Option Value}{base:Heap}{CX:CXT}{k:Nat}{f:Addr}{fd:FuncData}{ps:List Str}{sp:Sp}(F:FnOk P w K mg base CX0 k f fd ps sp):FnOk P w K mg base CX k f fd ps sp:=
 ⟨F.len,fun A outer s H args us vs Q E hr he hb hv hs=>codeAny_mono (F.run A outer s H args us vs Q E hr he hb hv hs) fun r s' h=>by
  cases r with
  |error e=>exact False.elim h
  |ok fl=>cases fl<;>exact h⟩
def TopD(K:Frag)(P:Params)(a:Addr):Prop:=∃es n,K.lookup a=some ⟨.type "dict",none,.dict es n,#[]⟩/\PySem.W.KeysLit P es.toList/\(a==sysModules)=false
section
variable {X:Cx}{a:Addr}
theorem Jm(hT:TopD X.K X.w.params a):IxR X (fun x y H Q=>∃(k:Str) (z:V) (u:Value),x= .ref a/\y= .str k/\nsIn X.K a k=some (some u)/\RelV z u/\Q z H):=by
 intro value slice pins s σ H x y v u Q I rx ry h hs
 obtain⟨k,z,u',rfl,rfl,e,r,q⟩:=h
 cases rx
 obtain⟨t,rfl⟩:=ry
 obtain⟨es,n,hl,hk,_⟩:=hT
 have hm:=PySem.W.mapOf_K (prog:=X.prog) (w:=X.w) I.kIn hl hk
 exact tail_any hm.typeIs slot_dict_getitem.lookup (wpAny_getItem_of (PySem.strKind_is X.prog X.w k t) hm (PySem.W.find_K hl e) ⟨z,H,I.tok _,r,q⟩) hs
theorem Kj(hT:TopD X.K X.w.params a):OpR X (compareOp .NotIn) (fun x y H Q=>∃(k:Str) (r:Option Value),x= .str k/\y= .ref a/\nsIn X.K a k=some r/\Q (.bl (!r.isSome)) H):=by
 intro pins s σ H x y v u Q I rx ry h
 obtain⟨k,r,rfl,rfl,e,q⟩:=h
 cases ry
 obtain⟨t,rfl⟩:=rx
 obtain⟨es,n,hl,hk,hs⟩:=hT
 refine wpAny_notIn_of (PySem.strKind_is X.prog X.w k t) hs (PySem.W.mapOf_K (prog:=X.prog) I.kIn hl hk) ?_
 rw[PySem.W.find_K hl e]
 exact⟨.bl _,H,I.tok _,rfl,q⟩
end
theorem Kv{g:Nat->Bool}:∀(L:List Nat),L.take (L.takeWhile g).length=L.takeWhile g
 | []=>rfl
 |a::L=>by
  by_cases h:g a=true
  ·rw[List.takeWhile_cons_of_pos h,List.length_cons,List.take_succ_cons,Kv L]
  ·rw[List.takeWhile_cons_of_neg h];rfl
theorem tw_le{g:Nat->Bool}(L:List Nat):(L.takeWhile g).length<=L.length:=by
 have:=congrArg List.length (Kv (g:=g) L)
 rw[List.length_take]at this
 omega
theorem QB{g:Nat->Bool}:∀{L:List Nat},∀c∈L.takeWhile g,g c=true
 | [],c,h=>nomatch h
 |a::L,c,h=>by
  by_cases hg:g a=true
  ·rw[List.takeWhile_cons_of_pos hg]at h
   rcases List.mem_cons.mp h with rfl |h
   ·exact hg
   ·exact QB c h
  ·rw[List.takeWhile_cons_of_neg hg]at h;cases h
theorem bl_of{L:List Nat}(h:∀c∈L,(Str.ofString " ").cps.contains c=true):L=List.replicate L.length 32:=by
 refine List.eq_replicate_of_mem fun c hc=>?_
 have e:(Str.ofString " ").cps=#[32]:=by decide+kernel
 have:=h c hc
 rw[e]at this
 simpa using this
theorem Yh{g:Nat->Bool}{D:List Nat}:D.drop (D.length - (D.reverse.takeWhile g).length)=(D.reverse.takeWhile g).reverse:=by
 have h:=Kv (g:=g) D.reverse
 have l:=tw_le (g:=g) D.reverse
 rw[List.length_reverse]at l
 generalize (D.reverse.takeWhile g).length=t at*
 rw[<- h,List.reverse_take,List.reverse_reverse,List.length_reverse]
theorem ZJ{g:Nat->Bool}(lf:Bool)(x:Str):∃a b:List Nat,(∀c∈a,g c=true)/\(∀c∈b,g c=true)/\(lf=false->a=[])/\x.l=a++(Txt.stripBy g lf true x).l++b:=by
 have hlo:stripLo g lf x<=x.l.length:=by
  unfold stripLo
  cases lf with
  |false=>exact Nat.zero_le _
  |true=>exact tw_le _
 have hl:x.length=x.l.length:=(zz x).symm
 have eL:(Txt.stripBy g lf true x).l=(x.l.drop (stripLo g lf x)).take ((x.l.drop (stripLo g lf x)).length - ((x.l.drop (stripLo g lf x)).reverse.takeWhile g).length):=by
  have hhi:stripHi g true x (stripLo g lf x)=x.l.length - ((x.l.drop (stripLo g lf x)).reverse.takeWhile g).length:=by unfold stripHi;rw[hl];rfl
  unfold Txt.stripBy
  by_cases hs:stripSame g lf true x=true
  ·rw[if_pos hs]
   unfold stripSame at hs
   rw[Bool.and_eq_true,beq_iff_eq,beq_iff_eq,hhi,hl]at hs
   obtain⟨h1,h2⟩:=hs
   rw[h1]at h2 ⊢
   rw[List.drop_zero]at h2 ⊢
   rw[List.take_of_length_le (by omega)]
  ·rw[if_neg hs]
   unfold stripped Builtin.Str.strSub
   show(x.cps.extract _ _).toList=_
   rw[hhi]
   simp only[Array.toList_extract,List.extract_eq_drop_take',List.length_drop]
   rw[List.drop_take]
   congr 1
   show x.l.length - _ - _=x.l.length - _ - _
   omega
 refine⟨x.l.take (stripLo g lf x),((x.l.drop (stripLo g lf x)).reverse.takeWhile g).reverse,?_,?_,?_,?_⟩
 ·intro c hc
  unfold stripLo at hc
  cases lf with
  |false=>simp at hc
  |true=>rw[show(if true=true then (x.cps.toList.takeWhile g).length else 0)=(x.l.takeWhile g).length from rfl,Kv]at hc;exact QB c hc
 ·intro c hc
  exact QB c (List.mem_reverse.mp hc)
 ·intro e
  subst e
  rfl
 ·rw[eL,<- Yh,List.append_assoc,List.take_append_drop,List.take_append_drop]
theorem Jn(x:Str):∃j k,x.l=List.replicate j 32++(Txt.stripChars x " ").l++List.replicate k 32:=by
 obtain⟨a,b,h1,h2,_,e⟩:=ZJ (g:=(Str.ofString " ").cps.contains) true x
 rw[bl_of h1,bl_of h2]at e
 exact⟨_,_,e⟩
section
variable {X:Cx}
theorem JB:MtR X "str.strip" (fun x xs H Q=>∃z y:Str,x= .str z/\xs=[.str y]/\z.length<=sizeLine/\Q (.str (Txt.stripChars z y)) H):=by
 intro pins s σ H x xs v us Q I rx rs h
 obtain⟨z,y,rfl,rfl,hl,q⟩:=h
 obtain⟨u,rfl,t',rfl⟩:=vals1 rs
 obtain⟨t,rfl⟩:=rx
 exact PySem.W.KXw.stripChars rfl hl fun t' k=>⟨.str _,H,I.tok k,⟨t',rfl⟩,q⟩
end
section
variable {prog:Program}{w:World}{A:Around}{E:Value->Shared->Prop}{s:Shared}
theorem Qw{I t:Addr}{items:Array Value}{Q:Value->Shared->Prop}(hh:A.handled=none)(hit:s.heap.IsRevIter I t ((items.size:Int) - 1))(ht:s.heap.IsList t items)(hI:t≠I)(hn:items.size<=sizeLine)
  (hQ:∀s' l c,s.heap.objs.size<=l->(∀b o,b≠I->s.heap.get? b=some o->s'.heap.get? b=some o)->s'.gens=s.gens->s'.os=s.os->s'.heap.get? l=some { cls:=.type "list",data:=.seq items.toList.reverse.toArray c }->Q (.ref l) s'):
  wpAny (model prog w) A (call (.type "list") [.ref I]) Q E s:=by
 have hIs:I < s.heap.objs.size:=by obtain⟨o,ho,_⟩:=hit;exact Heap.lt_size ho
 have hts:t < s.heap.objs.size:=by obtain⟨o,ho,_⟩:=ht;exact Heap.lt_size ho
 refine callType_codes (Q₁:=fun obj s₁=>obj= .ref s.heap.objs.size/\s₁={ s with heap:=s.heap.push { cls:=.type "list",data:=.seq #[] } }) PySem.F.called_list (PySem.F.typeCall_list_1 _) PySem.F.entry_list_init
  (code_list_new _ ⟨rfl,rfl⟩) fun obj s₁ h₁=>?_
 obtain⟨rfl,rfl⟩:=h₁
 generalize hH:s.heap.push { cls:=.type "list",data:=.seq #[] }=H
 have gl:H.get? s.heap.objs.size=some { cls:=.type "list",data:=.seq #[] }:=by rw[<- hH];exact Heap.get?_push_size _ rfl
 have gk:∀b o,s.heap.get? b=some o->H.get? b=some o:=fun b o e=>by rw[<- hH];exact Heap.get?_push_of_some _ e
 refine⟨⟨_,gl,rfl⟩,PySem.F.args_list_init_2 _ _,?_⟩
 show wpAny _ _ (do let old <- Builtin.List.listItems (.ref s.heap.objs.size);Builtin.List.listUpdate (.ref s.heap.objs.size) (fun _=>#[]);letGo old.toList.reverse;Builtin.List.listExtendWith (.ref s.heap.objs.size) (.ref I) .none) _ _ _
 refine wpAny_bind ?_
 unfold Builtin.List.listItems
 refine wpAny_bind (wpAny_seqItems gl rfl (wpAny_pure ?_))
 show wpAny _ _ (updateSeq s.heap.objs.size (fun _=>#[]) >>= fun _=>letGo (#[]:Array Value).toList.reverse >>= fun _=>Builtin.List.listExtendWith (.ref s.heap.objs.size) (.ref I) .none) _ _ _
 refine wpAny_bind (wpAny_updateSeq gl rfl (wpAny_bind (wpAny_letGo ?_)))
 have g2:=Heap.get?_update_self (Obj.mapSeq (fun _=>(#[]:Array Value))) gl rfl
 have gk2:∀b o,b≠s.heap.objs.size->s.heap.get? b=some o->(H.update s.heap.objs.size (Obj.mapSeq (fun _=>(#[]:Array Value)))).get? b=some o:=fun b o hb e=>(Heap.get?_update_other _ _ (Ne.symm hb)).trans (gk b o e)
 generalize hH2:H.update s.heap.objs.size (Obj.mapSeq (fun _=>(#[]:Array Value)))=H2 at g2 gk2 ⊢
 have nI:I≠s.heap.objs.size:=Nat.ne_of_lt hIs
 have nt:t≠s.heap.objs.size:=Nat.ne_of_lt hts
 have hit2:H2.IsRevIter I t ((items.size:Int) - 1):=hit.at fun o e=>gk2 I o nI e
 have ht2:H2.IsList t items:=ht.at fun o e=>gk2 t o nt e
 unfold Builtin.List.listExtendWith
 refine wpAny_bind (wpAny_typeOf (s:={ s with heap:=H2 }) hit2.typeIs ?_)
 have n1:Builtin.List.listSameRef (.ref s.heap.objs.size) (.ref I)=false:=by
  simp only[Builtin.List.listSameRef,beq_eq_false_iff_ne]
  exact Ne.symm nI
 have n2:(Value.type "list_reverseiterator"==Value.type "list")=false:=by decide
 have n3:(Value.type "list_reverseiterator"==Value.type "tuple")=false:=by decide
 simp only[n1,n2,n3,Bool.or_false,Bool.false_eq_true,if_false]
 refine wpAny_bind (wpAny_pyIter_revIter (s:={ s with heap:=H2 }) hit2 (wpAny_bind (wpAny_holding (hintLr (s:={ s with heap:=H2 }) hit2 ?_))))
 have nfp:¬s.heap.objs.size∈[I,t]:=by simp only[List.mem_cons,List.not_mem_nil,or_false,not_or];exact⟨Ne.symm nI,Ne.symm nt⟩
 rw[if_neg (by decide+kernel)]
 refine wpAny_pure ⟨plainId_quiet PySem.F.plain_extend_loop _,?_⟩
 have W:=(Walks.listRev (prog:=prog) (w:=w) (A:=A.in1.in1) (by simpa using hh) I t hI items).toS
 refine codeAny_extend_loopS W hn _ nfp _ items.size 0 _ #[] _ rfl (Nat.zero_le _) ⟨Nat.zero_le _,by simpa using hit2,ht2⟩ g2 (ItemsOf.nil _) fun s' acc c' m gS hacc=>?_
 have ea:acc=items.toList.reverse.toArray:=by
  apply Array.ext'
  refine List.ext_getElem? fun i=>?_
  by_cases hi:i < items.size
  ·have hi':i < acc.size:=by rw[hacc.1];exact hi
   have q:=hacc.2 i acc[i] (by simp [hi'])
   rw[Array.getElem?_toList,Array.getElem?_eq_getElem hi',<- q]
   show items[items.size - 1 - i]?=items.toList.reverse[i]?
   rw[List.getElem?_reverse (by simpa using hi)]
   simp
  ·rw[List.getElem?_eq_none (by rw[Array.length_toList,hacc.1];omega),List.getElem?_eq_none (by simp;omega)]
 subst ea
 refine⟨rfl,hQ s' _ c' (Nat.le_refl _) (fun b o hb e=>?_) m.gens m.os gS⟩
 have ne:b≠s.heap.objs.size:=Nat.ne_of_lt (Heap.lt_size e)
 exact m.heap b o (by simp only[List.mem_cons,List.not_mem_nil,or_false,not_or];exact⟨ne,hb⟩) (gk2 b o ne e)
end
section
variable {X:Cx}{e:Expr}{te:TE}{xl xr:Str}{p p2 pos pos2:Pos}
def tListRevL(K:Frag)(te:TE):TE:=fun σ H Q=>te σ H fun x H1=>∃a xs,x= .ref a/\SqL K H1 a xs/\∀l,H1 l=none->Q (.ref l) (upd H1 l (.lst xs.reverse))
theorem Jf(hc:X.calm=true)(hgl:Gl X xl)(hml:X.mg xl=none)(hvl:bootBuiltins xl=some (.type "list"))(hgr:Gl X xr)(hmr:X.mg xr=none)(hvr:bootBuiltins xr=some (.type "reversed"))(he:PE X e te)
  (hnl:xl≠"__name__":=by decide) (hdl:(xl==("__debug__":Str))=false:=by decide) (hnr:xr≠"__name__":=by decide) (hdr:(xr==("__debug__":Str))=false:=by decide)
  (h1:starEach [.Call (.Name xr p2) [e] [] pos2] X.env=(false,eval (.Call (.Name xr p2) [e] [] pos2) X.env)::starEach [] X.env:=by rfl) (h2:(backTo pos (starEach [] X.env)).any (·.1)=false:=by rfl)
  (h3:starEach [e] X.env=(false,eval e X.env)::starEach [] X.env:=by rfl) (h4:(backTo pos2 (starEach [] X.env)).any (·.1)=false:=by rfl):
  PE X (.Call (.Name xl p) [.Call (.Name xr p2) [e] [] pos2] [] pos) (tListRevL X.K te):=by
 intro pins s σ H Q I h
 refine wpAny_Call_Name_kw (zN I hgl hml hvl ?_ hnl hdl)
 refine PyProof.Rows.callWith_type1 ?_ h1 h2
 rw[h1]
 show wpAny _ _ (spliced ((false,eval (.Call (.Name xr p2) [e] [] pos2) X.env)::backTo pos (starEach [] X.env))) _ _ s
 refine Calls.spliced_cons ?_
 refine wpAny_Call_Name_kw (zN I hgr hmr hvr ?_ hnr hdr)
 refine PyProof.Rows.callWith_type1 ?_ h3 h4
 rw[h3]
 show wpAny _ _ (spliced ((false,eval e X.env)::backTo pos2 (starEach [] X.env))) _ _ s
 refine Calls.spliced_cons (thn (he pins s σ H _ I h) fun u s1 ⟨x,H1,I1,r1,a,xs,ex,hq,q⟩=>?_)
 subst ex
 cases (show u=Value.ref a from r1)
 obtain⟨its,r',pl,hz⟩:=I1.list hq
 have hlen:=r'.length
 refine Calls.spliced_nil (call_reversed_list pl.isList (Calls.spliced_nil ?_))
 have hlt:a < s1.heap.objs.size:=by obtain⟨o,ho,_⟩:=pl.isList;exact Heap.lt_size ho
 refine Qw (s:={ s1 with heap:=s1.heap.push (PySem.revObj a ((its.toArray.size:Int) - 1)) }) (items:=its.toArray) (I.ok.hd hc) ⟨_,Heap.get?_push_size _ rfl,rfl,rfl⟩ (pl.isList.at fun o e=>Heap.get?_push_of_some _ e) (Nat.ne_of_lt hlt)
  (by simp only[List.size_toArray];omega) fun s' l c hl k kg ko hg=>?_
 have hsz:s1.heap.objs.size<=l:=Nat.le_trans (by show _<=(s1.heap.push _).objs.size;rw[Heap.size_push];exact Nat.le_succ _) hl
 have k':∀b o,s1.heap.get? b=some o->s'.heap.get? b=some o:=fun b o e=>k b o (Nat.ne_of_lt (Heap.lt_size e)) (Heap.get?_push_of_some _ e)
 have new:ObjOk X.prog X.w (upd H1 l (.lst xs.reverse)) s'.heap l (.lst xs.reverse):=⟨by rw[List.length_reverse];exact hz,its.reverse,c,Vals.reverse r',by simpa using hg⟩
 exact⟨.ref l,_,I1.call' (ch:=[]) ko (Un.laid k' hsz (I1.hok.fresh hsz)) (I1.hok.laid k' hsz new) (by rw[kg];exact I1.bare) (fun _ z=>nomatch z),rfl,q _ (I1.hok.fresh hsz)⟩
end
section
variable {X:Cx}
theorem JO:MtR X "str.isdigit" (fun x xs H Q=>∃z:Str,x= .str z/\xs=[]/\Q (.bl (Txt.isdigit z)) H):=by
 intro pins s σ H x xs v us Q I rx rs h
 obtain⟨z,rfl,rfl,q⟩:=h
 cases rs
 obtain⟨t,rfl⟩:=rx
 exact PySem.W.KXw.isdigit rfl ⟨.bl _,H,I,rfl,q⟩
theorem Q1:MtR X "str.isalpha" (fun x xs H Q=>∃z:Str,x= .str z/\xs=[]/\Q (.bl (Txt.isalpha z)) H):=by
 intro pins s σ H x xs v us Q I rx rs h
 obtain⟨z,rfl,rfl,q⟩:=h
 cases rs
 obtain⟨t,rfl⟩:=rx
 exact PySem.W.KXw.isalpha rfl ⟨.bl _,H,I,rfl,q⟩
end
end L2
namespace L2
open PySem PySem.Spec PyProof.Rows
theorem Room.m{j k:Nat}{A:Around}(r:Room k A)(h:j<=k:=by omega):Room j A:=r.mono h
theorem fsc{N P:List Str}{s:Scope}(a:s.kind=.function:=by rfl)(b:s.isCoroutine=false:=by rfl)(c:s.isGenerator=false:=by rfl)(d:N.Nodup:=by decide +kernel)(e:N.take P.length=P:=by rfl)(f:∀x∈P,s.names.lookup x=some .local ∨ s.names.lookup x=some .cell:=by decide +kernel)(g:∀y∈s.names,y.2≠.free:=by decide +kernel):FnScope N P s:=⟨a,b,c,d,e,f,g⟩
theorem csc{N:List Str}{s t:Scope}{M:List Str}{n:Nat}{i:List Nat}(a:∀y∈t.names,y.2≠.cell:=by decide +kernel)(b:t.kind=.function:=by rfl)(c:∀y∈t.names,y.2=.local->t.names.lookup y.1=some .local:=by decide +kernel)(d:∀y∈t.names,y.2=.free->s.names.lookup y.1=some .cell:=by decide +kernel)(e:M.drop n=i.map (fun i=>N.getD i Str.empty):=by decide +kernel)(f:M.length=n+i.length:=by rfl)(g:∀j∈i,t.names.lookup (N.getD j Str.empty)=some .free:=by decide +kernel):CompSc N s t M n i:=⟨a,b,c,d,e,f,g⟩
end L2
namespace K06
open PySem PySem.Spec PyProof.Rows L2
variable {P:Program}{w:World}{K:Frag}{mg:Str->Option Value}{base:Heap}
noncomputable def top(i:Nat):Stmt:=PySem.Challenge.pw_againbook_k06_the_first_wrong_row.main.body.getD i (.Pass ⟨0,0,0,0⟩)
noncomputable abbrev sBox:Stmt:=top 40
noncomputable abbrev sTake:Stmt:=top 41
noncomputable abbrev sNames:Stmt:=top 43
def But(p:Addr)(H H':Hp):Prop:=∀b o,b≠p->H b=some o->H' b=some o
theorem But.refl{p:Addr}{H:Hp}:But p H H:=fun _ _ _ h=>h
theorem But.trans{p:Addr}{H H1 H2:Hp}(a:But p H H1)(b:But p H1 H2):But p H H2:=fun c o n h=>b c o n (a c o n h)
theorem But.of_eq{p:Addr}{H H':Hp}(h:∀b,b≠p->H' b=H b):But p H H':=fun b o n e=>by rw[h b n];exact e
theorem But.upd_new{p r:Addr}{H H':Hp}{o:HO}(a:But p H H')(n:H' r=none):But p H (upd H' r o):=fun b u nb e=>by
 have q:=a b u nb e
 rw[jh (jj q n)];exact q
theorem But.upd_own{p r:Addr}{H H':Hp}{o:HO}(a:But p H H')(n:H r=none):But p H (upd H' r o):=fun b u nb e=>by
 rw[jh (jj e n)];exact a b u nb e
structure BoxAt(H:Hp)(p:Addr):Prop where
 ob:∃a b:Int,0<=a/\1<=b/\b<=2147483646/\H p=some (.lst [.int a,.int b])
theorem BoxAt.eq{H H':Hp}{p:Addr}(B:BoxAt H p)(e:H' p=H p):BoxAt H' p:=by
 refine opq fun Gq kq=>?_
 obtain⟨a,b,h1,h2,h3,h⟩:=B.ob
 refine kq ?_
 clear kq
 exact⟨a,b,h1,h2,h3,by rw[e];exact h⟩
theorem BoxAt.upd_new{H:Hp}{p r:Addr}{o:HO}(B:BoxAt H p)(n:H r=none):BoxAt (upd H r o) p:=by
 refine opq fun Gq kq=>?_
 obtain⟨a,b,h1,h2,h3,h⟩:=B.ob
 refine kq ?_
 clear kq
 exact B.eq (by rw[jh (jj h n)])
theorem BoxAt.ne{H:Hp}{p r:Addr}(B:BoxAt H p)(n:H r=none):r≠p:=by
 refine opq fun Gq kq=>?_
 obtain⟨a,b,h1,h2,h3,h⟩:=B.ob
 refine kq ?_
 clear kq
 exact Ne.symm (jj h n)
def spTake:Sp:=fun vs H Q _=>∃(p:Addr) (w:Int),vs=[.ref p,.int w]/\BoxAt H p/\0 < w/\w<=1000000000000000000/\
 ∀(d:Int) (H':Hp),0<=d->d < w->BoxAt H' p->(∀b,b≠p->H' b=H b)->Q (.int d) H'
def spBox(K:Frag):Sp:=fun vs H Q _=>∃(a:Addr) (ns:List Int) (k:Int),vs=[.ref a,.int k]/\SqL K H a (ns.map V.int)/\0<=k/\k < 1000/\
 ∀(r:Addr) (H':Hp),H r=none->BoxAt H' r->(∀b,b≠r->H' b=H b)->Q (.ref r) H'
theorem ten18:(10:Int) ^ (18:Int).toNat=1000000000000000000:=by decide
theorem Y1{ns:List Int}{k:Int}(h0:0<=k)(h1:k < (ns.length:Int)):∃v:Int,atI (ns.map V.int) k=some (.int v):=by
 have hk:k.toNat < ns.length:=by omega
 have ek:k=((k.toNat:Nat):Int):=by omega
 have q:atI (ns.map V.int) ((k.toNat:Nat):Int)=some (.int ns[k.toNat]):=jo (by rw[List.getElem?_map,List.getElem?_eq_getElem hk];rfl)
 rw[<- ek]at q
 exact⟨_,q⟩
theorem scTake:FnScope ["_law_box_here","_law_wide","_law_digit","_law_one","_law_mixed"] ["_law_box_here","_law_wide"] (defScope sTake):=fsc
theorem ok_take{f:Addr}{fd:FuncData}(F:Fun K "_law_take" "_law_take" sTake f fd):FnOk P w K mg base CX0 1 f fd ["_law_box_here","_law_wide"] spTake:=by
 refine F.ok scTake (fun vs H Q E h=>?_) (fun cdv A outer s H vs Q E hr h=>?_)
 ·refine opq fun Gq kq=>?_
  obtain⟨p,w,rfl,_⟩:=h
  refine kq ?_
  clear kq
  rfl
 refine opq fun Gq kq=>?_
 obtain⟨p,wd,rfl,B,hw0,hw1,q⟩:=h
 refine kq ?_
 clear kq
 refine opq fun Gq kq=>?_
 obtain⟨a,b,ha,hb1,hb2,hp⟩:=B.ob
 refine kq ?_
 clear kq
 refine⟨_,jd (jx (jq qo (jv jy (pv 0) jf (fun _ _=>rfl)) jf (nomark _))
   (jd (js (i:=2) scTake.nd rfl (Or.inl rfl) (ju zG (jv jy (pv 0) jf (fun _ _=>rfl)) (pv 1)))
   (jd (qu (ju K5 (jv jy (pv 0) jf (fun _ _=>rfl)) (pv 1)) (Jv (pv 0) jf z6))
   (jg (jr (pv 2))))) jp)
  (jd (js (i:=3) scTake.nd rfl (Or.inl rfl) (ju zG (ju zF (jv jy (pv 0) jf (fun _ _=>rfl)) jf) jf))
  (jd (qu (ju jQ (ju zG (ju jQ (ju zF (pv 3) jf) jf) jf) jf) (Jv (pv 0) jf z6))
  (jd (js (i:=4) scTake.nd rfl (Or.inl rfl) (ju K5 (ju jQ (ju zF (pv 3) jf) (jv jy (pv 0) jf (fun _ _=>rfl))) jf))
  (jd (jx (jq qo (pv 1) (ju Ko jf jf) (nomark _)) (jg (js (i:=4) scTake.nd rfl (Or.inl rfl) (ju zF (pv 4) (pv 4)))) jp)
  (jg (jr (ju zG (pv 4) (pv 1)))))))),?_⟩
 refine⟨_,rfl,p,_,_,_,rfl,rfl,SqL.of hp,rfl,_,_,rfl,rfl,_,rfl,?_⟩
 refine ite2 (fun c=>?_) (fun c=>?_)
 ·have c':(0:Int) < a:=of_decide_eq_true c
  refine⟨_,rfl,p,_,_,_,rfl,rfl,SqL.of hp,rfl,_,rfl,_,_,rfl,rfl,hw0,?_⟩
  refine⟨_,rfl,p,_,_,_,rfl,rfl,SqL.of hp,rfl,_,rfl,_,_,rfl,rfl,⟨hw0,hw1⟩,_,rfl,p,_,_,0,rfl,rfl,hp,rfl,_,rfl,?_⟩
  refine q (a % wd) _ (Int.emod_nonneg _ (by omega)) (Int.emod_lt_of_pos _ hw0) ⟨a / wd,b,Int.ediv_nonneg ha (by omega),hb1,hb2,jb⟩ fun b n=>jh n
 ·have m0:0<=b*69621 % 2147483647:=Int.emod_nonneg _ (by decide)
  have m1:b*69621 % 2147483647 < 2147483647:=Int.emod_lt_of_pos _ (by decide)
  refine⟨_,rfl,p,_,_,_,rfl,rfl,SqL.of hp,rfl,_,_,rfl,rfl,.inr ⟨by decide,by decide⟩,_,_,rfl,rfl,(by show(0:Int) < 2147483647;decide),?_⟩
  refine⟨_,rfl,_,_,rfl,rfl,.inr ⟨by decide,by decide⟩,_,_,rfl,rfl,_,_,rfl,rfl,(by show(0:Int) < 2147483646;decide),_,_,rfl,rfl,_,rfl,p,_,_,1,rfl,rfl,hp,rfl,?_⟩
  generalize hone:b*69621 % 2147483647=one at*
  have n0:0<=(one*48271+30103) % 2147483646:=Int.emod_nonneg _ (by decide)
  have n1:(one*48271+30103) % 2147483646 < 2147483646:=Int.emod_lt_of_pos _ (by decide)
  generalize htwo:(one*48271+30103) % 2147483646=two at*
  refine⟨_,rfl,_,_,rfl,rfl,.inr ⟨by decide,by decide⟩,_,rfl,p,_,_,_,rfl,rfl,SqL.of jb,rfl,_,_,rfl,rfl,_,_,rfl,rfl,⟨by decide,by decide⟩,?_⟩
  have x0:0<=(one*2147483647+(two+1)) / 8191:=by omega
  have x1:(one*2147483647+(two+1)) / 8191 < 18446744073709551616:=by omega
  generalize hmix:(one*2147483647+(two+1)) / 8191=mix at*
  refine⟨_,rfl,_,_,rfl,rfl,⟨by decide,by decide,by decide⟩,_,_,rfl,rfl,_,rfl,?_⟩
  have B2:BoxAt (upd H p (.lst [.int a,.int (two+1)])) p:=⟨a,two+1,ha,by omega,by omega,jb⟩
  refine ite2 (fun c2=>?_) (fun c2=>?_)
  ·refine⟨_,rfl,_,rfl,_,_,rfl,rfl,.inl ⟨by omega,by omega⟩,?_⟩
   refine⟨_,rfl,_,rfl,_,_,rfl,rfl,hw0,?_⟩
   exact q _ _ (Int.emod_nonneg _ (by omega)) (Int.emod_lt_of_pos _ hw0) B2 fun b n=>jh n
  ·refine⟨_,rfl,_,rfl,_,_,rfl,rfl,hw0,?_⟩
   exact q _ _ (Int.emod_nonneg _ (by omega)) (Int.emod_lt_of_pos _ hw0) B2 fun b n=>jh n
theorem scBox:FnScope ["_law_script","_law_k","_law_cell","_law_seed"] ["_law_script","_law_k"] (defScope sBox):=fsc
theorem ok_box{f:Addr}{fd:FuncData}(F:Fun K "_law_box" "_law_box" sBox f fd)(ml:mg "len"=none)(mi:mg "int"=none):FnOk P w K mg base CX0 1 f fd ["_law_script","_law_k"] (spBox K):=by
 refine F.ok scBox (fun vs H Q E h=>?_) (fun cdv A outer s H vs Q E hr h=>?_)
 ·refine opq fun Gq kq=>?_
  obtain⟨a,ns,k,rfl,_⟩:=h
  refine kq ?_
  clear kq
  rfl
 refine opq fun Gq kq=>?_
 obtain⟨a,ns,k,rfl,hS,hk0,hk1,q⟩:=h
 refine kq ?_
 clear kq
 refine⟨_,jd (js (i:=2) scBox.nd rfl (Or.inl rfl) (ju jQ (ju zF jf (pv 1)) jf))
  (jd (jx (jq qA (pv 1) (jz jw rfl ml PySem.boot_len (ja (pv 0) jc)) (nomark _))
   (jg (js (i:=2) scBox.nd rfl (Or.inl rfl) (jv jy (pv 0) (pv 1) (fun _ _=>rfl))))
   (jg (jx (jq qo (jz jw rfl ml PySem.boot_len (ja (pv 0) jc)) jf (nomark _))
    (jg (js (i:=2) scBox.nd rfl (Or.inl rfl) (ju jQ (pv 2) (ju zF (ju zG (jv jy (pv 0) (ju zG (pv 1) (jz jw rfl ml PySem.boot_len (ja (pv 0) jc))) (fun _ _=>rfl)) jf) jf)))) jp)))
  (jd (js (i:=3) scBox.nd rfl (Or.inl rfl) (ju jQ (ju zG (ju jQ (ju zF (ju zG (pv 2) jf) jf) (ju zF jf (pv 1))) jf) jf))
  (jg (jr (jC (ja (ju zF (pv 2) (jG JZ rfl mi boot_int (ja (j5 op_ge (pv 2) (ju Ko jf jf) (nomark _)) jc))) (ja (pv 3) jc))))))),?_⟩
 have hl:(ns.map V.int).length=ns.length:=List.length_map _
 have tail:∀c:Int,∃v:V,∃x:Int,v= .int x/\1<=x/\x<=2147483646/\v= .int ((c % 2147483629*48271+40692*k) % 2147483646+1):=fun c=>by
  have n0:0<=(c % 2147483629*48271+40692*k) % 2147483646:=Int.emod_nonneg _ (by decide)
  have n1:(c % 2147483629*48271+40692*k) % 2147483646 < 2147483646:=Int.emod_lt_of_pos _ (by decide)
  exact⟨_,_,rfl,by omega,by omega,rfl⟩
 have fin:∀(c:Int) (r:Addr),H r=none->Q (.ref r) (upd H r (.lst [.int (c*(if decide ((10:Int) ^ (18:Int).toNat<=c)=true then 1 else 0)),.int ((c % 2147483629*48271+40692*k) % 2147483646+1)])):=fun c r hn=>by
  refine q r _ hn ⟨_,_,?_,?_,?_,jb⟩ fun b n=>jh n
  ·rw[ten18]
   by_cases h:(1000000000000000000:Int)<=c
   ·rw[decide_eq_true h,if_pos rfl];omega
   ·rw[decide_eq_false h,if_neg Bool.false_ne_true];omega
  ·have n0:0<=(c % 2147483629*48271+40692*k) % 2147483646:=Int.emod_nonneg _ (by decide)
   omega
  ·have n1:(c % 2147483629*48271+40692*k) % 2147483646 < 2147483646:=Int.emod_lt_of_pos _ (by decide)
   omega
 have bnd:∀c:Int,CMul c (if decide ((10:Int) ^ (18:Int).toNat<=c)=true then 1 else 0):=fun c=>.inr (by split<;>decide)
 try dsimp only[cxOf,Cx.nox,Cx.wish]
 refine seqF fun F0 f0=>⟨_,rfl,_,_,rfl,rfl,.inl ⟨by decide,by decide⟩,_,_,rfl,rfl,f0 _ _ ?_⟩
 clear f0
 refine seqF fun F1 f1=>?_
 have go:∀c:Int,F1 [some (.ref a),some (.int k),some (.int c),none] H:=fun c=>f1 _ _ (seqF fun F2 f2=>⟨_,rfl,_,_,rfl,rfl,(by show(0:Int) < 2147483629;decide),_,_,rfl,rfl,.inr ⟨by decide,by decide⟩,_,rfl,_,_,rfl,rfl,.inl ⟨by decide,by decide⟩,_,_,rfl,rfl,_,_,rfl,rfl,(by show(0:Int) < 2147483646;decide),_,_,rfl,rfl,f2 _ _ (⟨_,rfl,_,rfl,_,_,rfl,rfl,⟨by decide,by decide,by decide⟩,_,_,rfl,rfl,.inr ⟨_,rfl,_,_,rfl,rfl,bnd c,_,rfl,sz2,fin c⟩⟩)⟩)
 clear f1
 refine ifG fun G g'=>⟨_,rfl,_,rfl,a,_,rfl,.inl hS,_,_,rfl,rfl,_,rfl,g' _ _ ?_⟩
 clear g'
 refine ite2 (fun c=>?_) (fun c=>?_)
 ·have c':k < (((ns.map V.int).length:Nat):Int):=of_decide_eq_true c
  rw[hl]at c'
  obtain⟨v,hv⟩:=Y1 (ns:=ns) hk0 c'
  exact⟨_,rfl,_,rfl,a,_,_,_,rfl,rfl,hS,hv,go v⟩
 ·have c':¬k < (((ns.map V.int).length:Nat):Int):=of_decide_eq_false (Bool.eq_false_iff.mpr c)
  rw[hl]at c'
  refine ifG fun G g'=>⟨_,rfl,a,_,rfl,.inl hS,_,_,rfl,rfl,_,rfl,g' _ _ ?_⟩
  clear g'
  refine ite2 (fun c2=>?_) (fun c2=>?_)
  ·have c3:(0:Int) < (((ns.map V.int).length:Nat):Int):=of_decide_eq_true c2
   obtain⟨v,hv⟩:=Y1 (ns:=ns) (k:=k % (((ns.map V.int).length:Nat):Int)) (Int.emod_nonneg _ (by omega)) (by have:=Int.emod_lt_of_pos k c3;rw[hl]at this;rw[hl];exact this)
   exact⟨_,rfl,_,rfl,_,rfl,_,rfl,a,_,rfl,.inl hS,_,_,rfl,rfl,c3,a,_,_,_,rfl,rfl,hS,hv,_,_,rfl,rfl,(by show(0:Int) < 2147483629;decide),_,_,rfl,rfl,.inr ⟨by decide,by decide⟩,_,_,rfl,rfl,go _⟩
  ·exact go _
theorem slen(i j:Str):(i++j).length=i.length+j.length:=by
 show(i.cps++j.cps).size=i.cps.size+j.cps.size
 exact Array.size_append
theorem zv:1000000<=sizeLine:=by rw[sizeLine_eq];decide
theorem keepN{H:Hp}{r b:Addr}{o u:HO}(h:H b=some u)(n:H r=none):upd H r o b=some u:=by rw[jh (jj h n)];exact h
theorem Y2{z:Str}{k:Int}(h0:0<=k)(h1:k < (z.length:Int)):∃c:Nat,atI z.cps.toList k=some c:=by
 have hl:z.cps.toList.length=z.length:=Array.length_toList
 have hk:k.toNat < z.cps.toList.length:=by omega
 have ek:k=((k.toNat:Nat):Int):=by omega
 have q:atI z.cps.toList ((k.toNat:Nat):Int)=some z.cps.toList[k.toNat]:=jo (List.getElem?_eq_getElem hk)
 rw[<- ek]at q
 exact⟨_,q⟩
theorem Kw{ys:List Str}{k:Int}(h0:0<=k)(h1:k < (ys.length:Int)):∃y∈ys,atI (ys.map V.str) k=some (.str y):=by
 have hk:k.toNat < ys.length:=by omega
 have ek:k=((k.toNat:Nat):Int):=by omega
 have q:atI (ys.map V.str) ((k.toNat:Nat):Int)=some (.str ys[k.toNat]):=jo (by rw[List.getElem?_map,List.getElem?_eq_getElem hk];rfl)
 rw[<- ek]at q
 exact⟨_,List.getElem_mem hk,q⟩
noncomputable def cutS(ss:List Str)(lo hi:Option Int):List Str:=(ss.drop (HT.sIx ss.length 0 lo)).take (HT.sIx ss.length ss.length hi - HT.sIx ss.length 0 lo)
theorem jM(ss:List Str)(lo hi:Option Int):cutV (ss.map V.str) lo hi=(cutS ss lo hi).map V.str:=by
 unfold cutV cutS
 rw[List.length_map,List.map_take,List.map_drop]
theorem j9{ss:List Str}{lo hi:Option Int}{y:Str}(h:y∈cutS ss lo hi):y∈ss:=List.mem_of_mem_drop (List.mem_of_mem_take h)
theorem zJ(ss:List Str)(lo hi:Option Int):(cutS ss lo hi).length<=ss.length:=by
 unfold cutS
 rw[List.length_take,List.length_drop]
 omega
theorem qF:∀{ys:List Str},(∀y∈ys,y.length<=1)->(ys.map (·.length)).sum<=ys.length
 | [],_=>Nat.le_refl _
 |y::r,h=>by
  have h1:=h y List.mem_cons_self
  have h2:=qF (ys:=r) fun z hz=>h z (List.mem_cons_of_mem _ hz)
  rw[List.map_cons,List.sum_cons,List.length_cons]
  omega
theorem KD{z:Str}{ys:List Str}(hz:z.length=0)(h:∀y∈ys,y.length<=1):(Txt.join z ys).length<=ys.length:=by
 show(Builtin.Str.glued z ys).length<=_
 rw[size_glued,hz,Nat.mul_zero,Nat.add_zero]
 exact qF h
noncomputable def letters:Str:="abcdefghijklmnopqrstuvwxyz"
theorem Jg:letters.length=26:=by decide+kernel
def low(y:Str):Prop:=∀c∈y.cps.toList,97<=c/\c<=122
noncomputable def resv:List Str:=["def","set","read","write","call","if","else","while","give","end"]
def WL(n:Nat)(y:Str):Prop:=low y/\1<=y.length/\y.length<=n
def WN(y:Str):Prop:=WL 8 y/\y∉resv
theorem cps_app(a b:Str):(a++b).cps.toList=a.cps.toList++b.cps.toList:=by
 show(a.cps++b.cps).toList=_
 exact Array.toList_append
theorem zW{a b:Str}(ha:low a)(hb:low b):low (a++b):=fun c h=>by
 rw[cps_app]at h
 exact(List.mem_append.mp h).elim (ha c) (hb c)
theorem qI:∀{ys:List Str},(∀y∈ys,low y)->low (Txt.join "" ys)
 | [],_=>fun c h=>nomatch h
 | [y],h=>by
  show low (Builtin.Str.glued "" [y])
  rw[StrLaws.glued_eq_join]
  exact h y List.mem_cons_self
 |y::z::r,h=>by
  have ih:=qI (ys:=z::r) fun x hx=>h x (List.mem_cons_of_mem _ hx)
  have ih:low (Builtin.Str.glued "" (z::r)):=ih
  show low (Builtin.Str.glued "" (y::z::r))
  rw[StrLaws.glued_eq_join]at ih ⊢
  exact zW (zW (h y List.mem_cons_self) fun c h=>nomatch h) ih
theorem Xr{k:Int}{c:Nat}(h0:0<=k)(h1:k < 26)(h:atI letters.cps.toList k=some c):low ⟨#[c]⟩:=by
 have q:∀m:Fin 26,atI letters.cps.toList (m.val:Int)=some (97+m.val):=by decide+kernel
 have e:=q ⟨k.toNat,by omega⟩
 have ek:((k.toNat:Nat):Int)=k:=by omega
 dsimp only at e
 rw[ek,h]at e
 injection e with e
 intro d hd
 have hd:d=c:=by simpa using hd
 omega
theorem cut_fit{ss:List Str}{d1 d2:Int}(hs:ss.length=(1+d1).toNat)(h0:0<=d2)(h1:d2 < 1+d1):(cutS ss none (some d2)).length+(cutS ss (some (d2+1)) none).length<=d1.toNat:=by
 unfold cutS HT.sIx
 dsimp only
 rw[if_neg (by omega),if_neg (by omega)]
 simp only[List.length_take,List.length_drop]
 omega
theorem not_inV{ys:List Str}{a:Str}(h:inV (.str a) (ys.map V.str)=false):a∉ys:=fun m=>by
 unfold inV at h
 rw[List.any_eq_false]at h
 exact h (.str a) (List.mem_map.mpr ⟨a,m,rfl⟩) (by simp [eqV])
def spNames:Sp:=fun vs H Q _=>∃(p:Addr) (n:Int),vs=[.ref p,.int n]/\BoxAt H p/\1<=n/\n<=20/\
 ∀(r:Addr) (ys:List Str) (H':Hp),H r=none->H' r=some (.lst (ys.map V.str))->(ys.length:Int)=n->(∀y∈ys,WN y)->BoxAt H' p->But p H H'->Q (.ref r) H'
theorem scNames:FnScope ["_law_box_here","_law_total","_law_letters","_law_wide","_law_spot_here","_law_signs","_law_first","_law_form","_law_found","_law_k","_law_one","_law_word_here","_law_some","_law_odd"] ["_law_box_here","_law_total"] (defScope sNames):=fsc
noncomputable def JU:Scope:=⟨.function,[(".0",.local),("_law_k",.local),("_law_take",.globalImplicit),("_law_box_here",.free),("_law_letters",.free)],false,false,[]⟩
theorem Q2:(["_law_k","_law_box_here","_law_letters"]:List Str).Nodup:=by decide+kernel
theorem Q3:CompSc ["_law_box_here","_law_total","_law_letters","_law_wide","_law_spot_here","_law_signs","_law_first","_law_form","_law_found","_law_k","_law_one","_law_word_here","_law_some","_law_odd"] (defScope sNames) JU ["_law_k","_law_box_here","_law_letters"] 1 [0,2]:=csc
noncomputable def JV:Scope:=⟨.function,[(".0",.local),("_law_j",.local),("_law_take",.globalImplicit),("_law_box_here",.free),("_law_letters",.free)],false,false,[]⟩
theorem Q4:(["_law_j","_law_box_here","_law_letters"]:List Str).Nodup:=by decide+kernel
theorem Q5:CompSc ["_law_box_here","_law_total","_law_letters","_law_wide","_law_spot_here","_law_signs","_law_first","_law_form","_law_found","_law_k","_law_one","_law_word_here","_law_some","_law_odd"] (defScope sNames) JV ["_law_j","_law_box_here","_law_letters"] 1 [0,2]:=csc
theorem qP{p:Addr}{n:Nat}{H0:Hp}{Qf:List V->Hp->Prop}(hn:n<=20)(B:BoxAt H0 p)
  (hd:∀(ss:List Str) (H':Hp),ss.length=n->(∀s∈ss,s.length<=1/\low s)->BoxAt H' p->(∀b,b≠p->H' b=H0 b)->Qf (ss.map V.str) H'):
  CompR (Itr 0 n) 1 [some (.ref p),some (.str letters)] (gName 0) tAll (tOp rIxS (tVar 2) (tCall spTake [] E0 (tCons (tVar 1) (tCons (tC (.int 26)) tNil)))) Qf H0:=by
 refine Qq (fun i ys H'=>∃ss:List Str,ys=ss.map V.str/\ss.length=i/\(∀s∈ss,s.length<=1/\low s)/\BoxAt H' p/\∀b,b≠p->H' b=H0 b)
  ⟨[],rfl,rfl,(fun _ h=>nomatch h),B,fun _ _=>rfl⟩ (Nat.le_trans hn (by decide)) (fun i ys H' ⟨ss,e,l,_⟩=>by rw[e,List.length_map,l];exact Nat.le_refl _) ?_ ?_
 ·intro i ys H' hi hq'
  refine opq fun Gq kq=>?_
  obtain⟨ss,rfl,hl,h1,B',e'⟩:=hq'
  refine kq ?_
  clear kq
  refine⟨_,rfl,_,rfl,p,26,rfl,B',by decide,by decide,fun d H2 d0 d1 B2 e2=>?_⟩
  obtain⟨c,hc⟩:=Y2 (z:=letters) d0 (by rw[Jg];exact d1)
  refine⟨_,_,c,rfl,rfl,by decide,hc,ss++[⟨#[c]⟩],by rw[List.map_append];rfl,by rw[List.length_append,hl];rfl,fun s hs=>?_,B2,fun b nb=>(e2 b nb).trans (e' b nb)⟩
  rcases List.mem_append.mp hs with hs |hs
  ·exact h1 s hs
  ·rw[List.mem_singleton.mp hs];exact⟨Nat.le_refl 1,Xr d0 d1 hc⟩
 ·intro ys H' hq'
  refine opq fun Gq kq=>?_
  obtain⟨ss,rfl,hl,h1,B',e'⟩:=hq'
  refine kq ?_
  clear kq
  exact hd ss H' hl h1 B' e'
def Rw(p g r:Addr)(n d1 d2 d4 d5:Int)(i c:Nat)(ss ys:List Str)(H:Hp)(L:Nat):L2.St->Hp->Prop:=fun σ' H'=>∃w1:Str,WL L w1/\
 σ'=[some (.ref p),some (.int n),some (.str letters),some (.int (1+d1)),some (.int d2),some (.ref g),some (.int d4),some (.int d5),some (.ref r),some (.int (0+(i:Int))),some (.str ⟨#[c]⟩),some (.str w1),none,none]/\
 H' g=some (.lst (ss.map V.str))/\H' r=some (.lst (ys.map V.str))/\BoxAt H' p/\But p H H'
def RwN(p g r:Addr)(n d1 d2 d4 d5:Int)(i c:Nat)(ss ys:List Str)(H:Hp):L2.St->Hp->Prop:=fun σ' H'=>∃w1:Str,WN w1/\
 σ'=[some (.ref p),some (.int n),some (.str letters),some (.int (1+d1)),some (.int d2),some (.ref g),some (.int d4),some (.int d5),some (.ref r),some (.int (0+(i:Int))),some (.str ⟨#[c]⟩),some (.str w1),none,none]/\
 H' g=some (.lst (ss.map V.str))/\H' r=some (.lst (ys.map V.str))/\BoxAt H' p/\But p H H'
def Rf(p r:Addr)(n:Int)(H:Hp):L2.St->Hp->Prop:=fun σ' H'=>σ'[8]?=some (some (.ref r))/\∃ys:List Str,H' r=some (.lst (ys.map V.str))/\(ys.length:Int)=n/\(∀y∈ys,WN y)/\BoxAt H' p/\But p H H'
theorem kJ(ys:List Str):(ys.map V.str).all flatV=true:=by
 rw[List.all_eq_true]
 intro v hv
 obtain⟨y,_,rfl⟩:=List.mem_map.mp hv
 rfl
theorem ZK(ys:List Str)(j:Nat)(y:Str):(ys.map V.str).set j (V.str y)=(ys.set j y).map V.str:=(List.map_set ..).symm
inductive NI(p g r:Addr)(n d1 d2 d4 d5:Int)(ss:List Str)(H:Hp)(i:Nat)(σ:L2.St)(H':Hp):Prop
 |mk (ok oo ow:Option V) (ys:List Str) (e0:σ=[some (.ref p),some (.int n),some (.str letters),some (.int (1+d1)),some (.int d2),some (.ref g),some (.int d4),some (.int d5),some (.ref r),ok,oo,ow,none,none]) (e1:H' g=some (.lst (ss.map V.str))) (e2:H' r=some (.lst (ys.map V.str))) (e3:ys.length=i) (e4:(∀y∈ys,WN y)) (e5:BoxAt H' p) (e6:But p H H'):NI p g r n d1 d2 d4 d5 ss H i σ H'
theorem ZL{f fT:Addr}{fd fdT:FuncData}(F:Fun K "_law_names" "_law_names" sNames f fd)(GT:FnOk P w K mg base CX0 1 fT fdT ["_law_box_here","_law_wide"] spTake)(bT:Binds K fdT ["_law_box_here","_law_wide"] [])(kT:keepIn K (.ref fT)=true)
  (mT:mg "_law_take"=some (.ref fT)) (mr:mg "range"=none):FnOk P w K mg base CX0 2 f fd ["_law_box_here","_law_total"] spNames:=by
 refine F.ok scNames (fun vs H Q E h=>?_) (fun cdv A outer s H vs Q E hr h=>?_)
 ·refine opq fun Gq kq=>?_
  obtain⟨p,n,rfl,_⟩:=h
  refine kq ?_
  clear kq
  rfl
 refine opq fun Gq kq=>?_
 obtain⟨p,n,rfl,B,hn0,hn1,q⟩:=h
 refine kq ?_
 clear kq
 refine⟨_,(@jd _ _ _ _ _ (@js _ _ (2) _ _ _ _ scNames.nd rfl (Or.inr rfl) (@jk _ _ _ _) (by rfl) (.inl rfl)) (@jd _ _ _ _ _ (@js _ _ (3) _ _ _ _ scNames.nd rfl (Or.inl rfl) (@ju _ _ _ _ _ _ _ _ jQ (@jf _ _ _ _) (@ji _ _ _ _ _ _ _ _ _ _ _ _ _ _ _ _ GT hr rfl mT kT bT .nil pass0 (@ja _ _ _ _ _ (@pv _ 0 _ _ (by rfl) (.inr (.inl rfl)) (by decide) (by decide)) (@ja _ _ _ _ _ (@jf _ _ _ _) (@jc _) (by rfl)) (by rfl)) (by decide) (by rfl) (by rfl))) (by rfl) (.inl rfl)) (@jd _ _ _ _ _ (@js _ _ (4) _ _ _ _ scNames.nd rfl (Or.inl rfl) (@ji _ _ _ _ _ _ _ _ _ _ _ _ _ _ _ _ GT hr rfl mT kT bT .nil pass0 (@ja _ _ _ _ _ (@pv _ 0 _ _ (by rfl) (.inr (.inl rfl)) (by decide) (by decide)) (@ja _ _ _ _ _ (@pv _ 3 _ _ (by rfl) (.inl rfl) (by decide) (by decide)) (@jc _) (by rfl)) (by rfl)) (by decide) (by rfl) (by rfl)) (by rfl) (.inl rfl)) (@jd _ _ _ _ _ (@Xm _ _ _ _ _ _ _ _ _ _ (5) (["_law_k","_law_box_here","_law_letters"]) (1) ([0,2]) _ _ _ _ scNames.nd rfl (Or.inl rfl) rfl (@zc _ _ _ _ _ _ rfl mr (@ja _ _ _ _ _ (@pv _ 3 _ _ (by rfl) (by first |exact Or.inl rfl |exact Or.inr (Or.inl rfl) |exact Or.inr (Or.inr rfl)) (by decide) (by decide)) (@jc _) (by rfl)) (by rfl)) Q3 (fun _ _ _ _ _=>(@jD _ _ (0) _ Q2 rfl (Or.inl rfl) (by first |exact .inl rfl |exact .inr rfl))) (fun _ _ _ _ _=>(@zq _)) (fun _ _ _ _ _=>(@jv _ _ _ _ _ _ _ Jw (@pv _ 2 _ _ (by rfl) (by first |exact Or.inl rfl |exact Or.inr (Or.inl rfl) |exact Or.inr (Or.inr rfl)) (by decide) (by decide)) (@ji _ _ _ _ _ _ _ _ _ _ _ _ _ _ _ _ GT hr rfl mT kT bT .nil pass0 (@ja _ _ _ _ _ (@pv _ 1 _ _ (by rfl) (by first |exact Or.inl rfl |exact Or.inr (Or.inl rfl) |exact Or.inr (Or.inr rfl)) (by decide) (by decide)) (@ja _ _ _ _ _ (@jf _ _ _ _) (@jc _) (by rfl)) (by rfl)) (by decide) (by rfl) (by rfl)) (fun _ _=>rfl))) (by rfl) (by first |exact .inl rfl |exact .inr rfl) (by intro _;rfl)) (@jd _ _ _ _ _ (@js _ _ (6) _ _ _ _ scNames.nd rfl (Or.inl rfl) (@ji _ _ _ _ _ _ _ _ _ _ _ _ _ _ _ _ GT hr rfl mT kT bT .nil pass0 (@ja _ _ _ _ _ (@pv _ 0 _ _ (by rfl) (.inr (.inl rfl)) (by decide) (by decide)) (@ja _ _ _ _ _ (@jf _ _ _ _) (@jc _) (by rfl)) (by rfl)) (by decide) (by rfl) (by rfl)) (by rfl) (.inl rfl)) (@jd _ _ _ _ _ (@js _ _ (7) _ _ _ _ scNames.nd rfl (Or.inl rfl) (@ji _ _ _ _ _ _ _ _ _ _ _ _ _ _ _ _ GT hr rfl mT kT bT .nil pass0 (@ja _ _ _ _ _ (@pv _ 0 _ _ (by rfl) (.inr (.inl rfl)) (by decide) (by decide)) (@ja _ _ _ _ _ (@jf _ _ _ _) (@jc _) (by rfl)) (by rfl)) (by decide) (by rfl) (by rfl)) (by rfl) (.inl rfl)) (@jd _ _ _ _ _ (@js _ _ (8) _ _ _ _ scNames.nd rfl (Or.inl rfl) (@jC _ _ _ _ (@jc _)) (by rfl) (.inl rfl)) (@jd _ _ _ _ _ (@zj _ _ _ _ _ _ _ _ PassesOwn.never rfl (@zc _ _ _ _ _ _ rfl mr (@ja _ _ _ _ _ (@pv _ 1 _ _ (by rfl) (.inl rfl) (by decide) (by decide)) (@jc _) (by rfl)) (by rfl)) (@jD _ _ (9) _ scNames.nd rfl (Or.inl rfl) (.inl rfl)) (@jd _ _ _ _ _ (@js _ _ (10) _ _ _ _ scNames.nd rfl (Or.inl rfl) (@jv _ _ _ _ _ _ _ Jw (@pv _ 2 _ _ (by rfl) (.inr (.inl rfl)) (by decide) (by decide)) (@ju _ _ _ _ _ _ _ _ zG (@ju _ _ _ _ _ _ _ _ jQ (@pv _ 6 _ _ (by rfl) (.inl rfl) (by decide) (by decide)) (@ju _ _ _ _ _ _ _ _ zF (@jf _ _ _ _) (@pv _ 9 _ _ (by rfl) (.inl rfl) (by decide) (by decide)))) (@jf _ _ _ _)) (fun _ _=>rfl)) (by rfl) (.inl rfl)) (@jd _ _ _ _ _ (@zQ _ _ _ (@js _ _ (11) _ _ _ _ scNames.nd rfl (Or.inl rfl) (@ju _ _ _ _ _ _ _ _ jP (@ju _ _ _ _ _ _ _ _ jP (@jS _ _ _ _ _ _ _ _ _ _ _ _ PySem.F.plainAttrs_str PySem.F.slot_str_join PySem.F.type_str_join zS (@jk _ _ _ _) (@ja _ _ _ _ _ (@jF _ _ _ _ _ _ _ _ _ _ jJ (@pv _ 5 _ _ (by rfl) (.inl rfl) (by decide) (by decide)) (@jR _) (@jE _ _ _ (@pv _ 4 _ _ (by rfl) (.inl rfl) (by decide) (by decide)))) (@jc _) (by rfl)) (by rfl) (by rfl) (by rfl) (by rfl) (by rfl)) (@pv _ 10 _ _ (by rfl) (.inl rfl) (by decide) (by decide))) (@jS _ _ _ _ _ _ _ _ _ _ _ _ PySem.F.plainAttrs_str PySem.F.slot_str_join PySem.F.type_str_join zS (@jk _ _ _ _) (@ja _ _ _ _ _ (@jF _ _ _ _ _ _ _ _ _ _ jJ (@pv _ 5 _ _ (by rfl) (.inl rfl) (by decide) (by decide)) (@jE _ _ _ (@ju _ _ _ _ _ _ _ _ jQ (@pv _ 4 _ _ (by rfl) (.inl rfl) (by decide) (by decide)) (@jf _ _ _ _))) (@jR _)) (@jc _) (by rfl)) (by rfl) (by rfl) (by rfl) (by rfl) (by rfl))) (by rfl) (.inl rfl))) (@jd _ _ _ _ _ (@zQ _ _ _ (@jx _ _ _ _ _ _ _ _ (@PW.pt _ _ _ (@zi _ _ _ _ _ _ _ (@jq _ _ _ _ _ _ _ _ jI (@pv _ 7 _ _ (by rfl) (.inl rfl) (by decide) (by decide)) (@jf _ _ _ _) (nomark _)) (@zd _ _ _ _ (@jq _ _ _ _ _ _ _ _ jI (@ju _ _ _ _ _ _ _ _ zG (@pv _ 9 _ _ (by rfl) (.inl rfl) (by decide) (by decide)) (@jf _ _ _ _)) (@jf _ _ _ _) (nomark _))))) (@jg _ _ _ (@js _ _ (11) _ _ _ _ scNames.nd rfl (Or.inl rfl) (@ju _ _ _ _ _ _ _ _ jP (@pv _ 11 _ _ (by rfl) (.inl rfl) (by decide) (by decide)) (@jk _ _ _ _)) (by rfl) (.inl rfl))) (@jp _))) (@jd _ _ _ _ _ (@zQ _ _ _ (@jx _ _ _ _ _ _ _ _ (@jq _ _ _ _ _ _ _ _ jI (@pv _ 7 _ _ (by rfl) (.inl rfl) (by decide) (by decide)) (@jf _ _ _ _) (nomark _)) (@jg _ _ _ (@js _ _ (11) _ _ _ _ scNames.nd rfl (Or.inl rfl) (@ju _ _ _ _ _ _ _ _ jP (@jS _ _ _ _ _ _ _ _ _ _ _ _ PySem.F.plainAttrs_str PySem.F.slot_str_join PySem.F.type_str_join zS (@jk _ _ _ _) (@ja _ _ _ _ _ (@kU _ _ _ _ _ _ _ (["_law_j","_law_box_here","_law_letters"]) (1) ([0,2]) _ _ _ _ rfl (@zc _ _ _ _ _ _ rfl mr (@ja _ _ _ _ _ (@ji _ _ _ _ _ _ _ _ _ _ _ _ _ _ _ _ GT hr rfl mT kT bT .nil pass0 (@ja _ _ _ _ _ (@pv _ 0 _ _ (by rfl) (by first |exact Or.inl rfl |exact Or.inr (Or.inl rfl) |exact Or.inr (Or.inr rfl)) (by decide) (by decide)) (@ja _ _ _ _ _ (@jf _ _ _ _) (@jc _) (by rfl)) (by rfl)) (by decide) (by rfl) (by rfl)) (@jc _) (by rfl)) (by rfl)) Q5 (fun _ _ _ _ _=>(@jD _ _ (0) _ Q4 rfl (Or.inl rfl) (by first |exact .inl rfl |exact .inr rfl))) (fun _ _ _ _ _=>(@zq _)) (fun _ _ _ _ _=>(@jv _ _ _ _ _ _ _ Jw (@pv _ 2 _ _ (by rfl) (by first |exact Or.inl rfl |exact Or.inr (Or.inl rfl) |exact Or.inr (Or.inr rfl)) (by decide) (by decide)) (@ji _ _ _ _ _ _ _ _ _ _ _ _ _ _ _ _ GT hr rfl mT kT bT .nil pass0 (@ja _ _ _ _ _ (@pv _ 1 _ _ (by rfl) (by first |exact Or.inl rfl |exact Or.inr (Or.inl rfl) |exact Or.inr (Or.inr rfl)) (by decide) (by decide)) (@ja _ _ _ _ _ (@jf _ _ _ _) (@jc _) (by rfl)) (by rfl)) (by decide) (by rfl) (by rfl)) (fun _ _=>rfl))) (by intro _;rfl)) (@jc _) (by rfl)) (by rfl) (by rfl) (by rfl) (by rfl) (by rfl)) (@pv _ 10 _ _ (by rfl) (.inl rfl) (by decide) (by decide))) (by rfl) (.inl rfl))) (@jp _))) (@jd _ _ _ _ _ (@zQ _ _ _ (@jx _ _ _ _ _ _ _ _ (@jq _ _ _ _ _ _ _ _ jZ (@pv _ 11 _ _ (by rfl) (.inl rfl) (by decide) (by decide)) (@jH _ _ _ _ _ (@KA _ _ (by rfl))) rfl) (@jg _ _ _ (@js _ _ (11) _ _ _ _ scNames.nd rfl (Or.inl rfl) (@ju _ _ _ _ _ _ _ _ jP (@jk _ _ _ _) (@pv _ 10 _ _ (by rfl) (.inl rfl) (by decide) (by decide))) (by rfl) (.inl rfl))) (@jp _))) (@jg _ _ _ (@jN _ _ _ _ (@jS _ _ _ _ _ _ _ _ _ _ _ _ PySem.F.plainAttrs_list PySem.F.slot_list_append PySem.F.type_list_append jL (@pv _ 8 _ _ (by rfl) (.inl rfl) (by decide) (by decide)) (@ja _ _ _ _ _ (@pv _ 11 _ _ (by rfl) (.inl rfl) (by decide) (by decide)) (@jc _) (by rfl)) (by rfl) (by rfl) (by rfl) (by rfl) (by rfl)) (by rfl)))))))) (by intro _;rfl)) (@jd _ _ _ _ _ (@zQ _ _ _ (@jx _ _ _ _ _ _ _ _ (@jq _ _ _ _ _ _ _ _ jI (@ji _ _ _ _ _ _ _ _ _ _ _ _ _ _ _ _ GT hr rfl mT kT bT .nil pass0 (@ja _ _ _ _ _ (@pv _ 0 _ _ (by rfl) (.inr (.inl rfl)) (by decide) (by decide)) (@ja _ _ _ _ _ (@jf _ _ _ _) (@jc _) (by rfl)) (by rfl)) (by decide) (by rfl) (by rfl)) (@jf _ _ _ _) (nomark _)) (@jd _ _ _ _ _ (@js _ _ (12) _ _ _ _ scNames.nd rfl (Or.inl rfl) (@jC _ _ _ _ (@KA _ _ (by rfl))) (by rfl) (.inl rfl)) (@jd _ _ _ _ _ (@js _ _ (13) _ _ _ _ scNames.nd rfl (Or.inl rfl) (@jv _ _ _ _ _ _ _ jy (@pv _ 12 _ _ (by rfl) (.inl rfl) (by decide) (by decide)) (@ji _ _ _ _ _ _ _ _ _ _ _ _ _ _ _ _ GT hr rfl mT kT bT .nil pass0 (@ja _ _ _ _ _ (@pv _ 0 _ _ (by rfl) (.inr (.inl rfl)) (by decide) (by decide)) (@ja _ _ _ _ _ (@jf _ _ _ _) (@jc _) (by rfl)) (by rfl)) (by decide) (by rfl) (by rfl)) (fun _ _=>rfl)) (by rfl) (.inl rfl)) (@jg _ _ _ (@jx _ _ _ _ _ _ _ _ (@jq _ _ _ _ _ _ _ _ qM (@pv _ 13 _ _ (by rfl) (.inl rfl) (by decide) (by decide)) (@pv _ 8 _ _ (by rfl) (.inl rfl) (by decide) (by decide)) rfl) (@jg _ _ _ (@qu _ _ _ _ _ _ (@pv _ 13 _ _ (by rfl) (.inl rfl) (by decide) (by decide)) (@Jv _ _ _ _ _ _ _ (@pv _ 8 _ _ (by rfl) (.inl rfl) (by decide) (by decide)) (@ji _ _ _ _ _ _ _ _ _ _ _ _ _ _ _ _ GT hr rfl mT kT bT .nil pass0 (@ja _ _ _ _ _ (@pv _ 0 _ _ (by rfl) (.inr (.inl rfl)) (by decide) (by decide)) (@ja _ _ _ _ _ (@pv _ 1 _ _ (by rfl) (.inl rfl) (by decide) (by decide)) (@jc _) (by rfl)) (by rfl)) (by decide) (by rfl) (by rfl)) z6 (by intro _;rfl)) (by rfl) (by rfl) (by rfl))) (@jp _))))) (@jp _))) (@jg _ _ _ (@jr _ _ _ _ (@pv _ 8 _ _ (by rfl) (.inl rfl) (by decide) (by decide))))))))))))),?_⟩
 try dsimp only[cxOf,Cx.nox,Cx.wish]
 refine seqE fun E0 f0=>f0 _ _ ?_
 refine seqE fun E1 f1=>⟨_,rfl,p,6,rfl,B,by decide,by decide,fun d1 H1 d10 d11 B1 e1=>⟨_,_,rfl,rfl,f1 _ _ ?_⟩⟩
 refine seqE fun E2 f2=>⟨_,rfl,_,rfl,p,_,rfl,B1,by omega,by omega,fun d2 H2 d20 d21 B2 e2=>f2 _ _ ?_⟩
 clear f0 f1 f2
 refine seqE fun E1 f1=>⟨_,rfl,_,rfl,by omega,by omega,?_⟩
 refine qP (p:=p) (by omega) B2 fun ss H3 hss1 hss2 B3 e3 g hg=>f1 _ _ ?_
 clear f1
 have k3:But p H H3:=(But.of_eq e1).trans ((But.of_eq e2).trans (But.of_eq e3))
 have hgp:g≠p:=B3.ne hg
 refine seqE fun E1 f1=>⟨_,rfl,p,26,rfl,B3.upd_new hg,by decide,by decide,fun d4 H4 d40 d41 B4 e4=>f1 _ _ ?_⟩
 refine seqE fun E2 f2=>⟨_,rfl,p,3,rfl,B4,by decide,by decide,fun d5 H5 d50 d51 B5 e5=>f2 _ _ ?_⟩
 clear f1 f2
 have hg5:H5 g=some (.lst (ss.map V.str)):=by rw[e5 g hgp,e4 g hgp];exact jb
 have k5:But p H H5:=(k3.upd_new hg).trans ((But.of_eq e4).trans (But.of_eq e5))
 refine seqE fun E1 f1=>⟨(by decide),fun r hr5=>f1 _ _ ?_⟩
 clear f1
 have hrp:r≠p:=B5.ne hr5
 have hrg:g≠r:=jj hg5 hr5
 have nog:H g=none:=by
  cases z:H g with
  |none=>rfl
  |some o=>have:=k3 g o hgp z;rw[hg]at this;cases this
 have nor:H r=none:=by
  cases z:H r with
  |none=>rfl
  |some o=>have:=k5 r o hrp z;rw[hr5]at this;cases this
 have big:=zv
 refine seqE fun E1 f1=>forE fun J j=>⟨_,rfl,_,rfl,by omega,by omega,j _ _ ?_⟩
 clear j
 refine zx (lo:=0) (NI p g r n d1 d2 d4 d5 ss H) ⟨none,none,none,[],rfl,keepN hg5 hr5,jb,rfl,(fun _ h=>nomatch h),B5.upd_new hr5,k5.upd_new hr5⟩ ?_ ?_
 ·intro E0 _ i σ H' hi fE Gq kq hq'
  obtain⟨ok,oo,ow,ys,rfl,hg',hr',hyl,hy,B',k'⟩:=hq'
  clear f1
  obtain⟨c,hc⟩:=Y2 (z:=letters) (k:=(d4+5*(0+(i:Int))) % 26) (Int.emod_nonneg _ (by decide)) (by rw[Jg];exact Int.emod_lt_of_pos _ (by decide))
  refine kq ?_
  clear kq
  show tSeq (tAsg _ _) _ E0 _ _
  refine seqE fun E1 f1=>⟨_,rfl,_,rfl,_,rfl,_,_,rfl,rfl,.inl ⟨by decide,by decide⟩,_,_,rfl,rfl,_,_,rfl,rfl,(by show(0:Int) < 26;decide),_,_,c,rfl,rfl,by decide,hc,f1 _ _ ?_⟩
  clear f1
  have h1c:(⟨#[c]⟩:Str).length=1:=rfl
  have hlc:low ⟨#[c]⟩:=Xr (Int.emod_nonneg _ (by decide)) (Int.emod_lt_of_pos _ (by decide)) hc
  refine seqE fun E1 f1=>midE (Rw p g r n d1 d2 d4 d5 i c ss ys H 6) (fun E2 _ fm=>?_) fun σ' H1 hq'=>?_
  ·clear f1 fE
   refine⟨rfl,_,rfl,_,rfl,_,rfl,g,_,rfl,SqL.of hg',fun s1 n1=>?_⟩
   have z1:=qF (ys:=cutS ss none (some d2)) fun y hy=>(hss2 y (j9 hy)).1
   have z2:=zJ ss none (some d2)
   refine⟨_,s1,cutS ss none (some d2),rfl,rfl,SqL.of (by rw[jb,jM]),by decide,by omega,?_⟩
   have j1:=KD (z:="") (ys:=cutS ss none (some d2)) (by decide+kernel) fun y hy=>(hss2 y (j9 hy)).1
   refine⟨_,rfl,_,_,rfl,rfl,by omega,?_⟩
   refine⟨rfl,_,rfl,_,rfl,_,_,rfl,rfl,_,rfl,g,_,rfl,SqL.of (keepN hg' n1),fun s2 n2=>?_⟩
   have z3:=qF (ys:=cutS ss (some (d2+1)) none) fun y hy=>(hss2 y (j9 hy)).1
   have z4:=zJ ss (some (d2+1)) none
   refine⟨_,s2,cutS ss (some (d2+1)) none,rfl,rfl,SqL.of (by rw[jb,jM]),by decide,by omega,?_⟩
   have j2:=KD (z:="") (ys:=cutS ss (some (d2+1)) none) (by decide+kernel) fun y hy=>(hss2 y (j9 hy)).1
   refine⟨_,_,rfl,rfl,by rw[slen];omega,?_⟩
   have lo1:=qI (ys:=cutS ss none (some d2)) fun y hy=>(hss2 y (j9 hy)).2
   have lo2:=qI (ys:=cutS ss (some (d2+1)) none) fun y hy=>(hss2 y (j9 hy)).2
   have cf:=cut_fit hss1 d20 d21
   exact fm _ _ ⟨_,⟨zW (zW lo1 hlc) lo2,by rw[slen,slen];omega,by rw[slen,slen];omega⟩,rfl,keepN (keepN hg' n1) n2,keepN (keepN hr' n1) n2,(B'.upd_new n1).upd_new n2,(k'.upd_new n1).upd_new n2⟩
  obtain⟨w1,hw1,rfl,g1,r1,B1,k1⟩:=hq'
  refine f1 _ _ ?_
  clear f1
  have hw1L:=hw1.2.2
  refine seqE fun E1 f1=>midE (Rw p g r n d1 d2 d4 d5 i c ss ys H 7) (fun E2 _ fm=>?_) fun σ' H2 hq'=>?_
  ·clear f1 fE
   refine⟨_,rfl,rfl,_,rfl,?_⟩
   refine ite2 (fun ca=>?_) (fun ca=>?_)
   ·refine⟨_,rfl,_,_,rfl,rfl,(by show(0:Int) < 2;decide),rfl,_,rfl,?_⟩
    refine ite2 (fun cb=>?_) (fun cb=>?_)
    ·have hz:(Str.ofString "z").length=1:=by decide+kernel
     refine⟨_,rfl,_,_,rfl,rfl,by rw[hz];omega,?_⟩
     exact fm _ _ ⟨_,⟨zW hw1.1 (by unfold low;decide+kernel),by rw[slen,hz];omega,by rw[slen,hz];omega⟩,rfl,g1,r1,B1,k1⟩
    ·exact fm _ _ ⟨w1,⟨hw1.1,hw1.2.1,by omega⟩,rfl,g1,r1,B1,k1⟩
   ·exact iteF (fm _ _ ⟨w1,⟨hw1.1,hw1.2.1,by omega⟩,rfl,g1,r1,B1,k1⟩)
  obtain⟨w2,hw2,rfl,g2,r2,B2,k2⟩:=hq'
  refine f1 _ _ ?_
  clear f1
  have hw2L:=hw2.2.2
  refine seqE fun E1 f1=>midE (Rw p g r n d1 d2 d4 d5 i c ss ys H 8) (fun E2 _ fm=>?_) fun σ' H3 hq'=>?_
  ·clear f1 fE
   refine⟨_,rfl,rfl,_,rfl,?_⟩
   refine ite2 (fun ca=>?_) (fun ca=>?_)
   ·refine⟨rfl,_,rfl,p,8,rfl,B2,by decide,by decide,fun d6 H6 d60 d61 B6 e6=>?_⟩
    refine⟨_,rfl,by omega,by omega,?_⟩
    refine qP (p:=p) (by omega) B6 fun tt H7 ht1 ht2 B7 e7 g7 n7=>?_
    have jt:=KD (z:="") (ys:=tt) (by decide+kernel) fun y hy=>(ht2 y hy).1
    have zt:=qF fun y hy=>(ht2 y hy).1
    refine⟨_,g7,tt,rfl,rfl,SqL.of jb,by decide,by omega,?_⟩
    refine⟨_,rfl,_,_,rfl,rfl,by omega,?_⟩
    have g8:H7 g=some (.lst (ss.map V.str)):=by rw[e7 g hgp,e6 g hgp];exact g2
    have r8:H7 r=some (.lst (ys.map V.str)):=by rw[e7 r hrp,e6 r hrp];exact r2
    exact fm _ _ ⟨_,⟨zW (qI fun y hy=>(ht2 y hy).2) hlc,by rw[slen];omega,by rw[slen];omega⟩,rfl,keepN g8 n7,keepN r8 n7,B7.upd_new n7,(k2.trans ((But.of_eq e6).trans (But.of_eq e7))).upd_new n7⟩
   ·exact fm _ _ ⟨w2,⟨hw2.1,hw2.2.1,by omega⟩,rfl,g2,r2,B2,k2⟩
  obtain⟨w3,hw3,rfl,g3,r3,B3,k3⟩:=hq'
  refine f1 _ _ ?_
  clear f1
  have hw3L:=hw3.2.2
  refine seqE fun E1 f1=>midE (RwN p g r n d1 d2 d4 d5 i c ss ys H) (fun E2 _ fm=>?_) fun σ' H4 hq'=>?_
  ·clear f1 fE
   refine⟨_,rfl,by decide,fun t0 n0=>?_⟩
   refine⟨t0,_,rfl,.inr (SqT.of jb),rfl,X4 (by rfl),_,rfl,?_⟩
   refine ite2 (fun ca=>?_) (fun ca=>?_)
   ·have hq:(Str.ofString "qqqqqqq").length=7:=by decide+kernel
    refine⟨_,rfl,_,_,rfl,rfl,by rw[hq];omega,?_⟩
    exact fm _ _ ⟨_,⟨⟨zW (by unfold low;decide+kernel) hlc,by rw[slen,hq];omega,by rw[slen,hq];omega⟩,fun m=>by
      have e8:∀y∈resv,y.length < 8:=by decide+kernel
      have:=e8 _ m
      rw[slen,hq]at this
      omega⟩,rfl,keepN g3 n0,keepN r3 n0,B3.upd_new n0,k3.upd_new n0⟩
   ·exact fm _ _ ⟨w3,⟨hw3,not_inV (ys:=resv) (Bool.eq_false_iff.mpr ca)⟩,rfl,keepN g3 n0,keepN r3 n0,B3.upd_new n0,k3.upd_new n0⟩
  obtain⟨w4,hw4,rfl,g4,r4,B4,k4⟩:=hq'
  refine f1 _ _ ?_
  clear f1
  refine⟨_,rfl,.inl ⟨rfl,_,SqL.of r4⟩,_,rfl,r,_,_,rfl,rfl,r4,by rw[List.length_map];omega,?_⟩
  refine fE _ _ ⟨_,_,_,ys++[w4],rfl,by rw[jh hrg];exact g4,by rw[jb,List.map_append];rfl,by rw[List.length_append,hyl];rfl,fun y hm=>?_,B4.eq (jh (Ne.symm hrp)),k4.upd_own nor⟩
  rcases List.mem_append.mp hm with hm |hm
  ·exact hy y hm
  ·rw[List.mem_singleton.mp hm];exact hw4
 ·intro σ H' hq'
  refine opq fun Gq kq=>?_
  obtain⟨ok,oo,ow,ys,rfl,hg',hr',hyl,hy,B',k'⟩:=hq'
  refine kq ?_
  clear kq
  have hyn:(ys.length:Int)=n:=by omega
  refine f1 _ _ ?_
  clear f1
  refine seqF fun F1 f1=>midE (Rf p r n H) (fun E2 _ fm=>?_) fun σ' H1 hq'=>?_
  ·clear f1
   refine ifG fun G' g'=>⟨_,rfl,p,6,rfl,B',by decide,by decide,fun d6 H6 d60 d61 B6 e6=>⟨rfl,_,rfl,g' _ _ ?_⟩⟩
   clear g'
   have r6:H6 r=some (.lst (ys.map V.str)):=by rw[e6 r hrp];exact hr'
   have k6:But p H H6:=k'.trans (But.of_eq e6)
   refine ite2 (fun ca=>?_) (fun ca=>?_)
   ·refine seqE fun E3 f3=>⟨by decide,fun t0 n0=>f3 _ _ ?_⟩
    clear f3
    have t0p:t0≠p:=B6.ne n0
    refine seqE fun E4 f3=>⟨_,rfl,_,rfl,p,13,rfl,B6.upd_new n0,by decide,by decide,fun d7 H7 d70 d71 B7 e7=>?_⟩
    have t7:H7 t0=some (.lst ((["num","var","op","go","ask","back","chain","sets","iff","ends","calls","reads","gives"]:List Str).map V.str)):=((e7 t0 t0p).trans jb).trans (congrArg (fun l=>some (HO.lst l)) (by decide+kernel))
    have r7:H7 r=some (.lst (ys.map V.str)):=by rw[e7 r hrp];exact keepN r6 n0
    have k7:But p H H7:=(k6.upd_new n0).trans (But.of_eq e7)
    obtain⟨od,hod,hat⟩:=Kw (ys:=(["num","var","op","go","ask","back","chain","sets","iff","ends","calls","reads","gives"]:List Str)) d70 (by simpa using d71)
    refine⟨t0,_,_,_,rfl,rfl,SqL.of t7,hat,f3 _ _ ?_⟩
    clear f3
    have hol:WN od:=by
     have:∀y∈(["num","var","op","go","ask","back","chain","sets","iff","ends","calls","reads","gives"]:List Str),WN y:=by unfold WN WL low;decide+kernel
     exact this od hod
    refine ifG fun G' g'=>⟨_,rfl,_,rfl,r,_,rfl,.inl (SqL.of r7),rfl,kJ _,_,rfl,g' _ _ ?_⟩
    clear g'
    refine ite2 (fun cb=>?_) (fun cb=>?_)
    ·refine⟨_,rfl,_,rfl,_,rfl,_,rfl,p,n,rfl,B7,by omega,by omega,fun d8 H8 d80 d81 B8 e8=>?_⟩
     have r8:H8 r=some (.lst (ys.map V.str)):=by rw[e8 r hrp];exact r7
     have k8:But p H H8:=k7.trans (But.of_eq e8)
     refine⟨r,_,d8,d8.toNat,rfl,rfl,r8,?_,?_⟩
     ·unfold ixN
      rw[if_pos d80,List.length_map,if_pos (by omega)]
     refine fm _ _ ⟨rfl,ys.set d8.toNat od,by rw[jb,ZK],by rw[List.length_set];exact hyn,fun y hm=>?_,B8.eq (jh (Ne.symm hrp)),k8.upd_own nor⟩
     rcases List.mem_or_eq_of_mem_set hm with hm |hm
     ·exact hy y hm
     ·rw[hm];exact hol
    ·exact fm _ _ ⟨rfl,ys,r7,hyn,hy,B7,k7⟩
   ·exact fm _ _ ⟨rfl,ys,r6,hyn,hy,B6,k6⟩
  obtain⟨hs8,ys1,r1,l1,y1,B1,k1⟩:=hq'
  refine f1 _ _ ?_
  exact⟨_,hs8,q r ys1 H1 nor r1 l1 y1 B1 k1⟩
def TMono(H H':Hp):Prop:=∀b xs,H b=some (.tup xs)->H' b=some (.tup xs)
theorem Same.tm{H H':Hp}(a:Same H H'):TMono H H':=fun b xs h=>a b _ h
theorem je{H:Hp}{p:Addr}{o:HO}(n:H p=none):Same H (upd H p o):=fun b u e=>keepN e n
theorem ifY{b:Bool}{A B:Prop}(h:b=true)(x:A):if b=true then A else B:=by rw[if_pos h];exact x
theorem ifX{b:Bool}{A B:Prop}(h:b=false)(x:B):if b=true then A else B:=by rw[h,if_neg Bool.false_ne_true];exact x
theorem line24:sizeLine=16777216:=by rw[sizeLine_eq]
theorem BoxAt.same{H H':Hp}{p:Addr}(B:BoxAt H p)(s:Same H H'):BoxAt H' p:=by
 refine opq fun Gq kq=>?_
 obtain⟨a,b,h1,h2,h3,h⟩:=B.ob
 refine kq ?_
 clear kq
 exact⟨a,b,h1,h2,h3,s _ _ h⟩
theorem But.of_same{p:Addr}{H H':Hp}(s:Same H H'):But p H H':=fun b o _ e=>s _ _ e
theorem But.tm{p:Addr}{H H':Hp}(k:But p H H')(B:BoxAt H p):TMono H H':=fun b xs e=>by
 refine opq fun Gq kq=>?_
 obtain⟨a,c,_,_,_,hp⟩:=B.ob
 refine kq ?_
 clear kq
 exact k b _ (jU e hp (by intro w;cases w)) e
theorem zL{K:Frag}{a:Addr}{xs:List V}{te:TE}{Qf:List V->Hp->Prop}{σt:L2.St}{H:Hp}(hz:xs.length<=sizeLine)(Pv:Nat->List V->Hp->Prop)(h0:Pv 0 [] H)
  (hk:∀i ys H',Pv i ys H'->SqL K H' a xs/\ys.length<=i) (hs:∀i x ys H',xs[i]?=some x->Pv i ys H'->te (some x::σt) H' fun y H2=>Pv (i+1) (ys++[y]) H2) (hd:∀ys H',Pv xs.length ys H'->Qf ys H'):
  CompR (Itl K a) 1 σt (gName 0) tAll te Qf H:=by
 refine⟨fun i m ys H'=>m=xs.length - i/\i<=xs.length/\Pv i ys H',⟨xs.length,by simp,Nat.zero_le _,h0⟩,?_⟩
 intro i m ys H' hq'
 refine opq fun Gq kq=>?_
 obtain⟨rfl,hi,p⟩:=hq'
 refine kq ?_
 clear kq
 obtain⟨hq,hy⟩:=hk i ys H' p
 by_cases hlt:i < xs.length
 ·refine .inr ⟨⟨xs,xs[i],hq,List.getElem?_eq_getElem hlt⟩,by omega,Pv (i+1),fun ys' H2 p'=>⟨xs.length - (i+1),by omega,rfl,hlt,p'⟩,fun v H2 ts hts y=>?_⟩
  obtain⟨e,y⟩:=y
  subst e
  obtain⟨w,rfl⟩:=len1 hts
  exact⟨⟨[some _],rfl,rfl⟩,hs i v ys H2 (y xs hq) p⟩
 ·have e:i=xs.length:=by omega
  subst e
  exact .inl ⟨⟨xs,hq,Nat.le_refl _⟩,hd ys H' p⟩
theorem qY{K:Frag}{a:Addr}{xs:List V}{te:TE}{Qf:List V->Hp->Prop}{σt:L2.St}{H:Hp}(hz:xs.length<=sizeLine)(Pv:Nat->List V->Hp->Prop)(h0:Pv 0 [] H)
  (hk:∀i ys H',Pv i ys H'->SqT K H' a xs/\ys.length<=i) (hs:∀i x ys H',xs[i]?=some x->Pv i ys H'->te (some x::σt) H' fun y H2=>Pv (i+1) (ys++[y]) H2) (hd:∀ys H',Pv xs.length ys H'->Qf ys H'):
  CompR (Itt K a) 1 σt (gName 0) tAll te Qf H:=by
 refine⟨fun i m ys H'=>m=xs.length - i/\i<=xs.length/\Pv i ys H',⟨xs.length,by simp,Nat.zero_le _,h0⟩,?_⟩
 intro i m ys H' hq'
 refine opq fun Gq kq=>?_
 obtain⟨rfl,hi,p⟩:=hq'
 refine kq ?_
 clear kq
 obtain⟨hq,hy⟩:=hk i ys H' p
 by_cases hlt:i < xs.length
 ·refine .inr ⟨⟨xs,xs[i],hq,List.getElem?_eq_getElem hlt⟩,by omega,Pv (i+1),fun ys' H2 p'=>⟨xs.length - (i+1),by omega,rfl,hlt,p'⟩,fun v H2 ts hts y=>?_⟩
  obtain⟨e,y⟩:=y
  subst e
  obtain⟨w,rfl⟩:=len1 hts
  exact⟨⟨[some _],rfl,rfl⟩,hs i v ys H2 (y xs hq) p⟩
 ·have e:i=xs.length:=by omega
  subst e
  exact .inl ⟨⟨xs,hq,Nat.le_refl _⟩,hd ys H' p⟩
noncomputable abbrev sNumber:Stmt:=top 42
noncomputable abbrev sTerm:Stmt:=top 44
inductive Tm where
 |num (n:Int) |var (x:Str) |op (i:Nat) (a b:Tm)
noncomputable def Tm.depth:Tm->Nat
 | .num _=>0
 | .var _=>0
 | .op _ a b=>max a.depth b.depth+1
noncomputable def sgns:Str:="+-*/<="
theorem ZM:sgns.length=6:=by decide+kernel
noncomputable def sgn(i:Nat):Str:=⟨#[sgns.cps.toList.getD i 0]⟩
theorem sgn_at{d:Int}(h0:0<=d)(h1:d < 6):atI sgns.cps.toList d=some (sgns.cps.toList.getD d.toNat 0):=by
 have hl:sgns.cps.toList.length=6:=by decide+kernel
 have hk:d.toNat < sgns.cps.toList.length:=by omega
 have ek:d=((d.toNat:Nat):Int):=by omega
 have q:atI sgns.cps.toList ((d.toNat:Nat):Int)=some (sgns.cps.toList.getD d.toNat 0):=jo (by rw[List.getD_eq_getElem?_getD,List.getElem?_eq_getElem hk];rfl)
 rw[<- ek]at q
 exact q
def Tm.Good:Tm->Prop
 | .num n=>0<=n/\n < 1000000000000000000
 | .var x=>WN x
 | .op i a b=>i < 6/\a.Good/\b.Good
def TmAt(H:Hp):Tm->Addr->Prop
 | .num n,p=>H p=some (.tup [.str "num",.int n])
 | .var x,p=>H p=some (.tup [.str "var",.str x])
 | .op i a b,p=>∃q r,H p=some (.tup [.str "op",.str (sgn i),.ref q,.ref r])/\TmAt H a q/\TmAt H b r
theorem TmAt.mono{H H':Hp}(h:∀b xs,H b=some (.tup xs)->H' b=some (.tup xs)):∀{t:Tm} {p:Addr},TmAt H t p->TmAt H' t p
 | .num _,_,e=>h _ _ e
 | .var _,_,e=>h _ _ e
 | .op _ _ _,_,⟨q,r,e,e1,e2⟩=>⟨q,r,h _ _ e,TmAt.mono h e1,TmAt.mono h e2⟩
theorem TmAt.same{H H':Hp}(h:Same H H'){t:Tm}{p:Addr}(e:TmAt H t p):TmAt H' t p:=e.mono fun b xs z=>h b _ z
theorem TmAt.but{H H':Hp}{p:Addr}(B:BoxAt H p)(k:But p H H'){t:Tm}{a:Addr}(e:TmAt H t a):TmAt H' t a:=e.mono fun b xs z=>by
 refine opq fun Gq kq=>?_
 obtain⟨x,y,_,_,_,hp⟩:=B.ob
 refine kq ?_
 clear kq
 exact k b _ (jU z hp (by intro q;cases q)) z
theorem TmAt.new{H:Hp}{r:Addr}{o:HO}(n:H r=none){t:Tm}{a:Addr}(e:TmAt H t a):TmAt (upd H r o) t a:=e.mono fun b xs z=>keepN z n
def spNum:Sp:=fun vs H Q _=>∃p:Addr,vs=[.ref p]/\BoxAt H p/\∀(d:Int) (H':Hp),0<=d->d < 1000000000000000000->BoxAt H' p->(∀b,b≠p->H' b=H b)->Q (.int d) H'
def spTerm(n:Nat):Sp:=fun vs H Q _=>∃(p g:Addr) (d:Int) (ys:List Str),vs=[.ref p,.ref g,.int d]/\BoxAt H p/\H g=some (.lst (ys.map V.str))/\1<=ys.length/\ys.length<=20/\(∀y∈ys,WN y)/\0<=d/\d < (n:Int)/\
 ∀(r:Addr) (T:Tm) (H':Hp),TmAt H' T r->(T.depth:Int)<=d->T.Good->BoxAt H' p->But p H H'->Q (.ref r) H'
theorem zr{H:Hp}{p g:Addr}{ys:List Str}(B:BoxAt H p)(h:H g=some (.lst (ys.map V.str))):g≠p:=by
 refine opq fun Gq kq=>?_
 obtain⟨x,y,_,_,_,hp⟩:=B.ob
 refine kq ?_
 clear kq
 refine jU h hp fun z=>?_
 injection z with z
 match ys,z with
 |a::r,z=>injection z with z1 _;cases z1
theorem scNumber:FnScope ["_law_box_here"] ["_law_box_here"] (defScope sNumber):=fsc
theorem Yi{f:Addr}{fd:FuncData}(F:Fun K "_law_number" "_law_number" sNumber f fd)(GT:FnOk P w K mg base CX0 1 fT fdT ["_law_box_here","_law_wide"] spTake)(bT:Binds K fdT ["_law_box_here","_law_wide"] [])(kT:keepIn K (.ref fT)=true)(mT:mg "_law_take"=some (.ref fT)):FnOk P w K mg base CX0 2 f fd ["_law_box_here"] spNum:=by
 refine F.ok scNumber (fun vs H Q E h=>?_) (fun cdv A outer s H vs Q E hr h=>?_)
 ·obtain⟨p,rfl,_⟩:=h
  rfl
 refine opq fun Gq kq=>?_
 obtain⟨p,rfl,B,q⟩:=h
 refine kq ?_
 clear kq
 refine⟨_,(jd (jx (@jq _ _ _ _ _ _ _ _ jI (ji GT hr rfl mT kT bT .nil pass0 (ja (pv 0) (ja jf jc))) jf (nomark _)) (jg (jr (ji GT hr rfl mT kT bT .nil pass0 (ja (pv 0) (ja (ju Ko jf jf) jc))))) jp) (jg (jr (ji GT hr rfl mT kT bT .nil pass0 (ja (pv 0) (ja jf jc)))))),?_⟩
 try dsimp only[cxOf,Cx.nox,Cx.wish]
 refine⟨_,rfl,p,4,rfl,B,by decide,by decide,fun d1 H1 d10 d11 B1 e1=>⟨rfl,_,rfl,?_⟩⟩
 refine ite2 (fun c=>?_) (fun c=>?_)
 ·refine⟨_,rfl,_,_,rfl,rfl,⟨by decide,by decide,by decide⟩,p,_,rfl,B1,by decide,by decide,fun d2 H2 d20 d21 B2 e2=>?_⟩
  have z:=ten18
  exact q d2 H2 d20 (by omega) B2 fun b n=>(e2 b n).trans (e1 b n)
 ·refine⟨_,rfl,p,9,rfl,B1,by decide,by decide,fun d2 H2 d20 d21 B2 e2=>?_⟩
  exact q d2 H2 d20 (by omega) B2 fun b n=>(e2 b n).trans (e1 b n)
theorem scTerm:FnScope ["_law_box_here","_law_names_here","_law_deep","_law_kind","_law_one"] ["_law_box_here","_law_names_here","_law_deep"] (defScope sTerm):=fsc
theorem ok_term{f:Addr}{fd:FuncData}(F:Fun K "_law_term" "_law_term" sTerm f fd){n:Nat}(G:FnOk P w K mg base CX0 (n+2) f fd ["_law_box_here","_law_names_here","_law_deep"] (spTerm n))(bF:Binds K fd ["_law_box_here","_law_names_here","_law_deep"] [])(kF:keepIn K (.ref f)=true)(mF:mg "_law_term"=some (.ref f))(GT:FnOk P w K mg base CX0 1 fT fdT ["_law_box_here","_law_wide"] spTake)(bT:Binds K fdT ["_law_box_here","_law_wide"] [])(kT:keepIn K (.ref fT)=true)(mT:mg "_law_take"=some (.ref fT))(GN:FnOk P w K mg base CX0 2 fN fdN ["_law_box_here"] spNum)(bN:Binds K fdN ["_law_box_here"] [])(kN:keepIn K (.ref fN)=true)(mN:mg "_law_number"=some (.ref fN))(ml:mg "len"=none):FnOk P w K mg base CX0 (n+3) f fd ["_law_box_here","_law_names_here","_law_deep"] (spTerm (n+1)):=by
 refine F.ok scTerm (fun vs H Q E h=>?_) (fun cdv A outer s H vs Q E hr h=>?_)
 ·refine opq fun Gq kq=>?_
  obtain⟨p,g,d,ys,rfl,_⟩:=h
  refine kq ?_
  clear kq
  rfl
 refine opq fun Gq kq=>?_
 obtain⟨p,g,d,ys,rfl,B,hg,hy1,hy2,hyw,hd0,hd1,q⟩:=h
 refine kq ?_
 clear kq
 refine⟨_,(jd (js (i:=3) scTerm.nd rfl (Or.inl rfl) (ji GT hr.m rfl mT kT bT .nil pass0 (ja (pv 0) (ja jf jc)))) (jd (zQ (jx (@PW.pt _ _ _ (@kL _ _ _ _ _ _ _ (@jq _ _ _ _ _ _ _ _ qA (pv 3) jf (nomark _)) (@kC _ _ _ _ (@PW.pt _ _ _ (@zi _ _ _ _ _ _ _ (@jq _ _ _ _ _ _ _ _ qo (pv 3) jf (nomark _)) (@zd _ _ _ _ (@jq _ _ _ _ _ _ _ _ jI (pv 2) jf (nomark _)))))))) (jg (jr (jH (ja jk (ja (ji GN hr.m rfl mN kN bN .nil pass0 (ja (pv 0) jc)) jc))))) jp)) (jd (jx (@jq _ _ _ _ _ _ _ _ qA (pv 3) jf (nomark _)) (jg (jr (jH (ja jk (ja (@jv _ _ _ _ _ _ _ jy (pv 1) (ji GT hr.m rfl mT kT bT .nil pass0 (ja (pv 0) (ja (@jz _ _ _ _ _ _ _ _ _ jw rfl ml PySem.boot_len (ja (pv 1) jc) (by decide) (by decide) (by rfl) (by rfl)) jc))) (fun _ _=>rfl)) jc))))) jp) (jd (js (i:=4) scTerm.nd rfl (Or.inl rfl) (ji G hr rfl mF kF bF .nil pass0 (ja (pv 0) (ja (pv 1) (ja (ju zP (pv 2) jf) jc))))) (jg (jr (jH (ja jk (ja (@jv _ _ _ _ _ _ _ Jw jk (ji GT hr.m rfl mT kT bT .nil pass0 (ja (pv 0) (ja jf jc))) (fun _ _=>rfl)) (ja (pv 4) (ja (ji G hr rfl mF kF bF .nil pass0 (ja (pv 0) (ja (pv 1) (ja (ju zP (pv 2) jf) jc)))) jc))))))))))),?_⟩
 try dsimp only[cxOf,Cx.nox,Cx.wish]
 have big:=zv
 have hgp:g≠p:=zr B hg
 refine seqF fun F1 f1=>⟨_,rfl,p,6,rfl,B,by decide,by decide,fun kd H1 k0 k1 B1 e1=>f1 _ _ ?_⟩
 clear f1
 have hg1:H1 g=some (.lst (ys.map V.str)):=by rw[e1 g hgp];exact hg
 have K1:But p H H1:=But.of_eq e1
 have num:∀(d2:Int) (H2:Hp) (r:Addr),0<=d2->d2 < 1000000000000000000->BoxAt H2 p->(∀b,b≠p->H2 b=H1 b)->H2 r=none->Q (.ref r) (upd H2 r (.tup [.str "num",.int d2])):=fun d2 H2 r d0 d1 B2 e2 nr=>
  q r (.num d2) _ jb (by show((0:Nat):Int)<=d;omega) ⟨d0,d1⟩ (B2.upd_new nr) ((K1.trans (But.of_eq e2)).upd_new nr)
 refine seqF fun F1 f1=>midE (fun σ' H'=>σ'=[some (.ref p),some (.ref g),some (.int d),some (.int kd),none]/\H'=H1/\(kd<=3∨d≠0)) (fun E2 eR fm=>?_) fun σ' H' hq'=>?_
 ·clear f1
  refine ifG fun G' g'=>⟨_,rfl,_,_,rfl,rfl,_,rfl,?_⟩
  refine ite2 (fun c=>?_) (fun c=>?_)
  ·refine g' _ _ (iteT ?_)
   show tRet _ E2 _ _
   unfold tRet
   rw[eR]
   exact⟨_,rfl,p,rfl,B1,fun d2 H2 d0 d1 B2 e2=>⟨sz2,fun r nr=>num d2 H2 r d0 d1 B2 e2 nr⟩⟩
  refine⟨_,rfl,_,_,rfl,rfl,_,rfl,?_⟩
  refine ite2 (fun c2=>?_) (fun c2=>?_)
  ·refine⟨_,rfl,rfl,_,rfl,g' _ _ ?_⟩
   refine ite2 (fun c3=>?_) (fun c3=>?_)
   ·show tRet _ E2 _ _
    unfold tRet
    rw[eR]
    exact⟨_,rfl,p,rfl,B1,fun d2 H2 d0 d1 B2 e2=>⟨sz2,fun r nr=>num d2 H2 r d0 d1 B2 e2 nr⟩⟩
   ·exact fm _ _ ⟨rfl,rfl,.inr fun z=>c3 (by rw[z];rfl)⟩
  ·have c2':¬(3:Int) < kd:=of_decide_eq_false (Bool.eq_false_iff.mpr c2)
   exact g' _ _ (iteF (fm _ _ ⟨rfl,rfl,.inl (by omega)⟩))
 obtain⟨rfl,eH,hk⟩:=hq'
 rw[eH]
 refine f1 _ _ ?_
 clear f1
 refine seqF fun F1 f1=>ifG fun G' g'=>⟨_,rfl,_,_,rfl,rfl,_,rfl,g' _ _ ?_⟩
 clear g'
 refine ite2 (fun c=>?_) (fun c=>f1 _ _ ?_)
 ·-- a variable
  refine⟨_,rfl,_,rfl,_,rfl,g,_,rfl,.inl (SqL.of hg1),p,_,rfl,B1,by rw[List.length_map];omega,by rw[List.length_map];omega,fun d2 H2 d20 d21 B2 e2=>?_⟩
  rw[List.length_map]at d21
  obtain⟨y,hy,hat⟩:=Kw (ys:=ys) d20 d21
  have hg2:H2 g=some (.lst (ys.map V.str)):=by rw[e2 g hgp];exact hg1
  refine⟨g,_,_,_,rfl,rfl,SqL.of hg2,hat,sz2,fun r nr=>?_⟩
  exact q r (.var y) _ jb (by show((0:Nat):Int)<=d;omega) (hyw y hy) (B2.upd_new nr) ((K1.trans (But.of_eq e2)).upd_new nr)
 ·have c':¬kd < (4:Int):=of_decide_eq_false (Bool.eq_false_iff.mpr c)
  have hd:d≠0:=hk.resolve_left (by omega)
  refine⟨_,rfl,_,rfl,_,rfl,_,_,rfl,rfl,p,g,d - 1,ys,rfl,B1,hg1,hy1,hy2,hyw,by omega,by omega,fun r1 T1 H2 t1 dp1 gd1 B2 k2=>?_⟩
  have hg2:H2 g=some (.lst (ys.map V.str)):=k2 g _ hgp hg1
  refine⟨_,rfl,p,6,rfl,B2,by decide,by decide,fun s3 H3 s30 s31 B3 e3=>?_⟩
  have hg3:H3 g=some (.lst (ys.map V.str)):=by rw[e3 g hgp];exact hg2
  have k3:But p H2 H3:=But.of_eq e3
  refine⟨sgns,_,_,rfl,rfl,(by rw[ZM];omega),sgn_at s30 s31,?_⟩
  refine⟨_,rfl,_,rfl,_,rfl,_,rfl,_,_,rfl,rfl,p,g,d - 1,ys,rfl,B3,hg3,hy1,hy2,hyw,by omega,by omega,fun r2 T2 H4 t2 dp2 gd2 B4 k4=>?_⟩
  refine⟨sz4,fun r nr=>?_⟩
  have t1':TmAt H4 T1 r1:=(t1.but B2 k3).but B3 k4
  refine q r (.op s3.toNat T1 T2) _ ⟨r1,r2,jb,t1'.new nr,t2.new nr⟩ ?_ ⟨by omega,gd1,gd2⟩ (B4.upd_new nr) (((K1.trans k2).trans (k3.trans k4)).upd_new nr)
  show((max T1.depth T2.depth+1:Nat):Int)<=d
  omega
theorem no_term{f:Addr}{fd:FuncData}:FnOk P w K mg base CX0 2 f fd ["_law_box_here","_law_names_here","_law_deep"] (spTerm 0):=by
 have no:∀vs H Q E,¬spTerm 0 vs H Q E:=fun vs H Q E h=>by
  refine opq fun Gq kq=>?_
  obtain⟨p,g,d,ys,_,_,_,_,_,_,h0,h1,_⟩:=h
  refine kq ?_
  clear kq
  have h1':d < ((0:Nat):Int):=h1
  omega
 exact⟨fun vs H Q E h=>absurd h (no vs H Q E),fun A outer s H args us vs Q E _ _ _ _ h=>absurd h (no vs H Q E)⟩
theorem terms{f fT fN:Addr}{fd fdT fdN:FuncData}(F:Fun K "_law_term" "_law_term" sTerm f fd)(bF:Binds K fd ["_law_box_here","_law_names_here","_law_deep"] [])(mF:mg "_law_term"=some (.ref f))(GT:FnOk P w K mg base CX0 1 fT fdT ["_law_box_here","_law_wide"] spTake)(bT:Binds K fdT ["_law_box_here","_law_wide"] [])(kT:keepIn K (.ref fT)=true)(mT:mg "_law_take"=some (.ref fT))(GN:FnOk P w K mg base CX0 2 fN fdN ["_law_box_here"] spNum)(bN:Binds K fdN ["_law_box_here"] [])(kN:keepIn K (.ref fN)=true)(mN:mg "_law_number"=some (.ref fN))(ml:mg "len"=none):
  ∀n:Nat,FnOk P w K mg base CX0 (n+2) f fd ["_law_box_here","_law_names_here","_law_deep"] (spTerm n)
 |0=>no_term
 |n+1=>ok_term F (terms F bF mF GT bT kT mT GN bN kN mN ml n) bF F.kp mF GT bT kT mT GN bN kN mN ml
inductive Lf where
 |rd (x:Str) (T:Tm)
 |st (x:Str) (T:Tm)
 |wr (T U:Tm)
 |cl (x f:Str) (ts:List Tm)
 |gv (T:Tm)
def TmsV(H:Hp):List Tm->List V->Prop
 | [],vs=>vs=[]
 |T::Ts,vs=>∃a r,vs= .ref a::r/\TmAt H T a/\TmsV H Ts r
theorem TmsV.mono{H H':Hp}(k:TMono H H'){Ts:List Tm}:∀{vs:List V},TmsV H Ts vs->TmsV H' Ts vs:=by
 induction Ts with
 |nil=>exact fun h=>h
 |cons T Ts ih=>rintro vs ⟨a,r,e,h1,h2⟩;exact⟨a,r,e,h1.mono k,ih h2⟩
theorem TmsV.len{H:Hp}{Ts:List Tm}:∀{vs:List V},TmsV H Ts vs->vs.length=Ts.length:=by
 induction Ts with
 |nil=>intro vs h;have e:vs=[]:=h;rw[e];rfl
 |cons T Ts ih=>rintro vs ⟨a,r,e,h1,h2⟩;rw[e,List.length_cons,List.length_cons,ih h2]
theorem TmsV.at{H:Hp}{Ts:List Tm}:∀{vs:List V},TmsV H Ts vs->∀(i:Nat) (v:V),vs[i]?=some v->∃T a,Ts[i]?=some T/\v= .ref a/\TmAt H T a:=by
 induction Ts with
 |nil=>intro vs h i v hv;have e:vs=[]:=h;rw[e]at hv;simp at hv
 |cons U Ts ih=>
  rintro vs ⟨b,r,e,h1,h2⟩ i v hv
  cases i with
  |zero=>rw[e]at hv;cases hv;exact⟨U,b,rfl,rfl,h1⟩
  |succ i=>rw[e]at hv;simpa using ih h2 i v (by simpa using hv)
theorem Xs{H:Hp}:∀{ts:List (Addr×Tm)},(∀c∈ts,TmAt H c.2 c.1)->TmsV H (ts.map (·.2)) (ts.map fun c=>V.ref c.1)
 | [],_=>rfl
 |c::r,h=>⟨c.1,_,rfl,h c List.mem_cons_self,Xs fun d hd=>h d (List.mem_cons_of_mem _ hd)⟩
def LfV(H:Hp):Lf->List V->Prop
 | .rd x T,vs=>∃t,vs=[.str "read",.str x,.ref t]/\TmAt H T t
 | .st x T,vs=>∃t,vs=[.str "set",.str x,.ref t]/\TmAt H T t
 | .wr T U,vs=>∃t u,vs=[.str "write",.ref t,.ref u]/\TmAt H T t/\TmAt H U u
 | .cl x f Ts,vs=>∃q ts,vs=[.str "call",.str x,.str f,.ref q]/\H q=some (.tup ts)/\TmsV H Ts ts
 | .gv T,vs=>∃t,vs=[.str "give",.ref t]/\TmAt H T t
theorem LfV.mono{H H':Hp}(k:TMono H H'){l:Lf}{vs:List V}(h:LfV H l vs):LfV H' l vs:=by
 cases l with
 |rd x T=>obtain⟨t,e,h⟩:=h;exact⟨t,e,h.mono k⟩
 |st x T=>obtain⟨t,e,h⟩:=h;exact⟨t,e,h.mono k⟩
 |wr T U=>obtain⟨t,u,e,h,h'⟩:=h;exact⟨t,u,e,h.mono k,h'.mono k⟩
 |cl x f Ts=>obtain⟨q,ts,e,h,h'⟩:=h;exact⟨q,ts,e,k _ _ h,h'.mono k⟩
 |gv T=>obtain⟨t,e,h⟩:=h;exact⟨t,e,h.mono k⟩
inductive Bd where
 |nil
 |lf (l:Lf) (r:Bd)
 |ite (T:Tm) (a b r:Bd)
 |loop (T:Tm) (a r:Bd)
noncomputable def Bd.app:Bd->Bd->Bd
 | .nil,s=>s
 | .lf l r,s=>.lf l (r.app s)
 | .ite T a b r,s=>.ite T a b (r.app s)
 | .loop T a r,s=>.loop T a (r.app s)
theorem Jo:∀(b:Bd),b.app .nil=b
 | .nil=>rfl
 | .lf l r=>congrArg (Bd.lf l) (Jo r)
 | .ite T a b r=>congrArg (Bd.ite T a b) (Jo r)
 | .loop T a r=>congrArg (Bd.loop T a) (Jo r)
theorem zp:∀(a b c:Bd),(a.app b).app c=a.app (b.app c)
 | .nil,_,_=>rfl
 | .lf l r,b,c=>congrArg (Bd.lf l) (zp r b c)
 | .ite T x y r,b,c=>congrArg (Bd.ite T x y) (zp r b c)
 | .loop T x r,b,c=>congrArg (Bd.loop T x) (zp r b c)
noncomputable def Bd.size:Bd->Nat
 | .nil=>0
 | .lf _ r=>r.size+1
 | .ite _ a b r=>a.size+b.size+r.size+1
 | .loop _ a r=>a.size+r.size+1
noncomputable def Bd.dep:Bd->Nat
 | .nil=>0
 | .lf _ r=>r.dep
 | .ite _ a b r=>max (max a.dep b.dep+1) r.dep
 | .loop _ a r=>max (a.dep+1) r.dep
def TmOk(T:Tm):Prop:=T.Good/\T.depth < 6
def Lf.Ok:Lf->Prop
 | .rd x T=>WN x/\TmOk T
 | .st x T=>WN x/\TmOk T
 | .wr T U=>TmOk T/\TmOk U
 | .cl x f ts=>WN x/\WN f/\ts.length<=6/\∀T∈ts,TmOk T
 | .gv T=>TmOk T
def Bd.Ok:Bd->Prop
 | .nil=>True
 | .lf l r=>l.Ok/\r.Ok
 | .ite T a b r=>TmOk T/\a.Ok/\b.Ok/\r.Ok
 | .loop T a r=>TmOk T/\a.Ok/\r.Ok
theorem qc:∀(a b:Bd),(a.app b).size=a.size+b.size
 | .nil,b=>by show b.size=0+b.size;omega
 | .lf _ r,b=>by have:=qc r b;show(r.app b).size+1=r.size+1+b.size;omega
 | .ite _ x y r,b=>by have:=qc r b;show x.size+y.size+(r.app b).size+1=x.size+y.size+r.size+1+b.size;omega
 | .loop _ x r,b=>by have:=qc r b;show x.size+(r.app b).size+1=x.size+r.size+1+b.size;omega
theorem Jp:∀(a b:Bd),(a.app b).dep=max a.dep b.dep
 | .nil,b=>(Nat.zero_max b.dep).symm
 | .lf _ r,b=>Jp r b
 | .ite _ x y r,b=>by show max _ (r.app b).dep=max (max _ r.dep) b.dep;rw[Jp r b,Nat.max_assoc]
 | .loop _ x r,b=>by show max _ (r.app b).dep=max (max _ r.dep) b.dep;rw[Jp r b,Nat.max_assoc]
theorem Kx:∀{a b:Bd},a.Ok->b.Ok->(a.app b).Ok
 | .nil,_,_,h=>h
 | .lf _ _,_,g,h=>⟨g.1,Kx g.2 h⟩
 | .ite _ _ _ _,_,g,h=>⟨g.1,g.2.1,g.2.2.1,Kx g.2.2.2 h⟩
 | .loop _ _ _,_,g,h=>⟨g.1,g.2.1,Kx g.2.2 h⟩
def BdV(H:Hp):Bd->List V->Prop
 | .nil,xs=>xs=[]
 | .lf l r,xs=>∃p vs ys,xs= .ref p::ys/\H p=some (.tup vs)/\LfV H l vs/\BdV H r ys
 | .ite T a b r,xs=>∃p t qa qb as bs ys,xs= .ref p::ys/\H p=some (.tup [.str "if",.ref t,.ref qa,.ref qb])/\TmAt H T t/\H qa=some (.tup as)/\H qb=some (.tup bs)/\BdV H a as/\BdV H b bs/\BdV H r ys
 | .loop T a r,xs=>∃p t qa as ys,xs= .ref p::ys/\H p=some (.tup [.str "while",.ref t,.ref qa])/\TmAt H T t/\H qa=some (.tup as)/\BdV H a as/\BdV H r ys
theorem BdV.mono{H H':Hp}(k:TMono H H'){a:Bd}:∀{xs:List V},BdV H a xs->BdV H' a xs:=by
 induction a with
 |nil=>exact fun h=>h
 |lf l r ih=>rintro xs ⟨p,vs,ys,e,h1,h2,h3⟩;exact⟨p,vs,ys,e,k _ _ h1,h2.mono k,ih h3⟩
 |ite T a b r ia ib ir=>rintro xs ⟨p,t,qa,qb,as,bs,ys,e,h1,h0,h2,h3,h4,h5,h6⟩;exact⟨p,t,qa,qb,as,bs,ys,e,k _ _ h1,h0.mono k,k _ _ h2,k _ _ h3,ia h4,ib h5,ir h6⟩
 |loop T a r ia ir=>rintro xs ⟨p,t,qa,as,ys,e,h1,h0,h2,h3,h4⟩;exact⟨p,t,qa,as,ys,e,k _ _ h1,h0.mono k,k _ _ h2,ia h3,ir h4⟩
theorem BdV.app{H:Hp}{b:Bd}{ys:List V}(hb:BdV H b ys){a:Bd}:∀{xs:List V},BdV H a xs->BdV H (a.app b) (xs++ys):=by
 induction a with
 |nil=>intro xs h;have e:xs=[]:=h;rw[e];exact hb
 |lf l r ih=>rintro xs ⟨p,vs,zs,e,h1,h2,h3⟩;exact⟨p,vs,zs++ys,by rw[e];rfl,h1,h2,ih h3⟩
 |ite T a b r _ _ ir=>rintro xs ⟨p,t,qa,qb,as,bs,zs,e,h1,h0,h2,h3,h4,h5,h6⟩;exact⟨p,t,qa,qb,as,bs,zs++ys,by rw[e];rfl,h1,h0,h2,h3,h4,h5,ir h6⟩
 |loop T a r _ ir=>rintro xs ⟨p,t,qa,as,zs,e,h1,h0,h2,h3,h4⟩;exact⟨p,t,qa,as,zs++ys,by rw[e];rfl,h1,h0,h2,h3,ir h4⟩
theorem BdV.len{H:Hp}{a:Bd}:∀{xs:List V},BdV H a xs->xs.length<=a.size:=by
 induction a with
 |nil=>intro xs h;have e:xs=[]:=h;rw[e];exact Nat.le_refl 0
 |lf l r ih=>rintro xs ⟨p,vs,ys,e,h1,h2,h3⟩;rw[e];exact Nat.succ_le_succ (ih h3)
 |ite T a b r _ _ ir=>rintro xs ⟨p,t,qa,qb,as,bs,ys,e,h1,h0,h2,h3,h4,h5,h6⟩;rw[e];exact Nat.succ_le_succ (Nat.le_trans (ir h6) (Nat.le_add_left _ _))
 |loop T a r _ ir=>rintro xs ⟨p,t,qa,as,ys,e,h1,h0,h2,h3,h4⟩;rw[e];exact Nat.succ_le_succ (Nat.le_trans (ir h4) (Nat.le_add_left _ _))
structure Df where
 f:Str
 ps:List Str
 b:Bd
def DfV(H:Hp)(d:Df)(v:V):Prop:=∃p pa pb bs,v= .ref p/\H p=some (.tup [.str d.f,.ref pa,.ref pb])/\H pa=some (.tup (d.ps.map V.str))/\H pb=some (.tup bs)/\BdV H d.b bs
def DfsV(H:Hp):List Df->List V->Prop
 | [],vs=>vs=[]
 |d::ds,vs=>∃v r,vs=v::r/\DfV H d v/\DfsV H ds r
theorem DfV.mono{H H':Hp}(k:TMono H H'){d:Df}{v:V}(h:DfV H d v):DfV H' d v:=by
 obtain⟨p,pa,pb,bs,e1,h1,h2,h3,h5⟩:=h
 exact⟨p,pa,pb,bs,e1,k _ _ h1,k _ _ h2,k _ _ h3,h5.mono k⟩
theorem DfsV.mono{H H':Hp}(k:TMono H H'){ds:List Df}:∀{vs:List V},DfsV H ds vs->DfsV H' ds vs:=by
 induction ds with
 |nil=>exact fun h=>h
 |cons d ds ih=>rintro vs ⟨v,r,e,h1,h4⟩;exact⟨v,r,e,h1.mono k,ih h4⟩
theorem DfsV.snoc{H:Hp}{d:Df}{v:V}(hv:DfV H d v):∀{ds:List Df} {vs:List V},DfsV H ds vs->DfsV H (ds++[d]) (vs++[v])
 | [],_,h=>by have e:_=[]:=h;rw[e];exact⟨v,[],rfl,hv,rfl⟩
 |_::_,_,⟨u,r,e,h1,h4⟩=>⟨u,r++[v],by rw[e];rfl,h1,DfsV.snoc hv h4⟩
theorem DfsV.len{H:Hp}:∀{ds:List Df} {vs:List V},DfsV H ds vs->vs.length=ds.length
 | [],_,h=>by have e:_=[]:=h;rw[e];rfl
 |_::_,_,⟨u,r,e,h1,h4⟩=>by rw[e,List.length_cons,List.length_cons,DfsV.len h4]
theorem DfsV.at{H:Hp}:∀{ds:List Df} {vs:List V},DfsV H ds vs->∀(i:Nat) (v:V),vs[i]?=some v->∃d,ds[i]?=some d/\DfV H d v
 | [],_,h,i,v,hv=>by have e:_=[]:=h;rw[e]at hv;simp at hv
 |d::_,_,⟨u,r,e,h1,h4⟩,0,v,hv=>by rw[e]at hv;cases hv;exact⟨d,rfl,h1⟩
 |_::ds,_,⟨u,r,e,h1,h4⟩,i+1,v,hv=>by rw[e]at hv;simpa using DfsV.at h4 i v (by simpa using hv)
def DfOk(d:Df):Prop:=WN d.f/\(∀y∈d.ps,WN y)/\d.ps.length<=6/\d.b.Ok/\d.b.dep < 8/\d.b.size<=50
noncomputable abbrev sSpot:Stmt:=top 45
noncomputable abbrev sStm:Stmt:=top 46
noncomputable abbrev sBody:Stmt:=top 47
def But2(p q:Addr)(H H':Hp):Prop:=∀b o,b≠p->b≠q->H b=some o->H' b=some o
theorem But2.refl{p q:Addr}{H:Hp}:But2 p q H H:=fun _ _ _ _ h=>h
theorem But2.trans{p q:Addr}{H H1 H2:Hp}(a:But2 p q H H1)(b:But2 p q H1 H2):But2 p q H H2:=fun c o n m h=>b c o n m (a c o n m h)
theorem But.two{p q:Addr}{H H':Hp}(a:But p H H'):But2 p q H H':=fun c o n _ h=>a c o n h
theorem But2.of_same{p q:Addr}{H H':Hp}(a:Same H H'):But2 p q H H':=fun c o _ _ h=>a c o h
theorem But2.at{p q:Addr}{H:Hp}{o:HO}:But2 p q H (upd H q o):=fun b u _ m e=>by rw[jh m];exact e
def SpAt(H:Hp)(q:Addr):Prop:=∃k:Int,H q=some (.lst [.int k])
theorem SpAt.new{H:Hp}{q r:Addr}{o:HO}(h:SpAt H q)(n:H r=none):SpAt (upd H r o) q:=let ⟨k,e⟩:=h;⟨k,keepN e n⟩
theorem SpAt.ne{H:Hp}{p q:Addr}(h:SpAt H q)(B:BoxAt H p):q≠p:=by
 obtain⟨k,e⟩:=h
 refine opq fun Gq kq=>?_
 obtain⟨a,b,_,_,_,hp⟩:=B.ob
 refine kq ?_
 clear kq
 exact jU e hp (by intro z;cases z)
theorem SpAt.but{H H':Hp}{p q:Addr}(h:SpAt H q)(B:BoxAt H p)(k:But p H H'):SpAt H' q:=by
 have n:=h.ne B
 obtain⟨z,e⟩:=h
 exact⟨z,k _ _ n e⟩
theorem But2.tm{p q:Addr}{H H':Hp}(k:But2 p q H H')(B:BoxAt H p)(s:SpAt H q):TMono H H':=fun b xs e=>by
 refine opq fun Gq kq=>?_
 obtain⟨a,c,_,_,_,hp⟩:=B.ob
 refine kq ?_
 clear kq
 obtain⟨z,hs⟩:=s
 exact k b _ (jU e hp (by intro w;cases w)) (jU e hs (by intro w;cases w)) e
noncomputable def spK(H:Hp)(q:Addr):Int:=match H q with
 |some (.lst [.int k])=>k
 |_=>0
theorem qU{H:Hp}{q:Addr}{k:Int}(e:H q=some (.lst [.int k])):spK H q=k:=by unfold spK;rw[e]
theorem QC{H H':Hp}{q:Addr}(s:SpAt H q)(k:∀o,H q=some o->H' q=some o):spK H' q=spK H q:=by
 obtain⟨z,e⟩:=s
 rw[qU e,qU (k _ e)]
theorem ky{H H':Hp}{p q:Addr}(B:BoxAt H p)(s:SpAt H q)(k:But p H H'):spK H' q=spK H q:=QC s fun o e=>k _ _ (s.ne B) e
theorem kf{H H':Hp}{q:Addr}(s:SpAt H q)(k:Same H H'):spK H' q=spK H q:=QC s fun o e=>k _ _ e
def HdV(H:Hp)(c:Str×List Str)(v:V):Prop:=∃p t,v= .ref p/\H p=some (.tup [.str c.1,.ref t])/\H t=some (.tup (c.2.map V.str))
def HdsV(H:Hp):List (Str×List Str)->List V->Prop
 | [],vs=>vs=[]
 |c::cs,vs=>∃v r,vs=v::r/\HdV H c v/\HdsV H cs r
theorem HdsV.mono{H H':Hp}(k:TMono H H'):∀{cs:List (Str×List Str)} {vs:List V},HdsV H cs vs->HdsV H' cs vs
 | [],_,h=>h
 |_::_,_,⟨v,r,e,⟨p,t,e1,h1,h2⟩,h4⟩=>⟨v,r,e,⟨p,t,e1,k _ _ h1,k _ _ h2⟩,HdsV.mono k h4⟩
theorem HdsV.snoc{H:Hp}{c:Str×List Str}{v:V}(hv:HdV H c v):∀{cs:List (Str×List Str)} {vs:List V},HdsV H cs vs->HdsV H (cs++[c]) (vs++[v])
 | [],_,h=>by have e:_=[]:=h;rw[e];exact⟨v,[],rfl,hv,rfl⟩
 |_::_,_,⟨u,r,e,h1,h4⟩=>⟨u,r++[v],by rw[e];rfl,h1,HdsV.snoc hv h4⟩
theorem HdsV.len{H:Hp}:∀{cs:List (Str×List Str)} {vs:List V},HdsV H cs vs->vs.length=cs.length
 | [],_,h=>by have e:_=[]:=h;rw[e];rfl
 |_::_,_,⟨u,r,e,h1,h4⟩=>by rw[e,List.length_cons,List.length_cons,HdsV.len h4]
theorem HdsV.at{H:Hp}:∀{cs:List (Str×List Str)} {vs:List V},HdsV H cs vs->∀(i:Nat) (v:V),vs[i]?=some v->∃c,cs[i]?=some c/\HdV H c v
 | [],_,h,i,v,hv=>by have e:_=[]:=h;rw[e]at hv;simp at hv
 |c::_,_,⟨u,r,e,h1,h4⟩,0,v,hv=>by rw[e]at hv;cases hv;exact⟨c,rfl,h1⟩
 |_::cs,_,⟨u,r,e,h1,h4⟩,i+1,v,hv=>by rw[e]at hv;simpa using HdsV.at h4 i v (by simpa using hv)
theorem ref_at{H:Hp}{cs:List (Str×List Str)}{vs:List V}(h:HdsV H cs vs){k:Int}(h0:0<=k)(h1:k < (vs.length:Int)):∃v c,atI vs k=some v/\c∈cs/\HdV H c v:=by
 have hk:k.toNat < vs.length:=by omega
 have ek:k=((k.toNat:Nat):Int):=by omega
 have e1:vs[k.toNat]?=some vs[k.toNat]:=List.getElem?_eq_getElem hk
 have e:atI vs ((k.toNat:Nat):Int)=some vs[k.toNat]:=jo e1
 rw[<- ek]at e
 obtain⟨c,hc,hv⟩:=h.at _ _ e1
 exact⟨_,c,e,List.mem_of_getElem? hc,hv⟩
def Bd.fit(d:Nat)(b:Bd):Prop:=b.Ok/\b.dep<=d
theorem Xt{d:Nat}:Bd.fit d .nil:=⟨trivial,Nat.zero_le _⟩
theorem fit_lf{d:Nat}{l:Lf}(h:l.Ok):Bd.fit d (.lf l .nil):=⟨⟨h,trivial⟩,Nat.zero_le _⟩
theorem Xu{d:Nat}{a b:Bd}(h:a.fit d)(k:b.fit d):(a.app b).fit d:=⟨Kx h.1 k.1,by rw[Jp];have:=h.2;have:=k.2;omega⟩
theorem fit_ite{d:Nat}{T:Tm}{a b:Bd}(hT:TmOk T)(h:a.fit d)(k:b.fit d):Bd.fit (d+1) (.ite T a b .nil):=⟨⟨hT,h.1,k.1,trivial⟩,by show max (max a.dep b.dep+1) 0<=d+1;have:=h.2;have:=k.2;omega⟩
theorem ZN{d:Nat}{T:Tm}{a:Bd}(hT:TmOk T)(h:a.fit d):Bd.fit (d+1) (.loop T a .nil):=⟨⟨hT,h.1,trivial⟩,by show max (a.dep+1) 0<=d+1;have:=h.2;omega⟩
noncomputable def szS:Nat->Nat
 |0=>1
 |d+1=>1+2*(5*szS d)
def spSpot:Sp:=fun vs H Q _=>∃(p g:Addr) (ys:List Str),vs=[.ref p,.ref g]/\BoxAt H p/\H g=some (.lst (ys.map V.str))/\1<=ys.length/\ys.length<=20/\(∀y∈ys,WN y)/\∀(r:Addr) (T:Tm) (H':Hp),TmAt H' T r->TmOk T->BoxAt H' p->But p H H'->Q (.ref r) H'
structure Gen(H:Hp)(p g h sp:Addr)(ys:List Str)(hs:List (Str×List Str)):Prop where
 B:BoxAt H p
 g:H g=some (.lst (ys.map V.str))
 y1:1<=ys.length
 y2:ys.length<=20
 yw:∀y∈ys,WN y
 h:∃hv,H h=some (.lst hv)/\HdsV H hs hv
 h1:1<=hs.length
 h2:hs.length<=20
 h3:∀c∈hs,c.2.length<=6/\WN c.1
 s:SpAt H sp
theorem Gen.gsp{H:Hp}{p g h sp:Addr}{ys:List Str}{hs:List (Str×List Str)}(G:Gen H p g h sp ys hs):g≠sp:=by
 obtain⟨k,e⟩:=G.s
 refine jU G.g e fun z=>?_
 injection z with z
 have hy:=G.y1
 match ys,hy,z with
 |a::r,_,z=>injection z with z1 _;cases z1
theorem Gen.hsp{H:Hp}{p g h sp:Addr}{ys:List Str}{hs:List (Str×List Str)}(G:Gen H p g h sp ys hs):h≠sp/\h≠p:=by
 obtain⟨k,e⟩:=G.s
 obtain⟨hv,e1,e2⟩:=G.h
 refine opq fun Gq kq=>?_
 obtain⟨a,b,_,_,_,hp⟩:=G.B.ob
 refine kq ?_
 clear kq
 have hl:=G.h1
 have:∃q r,hv= .ref q::r:=by
  match hs,hl,e2 with
  |c::cs,_,⟨v,r,e,⟨q,t,e3,_⟩,_⟩=>exact⟨q,r,by rw[e,e3]⟩
 obtain⟨q,r,rfl⟩:=this
 refine⟨jU e1 e fun z=>?_,jU e1 hp fun z=>?_⟩
 ·injection z with z
  injection z with z1 _
  cases z1
 ·injection z with z
  injection z with z1 _
  cases z1
theorem Gen.but2{H H':Hp}{p g h sp:Addr}{ys:List Str}{hs:List (Str×List Str)}(G:Gen H p g h sp ys hs)(B:BoxAt H' p)(s:SpAt H' sp)(k:But2 p sp H H'):Gen H' p g h sp ys hs:=by
 obtain⟨hv,e1,e2⟩:=G.h
 exact⟨B,k _ _ (zr G.B G.g) G.gsp G.g,G.y1,G.y2,G.yw,⟨hv,k _ _ G.hsp.2 G.hsp.1 e1,e2.mono (k.tm G.B G.s)⟩,G.h1,G.h2,G.h3,s⟩
theorem Gen.but{H H':Hp}{p g h sp:Addr}{ys:List Str}{hs:List (Str×List Str)}(G:Gen H p g h sp ys hs)(B:BoxAt H' p)(k:But p H H'):Gen H' p g h sp ys hs:=G.but2 B (G.s.but G.B k) k.two
def spStm(n:Nat):Sp:=fun vs H Q _=>∃(p g h sp:Addr) (d:Nat) (ys:List Str) (hs:List (Str×List Str)),vs=[.ref p,.ref g,.ref h,.ref sp,.int (d:Int)]/\Gen H p g h sp ys hs/\d < n/\0 < spK H sp/\
 ∀(r:Addr) (b:Bd) (H':Hp),BdV H' b [.ref r]->(b.size:Int)+spK H' sp<=spK H sp->0<=spK H' sp->b.fit d->BoxAt H' p->SpAt H' sp->But2 p sp H H'->Q (.ref r) H'
def spBody(n:Nat):Sp:=fun vs H Q _=>∃(p g h sp:Addr) (d:Nat) (ys:List Str) (hs:List (Str×List Str)),vs=[.ref p,.ref g,.ref h,.ref sp,.int (d:Int)]/\Gen H p g h sp ys hs/\d < n/\0<=spK H sp/\
 ∀(r:Addr) (b:Bd) (bs:List V) (H':Hp),H' r=some (.tup bs)->BdV H' b bs->(b.size:Int)+spK H' sp<=spK H sp->0<=spK H' sp->b.fit d->BoxAt H' p->SpAt H' sp->But2 p sp H H'->Q (.ref r) H'
theorem scSpot:FnScope ["_law_box_here","_law_names_here","_law_kind"] ["_law_box_here","_law_names_here"] (defScope sSpot):=fsc
theorem ok_spot{f:Addr}{fd:FuncData}(F:Fun K "_law_spot" "_law_spot" sSpot f fd)(GT:FnOk P w K mg base CX0 1 fT fdT ["_law_box_here","_law_wide"] spTake)(bT:Binds K fdT ["_law_box_here","_law_wide"] [])(kT:keepIn K (.ref fT)=true)(mT:mg "_law_take"=some (.ref fT))(GM:FnOk P w K mg base CX0 6 fM fdM ["_law_box_here","_law_names_here","_law_deep"] (spTerm 4))(bM:Binds K fdM ["_law_box_here","_law_names_here","_law_deep"] [])(kM:keepIn K (.ref fM)=true)(mM:mg "_law_term"=some (.ref fM)):FnOk P w K mg base CX0 7 f fd ["_law_box_here","_law_names_here"] spSpot:=by
 refine F.ok scSpot (fun vs H Q E h=>?_) (fun cdv A outer s H vs Q E hr h=>?_)
 ·refine opq fun Gq kq=>?_
  obtain⟨p,g,ys,rfl,_⟩:=h
  refine kq ?_
  clear kq
  rfl
 refine opq fun Gq kq=>?_
 obtain⟨p,g,ys,rfl,B,hg,hy1,hy2,hyw,q⟩:=h
 refine kq ?_
 clear kq
 refine⟨_,(jd (js (i:=2) scSpot.nd rfl (Or.inl rfl) (ji GT hr.m rfl mT kT bT .nil pass0 (ja (pv 0) (ja jf jc)))) (jd (jx (@jq _ _ _ _ _ _ _ _ qA (pv 2) jf (nomark _)) (jg (jr (ji GM hr rfl mM kM bM .nil pass0 (ja (pv 0) (ja (pv 1) (ja jf jc)))))) jp) (jd (jx (@jq _ _ _ _ _ _ _ _ jI (pv 2) jf (nomark _)) (jg (jr (jH (ja jk (ja (ju zP (ju zP (ju Ko jf jf) jf) (ji GT hr.m rfl mT kT bT .nil pass0 (ja (pv 0) (ja jf jc)))) jc))))) jp) (jg (jr (jH (ja jk (ja (ji GT hr.m rfl mT kT bT .nil pass0 (ja (pv 0) (ja jf jc))) jc)))))))),?_⟩
 try dsimp only[cxOf,Cx.nox,Cx.wish]
 have hgp:g≠p:=zr B hg
 refine⟨_,rfl,p,8,rfl,B,by decide,by decide,fun kd H1 k0 k1 B1 e1=>?_⟩
 have hg1:H1 g=some (.lst (ys.map V.str)):=by rw[e1 g hgp];exact hg
 have K1:But p H H1:=But.of_eq e1
 refine⟨_,rfl,_,_,rfl,rfl,_,rfl,?_⟩
 refine ite2 (fun c=>?_) (fun c=>?_)
 ·exact⟨_,rfl,_,rfl,p,g,1,ys,rfl,B1,hg1,hy1,hy2,hyw,by decide,by decide,fun r T H2 tT dT gT B2 k2=>q r T H2 tT ⟨gT,by omega⟩ B2 (K1.trans k2)⟩
 refine⟨_,rfl,rfl,_,rfl,?_⟩
 refine ite2 (fun c=>?_) (fun c=>?_)
 ·refine⟨_,_,rfl,rfl,⟨by decide,by decide,by decide⟩,_,_,rfl,rfl,_,rfl,p,4,rfl,B1,by decide,by decide,fun d2 H2 d20 d21 B2 e2=>⟨_,_,rfl,rfl,sz2,fun r nr=>?_⟩⟩
  exact q r (.num (1000000000000000000 - 1 - d2)) _ jb ⟨⟨by omega,by omega⟩,(by show 0 < 6;decide)⟩ (B2.upd_new nr) ((K1.trans (But.of_eq e2)).upd_new nr)
 ·refine⟨_,rfl,p,12,rfl,B1,by decide,by decide,fun d2 H2 d20 d21 B2 e2=>⟨sz2,fun r nr=>?_⟩⟩
  exact q r (.num d2) _ jb ⟨⟨d20,by omega⟩,(by show 0 < 6;decide)⟩ (B2.upd_new nr) ((K1.trans (But.of_eq e2)).upd_new nr)
theorem scStm:FnScope ["_law_box_here","_law_names_here","_law_heads","_law_spare","_law_deep","_law_kind","_law_x","_law_f","_law_params","_law_body_here"] ["_law_box_here","_law_names_here","_law_heads","_law_spare","_law_deep"] (defScope sStm):=fsc
noncomputable def Yj:Scope:=⟨.function,[(".0",.local),("_law_one",.local),("_law_term",.globalImplicit),("_law_box_here",.free),("_law_names_here",.free)],false,false,[]⟩
theorem nd_stm:(["_law_one","_law_box_here","_law_names_here"]:List Str).Nodup:=by decide+kernel
theorem cs_stm:CompSc ["_law_box_here","_law_names_here","_law_heads","_law_spare","_law_deep","_law_kind","_law_x","_law_f","_law_params","_law_body_here"] (defScope sStm) Yj ["_law_one","_law_box_here","_law_names_here"] 1 [0,1]:=csc
def RH(p g h sp:Addr)(d:Nat)(kd:Int)(y:Str)(H3:Hp)(σ':L2.St)(H':Hp):Prop:=σ'=[some (.ref p),some (.ref g),some (.ref h),some (.ref sp),some (.int (d:Int)),some (.int kd),some (.str y),none,none,none]/\H'=H3
theorem ok_stm{f:Addr}{fd:FuncData}(F:Fun K "_law_statement" "_law_statement" sStm f fd)(GT:FnOk P w K mg base CX0 1 fT fdT ["_law_box_here","_law_wide"] spTake)(bT:Binds K fdT ["_law_box_here","_law_wide"] [])(kT:keepIn K (.ref fT)=true)(mT:mg "_law_take"=some (.ref fT))(GM:FnOk P w K mg base CX0 6 fM fdM ["_law_box_here","_law_names_here","_law_deep"] (spTerm 4))(bM:Binds K fdM ["_law_box_here","_law_names_here","_law_deep"] [])(kM:keepIn K (.ref fM)=true)(mM:mg "_law_term"=some (.ref fM))(GP:FnOk P w K mg base CX0 7 fP fdP ["_law_box_here","_law_names_here"] spSpot)(bP:Binds K fdP ["_law_box_here","_law_names_here"] [])(kP:keepIn K (.ref fP)=true)(mP:mg "_law_spot"=some (.ref fP)){L n:Nat}(GB:FnOk P w K mg base CX0 (L+9) fB fdB ["_law_box_here","_law_names_here","_law_heads","_law_spare","_law_deep"] (spBody n))(bB:Binds K fdB ["_law_box_here","_law_names_here","_law_heads","_law_spare","_law_deep"] [])(kB:keepIn K (.ref fB)=true)(mB:mg "_law_body"=some (.ref fB))(ml:mg "len"=none)(mtu:mg "tuple"=none):FnOk P w K mg base CX0 (L+10) f fd ["_law_box_here","_law_names_here","_law_heads","_law_spare","_law_deep"] (spStm (n+1)):=by
 refine F.ok scStm (fun vs H Q E h=>?_) (fun cdv A outer s H vs Q E hr h=>?_)
 ·refine opq fun Gq kq=>?_
  obtain⟨p,g,h,sp,d,ys,hs,rfl,_⟩:=h
  refine kq ?_
  clear kq
  rfl
 refine opq fun Gq kq=>?_
 obtain⟨p,g,h,sp,d,ys,hs,rfl,G0,hd,hk0,q⟩:=h
 refine kq ?_
 clear kq
 refine⟨_,(jd (js (i:=5) scStm.nd rfl (Or.inl rfl) (ji GT hr.m rfl mT kT bT .nil pass0 (ja (pv 0) (ja jf jc)))) (jd (js (i:=6) scStm.nd rfl (Or.inl rfl) (@jv _ _ _ _ _ _ _ jy (pv 1) (ji GT hr.m rfl mT kT bT .nil pass0 (ja (pv 0) (ja (@jz _ _ _ _ _ _ _ _ _ jw rfl ml PySem.boot_len (ja (pv 1) jc) (by decide) (by decide) (by rfl) (by rfl)) jc))) (fun _ _=>rfl))) (jd (@qu _ _ _ _ _ _ (ju zP (@jv _ _ _ _ _ _ _ jy (pv 3) jf (fun _ _=>rfl)) jf) (@Jv _ _ _ _ _ _ _ (pv 3) jf z6 (by intro _;rfl)) (by rfl) (by rfl) (by rfl)) (jd (jx (@jq _ _ _ _ _ _ _ _ qA (pv 5) jf (nomark _)) (jg (jr (jH (ja jk (ja (pv 6) (ja (ji GP hr.m rfl mP kP bP .nil pass0 (ja (pv 0) (ja (pv 1) jc))) jc)))))) jp) (jd (jx (@PW.pt _ _ _ (@kL _ _ _ _ _ _ _ (@jq _ _ _ _ _ _ _ _ jI (pv 5) jf (nomark _)) (@kC _ _ _ _ (@jq _ _ _ _ _ _ _ _ jI (pv 5) jf (nomark _))))) (jg (jr (jH (ja jk (ja (ji GP hr.m rfl mP kP bP .nil pass0 (ja (pv 0) (ja (pv 1) jc))) (ja (ji GM hr.m rfl mM kM bM .nil pass0 (ja (pv 0) (ja (pv 1) (ja jf jc)))) jc)))))) jp) (jd (jx (@PW.pt _ _ _ (@kL _ _ _ _ _ _ _ (@jq _ _ _ _ _ _ _ _ jI (pv 5) jf (nomark _)) (@kC _ _ _ _ (@jq _ _ _ _ _ _ _ _ jI (pv 5) jf (nomark _))))) (jd (@qu _ _ _ _ _ _ (@jv _ _ _ _ _ _ _ jy (pv 2) (ji GT hr.m rfl mT kT bT .nil pass0 (ja (pv 0) (ja (@jz _ _ _ _ _ _ _ _ _ jw rfl ml PySem.boot_len (ja (pv 2) jc) (by decide) (by decide) (by rfl) (by rfl)) jc))) (fun _ _=>rfl)) (@qS _ _ _ _ _ 2 rfl (jY (jD (i:=7) scStm.nd rfl (Or.inl rfl)) (jY (jD (i:=8) scStm.nd rfl (Or.inl rfl)) qe)) (by rfl) (by rfl)) (by rfl) (by rfl) (by rfl)) (jg (jr (jH (ja jk (ja (pv 6) (ja (pv 7) (ja (@jG _ _ _ _ _ _ _ _ _ jA rfl mtu boot_tuple (ja (@kU _ _ _ _ _ _ _ (["_law_one","_law_box_here","_law_names_here"]) (1) ([0,1]) _ _ _ _ rfl (@Kn _ _ _ _ (pv 8)) cs_stm (fun _ _ _ _ _=>(jD (i:=0) nd_stm rfl (Or.inl rfl))) (fun _ _ _ _ _=>(@zq _)) (fun _ _ _ _ _=>(ji GM hr.m rfl mM kM bM .nil pass0 (ja (pv 1) (ja (pv 2) (ja jf jc))))) (by intro _;rfl)) jc) (by decide) (by decide) (by rfl) (by rfl)) jc)))))))) jp) (jd (zQ (jx (@PW.pt _ _ _ (@zi _ _ _ _ _ _ _ (@jq _ _ _ _ _ _ _ _ jI (pv 5) jf (nomark _)) (@zd _ _ _ _ (@jq _ _ _ _ _ _ _ _ qo (pv 4) jf (nomark _))))) (jd (js (i:=9) scStm.nd rfl (Or.inl rfl) (ji GB hr rfl mB kB bB .nil pass0 (ja (pv 0) (ja (pv 1) (ja (pv 2) (ja (pv 3) (ja (ju zP (pv 4) jf) jc))))))) (jg (jr (jH (ja jk (ja (ji GM hr.m rfl mM kM bM .nil pass0 (ja (pv 0) (ja (pv 1) (ja jf jc)))) (ja (pv 9) (ja (ji GB hr rfl mB kB bB .nil pass0 (ja (pv 0) (ja (pv 1) (ja (pv 2) (ja (pv 3) (ja (ju zP (pv 4) jf) jc)))))) jc)))))))) jp)) (jd (zQ (jx (@PW.pt _ _ _ (@zi _ _ _ _ _ _ _ (@jq _ _ _ _ _ _ _ _ jI (pv 5) jf (nomark _)) (@zd _ _ _ _ (@jq _ _ _ _ _ _ _ _ qo (pv 4) jf (nomark _))))) (jg (jr (jH (ja jk (ja (ji GM hr.m rfl mM kM bM .nil pass0 (ja (pv 0) (ja (pv 1) (ja jf jc)))) (ja (ji GB hr rfl mB kB bB .nil pass0 (ja (pv 0) (ja (pv 1) (ja (pv 2) (ja (pv 3) (ja (ju zP (pv 4) jf) jc)))))) jc)))))) jp)) (jd (jx (@jq _ _ _ _ _ _ _ _ jI (pv 5) jf (nomark _)) (jg (jr (jH (ja jk (ja (ji GM hr.m rfl mM kM bM .nil pass0 (ja (pv 0) (ja (pv 1) (ja jf jc)))) jc))))) jp) (jg (jr (jH (ja jk (ja (pv 6) (ja (ji GM hr.m rfl mM kM bM .nil pass0 (ja (pv 0) (ja (pv 1) (ja jf jc)))) jc))))))))))))))),?_⟩
 try dsimp only[cxOf,Cx.nox,Cx.wish]
 have big:=line24
 have B:=G0.B
 have hgp:g≠p:=zr B G0.g
 refine seqF fun F1 f1=>⟨_,rfl,p,10,rfl,B,by decide,by decide,fun kd H1 k0 k1 B1 e1=>f1 _ _ ?_⟩
 clear f1
 have G1:=G0.but B1 (But.of_eq e1)
 have y1:=G0.y1
 have y2:=G0.y2
 have yw:=G0.yw
 refine seqF fun F1 f1=>⟨_,rfl,_,rfl,_,rfl,g,_,rfl,.inl (SqL.of G1.g),p,_,rfl,B1,by rw[List.length_map];omega,by rw[List.length_map];omega,fun d2 H2 d20 d21 B2 e2=>?_⟩
 rw[List.length_map]at d21
 have G2:=G1.but B2 (But.of_eq e2)
 obtain⟨y,hy,hat⟩:=Kw (ys:=ys) d20 d21
 refine⟨g,_,_,_,rfl,rfl,SqL.of G2.g,hat,f1 _ _ ?_⟩
 clear f1
 obtain⟨k,hk⟩:=G2.s
 have ek:spK H sp=k:=((ky B1 G1.s (But.of_eq e2)).trans (ky B G0.s (But.of_eq e1))).symm.trans (qU hk)
 refine seqF fun F1 f1=>⟨_,rfl,sp,_,_,_,rfl,rfl,SqL.of hk,rfl,_,_,rfl,rfl,_,rfl,sp,_,_,0,rfl,rfl,hk,rfl,f1 _ _ ?_⟩
 clear f1
 have spp:=G2.s.ne B2
 have B3:BoxAt (upd H2 sp (.lst ([.int k].set 0 (.int (k - 1))))) p:=B2.eq (jh (Ne.symm spp))
 have s3:SpAt (upd H2 sp (.lst ([.int k].set 0 (.int (k - 1))))) sp:=⟨k - 1,jb⟩
 have K3:But2 p sp H (upd H2 sp (.lst ([.int k].set 0 (.int (k - 1))))):=((But.of_eq e1).trans (But.of_eq e2)).two.trans But2.at
 have G3:=G0.but2 B3 s3 K3
 have e3:spK (upd H2 sp (.lst ([.int k].set 0 (.int (k - 1))))) sp=k - 1:=qU jb
 generalize upd H2 sp (.lst ([.int k].set 0 (.int (k - 1))))=H3 at B3 s3 K3 G3 e3
 have lfq:∀(l:Lf) (zs:List V) (H4:Hp) (r:Addr),LfV H4 l zs->l.Ok->Gen H4 p g h sp ys hs->But2 p sp H H4->spK H4 sp=k - 1->H4 r=none->Q (.ref r) (upd H4 r (.tup zs)):=fun l zs H4 r hl ok G4 K4 e4 nr=>
  q r (.lf l .nil) _ ⟨r,zs,[],rfl,jb,hl.mono (Same.tm (je nr)),rfl⟩ (by rw[kf G4.s (je nr)];show((0+1:Nat):Int)+_<=_;omega) (by rw[kf G4.s (je nr)];omega) (fit_lf ok) (G4.B.upd_new nr) (G4.s.new nr) (K4.trans (But2.of_same (je nr)))
 refine seqF fun F1 f1=>ifG fun G' g'=>⟨_,rfl,_,_,rfl,rfl,_,rfl,g' _ _ ?_⟩
 clear g'
 refine ite2 (fun c=>?_) (fun c=>f1 _ _ ?_)
 ·refine⟨_,rfl,_,rfl,_,rfl,p,g,ys,rfl,G3.B,G3.g,y1,y2,yw,fun r T H4 hT oT B4 k4=>⟨sz3,fun t nt=>?_⟩⟩
  exact lfq (.rd y T) _ H4 t ⟨_,rfl,hT⟩ ⟨yw y hy,oT⟩ (G3.but B4 k4) (K3.trans k4.two) ((ky G3.B G3.s k4).trans e3) nt
 have wr:∀(r:Addr) (T0:Tm) (H4:Hp),TmAt H4 T0 r->TmOk T0->BoxAt H4 p->But p H3 H4->tCall (spTerm 4) [] E0 (tCons (tVar 0) (tCons (tVar 1) (tCons (tC (.int 2)) tNil))) [some (.ref p),some (.ref g),some (.ref h),some (.ref sp),some (.int (d:Int)),some (.int kd),some (.str y),none,none,none] H4 (fun v H5=>3<=sizeLine/\∀t,H5 t=none->Q (.ref t) (upd H5 t (.tup [.str "write",.ref r,v]))):=fun r T0 H4 hT0 oT0 B4 k4=>by
  refine⟨_,rfl,_,rfl,p,g,2,ys,rfl,B4,(G3.but B4 k4).g,y1,y2,yw,by decide,by decide,fun r2 T H5 hT dT gT B5 k5=>⟨(by decide),fun t nt=>?_⟩⟩
  exact lfq (.wr T0 T) _ H5 t ⟨_,_,rfl,hT0.but B4 k5,hT⟩ ⟨oT0,gT,by omega⟩ (G3.but B5 (k4.trans k5)) (K3.trans (k4.trans k5).two) ((ky G3.B G3.s (k4.trans k5)).trans e3) nt
 refine seqF fun F1 f1=>ifG fun G' g'=>?_
 have yes:G' true H3:=g' _ _ (iteT ⟨_,rfl,_,rfl,p,g,ys,rfl,G3.B,G3.g,y1,y2,yw,fun r T0 H4 hT0 oT0 B4 k4=>wr r T0 H4 hT0 oT0 B4 k4⟩)
 refine⟨_,rfl,rfl,_,rfl,ite2 (fun c=>yes) (fun c=>⟨_,rfl,rfl,_,rfl,boolC yes fun c2=>g' _ _ (ifX c2 (f1 _ _ ?_))⟩)⟩
 clear yes g' f1
 obtain⟨hv,hh,hH⟩:=G3.h
 have hl:=hH.len
 have h1:=G0.h1
 have h2:=G0.h2
 have cal:∀(f':Str) (ps:List Str) (t:Addr) (H4:Hp),Gen H4 p g h sp ys hs->But2 p sp H H4->spK H4 sp=k - 1->H4 t=some (.tup (ps.map V.str))->ps.length<=6->WN f'->
   CompR (Itt K t) 1 [some (.ref p),some (.ref g)] (gName 0) tAll (tCall (spTerm 4) [] E0 (tCons (tVar 1) (tCons (tVar 2) (tCons (tC (.int 1)) tNil)))) (fun zs H5=>∀l,H5 l=none->∃p' ys',[V.ref l]=[.ref p']/\((SqL K (upd H5 l (.lst zs)) p' ys'/\∀l2,upd H5 l (.lst zs) l2=none->4<=sizeLine/\∀r,upd (upd H5 l (.lst zs)) l2 (.tup ys') r=none->Q (.ref r) (upd (upd (upd H5 l (.lst zs)) l2 (.tup ys')) r (.tup [.str "call",.str y,.str f',.ref l2])))∨(SqT K (upd H5 l (.lst zs)) p' ys'/\4<=sizeLine/\∀r,upd H5 l (.lst zs) r=none->Q (.ref r) (upd (upd H5 l (.lst zs)) r (.tup [.str "call",.str y,.str f',.ref p']))))) H4:=fun f' ps t H4 G4 K4 e4 ht hpl hfw=>by
  refine qY (K:=K) (xs:=ps.map V.str) (by rw[List.length_map];omega) (fun i zs H5=>∃ts:List (Addr×Tm),zs=ts.map (fun c=>V.ref c.1)/\ts.length=i/\(∀c∈ts,TmAt H5 c.2 c.1/\TmOk c.2)/\BoxAt H5 p/\But p H4 H5) ⟨[],rfl,rfl,(fun _ h=>absurd h List.not_mem_nil),G4.B,But.refl⟩ (fun i zs H5 h5=>?_) ?_ ?_
  ·obtain⟨ts,rfl,e5,_,_,k5⟩:=h5
   exact⟨SqT.of (k5.tm G4.B _ _ ht),by rw[List.length_map,e5];exact Nat.le_refl _⟩
  ·intro i x zs H5 hx hq'
   refine opq fun Gq kq=>?_
   obtain⟨ts,rfl,e5,h5,B5,k5⟩:=hq'
   refine kq ?_
   clear kq
   refine⟨_,rfl,_,rfl,p,g,1,ys,rfl,B5,(G4.but B5 k5).g,y1,y2,yw,by decide,by decide,fun r2 T H6 hT dT gT B6 k6=>⟨ts++[(r2,T)],by rw[List.map_append];rfl,by rw[List.length_append,e5];rfl,fun c hc=>?_,B6,k5.trans k6⟩⟩
   rcases List.mem_append.mp hc with hc |hc
   ·exact⟨(h5 c hc).1.but B5 k6,(h5 c hc).2⟩
   ·rw[List.mem_singleton.mp hc]
    exact⟨hT,gT,(by show T.depth < 6;omega)⟩
  ·rintro zs H5 ⟨ts,rfl,e5,h5,B5,k5⟩ l nl
   refine⟨l,_,rfl,.inl ⟨SqL.of jb,fun l2 nl2=>⟨(by decide),fun r nr=>?_⟩⟩⟩
   have G5:=G4.but B5 k5
   have s6:Same H5 (upd (upd H5 l (.lst (ts.map fun c=>V.ref c.1))) l2 (.tup (ts.map fun c=>V.ref c.1))):=(je nl).trans (je nl2)
   rw[List.length_map]at e5
   exact lfq (.cl y f' (ts.map (·.2))) _ _ r ⟨_,_,rfl,jb,Xs fun c hc=>(h5 c hc).1.same s6⟩ ⟨yw y hy,hfw,by rw[List.length_map];omega,fun T hT=>by obtain⟨c,hc,rfl⟩:=List.mem_map.mp hT;exact(h5 c hc).2⟩ (G5.but2 ((G5.B.upd_new nl).upd_new nl2) ((G5.s.new nl).new nl2) (But2.of_same s6)) ((K4.trans k5.two).trans (But2.of_same s6)) ((kf G5.s s6).trans ((ky G4.B G4.s k5).trans e4)) nr
 refine seqF fun F1 f1=>ifG fun G' g'=>?_
 have yes:G' true H3:=by
  refine g' _ _ (iteT ?_)
  clear f1 g'
  refine seqF fun F2 f2=>⟨_,rfl,_,rfl,_,rfl,h,_,rfl,.inl (SqL.of hh),p,_,rfl,G3.B,by omega,by omega,fun d4 H4 d40 d41 B4 e4=>?_⟩
  have G4:=G3.but B4 (But.of_eq e4)
  have k4:But p H3 H4:=But.of_eq e4
  have hH4:=hH.mono (k4.tm G3.B)
  refine opq fun Gq kq=>?_
  obtain⟨v,c0,hva,hc0,p4,t4,rfl,z1,z2⟩:=ref_at hH4 d40 d41
  refine kq ?_
  clear kq
  refine⟨h,_,_,_,rfl,rfl,SqL.of (k4 _ _ G3.hsp.2 hh),hva,p4,_,rfl,SqT.of z1,rfl,_,_,rfl,_,_,rfl,rfl,f2 _ _ ?_⟩
  clear f2
  refine⟨_,rfl,_,rfl,_,rfl,t4,rfl,⟨_,SqT.of z2⟩,?_⟩
  exact cal c0.1 c0.2 t4 H4 G4 (K3.trans k4.two) ((ky G3.B G3.s k4).trans e3) z2 (G0.h3 c0 hc0).1 (G0.h3 c0 hc0).2
 refine⟨_,rfl,rfl,_,rfl,ite2 (fun c=>yes) (fun c=>⟨_,rfl,rfl,_,rfl,boolC yes fun c2=>g' _ _ (ifX c2 (f1 _ _ ?_))⟩)⟩
 clear yes g' f1
 have low:∀(c:(0:Int) < (d:Int)),∃d':Nat,d=d'+1:=fun c=>⟨d - 1,by omega⟩
 refine seqF fun F1 f1=>midE (RH p g h sp d kd y H3) (fun E6 eR f6=>?_) fun σ' H' z=>?_
 ·clear f1
  refine ifG fun G' g'=>⟨_,rfl,rfl,_,rfl,?_⟩
  refine ite2 (fun c=>?_) (fun c=>g' _ _ (iteF (f6 _ _ ⟨rfl,rfl⟩)))
  refine⟨_,rfl,_,_,rfl,rfl,_,rfl,g' _ _ ?_⟩
  clear g'
  refine ite2 (fun c2=>?_) (fun c2=>f6 _ _ ⟨rfl,rfl⟩)
  clear f6
  obtain⟨d',rfl⟩:=low (of_decide_eq_true c2)
  have ed:(((d'+1:Nat):Int) - 1)=((d':Nat):Int):=by omega
  refine⟨_,rfl,_,rfl,_,rfl,_,rfl,_,rfl,_,_,rfl,rfl,p,g,h,sp,d',ys,hs,(by show [V.ref p,V.ref g,V.ref h,V.ref sp,V.int (((d'+1:Nat):Int) - 1)]=_;rw[ed]),G3,by omega,by omega,fun r b bs H4 hr4 hb4 hsz hs0 hdp B4 s4 k4=>?_⟩
  have G4:=G3.but2 B4 s4 k4
  refine⟨_,rfl,_,rfl,p,g,2,ys,rfl,G4.B,G4.g,y1,y2,yw,by decide,by decide,fun r2 T H5 hT dT gT B5 k5=>?_⟩
  have G5:=G4.but B5 k5
  refine⟨_,rfl,_,rfl,_,rfl,_,rfl,_,rfl,_,rfl,_,_,rfl,rfl,p,g,h,sp,d',ys,hs,(by show [V.ref p,V.ref g,V.ref h,V.ref sp,V.int (((d'+1:Nat):Int) - 1)]=_;rw[ed]),G5,by omega,(by rw[ky G4.B G4.s k5];exact hs0),fun r3 b3 bs3 H6 hr6 hb6 hsz6 hs6 hdp6 B6 s6 k6=>⟨sz4,fun t nt=>?_⟩⟩
  have G6:=G5.but2 B6 s6 k6
  have tm:TMono H4 H6:=fun b' xs e=>k6.tm G5.B G5.s _ _ (k5.tm G4.B _ _ e)
  have tmn:TMono H6 (upd H6 t (.tup [.str "if",.ref r2,.ref r,.ref r3])):=Same.tm (je nt)
  rw[eR]
  refine q t (.ite T b b3 .nil) _ ⟨t,r2,r,r3,bs,bs3,[],rfl,jb,(hT.mono (k6.tm G5.B G5.s)).mono tmn,tmn _ _ (tm _ _ hr4),tmn _ _ hr6,(hb4.mono tm).mono tmn,hb6.mono tmn,rfl⟩ (by have x1:=ky G4.B G4.s k5;rw[kf G6.s (je nt)];show((b.size+b3.size+0+1:Nat):Int)+_<=_;omega) (by rw[kf G6.s (je nt)];exact hs6) (fit_ite ⟨gT,by omega⟩ hdp hdp6) (G6.B.upd_new nt) (G6.s.new nt) (((K3.trans k4).trans (k5.two.trans k6)).trans (But2.of_same (je nt)))
 obtain⟨rfl,e⟩:=z
 rw[e]
 refine f1 _ _ ?_
 clear f1
 refine seqF fun F1 f1=>midE (RH p g h sp d kd y H3) (fun E6 eR f6=>?_) fun σ' H' z=>?_
 ·clear f1
  refine ifG fun G' g'=>⟨_,rfl,rfl,_,rfl,?_⟩
  refine ite2 (fun c=>?_) (fun c=>g' _ _ (iteF (f6 _ _ ⟨rfl,rfl⟩)))
  refine⟨_,rfl,_,_,rfl,rfl,_,rfl,g' _ _ ?_⟩
  clear g'
  refine ite2 (fun c2=>?_) (fun c2=>f6 _ _ ⟨rfl,rfl⟩)
  clear f6
  obtain⟨d',rfl⟩:=low (of_decide_eq_true c2)
  have ed:(((d'+1:Nat):Int) - 1)=((d':Nat):Int):=by omega
  refine⟨_,rfl,_,rfl,p,g,2,ys,rfl,G3.B,G3.g,y1,y2,yw,by decide,by decide,fun r2 T H5 hT dT gT B5 k5=>?_⟩
  have G5:=G3.but B5 k5
  refine⟨_,rfl,_,rfl,_,rfl,_,rfl,_,rfl,_,_,rfl,rfl,p,g,h,sp,d',ys,hs,(by show [V.ref p,V.ref g,V.ref h,V.ref sp,V.int (((d'+1:Nat):Int) - 1)]=_;rw[ed]),G5,by omega,(by rw[ky G3.B G3.s k5];omega),fun r3 b3 bs3 H6 hr6 hb6 hsz6 hs6 hdp6 B6 s6 k6=>⟨sz3,fun t nt=>?_⟩⟩
  have G6:=G5.but2 B6 s6 k6
  have tmn:TMono H6 (upd H6 t (.tup [.str "while",.ref r2,.ref r3])):=Same.tm (je nt)
  rw[eR]
  refine q t (.loop T b3 .nil) _ ⟨t,r2,r3,bs3,[],rfl,jb,(hT.mono (k6.tm G5.B G5.s)).mono tmn,tmn _ _ hr6,hb6.mono tmn,rfl⟩ (by have x1:=ky G3.B G3.s k5;rw[kf G6.s (je nt)];show((b3.size+0+1:Nat):Int)+_<=_;omega) (by rw[kf G6.s (je nt)];exact hs6) (ZN ⟨gT,by omega⟩ hdp6) (G6.B.upd_new nt) (G6.s.new nt) ((K3.trans (k5.two.trans k6)).trans (But2.of_same (je nt)))
 obtain⟨rfl,e⟩:=z
 rw[e]
 refine f1 _ _ ?_
 clear f1
 refine seqF fun F1 f1=>ifG fun G' g'=>⟨_,rfl,rfl,_,rfl,g' _ _ ?_⟩
 clear g'
 refine ite2 (fun c=>?_) (fun c=>f1 _ _ ?_)
 ·refine⟨_,rfl,_,rfl,p,g,2,ys,rfl,G3.B,G3.g,y1,y2,yw,by decide,by decide,fun r2 T H5 hT dT gT B5 k5=>⟨sz2,fun t nt=>?_⟩⟩
  exact lfq (.gv T) _ H5 t ⟨_,rfl,hT⟩ ⟨gT,by omega⟩ (G3.but B5 k5) (K3.trans k5.two) ((ky G3.B G3.s k5).trans e3) nt
 ·refine⟨_,rfl,_,rfl,_,rfl,p,g,3,ys,rfl,G3.B,G3.g,y1,y2,yw,by decide,by decide,fun r2 T H5 hT dT gT B5 k5=>⟨sz3,fun t nt=>?_⟩⟩
  exact lfq (.st y T) _ H5 t ⟨_,rfl,hT⟩ ⟨yw y hy,gT,by omega⟩ (G3.but B5 k5) (K3.trans k5.two) ((ky G3.B G3.s k5).trans e3) nt
theorem scBody:FnScope ["_law_box_here","_law_names_here","_law_heads","_law_spare","_law_deep","_law_body_here","_law_k"] ["_law_box_here","_law_names_here","_law_heads","_law_spare","_law_deep"] (defScope sBody):=fsc
theorem Xv{f:Addr}{fd:FuncData}(F:Fun K "_law_body" "_law_body" sBody f fd)(GT:FnOk P w K mg base CX0 1 fT fdT ["_law_box_here","_law_wide"] spTake)(bT:Binds K fdT ["_law_box_here","_law_wide"] [])(kT:keepIn K (.ref fT)=true)(mT:mg "_law_take"=some (.ref fT)){L n:Nat}(GS:FnOk P w K mg base CX0 (L+8) fS fdS ["_law_box_here","_law_names_here","_law_heads","_law_spare","_law_deep"] (spStm n))(bS:Binds K fdS ["_law_box_here","_law_names_here","_law_heads","_law_spare","_law_deep"] [])(kS:keepIn K (.ref fS)=true)(mS:mg "_law_statement"=some (.ref fS))(mr:mg "range"=none)(mtu:mg "tuple"=none):FnOk P w K mg base CX0 (L+9) f fd ["_law_box_here","_law_names_here","_law_heads","_law_spare","_law_deep"] (spBody n):=by
 refine F.ok scBody (fun vs H Q E h=>?_) (fun cdv A outer s H vs Q E hr h=>?_)
 ·refine opq fun Gq kq=>?_
  obtain⟨p,g,h,sp,d,ys,hs,rfl,_⟩:=h
  refine kq ?_
  clear kq
  rfl
 refine opq fun Gq kq=>?_
 obtain⟨p,g,h,sp,d,ys,hs,rfl,G0,hd,hk0,q⟩:=h
 refine kq ?_
 clear kq
 refine⟨_,(jd (js (i:=5) scBody.nd rfl (Or.inl rfl) (jC jc)) (jd (@zj _ _ _ _ _ _ _ _ PassesOwn.never rfl (@zc _ _ _ _ _ _ rfl mr (ja (ji GT hr.m rfl mT kT bT .nil pass0 (ja (pv 0) (ja jf jc))) jc) (by rfl)) (jD (i:=6) scBody.nd rfl (Or.inl rfl)) (jg (jx (@jq _ _ _ _ _ _ _ _ qo (@jv _ _ _ _ _ _ _ jy (pv 3) jf (fun _ _=>rfl)) jf (nomark _)) (jg (jN (@jS _ _ _ _ _ _ _ _ _ _ _ _ PySem.F.plainAttrs_list PySem.F.slot_list_append PySem.F.type_list_append jL (pv 5) (ja (ji GS hr rfl mS kS bS .nil pass0 (ja (pv 0) (ja (pv 1) (ja (pv 2) (ja (pv 3) (ja (pv 4) jc)))))) jc) (by rfl) (by rfl) (by rfl) (by rfl) (by rfl)))) jp)) (by intro _;rfl)) (jg (jr (@jG _ _ _ _ _ _ _ _ _ jA rfl mtu boot_tuple (ja (pv 5) jc) (by decide) (by decide) (by rfl) (by rfl)))))),?_⟩
 try dsimp only[cxOf,Cx.nox,Cx.wish]
 have big:=line24
 refine⟨Nat.zero_le _,fun l nl=>?_⟩
 have s0:Same H (upd H l (.lst [])):=je nl
 have G1:Gen (upd H l (.lst [])) p g h sp ys hs:=G0.but2 (G0.B.upd_new nl) (G0.s.new nl) (But2.of_same s0)
 have l1:upd H l (.lst []) l=some (.lst []):=jb
 have lp:l≠p:=G0.B.ne nl
 have lsp:l≠sp:=fun e=>by obtain⟨k,z⟩:=G0.s;rw[<- e,nl]at z;cases z
 have k1:But2 p sp H (upd H l (.lst [])):=But2.of_same s0
 have ek1:spK (upd H l (.lst [])) sp=spK H sp:=kf G0.s s0
 generalize upd H l (.lst [])=H1 at G1 l1 k1 ek1
 refine⟨_,rfl,p,6,rfl,G1.B,by decide,by decide,fun m H2 m0 m1 B2 e2=>⟨_,rfl,by omega,by omega,?_⟩⟩
 have G2:=G1.but B2 (But.of_eq e2)
 refine JY (lo:=0) (fun i σ H'=>∃(o6:Option V) (vs:List V) (b:Bd),σ=[some (.ref p),some (.ref g),some (.ref h),some (.ref sp),some (.int (d:Int)),some (.ref l),o6]/\H' l=some (.lst vs)/\BdV H' b vs/\((b.size:Int)+spK H' sp<=spK H sp/\0<=spK H' sp)/\b.fit d/\vs.length<=i/\BoxAt H' p/\SpAt H' sp/\But2 p sp H H')
  ⟨none,[],.nil,rfl,by rw[e2 l lp];exact l1,rfl,(by rw[ky G1.B G1.s (But.of_eq e2),ek1];exact⟨by show((0:Nat):Int)+_<=_;omega,hk0⟩),Xt,Nat.zero_le _,B2,G2.s,k1.trans (But.of_eq e2).two⟩ ?_ ?_
 ·intro i σ H3 hi hq'
  refine opq fun Gq kq=>?_
  obtain⟨o6,vs,b,rfl,hl3,hb3,hz3,hd3,hvl,B3,s3,k3⟩:=hq'
  refine kq ?_
  clear kq
  have G3:=G0.but2 B3 s3 k3
  obtain⟨kk,hkk⟩:=id s3
  refine⟨_,rfl,sp,_,_,_,rfl,rfl,SqL.of hkk,rfl,_,_,rfl,rfl,_,rfl,?_⟩
  refine ite2 (fun c=>?_) (fun c=>?_)
  ·refine⟨_,rfl,.inl ⟨rfl,_,SqL.of hl3⟩,_,rfl,_,rfl,_,rfl,_,rfl,_,rfl,p,g,h,sp,d,ys,hs,rfl,G3,hd,(by rw[qU hkk];exact of_decide_eq_true c),fun r b4 H4 hb4 hz4 hz5 hd4 B4 s4 k4=>?_⟩
   have hl4:H4 l=some (.lst vs):=k4 _ _ lp lsp hl3
   refine⟨l,_,_,rfl,rfl,hl4,by omega,?_⟩
   have tm:TMono H4 (upd H4 l (.lst (vs++[.ref r]))):=fun b' xs e=>by rw[jh (jU e hl4 (by intro z;cases z))];exact e
   have tm34:TMono H3 H4:=k4.tm B3 s3
   refine⟨_,_,b.app b4,rfl,jb,(hb4.mono tm).app ((hb3.mono tm34).mono tm),?_,Xu hd3 hd4,by rw[List.length_append];show vs.length+1<=i+1;omega,B4.eq (jh (Ne.symm lp)),?_,fun b' o n1 n2 e=>?_⟩
   ·rw[qc,QC s4 fun o e=>by rw[jh (Ne.symm lsp)];exact e]
    obtain⟨z1,z2⟩:=hz3
    exact⟨by omega,hz5⟩
   ·obtain⟨z,hz⟩:=s4
    exact⟨z,by rw[jh (Ne.symm lsp)];exact hz⟩
   ·rw[jh (jj e nl)]
    exact k4 _ _ n1 n2 (k3 _ _ n1 n2 e)
  ·exact⟨_,vs,b,rfl,hl3,hb3,hz3,hd3,by omega,B3,s3,k3⟩
 ·intro σ H3 hq'
  refine opq fun Gq kq=>?_
  obtain⟨o6,vs,b,rfl,hl3,hb3,hz3,hd3,hvl,B3,s3,k3⟩:=hq'
  refine kq ?_
  clear kq
  refine⟨_,rfl,l,vs,rfl,.inl ⟨SqL.of hl3,fun t nt=>?_⟩⟩
  have hm:(m).toNat<=5:=by omega
  refine q t b vs _ jb (hb3.mono (Same.tm (je nt))) (by rw[kf s3 (je nt)];exact hz3.1) (by rw[kf s3 (je nt)];exact hz3.2) hd3 (B3.upd_new nt) (s3.new nt) (k3.trans (But2.of_same (je nt)))
theorem Y3{f:Addr}{fd:FuncData}:FnOk P w K mg base CX0 8 f fd ["_law_box_here","_law_names_here","_law_heads","_law_spare","_law_deep"] (spStm 0):=by
 have no:∀vs H Q E,¬spStm 0 vs H Q E:=fun vs H Q E h=>by
  refine opq fun Gq kq=>?_
  obtain⟨p,g,h,sp,d,ys,hs,_,_,h0,_⟩:=h
  refine kq ?_
  clear kq
  exact absurd h0 (Nat.not_lt_zero _)
 exact⟨fun vs H Q E h=>absurd h (no vs H Q E),fun A outer s H args us vs Q E _ _ _ _ h=>absurd h (no vs H Q E)⟩
theorem stms{f fT fM fP fB:Addr}{fd fdT fdM fdP fdB:FuncData}(F:Fun K "_law_statement" "_law_statement" sStm f fd)(FB:Fun K "_law_body" "_law_body" sBody fB fdB)(GT:FnOk P w K mg base CX0 1 fT fdT ["_law_box_here","_law_wide"] spTake)(bT:Binds K fdT ["_law_box_here","_law_wide"] [])(kT:keepIn K (.ref fT)=true)(mT:mg "_law_take"=some (.ref fT))(GM:FnOk P w K mg base CX0 6 fM fdM ["_law_box_here","_law_names_here","_law_deep"] (spTerm 4))(bM:Binds K fdM ["_law_box_here","_law_names_here","_law_deep"] [])(kM:keepIn K (.ref fM)=true)(mM:mg "_law_term"=some (.ref fM))(GP:FnOk P w K mg base CX0 7 fP fdP ["_law_box_here","_law_names_here"] spSpot)(bP:Binds K fdP ["_law_box_here","_law_names_here"] [])(kP:keepIn K (.ref fP)=true)(mP:mg "_law_spot"=some (.ref fP))(bS:Binds K fd ["_law_box_here","_law_names_here","_law_heads","_law_spare","_law_deep"] [])(mS:mg "_law_statement"=some (.ref f))(bB:Binds K fdB ["_law_box_here","_law_names_here","_law_heads","_law_spare","_law_deep"] [])(mB:mg "_law_body"=some (.ref fB))(ml:mg "len"=none)(mtu:mg "tuple"=none)(mr:mg "range"=none):
  ∀n:Nat,FnOk P w K mg base CX0 (n+n+8) f fd ["_law_box_here","_law_names_here","_law_heads","_law_spare","_law_deep"] (spStm n)/\FnOk P w K mg base CX0 (n+n+9) fB fdB ["_law_box_here","_law_names_here","_law_heads","_law_spare","_law_deep"] (spBody n)
 |0=>⟨Y3,Xv (L:=0) FB GT bT kT mT Y3 bS F.kp mS mr mtu⟩
 |n+1=>by
  have ih:=stms F FB GT bT kT mT GM bM kM mM GP bP kP mP bS mS bB mB ml mtu mr n
  have e1:n+n+10=n+1+(n+1)+8:=by omega
  have e2:n+n+2+9=n+1+(n+1)+9:=by omega
  have h1:=ok_stm (L:=n+n) F GT bT kT mT GM bM kM mM GP bP kP mP ih.2 bB FB.kp mB ml mtu
  have h2:=Xv (L:=n+n+2) FB GT bT kT mT h1 bS F.kp mS mr mtu
  rw[<- e1,<- e2]
  exact⟨h1,h2⟩
theorem cutN{xs:List V}{k:Nat}(h:k<=xs.length):cutV xs none (some (k:Int))=xs.take k:=by
 unfold cutV
 rw[HT.sIx_nat,HT.sIx_none]
 have e2:min k xs.length=k:=by omega
 rw[e2]
 simp
noncomputable abbrev sAny:Stmt:=top 48
theorem deep_at{d:Int}(h0:0<=d)(h1:d < 4):∃dp:Nat,atI [V.int 3,.int 3,.int 3,.int 5] d=some (.int (dp:Int))/\dp < 6/\szS dp<=111111/\dp<=5:=by
 rcases(by omega:d=0∨d=1∨d=2∨d=3) with rfl |rfl |rfl |rfl
 ·exact⟨3,rfl,by decide,by decide,by decide⟩
 ·exact⟨3,rfl,by decide,by decide,by decide⟩
 ·exact⟨3,rfl,by decide,by decide,by decide⟩
 ·exact⟨5,rfl,by decide,by decide,by decide⟩
theorem ZO{ys:List Str}{k:Int}(hl:ys.length=20)(h0:14<=k)(h1:k<=20):1<=(cutS ys (some 8) (some k)).length/\(cutS ys (some 8) (some k)).length<=20:=by
 refine⟨?_,by have:=zJ ys (some 8) (some k);omega⟩
 have e8:(8:Int)=((8:Nat):Int):=rfl
 have ek:k=((k.toNat:Nat):Int):=by omega
 unfold cutS
 rw[e8,ek,HT.sIx_nat,HT.sIx_nat,List.length_take,List.length_drop]
 omega
theorem cutS_to{ss:List Str}{k:Int}(h0:0<=k):(cutS ss none (some k)).length<=k.toNat:=by
 have ek:k=((k.toNat:Nat):Int):=by omega
 unfold cutS
 rw[ek,HT.sIx_nat,HT.sIx_none,List.length_take]
 omega
theorem seqO{t u:TS}{D:Ends}{σ:L2.St}{H:Hp}(h:∀E:Ends,(∀σ' H',u D σ' H'->E.nx σ' H')->t E σ H):tSeq t u D σ H:=h { D with nx:=u D } fun _ _ h=>h
def HdsOk(hs:List (Str×List Str)):Prop:=∀c∈hs,WN c.1/\c.2.length<=6/\∀y∈c.2,WN y
def DfsOk(rm:Int)(ds:List Df):Prop:=∀d∈ds,DfOk d/\(d.b.size:Int)<=rm
theorem Qd{α:Type}{P:α->Prop}{xs:List α}{x:α}(h:∀c∈xs,P c)(hx:P x):∀c∈xs++[x],P c:=fun c hc=>by
 rcases List.mem_append.mp hc with h1 |h1
 ·exact h c h1
 ·rw[List.mem_singleton.mp h1];exact hx
def spAny:Sp:=fun vs H Q _=>∃(p:Addr) (T rm:Int),vs=[.ref p,.int T,.int rm]/\BoxAt H p/\0<=T/\T<=8/\0<=rm/\rm<=40/\
 ∀(r:Addr) (ds:List Df) (xs:List V) (H':Hp),H' r=some (.tup xs)->DfsV H' ds xs->(ds.length:Int)=T->DfsOk rm ds->BoxAt H' p->But p H H'->Q (.ref r) H'
theorem scAny:FnScope ["_law_box_here","_law_total","_law_room","_law_words","_law_most","_law_heads","_law_k","_law_turn","_law_row","_law_some","_law_deep","_law_defs","_law_f","_law_params","_law_spare","_law_body_here"] ["_law_box_here","_law_total","_law_room"] (defScope sAny):=fsc
inductive AJ(p wl:Addr)(T rm:Int)(H:Hp)(σ':L2.St)(H':Hp):Prop
 |mk (ys':List Str) (e0:σ'=[some (.ref p),some (.int T),some (.int rm),some (.ref wl),none,none,none,none,none,none,none,none,none,none,none,none]) (e1:H' wl=some (.lst (ys'.map V.str))) (e2:ys'.length=20) (e3:(∀y∈ys',WN y)) (e4:BoxAt H' p) (e5:But p H H'):AJ p wl T rm H σ' H'
inductive AI(p wl hl:Addr)(T rm m:Int)(ys:List Str)(H:Hp)(i:Nat)(σ:L2.St)(H':Hp):Prop
 |mk (o6 o7 o8:Option V) (hs:List (Str×List Str)) (hv:List V) (e0:σ=[some (.ref p),some (.int T),some (.int rm),some (.ref wl),some (.int m),some (.ref hl),o6,o7,o8,none,none,none,none,none,none,none]) (e1:H' hl=some (.lst hv)) (e2:HdsV H' hs hv) (e3:hs.length=i) (e4:HdsOk hs) (e5:H' wl=some (.lst (ys.map V.str))) (e6:BoxAt H' p) (e7:But p H H'):AI p wl hl T rm m ys H i σ H'
inductive AK(p wl hl sm dl:Addr)(T rm m:Int)(dp:Nat)(zs:List Str)(hs:List (Str×List Str))(hv:List V)(H:Hp)(i:Nat)(σ:L2.St)(H':Hp):Prop
 |mk (o6 o7 o8 o12 o13 o14 o15:Option V) (ds:List Df) (dv:List V) (e0:σ=[some (.ref p),some (.int T),some (.int rm),some (.ref wl),some (.int m),some (.ref hl),o6,o7,o8,some (.ref sm),some (.int (dp:Int)),some (.ref dl),o12,o13,o14,o15]) (e1:H' dl=some (.lst dv)) (e2:DfsV H' ds dv) (e3:ds.length=i) (e4:DfsOk rm ds) (e5:H' hl=some (.lst hv)) (e6:HdsV H' hs hv) (e7:H' sm=some (.lst (zs.map V.str))) (e8:BoxAt H' p) (e9:But p H H'):AK p wl hl sm dl T rm m dp zs hs hv H i σ H'
inductive AL(zs:List Str)(p wl hl sm dl t0 sp:Addr)(T rm m:Int)(dp:Nat)(o7 o8:Option V)(c:Str×List Str)(H9:Hp)(j:Nat)(σ:L2.St)(H':Hp):Prop
 |mk (o6':Option V) (bb:Addr) (Bb:Bd) (bs:List V) (e0:σ=[some (.ref p),some (.int T),some (.int rm),some (.ref wl),some (.int m),some (.ref hl),o6',o7,o8,some (.ref sm),some (.int (dp:Int)),some (.ref dl),some (.str c.1),some (.ref t0),some (.ref sp),some (.ref bb)]) (e1:H' bb=some (.tup bs)) (e2:BdV H' Bb bs) (e3:(Bb.size:Int)+spK H' sp<=rm/\0<=spK H' sp) (e4:Bb.fit dp) (e5:BoxAt H' p) (e6:SpAt H' sp) (e7:But2 p sp H9 H'):AL zs p wl hl sm dl t0 sp T rm m dp o7 o8 c H9 j σ H'
theorem ok_any{f:Addr}{fd:FuncData}(F:Fun K "_law_any" "_law_any" sAny f fd)(GT:FnOk P w K mg base CX0 1 fT fdT ["_law_box_here","_law_wide"] spTake)(bT:Binds K fdT ["_law_box_here","_law_wide"] [])(kT:keepIn K (.ref fT)=true)(mT:mg "_law_take"=some (.ref fT))(GA:FnOk P w K mg base CX0 2 fA fdA ["_law_box_here","_law_total"] spNames)(bA:Binds K fdA ["_law_box_here","_law_total"] [])(kA:keepIn K (.ref fA)=true)(mA:mg "_law_names"=some (.ref fA))(GB:FnOk P w K mg base CX0 21 fB fdB ["_law_box_here","_law_names_here","_law_heads","_law_spare","_law_deep"] (spBody 6))(bB:Binds K fdB ["_law_box_here","_law_names_here","_law_heads","_law_spare","_law_deep"] [])(kB:keepIn K (.ref fB)=true)(mB:mg "_law_body"=some (.ref fB))(ml:mg "len"=none)(mr:mg "range"=none)(mtu:mg "tuple"=none)(mi:mg "int"=none):FnOk P w K mg base CX0 22 f fd ["_law_box_here","_law_total","_law_room"] spAny:=by
 refine F.ok scAny (fun vs H Q E h=>?_) (fun cdv A outer s H vs Q E hr h=>?_)
 ·refine opq fun Gq kq=>?_
  obtain⟨p,T,rm,rfl,_⟩:=h
  refine kq ?_
  clear kq
  rfl
 refine opq fun Gq kq=>?_
 obtain⟨p,T,rm,rfl,B,hT1,hT2,hR1,hR2,q⟩:=h
 refine kq ?_
 clear kq
 refine⟨_,(jd (js (i:=3) scAny.nd rfl (Or.inl rfl) (ji GA hr.m rfl mA kA bA .nil pass0 (ja (pv 0) (ja jf jc)))) (jd (zQ (jx (@jq _ _ _ _ _ _ _ _ jI (ji GT hr.m rfl mT kT bT .nil pass0 (ja (pv 0) (ja jf jc))) jf (nomark _)) (jg (@qu _ _ _ _ _ _ (@jF _ _ _ _ _ _ _ _ _ _ jJ (pv 3) (@jR _) (@jE _ _ _ jf)) (@ZC _ _ _ _ _ _ _ _ _ (pv 3) jf jf (by intro _;rfl)) (by rfl) (by rfl) (by rfl))) jp)) (jd (js (i:=4) scAny.nd rfl (Or.inl rfl) (@jv _ _ _ _ _ _ _ jy (jC (ja jf (ja jf jc))) (@jG _ _ _ _ _ _ _ _ _ JZ rfl mi boot_int (ja (@j5 _ _ _ _ _ _ _ _ jI (ji GT hr.m rfl mT kT bT .nil pass0 (ja (pv 0) (ja jf jc))) jf (nomark _)) jc) (by decide) (by decide) (by rfl) (by rfl)) (fun _ _=>rfl))) (jd (js (i:=5) scAny.nd rfl (Or.inl rfl) (jC jc)) (jd (@zj _ _ _ _ _ _ _ _ PassesOwn.never rfl (@zc _ _ _ _ _ _ rfl mr (ja (pv 1) jc) (by rfl)) (jD (i:=6) scAny.nd rfl (Or.inl rfl)) (jd (js (i:=7) scAny.nd rfl (Or.inl rfl) (ju jQ jf (ji GT hr.m rfl mT kT bT .nil pass0 (ja (pv 0) (ja jf jc))))) (jd (js (i:=8) scAny.nd rfl (Or.inl rfl) (ju j8 (@jF _ _ _ _ _ _ _ _ _ _ jJ (pv 3) (@jE _ _ _ (pv 7)) (@jE _ _ _ jf)) (@jF _ _ _ _ _ _ _ _ _ _ jJ (pv 3) (@jE _ _ _ jf) (@jE _ _ _ (pv 7))))) (jg (jN (@jS _ _ _ _ _ _ _ _ _ _ _ _ PySem.F.plainAttrs_list PySem.F.slot_list_append PySem.F.type_list_append jL (pv 5) (ja (jH (ja (@jv _ _ _ _ _ _ _ jy (pv 3) (pv 6) (fun _ _=>rfl)) (ja (@jG _ _ _ _ _ _ _ _ _ jA rfl mtu boot_tuple (ja (@jF _ _ _ _ _ _ _ _ _ _ jJ (pv 8) (@jR _) (@jE _ _ _ (ji GT hr.m rfl mT kT bT .nil pass0 (ja (pv 0) (ja (pv 4) jc))))) jc) (by decide) (by decide) (by rfl) (by rfl)) jc))) jc) (by rfl) (by rfl) (by rfl) (by rfl) (by rfl)))))) (by intro _;rfl)) (jd (js (i:=9) scAny.nd rfl (Or.inl rfl) (@jF _ _ _ _ _ _ _ _ _ _ jJ (pv 3) (@jE _ _ _ jf) (@jE _ _ _ (ju jQ jf (ji GT hr.m rfl mT kT bT .nil pass0 (ja (pv 0) (ja jf jc))))))) (jd (js (i:=10) scAny.nd rfl (Or.inl rfl) (@jv _ _ _ _ _ _ _ jy (jC (ja jf (ja jf (ja jf (ja jf jc))))) (ji GT hr.m rfl mT kT bT .nil pass0 (ja (pv 0) (ja jf jc))) (fun _ _=>rfl))) (jd (js (i:=11) scAny.nd rfl (Or.inl rfl) (jC jc)) (jd (@zj _ _ _ _ _ _ _ _ PassesOwn.never rfl (@ze _ _ _ _ (pv 5)) (@qS _ _ _ _ _ 2 rfl (jY (jD (i:=12) scAny.nd rfl (Or.inl rfl)) (jY (jD (i:=13) scAny.nd rfl (Or.inl rfl)) qe)) (by rfl) (by rfl)) (jd (js (i:=14) scAny.nd rfl (Or.inl rfl) (jC (ja (pv 2) jc))) (jd (js (i:=15) scAny.nd rfl (Or.inl rfl) (jH jc)) (jd (@zj _ _ _ _ _ _ _ _ PassesOwn.never rfl (@zc _ _ _ _ _ _ rfl mr (ja jf jc) (by rfl)) (jD (i:=6) scAny.nd rfl (Or.inl rfl)) (jg (js (i:=15) scAny.nd rfl (Or.inl rfl) (ju zf (pv 15) (ji GB hr rfl mB kB bB .nil pass0 (ja (pv 0) (ja (pv 9) (ja (pv 5) (ja (pv 14) (ja (pv 10) jc))))))))) (by intro _;rfl)) (jg (jN (@jS _ _ _ _ _ _ _ _ _ _ _ _ PySem.F.plainAttrs_list PySem.F.slot_list_append PySem.F.type_list_append jL (pv 11) (ja (jH (ja (pv 12) (ja (pv 13) (ja (pv 15) jc)))) jc) (by rfl) (by rfl) (by rfl) (by rfl) (by rfl))))))) (by intro _;rfl)) (jg (jr (@jG _ _ _ _ _ _ _ _ _ jA rfl mtu boot_tuple (ja (pv 11) jc) (by decide) (by decide) (by rfl) (by rfl))))))))))))),?_⟩
 try dsimp only[cxOf,Cx.nox,Cx.wish]
 have big:=line24
 refine seqO fun E1 m1=>?_
 refine⟨_,rfl,p,20,rfl,B,by decide,by decide,fun wl ys H1 nwl hw1 hyl hys B1 k1=>?_⟩
 refine m1 _ _ ?_
 refine seqO fun E2 m2=>?_
 have wp:wl≠p:=B.ne nwl
 refine midE (AJ p wl T rm H) (fun E0 _ fm=>?_) fun σ' H2 hq'=>?_
 ·clear m2
  refine ifG fun G' g'=>⟨_,rfl,p,2,rfl,B1,by decide,by decide,fun d1 H2 d10 d11 B2 e2=>?_⟩
  have hw2:H2 wl=some (.lst (ys.map V.str)):=by rw[e2 wl wp];exact hw1
  have k2:=k1.trans (But.of_eq e2)
  refine⟨rfl,_,rfl,g' _ _ ?_⟩
  clear g'
  refine ite2 (fun c=>?_) (fun c=>fm _ _ ⟨ys,rfl,hw2,by omega,hys,B2,k2⟩)
  refine⟨_,rfl,_,rfl,wl,_,rfl,SqL.of hw2,fun sl nsl=>?_⟩
  have hwn:wl≠sl:=fun e=>by rw[<- e,hw2]at nsl;cases nsl
  have hp2:=B2.ne nsl
  refine⟨_,rfl,wl,sl,_,_,_,_,rfl,rfl,rfl,rfl,keepN hw2 nsl,jb,hwn,by decide,by decide,by rw[List.length_map];omega,?_,?_⟩
  ·have:=ku (ys.map V.str) none (some 2)
   rw[List.length_map]at this ⊢
   omega
  have e2:cutV (ys.map V.str) none (some 2)=(ys.take 2).map V.str:=by
   rw[show(2:Int)=((2:Nat):Int) from rfl,cutN (by rw[List.length_map];omega),List.map_take]
  refine fm _ _ ⟨ys.take 8++ys.take 2++ys.drop 10,rfl,?_,?_,?_,(B2.upd_new nsl).eq (jh (Ne.symm wp)),?_⟩
  ·rw[jb,e2,List.map_append,List.map_append,List.map_take,List.map_drop,List.map_take]
   rfl
  ·rw[List.length_append,List.length_append,List.length_take,List.length_take,List.length_drop]
   omega
  ·intro y hy
   rcases List.mem_append.mp hy with h |h
   ·rcases List.mem_append.mp h with h |h
    ·exact hys y (List.mem_of_mem_take h)
    ·exact hys y (List.mem_of_mem_take h)
   ·exact hys y (List.mem_of_mem_drop h)
  ·exact(k2.upd_new nsl).upd_own nwl
 obtain⟨ys,rfl,hw2,hyl,hys,B2,k2⟩:=hq'
 refine m2 _ _ ?_
 clear m1 m2
 refine seqO fun E3 m3=>?_
 refine⟨sz2,fun l1 nl1=>?_⟩
 refine⟨_,rfl,p,3,rfl,B2.upd_new nl1,by decide,by decide,fun d2 H3 d20 d21 B3 e3=>?_⟩
 have k3:But p H2 H3:=((But.refl).upd_new nl1).trans (But.of_eq e3)
 have l1p:=B2.ne nl1
 have hl1:H3 l1=some (.lst [.int 4,.int 7]):=by rw[e3 l1 l1p];exact jb
 refine⟨rfl,.inr ⟨_,rfl,?_⟩⟩
 have hat:∀c:Bool,∃m:Int,atI [V.int 4,V.int 7] (if c then 1 else 0)=some (.int m)/\4<=m/\m<=7:=fun c=>by
  cases c
  ·exact⟨4,rfl,by decide,by decide⟩
  ·exact⟨7,rfl,by decide,by decide⟩
 obtain⟨m,hm,m4,m7⟩:=hat _
 refine⟨l1,_,_,_,rfl,rfl,SqL.of hl1,hm,?_⟩
 refine m3 _ _ ?_
 refine seqO fun E4 m4=>?_
 have hw3:H3 wl=some (.lst (ys.map V.str)):=k3 _ _ wp hw2
 have k3':=k2.trans k3
 refine⟨Nat.zero_le _,fun hl nhl=>?_⟩
 refine m4 _ _ ?_
 refine seqO fun E5 m5=>?_
 have hlp:=B3.ne nhl
 have nhl0:H hl=none:=by
  cases z:H hl with
  |none=>rfl
  |some o=>have:=k3' _ _ hlp z;rw[nhl]at this;cases this
 have wh:wl≠hl:=fun e=>by rw[<- e,hw3]at nhl;cases nhl
 refine forE fun J j=>⟨_,rfl,T,rfl,by omega,by omega,j _ _ ?_⟩
 clear j
 refine zx (lo:=0) (AI p wl hl T rm m ys H)
  ⟨none,none,none,[],[],rfl,jb,rfl,rfl,(fun c hc=>nomatch hc),keepN hw3 nhl,B3.upd_new nhl,k3'.upd_own nhl0⟩ ?_ ?_
 ·intro D' _ i σ H4 hi fin Gq kq hq'
  obtain⟨o6,o7,o8,hs,hv,rfl,hh4,hd4,hsl,hok,hw4,B4,k4⟩:=hq'
  refine kq ?_
  clear kq m5 m3 m4
  show tSeq (tAsg _ _) _ D' _ _
  refine seqO fun F1 f1=>?_
  refine⟨_,rfl,p,6,rfl,B4,by decide,by decide,fun d5 H5 d50 d51 B5 e5=>?_⟩
  have k5:But p H4 H5:=But.of_eq e5
  have hw5:=k5 _ _ wp hw4
  have hh5:=k5 _ _ hlp hh4
  have hd5:=hd4.mono (k5.tm B4)
  refine⟨_,_,rfl,rfl,?_⟩
  refine f1 _ _ ?_
  show tSeq (tAsg _ _) _ D' _ _
  refine seqO fun F2 f2=>?_
  refine⟨_,rfl,_,rfl,_,rfl,_,rfl,wl,_,rfl,SqL.of hw5,fun s1 ns1=>?_⟩
  refine⟨_,rfl,_,rfl,_,rfl,_,rfl,wl,_,rfl,SqL.of (keepN hw5 ns1),fun s2 ns2=>?_⟩
  have L1:=zJ ys (some (8+d5)) (some 14)
  have L2':=zJ ys (some 8) (some (8+d5))
  have L3:=ku (ys.map V.str) (some (8+d5)) (some 14)
  have L4:=ku (ys.map V.str) (some 8) (some (8+d5))
  rw[List.length_map]at L3 L4
  refine⟨s1,s2,_,_,rfl,rfl,keepN jb ns2,jb,by omega,fun rl nrl=>?_⟩
  refine f2 _ _ ?_
  have er:cutV (ys.map V.str) (some (8+d5)) (some 14)++cutV (ys.map V.str) (some 8) (some (8+d5))=(cutS ys (some (8+d5)) (some 14)++cutS ys (some 8) (some (8+d5))).map V.str:=by
   rw[jM,jM,List.map_append]
  have s6:Same H5 (upd (upd (upd H5 s1 (.lst (cutV (ys.map V.str) (some (8+d5)) (some 14)))) s2 (.lst (cutV (ys.map V.str) (some 8) (some (8+d5))))) rl (.lst (cutV (ys.map V.str) (some (8+d5)) (some 14)++cutV (ys.map V.str) (some 8) (some (8+d5))))):=((je ns1).trans (je ns2)).trans (je nrl)
  have r6:upd (upd (upd H5 s1 (.lst (cutV (ys.map V.str) (some (8+d5)) (some 14)))) s2 (.lst (cutV (ys.map V.str) (some 8) (some (8+d5))))) rl (.lst (cutV (ys.map V.str) (some (8+d5)) (some 14)++cutV (ys.map V.str) (some 8) (some (8+d5)))) rl=some (.lst ((cutS ys (some (8+d5)) (some 14)++cutS ys (some 8) (some (8+d5))).map V.str)):=by rw[jb,er]
  have B6:BoxAt (upd (upd (upd H5 s1 (.lst (cutV (ys.map V.str) (some (8+d5)) (some 14)))) s2 (.lst (cutV (ys.map V.str) (some 8) (some (8+d5))))) rl (.lst (cutV (ys.map V.str) (some (8+d5)) (some 14)++cutV (ys.map V.str) (some 8) (some (8+d5))))) p:=((B5.upd_new ns1).upd_new ns2).upd_new nrl
  generalize upd (upd (upd H5 s1 (.lst (cutV (ys.map V.str) (some (8+d5)) (some 14)))) s2 (.lst (cutV (ys.map V.str) (some 8) (some (8+d5))))) rl (.lst (cutV (ys.map V.str) (some (8+d5)) (some 14)++cutV (ys.map V.str) (some 8) (some (8+d5))))=H6 at s6 r6 B6
  have LR:(cutS ys (some (8+d5)) (some 14)++cutS ys (some 8) (some (8+d5))).length<=40:=by rw[List.length_append];omega
  have hrow:∀y∈cutS ys (some (8+d5)) (some 14)++cutS ys (some 8) (some (8+d5)),WN y:=fun y hy=>(List.mem_append.mp hy).elim (fun h=>hys y (j9 h)) fun h=>hys y (j9 h)
  generalize cutS ys (some (8+d5)) (some 14)++cutS ys (some 8) (some (8+d5))=row at r6 LR hrow
  have hw6:=s6 _ _ hw5
  have hh6:=s6 _ _ hh5
  have ei:(0:Int)+(i:Int)=(i:Int):=Int.zero_add _
  rw[ei]
  obtain⟨y,hy,hat⟩:=Kw (ys:=ys) (k:=(i:Int)) (by omega) (by omega)
  have rp:rl≠p:=zr B6 r6
  refine⟨_,rfl,.inl ⟨rfl,_,SqL.of hh6⟩,_,rfl,_,rfl,wl,_,_,_,rfl,rfl,SqL.of hw6,hat,_,rfl,_,rfl,_,rfl,p,m,rfl,B6,by omega,by omega,fun d7 H7 d70 d71 B7 e7=>?_⟩
  have k7:But p H6 H7:=But.of_eq e7
  refine⟨_,rfl,rl,_,rfl,SqL.of (k7 _ _ rp r6),fun s3 ns3=>?_⟩
  refine⟨s3,_,rfl,.inl ⟨SqL.of jb,fun t nt=>⟨sz2,fun r nr=>?_⟩⟩⟩
  rw[jM]at nt nr ⊢
  have L8:=cutS_to (ss:=row) d70
  have hps:∀y∈cutS row none (some d7),WN y:=fun y hy=>hrow y (j9 hy)
  generalize cutS row none (some d7)=ps at*
  have s8:Same H7 (upd (upd (upd H7 s3 (.lst (ps.map V.str))) t (.tup (ps.map V.str))) r (.tup [.str y,.ref t])):=((je ns3).trans (je nt)).trans (je nr)
  have t8:upd (upd (upd H7 s3 (.lst (ps.map V.str))) t (.tup (ps.map V.str))) r (.tup [.str y,.ref t]) t=some (.tup (ps.map V.str)):=keepN jb nr
  have r8:upd (upd (upd H7 s3 (.lst (ps.map V.str))) t (.tup (ps.map V.str))) r (.tup [.str y,.ref t]) r=some (.tup [.str y,.ref t]):=jb
  have B8:BoxAt (upd (upd (upd H7 s3 (.lst (ps.map V.str))) t (.tup (ps.map V.str))) r (.tup [.str y,.ref t])) p:=((B7.upd_new ns3).upd_new nt).upd_new nr
  generalize upd (upd (upd H7 s3 (.lst (ps.map V.str))) t (.tup (ps.map V.str))) r (.tup [.str y,.ref t])=H8 at s8 t8 r8 B8
  have hh8:=s8 _ _ (k7 _ _ hlp hh6)
  have hw8:=s8 _ _ (k7 _ _ wp hw6)
  have hdl:=hd4.len
  refine⟨hl,_,_,rfl,rfl,hh8,by omega,?_⟩
  have tm:TMono H8 (upd H8 hl (.lst (hv++[.ref r]))):=fun b xs e=>by rw[jh (jU e hh8 (by intro z;cases z))];exact e
  have hd8:=((hd5.mono (Same.tm s6)).mono (k7.tm B6)).mono (Same.tm s8)
  refine fin _ _ ⟨_,_,_,hs++[(y,ps)],_,rfl,jb,(hd8.mono tm).snoc ⟨r,t,rfl,tm _ _ r8,tm _ _ t8⟩,by rw[List.length_append,hsl];rfl,Qd hok ⟨hys y hy,by show ps.length<=6;omega,hps⟩,by rw[jh wh];exact hw8,B8.eq (jh (Ne.symm hlp)),?_⟩
  refine But.upd_own (fun b o n e=>?_) nhl0
  exact s8 _ _ (k7 _ _ n (s6 _ _ (k5 _ _ n (k4 _ _ n e))))
 intro σ H4 hq'
 refine opq fun Gq kq=>?_
 obtain⟨o6,o7,o8,hs,hv,rfl,hh4,hd4,hsl,hok,hw4,B4,k4⟩:=hq'
 refine kq ?_
 clear kq
 refine m5 _ _ ?_
 refine seqO fun E6 m6=>?_
 refine⟨_,rfl,_,rfl,_,rfl,p,7,rfl,B4,by decide,by decide,fun d5 H5 d50 d51 B5 e5=>?_⟩
 have k5:But p H4 H5:=But.of_eq e5
 have hw5:=k5 _ _ wp hw4
 have hh5:=k5 _ _ hlp hh4
 have hd5:=hd4.mono (k5.tm B4)
 refine⟨_,_,rfl,rfl,_,rfl,wl,_,rfl,SqL.of hw5,fun sm nsm=>?_⟩
 refine m6 _ _ ?_
 refine seqO fun E7 m7=>?_
 obtain⟨z1,z2⟩:=ZO (ys:=ys) (k:=14+d5) hyl (by omega) (by omega)
 have m6:upd H5 sm (.lst (cutV (ys.map V.str) (some 8) (some (14+d5)))) sm=some (.lst ((cutS ys (some 8) (some (14+d5))).map V.str)):=by rw[jb,jM]
 have k6:But p H (upd H5 sm (.lst (cutV (ys.map V.str) (some 8) (some (14+d5))))):=(k4.trans k5).upd_new nsm
 have hh6:=keepN (o:=.lst (cutV (ys.map V.str) (some 8) (some (14+d5)))) hh5 nsm
 have hd6:=hd5.mono (Same.tm (je (o:=.lst (cutV (ys.map V.str) (some 8) (some (14+d5)))) nsm))
 have B6:=B5.upd_new (o:=.lst (cutV (ys.map V.str) (some 8) (some (14+d5)))) nsm
 generalize upd H5 sm (.lst (cutV (ys.map V.str) (some 8) (some (14+d5))))=H6 at m6 k6 hh6 hd6 B6
 have zw:∀y∈cutS ys (some 8) (some (14+d5)),WN y:=fun y hy=>hys y (j9 hy)
 generalize cutS ys (some 8) (some (14+d5))=zs at m6 z1 z2 zw
 have smp:=zr B6 m6
 refine⟨sz4,fun l2 nl2=>?_⟩
 refine⟨_,rfl,p,4,rfl,B6.upd_new nl2,by decide,by decide,fun d7 H7 d70 d71 B7 e7=>?_⟩
 have k7:But p H6 H7:=((But.refl).upd_new nl2).trans (But.of_eq e7)
 have l2p:=B6.ne nl2
 have hl2:H7 l2=some (.lst [.int 3,.int 3,.int 3,.int 5]):=by rw[e7 l2 l2p];exact jb
 refine opq fun Gq kq=>?_
 obtain⟨dp,hdp,dp6,dps,dp5⟩:=deep_at d70 d71
 refine kq ?_
 clear kq
 refine⟨l2,_,_,_,rfl,rfl,SqL.of hl2,hdp,?_⟩
 refine m7 _ _ ?_
 refine seqO fun E8 m8=>?_
 have m7:=k7 _ _ smp m6
 have hh7:=k7 _ _ hlp hh6
 have hd7:=hd6.mono (k7.tm B6)
 have k7':=k6.trans k7
 refine⟨Nat.zero_le _,fun dl ndl=>?_⟩
 refine m8 _ _ ?_
 refine seqO fun E9 m9=>?_
 have dlp:=B7.ne ndl
 have ndl0:H dl=none:=by
  cases z:H dl with
  |none=>rfl
  |some o=>have:=k7' _ _ dlp z;rw[ndl]at this;cases this
 have hhdl:hl≠dl:=fun e=>by rw[<- e,hh7]at ndl;cases ndl
 have smdl:sm≠dl:=fun e=>by rw[<- e,m7]at ndl;cases ndl
 have hvl:=hd4.len
 refine forE fun J j=>⟨_,rfl,hl,rfl,⟨_,SqL.of (keepN hh7 ndl)⟩,j _ _ ?_⟩
 clear j
 refine Ke (K:=K) (a:=hl) (xs:=hv) (AK p wl hl sm dl T rm m dp zs hs hv H)
  ⟨_,_,_,_,_,_,_,[],[],rfl,jb,rfl,rfl,(fun c hc=>nomatch hc),keepN hh7 ndl,hd7.mono (Same.tm (je ndl)),keepN m7 ndl,B7.upd_new ndl,k7'.upd_own ndl0⟩ ?_ ?_ ?_
 ·intro i σ H8 _ hq'
  refine opq fun Gq kq=>?_
  obtain⟨o6,o7,o8,o12,o13,o14,o15,ds,dv,rfl,hdl,hD,hdl',hok',hh,hd,hm8,B8,k8⟩:=hq'
  refine kq ?_
  clear kq
  exact SqL.of hh
 ·intro D' _ i v σ H8 hx fin Gq kq hq'
  obtain⟨o6,o7,o8,o12,o13,o14,o15,ds,dv,rfl,hdl,hD,hdl',hok',hh,hd,hm8,B8,k8⟩:=hq'
  have hil:i < hv.length:=(List.getElem?_eq_some_iff.mp hx).1
  obtain⟨c,hc,q0,t0,rfl,w1,w2⟩:=hd.at i v hx
  refine kq ?_
  clear kq m9
  have hcm:=List.mem_of_getElem? hc
  have hcok:=hok c hcm
  refine tgE fun F6 f6=>⟨q0,_,rfl,SqT.of w1,rfl,_,_,rfl,_,_,rfl,rfl,f6 _ _ ?_⟩
  clear f6
  show tSeq (tAsg _ _) _ D' _ _
  refine seqO fun F1 f1=>?_
  refine⟨_,rfl,sz1,fun sp nsp=>?_⟩
  refine f1 _ _ ?_
  show tSeq (tAsg _ _) _ D' _ _
  refine seqO fun F2 f2=>?_
  refine⟨sz0,fun b0 nb0=>?_⟩
  refine f2 _ _ ?_
  show tSeq (tFor _ _ _) _ D' _ _
  refine seqO fun F3 f3=>?_
  have s9:Same H8 (upd (upd H8 sp (.lst [.int rm])) b0 (.tup [])):=(je nsp).trans (je nb0)
  have sp9:SpAt (upd (upd H8 sp (.lst [.int rm])) b0 (.tup [])) sp:=⟨rm,keepN jb nb0⟩
  have b9:upd (upd H8 sp (.lst [.int rm])) b0 (.tup []) b0=some (.tup []):=jb
  have B9:BoxAt (upd (upd H8 sp (.lst [.int rm])) b0 (.tup [])) p:=(B8.upd_new nsp).upd_new nb0
  have e9:spK (upd (upd H8 sp (.lst [.int rm])) b0 (.tup [])) sp=rm:=qU (keepN jb nb0)
  generalize upd (upd H8 sp (.lst [.int rm])) b0 (.tup [])=H9 at s9 sp9 b9 B9 e9
  have nsp0:H sp=none:=by
   cases z:H sp with
   |none=>rfl
   |some o=>have:=k8 _ _ (B8.ne nsp) z;rw[nsp]at this;cases this
  have dsp:dl≠sp:=fun e=>by rw[<- e,hdl]at nsp;cases nsp
  have G9:Gen H9 p sm hl sp zs hs:=⟨B9,s9 _ _ hm8,z1,z2,zw,⟨hv,s9 _ _ hh,hd.mono (Same.tm s9)⟩,by omega,by omega,fun c hc=>⟨(hok c hc).2.1,(hok c hc).1⟩,sp9⟩
  refine forE fun J j=>⟨_,rfl,by decide,by decide,j _ _ ?_⟩
  clear j
  refine zx (lo:=0) (AL zs p wl hl sm dl t0 sp T rm m dp o7 o8 c H9)
   ⟨_,b0,.nil,[],rfl,b9,rfl,(by rw[e9];exact⟨by show((0:Nat):Int)+_<=_;omega,hR1⟩),Xt,B9,sp9,But2.refl⟩ ?_ ?_
  ·intro D'' _ j σ H10 hj fin2 Gq kq hq'
   obtain⟨o6',bb,Bb,bs,rfl,hbb,hBb,hsz,hdep,B10,sp10,k10⟩:=hq'
   refine kq ?_
   clear kq f1 f2 f3
   have G10:=G9.but2 B10 sp10 k10
   refine⟨_,rfl,_,rfl,_,rfl,_,rfl,_,rfl,_,rfl,p,sm,hl,sp,dp,zs,hs,rfl,G10,dp6,hsz.2,fun r b bs' H11 hr11 hb11 hsz11 hsz12 hdp11 B11 s11 k11=>?_⟩
   have tm:=k11.tm B10 sp10
   have lb:=hBb.len
   have lb':=hb11.len
   obtain⟨hsa,hsb⟩:=hsz
   refine⟨bb,r,_,_,rfl,rfl,tm _ _ hbb,hr11,by omega,fun r2 H12 hr12 s12=>?_⟩
   have B12:BoxAt H12 p:=by
    refine opq fun Gq kq=>?_
    obtain⟨a,b,h1,h2,h3,h⟩:=B11.ob
    refine kq ?_
    clear kq
    exact⟨a,b,h1,h2,h3,s12 _ _ h⟩
   have sp12:SpAt H12 sp:=by
    obtain⟨z,hz⟩:=s11
    exact⟨z,s12 _ _ hz⟩
   refine fin2 _ _ ⟨_,r2,Bb.app b,_,rfl,hr12,(hb11.mono (Same.tm s12)).app ((hBb.mono tm).mono (Same.tm s12)),?_,Xu hdep hdp11,B12,sp12,k10.trans (k11.trans (But2.of_same s12))⟩
   rw[qc,kf s11 s12]
   exact⟨by omega,hsz12⟩
  ·intro σ H10 hq'
   refine opq fun Gq kq=>?_
   obtain⟨o6',bb,Bb,bs,rfl,hbb,hBb,hsz,hdep,B10,sp10,k10⟩:=hq'
   refine kq ?_
   clear kq
   refine f3 _ _ ?_
   have hdl10:H10 dl=some (.lst dv):=k10 _ _ dlp dsp (s9 _ _ hdl)
   have G10:=G9.but2 B10 sp10 k10
   have tm10:TMono H8 H10:=fun b xs e=>k10.tm B9 sp9 _ _ (s9 _ _ e)
   refine⟨_,rfl,.inl ⟨rfl,_,SqL.of hdl10⟩,_,rfl,_,rfl,_,rfl,sz3,fun r nr=>?_⟩
   have s11:Same H10 (upd H10 r (.tup [.str c.1,.ref t0,.ref bb])):=je nr
   have hdvl:=hD.len
   have hsz':Bb.size<=40:=by obtain⟨hsa,hsb⟩:=hsz;omega
   refine⟨dl,_,_,rfl,rfl,s11 _ _ hdl10,by omega,?_⟩
   have hr11:upd H10 r (.tup [.str c.1,.ref t0,.ref bb]) r=some (.tup [.str c.1,.ref t0,.ref bb]):=jb
   have B11:=B10.upd_new (o:=.tup [.str c.1,.ref t0,.ref bb]) nr
   generalize upd H10 r (.tup [.str c.1,.ref t0,.ref bb])=H11 at s11 hr11 B11
   have tm:TMono H11 (upd H11 dl (.lst (dv++[.ref r]))):=fun b xs e=>by rw[jh (jU e (s11 _ _ hdl10) (by intro z;cases z))];exact e
   have tmA:TMono H10 (upd H11 dl (.lst (dv++[.ref r]))):=fun b xs e=>tm _ _ (s11 _ _ e)
   have tmB:TMono H8 (upd H11 dl (.lst (dv++[.ref r]))):=fun b xs e=>tmA _ _ (tm10 _ _ e)
   refine fin _ _ ⟨_,_,_,_,_,_,_,ds++[⟨c.1,c.2,Bb⟩],_,rfl,jb,(hD.mono tmB).snoc ⟨r,t0,bb,bs,rfl,tm _ _ hr11,tmB _ _ w2,tmA _ _ hbb,hBb.mono tmA⟩,by rw[List.length_append,hdl'];rfl,Qd hok' ⟨⟨hcok.1,hcok.2.2,hcok.2.1,hdep.1,Nat.lt_of_le_of_lt hdep.2 (by omega),Nat.le_trans hsz' (by decide)⟩,by obtain⟨hsa,hsb⟩:=hsz;show(Bb.size:Int)<=rm;omega⟩,?_,hd.mono tmB,?_,B11.eq (jh (Ne.symm dlp)),?_⟩
   ·obtain⟨hv',e1,e2⟩:=G10.h
    rw[jh hhdl]
    exact s11 _ _ (k10 _ _ G9.hsp.2 G9.hsp.1 (s9 _ _ hh))
   ·rw[jh smdl]
    exact s11 _ _ G10.g
   ·refine But.upd_own (fun b o n e=>?_) ndl0
    exact s11 _ _ (k10 _ _ n (jj e nsp0) (s9 _ _ (k8 _ _ n e)))
 ·intro σ H8 hq'
  refine opq fun Gq kq=>?_
  obtain⟨o6,o7,o8,o12,o13,o14,o15,ds,dv,rfl,hdl,hD,hdl',hok',hh,hd,hm8,B8,k8⟩:=hq'
  refine kq ?_
  clear kq
  refine m9 _ _ ?_
  refine⟨_,rfl,dl,dv,rfl,.inl ⟨SqL.of hdl,fun t nt=>?_⟩⟩
  exact q t ds dv _ jb (hD.mono (Same.tm (je nt))) (by omega) hok' (B8.upd_new nt) (k8.upd_new nt)
noncomputable def Tm.txt:Tm->Str
 | .num n=>Str.ofString (toString n)
 | .var x=>x
 | .op i a b=>Str.ofString "("++sgn i++Str.ofString " "++a.txt++Str.ofString " "++b.txt++Str.ofString ")"
noncomputable def Tm.toks:Tm->List Str
 | .num n=>[Str.ofString (toString n)]
 | .var x=>[x]
 | .op i a b=>"("::sgn i::(a.toks++(b.toks++[Str.ofString ")"]))
theorem zg:(Str.ofString "(").length=1:=by decide+kernel
theorem Jq:(Str.ofString ")").length=1:=by decide+kernel
theorem zl:(Str.ofString " ").length=1:=by decide+kernel
theorem YL:(Str.ofString "(").l=[40]:=by decide+kernel
theorem YM:(Str.ofString ")").l=[41]:=by decide+kernel
theorem JQ:(Str.ofString " ").l=[32]:=by decide+kernel
theorem Jr:∀{t:Tm},t.Good->t.txt.length+6<=24*2 ^ t.depth
 | .num n,g=>by
  have:=qE g.1 g.2
  show(Str.ofString (toString n)).length+6<=24*2 ^ 0
  omega
 | .var x,g=>by
  have:=g.1.2.2
  show x.length+6<=24*2 ^ 0
  omega
 | .op i a b,g=>by
  have h1:=Jr g.2.1
  have h2:=Jr g.2.2
  have m1:2 ^ a.depth<=2 ^ (max a.depth b.depth):=Nat.pow_le_pow_right (by decide) (Nat.le_max_left _ _)
  have m2:2 ^ b.depth<=2 ^ (max a.depth b.depth):=Nat.pow_le_pow_right (by decide) (Nat.le_max_right _ _)
  show(Str.ofString "("++sgn i++Str.ofString " "++a.txt++Str.ofString " "++b.txt++Str.ofString ")").length+6<=24*2 ^ (max a.depth b.depth+1)
  have ls:(sgn i).length=1:=rfl
  rw[slen,slen,slen,slen,slen,slen,zg,Jq,zl,ls,Nat.pow_succ]
  omega
theorem zA{t:Tm}(g:TmOk t):t.txt.length<=762:=by
 have h1:=Jr g.1
 have h2:2 ^ t.depth<=2 ^ 5:=Nat.pow_le_pow_right (by decide) (by have:=g.2;omega)
 have h3:(2:Nat) ^ 5=32:=by decide
 omega
def Wrd(x:Str):Prop:=x.l≠[]/\∀c∈x.l,c≠32/\c≠40/\c≠41/\c≠10
theorem Wrd.wd{x:Str}(h:Wrd x):wd x.l=[x.l]:=Xo h.1 (fun m=>(h.2 _ m).1 rfl) (fun m=>(h.2 _ m).2.1 rfl) (fun m=>(h.2 _ m).2.2.1 rfl)
theorem WN.wrd{x:Str}(h:WN x):Wrd x:=by
 refine⟨fun e=>?_,fun c hc=>?_⟩
 ·have:=h.1.2.1
  rw[<- zz,e]at this
  exact absurd this (by decide)
 ·have:=h.1.1 c hc
  omega
theorem KE{n:Int}(h0:0<=n):Wrd (Str.ofString (toString n)):=⟨Ku h0,fun c hc=>by have:=qD h0 c hc;omega⟩
theorem sgn_l{i:Nat}(h:i < 6):(sgn i).l∈[[43],[45],[42],[47],[60],[61]]:=by
 have:∀m:Fin 6,(sgn m.val).l∈[[43],[45],[42],[47],[60],[61]]:=by decide+kernel
 exact this ⟨i,h⟩
theorem KF{i:Nat}(h:i < 6):Wrd (sgn i):=by
 have:=sgn_l h
 unfold Wrd
 simp only[List.mem_cons,List.not_mem_nil,or_false]at this
 rcases this with e |e |e |e |e |e<;>rw[e]<;>decide
theorem zh:∀{t:Tm},t.Good->wd t.txt.l=t.toks.map Str.l
 | .num n,g=>(KE g.1).wd
 | .var x,g=>(WN.wrd g).wd
 | .op i a b,g=>by
  have h1:=zh g.2.1
  have h2:=zh g.2.2
  show wd (Str.ofString "("++sgn i++Str.ofString " "++a.txt++Str.ofString " "++b.txt++Str.ofString ")").l=_
  rw[j3,j3,j3,j3,j3,j3,YL,YM,JQ]
  have e:[40]++(sgn i).l++[32]++a.txt.l++[32]++b.txt.l++[41]=[]++40::((sgn i).l++32::(a.txt.l++32::(b.txt.l++41::[]))):=by simp
  rw[e,YZ 40 (.inl rfl),z9,z9,YZ 41 (.inr rfl),(KF g.1).wd,h1,h2]
  show _=List.map Str.l ("("::sgn i::(a.toks++(b.toks++[Str.ofString ")"])))
  rw[List.map_cons,List.map_cons,List.map_append,List.map_append,List.map_cons,List.map_nil,Y0]
  rfl
theorem JC:∀{t:Tm},t.Good->10∉t.txt.l
 | .num n,g,h=>((KE g.1).2 _ h).2.2.2 rfl
 | .var x,g,h=>((WN.wrd g).2 _ h).2.2.2 rfl
 | .op i a b,g,h=>by
  have h:10∈(Str.ofString "("++sgn i++Str.ofString " "++a.txt++Str.ofString " "++b.txt++Str.ofString ")").l:=h
  rw[j3,j3,j3,j3,j3,j3,YL,YM,JQ]at h
  simp only[List.mem_append,List.mem_singleton]at h
  rcases h with (((((h |h) |h) |h) |h) |h) |h
  ·exact absurd h (by decide)
  ·exact((KF g.1).2 _ h).2.2.2 rfl
  ·exact absurd h (by decide)
  ·exact JC g.2.1 h
  ·exact absurd h (by decide)
  ·exact JC g.2.2 h
  ·exact absurd h (by decide)
inductive Rw' where
 |df (f:Str) (ps:List Str) |lf (l:Lf) |ifr (T:Tm) |whr (T:Tm) |els |fin
noncomputable def Lf.words:Lf->List Str
 | .rd x T=>["read",x,T.txt]
 | .st x T=>["set",x,T.txt]
 | .wr T U=>["write",T.txt,U.txt]
 | .cl x f ts=>"call"::x::f::ts.map Tm.txt
 | .gv T=>["give",T.txt]
noncomputable def Rw'.words:Rw'->List Str
 | .df f ps=>"def"::f::ps
 | .lf l=>l.words
 | .ifr T=>["if",T.txt]
 | .whr T=>["while",T.txt]
 | .els=>["else"]
 | .fin=>["end"]
noncomputable def Lf.toks:Lf->List Str
 | .rd x T=>"read"::x::T.toks
 | .st x T=>"set"::x::T.toks
 | .wr T U=>"write"::(T.toks++U.toks)
 | .cl x f ts=>"call"::x::f::(ts.map Tm.toks).flatten
 | .gv T=>"give"::T.toks
noncomputable def Rw'.toks:Rw'->List Str
 | .df f ps=>"def"::f::ps
 | .lf l=>l.toks
 | .ifr T=>"if"::T.toks
 | .whr T=>"while"::T.toks
 | .els=>["else"]
 | .fin=>["end"]
def Rw'.Ok:Rw'->Prop
 | .df f ps=>WN f/\(∀p∈ps,WN p)/\ps.length<=6
 | .lf l=>l.Ok
 | .ifr T=>TmOk T
 | .whr T=>TmOk T
 | .els=>True
 | .fin=>True
noncomputable def rowT(d:Nat)(ws:List Str):Str:=Txt.mul "  " (d:Int)++Txt.join " " ws
theorem Xf(d:Nat):(Txt.mul "  " (d:Int)).l=List.replicate (2*d) 32:=by
 have e2:(Str.ofString "  ").cps=#[32,32]:=by decide+kernel
 have fold:∀(n:Nat) (acc:Array Nat),((List.replicate n (#[32,32]:Array Nat)).foldl (·++·) acc).toList=acc.toList++List.replicate (2*n) 32:=by
  intro n
  induction n with
  |zero=>intro acc;simp
  |succ n ih=>
   intro acc
   rw[List.replicate_succ,List.foldl_cons,ih,Array.toList_append,List.append_assoc]
   have e:2*(n+1)=2+2*n:=by omega
   rw[e,<- List.replicate_append_replicate]
   rfl
 unfold Txt.mul
 split
 ·rename_i h
  have e:d=0:=by omega
  rw[e];rfl
 ·split
  ·rename_i h1 h
   have hl:((Str.ofString "  ").length==0)=false:=by decide+kernel
   rw[hl,Bool.or_false]at h
   have e:d=1:=by have:=eq_of_beq h;omega
   rw[e]
   show(Str.ofString "  ").cps.toList=_
   rw[e2];rfl
  ·show((List.replicate d (Str.ofString "  ").cps).foldl (·++·) #[]).toList=_
   rw[e2,fold]
   rfl
theorem KG(d:Nat):(Txt.mul "  " (d:Int)).length=2*d:=by rw[<- zz,Xf,List.length_replicate]
noncomputable def wordsS(row:Str):List Str:=(wd row.l).map fun l=>⟨l.toArray⟩
theorem Kk{row:Str}{ws:List Str}(h:wd row.l=ws.map Str.l):wordsS row=ws:=by
 unfold wordsS
 rw[h,List.map_map]
 have:((fun l:List Nat=>(⟨l.toArray⟩:Str)) ∘ Str.l)=id:=by
  funext x
  obtain⟨⟨l⟩⟩:=x
  rfl
 rw[this,List.map_id]
theorem row_wd(d:Nat)(ws:List Str):wd (rowT d ws).l=((ws.map Str.l).map wd).flatten:=by
 unfold rowT
 rw[j3,Xf,Kt,kQ,JQ,YK]
theorem QD:∀k∈resv,Wrd k:=by unfold Wrd;decide+kernel
theorem map_wd{ts:List Tm}(h:∀T∈ts,TmOk T):(((ts.map Tm.txt).map Str.l).map wd).flatten=((ts.map Tm.toks).flatten).map Str.l:=by
 induction ts with
 |nil=>rfl
 |cons T r ih=>
  rw[List.map_cons,List.map_cons,List.map_cons,List.flatten_cons,List.map_cons,List.flatten_cons,List.map_append,ih fun U hU=>h U (List.mem_cons_of_mem _ hU),zh (h T List.mem_cons_self).1]
theorem map_wrd{ps:List Str}(h:∀p∈ps,Wrd p):((ps.map Str.l).map wd).flatten=ps.map Str.l:=by
 induction ps with
 |nil=>rfl
 |cons p r ih=>
  rw[List.map_cons,List.map_cons,List.flatten_cons,(h p List.mem_cons_self).wd,ih fun q hq=>h q (List.mem_cons_of_mem _ hq)]
  rfl
theorem zM(d:Nat){r:Rw'}(h:r.Ok):wordsS (rowT d r.words)=r.toks:=by
 refine Kk ?_
 rw[row_wd]
 have kw:∀k∈resv,wd k.l=[k.l]:=fun k hk=>(QD k hk).wd
 have hd:=kw "def" (by decide+kernel)
 have hse:=kw "set" (by decide+kernel)
 have hre:=kw "read" (by decide+kernel)
 have hwr:=kw "write" (by decide+kernel)
 have hca:=kw "call" (by decide+kernel)
 have hif:=kw "if" (by decide+kernel)
 have hel:=kw "else" (by decide+kernel)
 have hwh:=kw "while" (by decide+kernel)
 have hgi:=kw "give" (by decide+kernel)
 have hen:=kw "end" (by decide+kernel)
 cases r with
 |df f ps=>
  show List.flatten (List.map wd (List.map Str.l ("def"::f::ps)))=_
  rw[List.map_cons,List.map_cons,List.map_cons,List.map_cons,List.flatten_cons,List.flatten_cons,hd,(WN.wrd h.1).wd,map_wrd fun p hp=>WN.wrd (h.2.1 p hp)]
  rfl
 |ifr T=>
  have:=zh h.1
  show List.flatten [wd (Str.ofString "if").l,wd T.txt.l]=_
  rw[hif,this];simp [Rw'.toks]
 |whr T=>
  have:=zh h.1
  show List.flatten [wd (Str.ofString "while").l,wd T.txt.l]=_
  rw[hwh,this];simp [Rw'.toks]
 |els=>show List.flatten [wd (Str.ofString "else").l]=_;rw[hel];rfl
 |fin=>show List.flatten [wd (Str.ofString "end").l]=_;rw[hen];rfl
 |lf l=>
  cases l with
  |rd x T=>
   have:=zh h.2.1
   show List.flatten [wd (Str.ofString "read").l,wd x.l,wd T.txt.l]=_
   rw[hre,(WN.wrd h.1).wd,this];simp [Rw'.toks,Lf.toks]
  |st x T=>
   have:=zh h.2.1
   show List.flatten [wd (Str.ofString "set").l,wd x.l,wd T.txt.l]=_
   rw[hse,(WN.wrd h.1).wd,this];simp [Rw'.toks,Lf.toks]
  |wr T U=>
   have h1:=zh h.1.1
   have h2:=zh h.2.1
   show List.flatten [wd (Str.ofString "write").l,wd T.txt.l,wd U.txt.l]=_
   rw[hwr,h1,h2];simp [Rw'.toks,Lf.toks]
  |cl x f ts=>
   show List.flatten (List.map wd (List.map Str.l ("call"::x::f::ts.map Tm.txt)))=_
   rw[List.map_cons,List.map_cons,List.map_cons,List.map_cons,List.map_cons,List.map_cons,List.flatten_cons,List.flatten_cons,List.flatten_cons,hca,(WN.wrd h.1).wd,(WN.wrd h.2.1).wd,map_wd h.2.2.2]
   rfl
  |gv T=>
   have:=zh h.1
   show List.flatten [wd (Str.ofString "give").l,wd T.txt.l]=_
   rw[hgi,this];simp [Rw'.toks,Lf.toks]
noncomputable abbrev sMade:Stmt:=top 9
noncomputable abbrev sIsName:Stmt:=top 10
noncomputable abbrev sIsNum:Stmt:=top 11
noncomputable def figures:Str:="0123456789"
noncomputable def inS(c:Nat)(z:Str):Bool:=!(Builtin.Str.occurrences z ⟨#[c]⟩ 0 z.length 1).isEmpty
noncomputable def allIn(t z:Str):Bool:=(t.cps.toList.map fun c=>inS c z).all id
noncomputable def first(t:Str):Str:=⟨#[t.cps.toList.headD 0]⟩
noncomputable def isName(t:Str):Bool:=if decide ((1:Int)<=(t.length:Int))=true then (if decide ((t.length:Int)<=8)=true then (if allIn t letters=true then !inV (.str t) (resv.map V.str) else false) else false) else false
noncomputable def isNum(t:Str):Bool:=if decide ((1:Int)<=(t.length:Int))=true then (if decide ((t.length:Int)<=18)=true then (if allIn t figures=true then (if decide (V.str t=V.str "0")=true then true else !decide (V.str (first t)=V.str "0")) else false) else false) else false
theorem ZP{t:Str}(h:1<=t.length):atI t.cps.toList 0=some (t.cps.toList.headD 0):=by
 obtain⟨⟨l⟩⟩:=t
 match l,h with
 |c::r,_=>exact jo (j:=0) rfl
theorem in_low{c:Nat}(h:97<=c/\c<=122):inS c letters=true:=by
 have q:∀m:Fin 26,inS (97+m.val) letters=true:=by decide+kernel
 have e:=q ⟨c - 97,by omega⟩
 have e2:97+(c - 97)=c:=by omega
 dsimp only at e
 rw[e2]at e
 exact e
theorem Y4{c:Nat}(h:48<=c/\c<=57):inS c figures=true/\inS c letters=false:=by
 have q:∀m:Fin 10,inS (48+m.val) figures=true/\inS (48+m.val) letters=false:=by decide+kernel
 have e:=q ⟨c - 48,by omega⟩
 have e2:48+(c - 48)=c:=by omega
 dsimp only at e
 rw[e2]at e
 exact e
theorem qG{ys:List Str}{a:Str}(h:a∉ys):inV (.str a) (ys.map V.str)=false:=by
 unfold inV
 rw[List.any_eq_false]
 intro v hv e
 obtain⟨y,hy,rfl⟩:=List.mem_map.mp hv
 have:y=a∨a=y:=by first |exact .inl (by simpa [eqV] using e) |exact .inr (by simpa [eqV] using e)
 rcases this with rfl |rfl<;>exact h hy
theorem Xw{x:Str}(h:WN x):isName x=true:=by
 have l1:=h.1.2.1
 have l2:=h.1.2.2
 unfold isName
 rw[if_pos (decide_eq_true (by omega)),if_pos (decide_eq_true (by omega)),if_pos,qG h.2]
 ·rfl
 ·unfold allIn
  rw[List.all_eq_true]
  intro b hb
  obtain⟨c,hc,rfl⟩:=List.mem_map.mp hb
  exact in_low (h.1.1 c hc)
theorem ZQ{n:Int}(h0:0<=n):∃c r,(Str.ofString (toString n)).cps.toList=c::r/\48<=c/\c<=57:=by
 have h1:=Ku h0
 have h2:=qD h0
 generalize Str.ofString (toString n)=x at h1 h2
 obtain⟨⟨l⟩⟩:=x
 cases l with
 |nil=>exact absurd rfl h1
 |cons c r=>exact⟨c,r,rfl,h2 c List.mem_cons_self⟩
theorem ZR{n:Int}(h0:0<=n):isName (Str.ofString (toString n))=false:=by
 obtain⟨c,r,e,hc⟩:=ZQ h0
 have:allIn (Str.ofString (toString n)) letters=false:=by
  unfold allIn
  rw[e,List.map_cons,List.all_cons,(Y4 hc).2]
  rfl
 unfold isName
 rw[this]
 split
 ·split
  ·rfl
  ·rfl
 ·rfl
theorem num_num{n:Int}(h0:0<=n)(h1:n < 1000000000000000000):isNum (Str.ofString (toString n))=true:=by
 have l2:=qE h0 h1
 have al:allIn (Str.ofString (toString n)) figures=true:=by
  unfold allIn
  rw[List.all_eq_true]
  intro b hb
  obtain⟨c,hc,rfl⟩:=List.mem_map.mp hb
  exact(Y4 (qD h0 c hc)).1
 have l1:1<=(Str.ofString (toString n)).length:=by
  have:=Ku h0
  rw[<- zz]
  exact List.length_pos_iff.mpr this
 unfold isNum
 rw[if_pos (decide_eq_true (by omega)),if_pos (decide_eq_true (by omega)),if_pos al]
 by_cases hz:n=0
 ·rw[hz]
  rw[if_pos (by decide+kernel)]
 ·split
  ·rfl
  ·obtain⟨m,rfl⟩:=Int.eq_ofNat_of_zero_le h0
   obtain⟨c,r,e,hc⟩:=Qt m (by omega)
   rw[<- Xe]at e
   have:first (Str.ofString (toString ((m:Nat):Int)))=⟨#[c]⟩:=by
    unfold first
    have e':(Str.ofString (toString ((m:Nat):Int))).cps.toList=c::r:=e
    rw[e']
    rfl
   show(!decide (V.str (first (Str.ofString (toString ((m:Nat):Int))))=V.str "0"))=true
   rw[this,decide_eq_false]
   ·rfl
   ·intro z
    injection z with z
    have z2:(⟨#[c]⟩:Str).l=(Str.ofString "0").l:=by rw[z]
    have z3:(Str.ofString "0").l=[48]:=by decide+kernel
    rw[z3]at z2
    injection z2 with z2 _
    exact hc z2
def spMade:Sp:=fun vs H Q _=>∃t z:Str,vs=[.str t,.str z]/\t.length<=1000/\∀H',Same H H'->Q (.bl (allIn t z)) H'
def spIs(f:Str->Bool):Sp:=fun vs H Q _=>∃t:Str,vs=[.str t]/\t.length<=1000/\∀H',Same H H'->Q (.bl (f t)) H'
theorem scMade:FnScope ["text","signs"] ["text","signs"] (defScope sMade):=fsc
noncomputable def Q6:Scope:=⟨.function,[(".0",.local),("sign",.local),("signs",.free)],false,false,[]⟩
theorem nd_made:(["sign","signs"]:List Str).Nodup:=by decide+kernel
theorem cs_made:CompSc ["text","signs"] (defScope sMade) Q6 ["sign","signs"] 1 [1]:=csc
theorem ok_made{f:Addr}{fd:FuncData}(F:Fun K "made_of" "made_of" sMade f fd)(ma:mg "all"=none):FnOk P w K mg base CX0 1 f fd ["text","signs"] spMade:=by
 refine F.ok scMade (fun vs H Q E h=>?_) (fun cdv A outer s H vs Q E hr h=>?_)
 ·obtain⟨t,z,rfl,_⟩:=h
  rfl
 obtain⟨t,z,rfl,ht,q⟩:=h
 refine⟨_,(jg (jr (@jz _ _ _ _ _ _ _ _ _ (z8 rfl) rfl ma boot_all (ja (@kU _ _ _ _ _ _ _ (["sign","signs"]) (1) ([1]) _ _ _ _ rfl (@pi_str _ _ _ _ (pv 0)) cs_made (fun _ _ _ _ _=>(jD (i:=0) nd_made rfl (Or.inl rfl))) (fun _ _ _ _ _=>(@zq _)) (fun _ _ _ _ _=>(@j5 _ _ _ _ _ _ _ _ XU (pv 0) (pv 1) rfl)) (by intro _;rfl)) jc) (by decide) (by decide) (by rfl) (by rfl)))),?_⟩
 have big:=zv
 refine⟨_,rfl,t,rfl,X5 (fun c=>.bl (inS c z)) (by omega) (fun c Q h=>⟨_,rfl,_,rfl,_,_,rfl,rfl,h⟩) fun p hp=>?_⟩
 refine⟨p,t.cps.toList.map fun c=>inS c z,rfl,SqL.of (by rw[jb,List.map_map];rfl),?_⟩
 exact q _ (je hp)
theorem scIsName:FnScope ["text"] ["text"] (defScope sIsName):=fsc
theorem Yk{f:Addr}{fd:FuncData}(F:Fun K "is_name" "is_name" sIsName f fd)(GM:FnOk P w K mg base CX0 1 fM fdM ["text","signs"] spMade)(bM:Binds K fdM ["text","signs"] [])(kM:keepIn K (.ref fM)=true)(mM:mg "made_of"=some (.ref fM))(ml:mg "len"=none){tk1 tk2:Tok}{rs:Addr}(mML:mg "MOST_LETTERS"=some (.int 8 tk1))(mLe:mg "LETTERS"=some (.str letters tk2))(mRe:mg "RESERVED"=some (.ref rs))(hRe:∀H,SqT K H rs (resv.map V.str)):FnOk P w K mg base CX0 2 f fd ["text"] (spIs isName):=by
 refine F.ok scIsName (fun vs H Q E h=>?_) (fun cdv A outer s H vs Q E hr h=>?_)
 ·obtain⟨t,rfl,_⟩:=h
  rfl
 obtain⟨t,rfl,ht,q⟩:=h
 refine⟨_,(jg (jr (@Qz _ _ _ _ _ _ _ (@Zn _ _ _ _ _ _ _ _ _ _ _ _ Xb Xb jf (@jz _ _ _ _ _ _ _ _ _ qN rfl ml PySem.boot_len (ja (pv 0) jc) (by decide) (by decide) (by rfl) (by rfl)) (@jX _ _ (.int 8) _ _ rfl mML ⟨_,rfl⟩ (by decide)) (by with_unfolding_all rfl)) (@Qz _ _ _ _ _ _ _ (ji GM hr rfl mM kM bM .nil pass0 (ja (pv 0) (ja (@jX _ _ (.str letters) _ _ rfl mLe ⟨_,rfl⟩ (by decide)) jc))) (@Qy _ _ _ _ _ (@j5 _ _ _ _ _ _ _ _ qM (pv 0) (@jX _ _ (.ref rs) _ _ rfl mRe rfl (by decide)) rfl)))))),?_⟩
 have big:=zv
 refine⟨_,rfl,t,rfl,by omega,_,_,rfl,rfl,_,rfl,?_⟩
 refine ite2 (fun c1=>?_) (fun c1=>?_)
 ·refine⟨_,_,rfl,rfl,_,rfl,?_⟩
  refine ite2 (fun c2=>?_) (fun c2=>?_)
  ·refine⟨_,rfl,t,letters,rfl,ht,fun H1 s1=>⟨_,rfl,?_⟩⟩
   refine ite2 (fun c3=>?_) (fun c3=>?_)
   ·refine⟨_,rfl,rs,_,rfl,.inr (hRe H1),rfl,kJ _,?_⟩
    have h:=q H1 s1
    rw[isName,if_pos c1,if_pos c2,if_pos c3]at h
    exact h
   ·have h:=q H1 s1
    rw[isName,if_pos c1,if_pos c2,if_neg c3]at h
    exact h
  ·have h:=q H (Same.refl H)
   rw[isName,if_pos c1,if_neg c2]at h
   exact h
 ·refine⟨_,rfl,iteF ?_⟩
  have h:=q H (Same.refl H)
  rw[isName,if_neg c1]at h
  exact h
theorem scIsNum:FnScope ["text"] ["text"] (defScope sIsNum):=fsc
theorem ZS{f:Addr}{fd:FuncData}(F:Fun K "is_number" "is_number" sIsNum f fd)(GM:FnOk P w K mg base CX0 1 fM fdM ["text","signs"] spMade)(bM:Binds K fdM ["text","signs"] [])(kM:keepIn K (.ref fM)=true)(mM:mg "made_of"=some (.ref fM))(ml:mg "len"=none){tk1 tk2:Tok}(mMF:mg "MOST_FIGURES"=some (.int 18 tk1))(mFi:mg "FIGURES"=some (.str figures tk2)):FnOk P w K mg base CX0 2 f fd ["text"] (spIs isNum):=by
 refine F.ok scIsNum (fun vs H Q E h=>?_) (fun cdv A outer s H vs Q E hr h=>?_)
 ·obtain⟨t,rfl,_⟩:=h
  rfl
 obtain⟨t,rfl,ht,q⟩:=h
 refine⟨_,(jd (jx (@j7 _ _ _ _ (@PW.pt _ _ _ (@zi _ _ _ _ _ _ _ (@Zo _ _ _ _ _ _ _ _ _ _ _ _ Xb Xb jf (@jz _ _ _ _ _ _ _ _ _ qN rfl ml PySem.boot_len (ja (pv 0) jc) (by decide) (by decide) (by rfl) (by rfl)) (@jX _ _ (.int 18) _ _ rfl mMF ⟨_,rfl⟩ (by decide)) (by with_unfolding_all rfl)) (@zd _ _ _ _ (@jW _ _ _ (ji GM hr rfl mM kM bM .nil pass0 (ja (pv 0) (ja (@jX _ _ (.str figures) _ _ rfl mFi ⟨_,rfl⟩ (by decide)) jc))) (by intro _;rfl)))))) (jg (jr (@pe_bl _ _ _ _))) jp) (jg (jr (@pe_or _ _ _ _ _ _ _ (@j5 _ _ _ _ _ _ _ _ jI (pv 0) jk (nomark _)) (@Qy _ _ _ _ _ (@j5 _ _ _ _ _ _ _ _ qm (@jv _ _ _ _ _ _ _ Jw (pv 0) jf (fun _ _=>rfl)) jk (nomark _))))))),?_⟩
 have big:=zv
 refine⟨_,rfl,t,rfl,by omega,_,_,rfl,rfl,_,rfl,?_⟩
 refine ite2 (fun c1=>?_) (fun c1=>?_)
 ·refine⟨_,_,rfl,rfl,_,rfl,?_⟩
  refine ite2 (fun c2=>?_) (fun c2=>?_)
  ·refine⟨_,rfl,t,figures,rfl,ht,fun H1 s1=>⟨_,rfl,?_⟩⟩
   cases c3:allIn t figures with
   |true=>
    refine iteF ?_
    refine⟨_,rfl,rfl,_,rfl,?_⟩
    have h:=q H1 s1
    rw[isNum,if_pos c1,if_pos c2,if_pos c3]at h
    refine ite2 (fun c4=>?_) (fun c4=>?_)
    ·have c4':decide (V.str t=V.str "0")=true:=c4
     rw[if_pos c4']at h
     exact h
    ·have c4':¬decide (V.str t=V.str "0")=true:=c4
     rw[if_neg c4']at h
     have c1':(1:Int)<=(t.length:Int):=of_decide_eq_true c1
     exact⟨_,rfl,t,0,_,rfl,rfl,by omega,ZP (by omega),rfl,h⟩
   |false=>
    refine iteT ?_
    have h:=q H1 s1
    rw[isNum,if_pos c1,if_pos c2,if_neg (by rw[c3];decide)]at h
    exact h
  ·refine iteT ?_
   have h:=q H (Same.refl H)
   rw[isNum,if_pos c1,if_neg c2]at h
   exact h
 ·refine⟨_,rfl,iteF (iteT ?_)⟩
  have h:=q H (Same.refl H)
  rw[isNum,if_neg c1]at h
  exact h
theorem Q7{K:Frag}{a:Addr}{ys:List Str}{tt:TT}{te:TE}{Qf:List V->Hp->Prop}{σt:L2.St}{H:Hp}(f:Str->Bool)(hz:ys.length<=1000000)(hq:H a=some (.lst (ys.map V.str)))
  (ht:∀y H1 (Q:Bool->Hp->Prop),y∈ys->Same H H1->(∀H2,Same H1 H2->Q (f y) H2)->tt (some (.str y)::σt) H1 Q)
  (he:∀y H1 (Q:VK),y∈ys->Q (.str y) H1->te (some (.str y)::σt) H1 Q) (hd:∀H',Same H H'->Qf ((ys.filter f).map V.str) H'):CompR (Itl K a) 1 σt (gName 0) tt te Qf H:=by
 have big:=zv
 refine⟨fun i m zs H'=>m=ys.length - i/\i<=ys.length/\zs=((ys.take i).filter f).map V.str/\Same H H',⟨ys.length,by simp,Nat.zero_le _,by simp,Same.refl H⟩,?_⟩
 rintro i m zs H' ⟨rfl,hi,rfl,k⟩
 have hq':SqL K H' a (ys.map V.str):=SqL.of (k _ _ hq)
 by_cases hlt:i < ys.length
 ·have hx:(ys.map V.str)[i]?=some (.str ys[i]):=by rw[List.getElem?_map,List.getElem?_eq_getElem hlt];rfl
  refine .inr ⟨⟨_,_,hq',hx⟩,?_,fun zs' H2=>zs'=((ys.take (i+1)).filter f).map V.str/\Same H H2,fun zs' H2 ⟨p1,p2⟩=>⟨ys.length - (i+1),by omega,rfl,hlt,p1,p2⟩,fun v H2 ts hts y=>?_⟩
  ·rw[List.length_map]
   have:=List.length_filter_le f (ys.take i)
   rw[List.length_take]at this
   omega
  obtain⟨e,y⟩:=y
  subst e
  have hv:=y _ hq'
  rw[hx]at hv
  cases hv
  obtain⟨w,rfl⟩:=len1 hts
  have hm:ys[i]∈ys:=List.getElem_mem hlt
  have et:ys.take (i+1)=ys.take i++[ys[i]]:=by rw[List.take_add_one,List.getElem?_eq_getElem hlt];rfl
  refine⟨⟨[some _],rfl,rfl⟩,ht ys[i] _ _ hm k fun H3 k3=>?_⟩
  cases ef:f ys[i] with
  |true=>
   refine ifY rfl (he ys[i] H3 _ hm ⟨?_,k.trans k3⟩)
   rw[et,List.filter_append,List.map_append]
   have e1:[ys[i]].filter f=[ys[i]]:=by simp [ef]
   rw[e1]
   rfl
  |false=>
   refine ifX rfl ⟨?_,k.trans k3⟩
   rw[et,List.filter_append,List.map_append]
   have e1:[ys[i]].filter f=[]:=by simp [ef]
   rw[e1]
   simp
 ·have e:i=ys.length:=by omega
  subst e
  refine .inl ⟨⟨_,hq',by simp⟩,?_⟩
  rw[List.take_of_length_le (Nat.le_refl _)]
  exact hd H' k
noncomputable abbrev sWordsR:Stmt:=top 15
noncomputable abbrev sPiece:Stmt:=top 17
noncomputable abbrev sAreT:Stmt:=top 18
noncomputable abbrev sOpOf:Stmt:=top 19
noncomputable abbrev sTerms:Stmt:=top 20
noncomputable abbrev sAreN:Stmt:=top 21
def spWordsR:Sp:=fun vs H Q _=>∃row:Str,vs=[.str row]/\row.length<=20000/\∀(r:Addr) (H':Hp),H r=none->H' r=some (.lst ((wordsS row).map V.str))->Same H H'->Q (.ref r) H'
theorem Y5:Str.ofString "("=⟨#[40]⟩:=by decide+kernel
theorem rap_eq:Str.ofString ")"=⟨#[41]⟩:=by decide+kernel
theorem bl_eq:Str.ofString " "=⟨#[32]⟩:=by decide+kernel
theorem Y6:(Str.ofString " ( ").l=[32,40,32]:=by decide+kernel
theorem l_rapB:(Str.ofString " ) ").l=[32,41,32]:=by decide+kernel
theorem Qe(row:Str):(Txt.replace (Txt.replace row "(" " ( ") ")" " ) ").l=exL 41 [32,41,32] (exL 40 [32,40,32] row.l):=by
 rw[Y5,rap_eq,qX,qX,Y6,l_rapB]
theorem Q8(row:Str):(Txt.replace row "(" " ( ").length<=3*row.length/\(Txt.replace (Txt.replace row "(" " ( ") ")" " ) ").length<=9*row.length:=by
 have e1:(Txt.replace row "(" " ( ").l=exL 40 [32,40,32] row.l:=by rw[Y5,qX,Y6]
 have e2:=Qe row
 have h1:=KB 40 [32,40,32] (by decide) row.l
 have h2:=KB 41 [32,41,32] (by decide) (exL 40 [32,40,32] row.l)
 have g1:=congrArg List.length e1
 have g2:=congrArg List.length e2
 rw[zz]at g1 g2 h1
 exact⟨by omega,by omega⟩
theorem Q9(row:Str):((Txt.split (Txt.replace (Txt.replace row "(" " ( ") ")" " ) ") " ").filter fun y=>!decide (V.str y=V.str ""))=wordsS row:=by
 have e:∀l:List Str,(l.filter fun y=>!decide (V.str y=V.str "")).map Str.l=(l.map Str.l).filter fun w=>!w.isEmpty:=fun l=>by
  rw[List.filter_map]
  refine congrArg _ (List.filter_congr fun x _=>?_)
  show(!decide (V.str x=V.str ""))=!x.l.isEmpty
  refine congrArg _ ?_
  obtain⟨⟨l⟩⟩:=x
  cases l with
  |nil=>exact decide_eq_true rfl
  |cons c r=>
   refine decide_eq_false fun z=>?_
   injection z with z
   have:(⟨⟨c::r⟩⟩:Str).l=(Str.ofString "").l:=by rw[z]
   have e0:(Str.ofString "").l=[]:=by decide+kernel
   rw[e0]at this
   cases this
 refine(Kk ?_).symm
 rw[e]
 unfold wd
 rw[<- Qe,bl_eq,zu]
theorem scWordsR:FnScope ["row","parted"] ["row"] (defScope sWordsR):=fsc
noncomputable def Yl:Scope:=⟨.function,[(".0",.local),("word",.local)],false,false,[]⟩
theorem nd_wr1:(["word"]:List Str).Nodup:=by decide+kernel
theorem cs_wr1:CompSc ["row","parted"] (defScope sWordsR) Yl ["word"] 1 []:=csc
theorem Ym{f:Addr}{fd:FuncData}(F:Fun K "words_of" "words_of" sWordsR f fd):FnOk1 P w K mg base CX0 1 f fd ["row"] spWordsR:=by
 refine F.ok1T scWordsR (fun vs H Q E h=>?_) (fun cdv A outer s H vs Q E hr h=>?_)
 ·obtain⟨row,rfl,_⟩:=h
  rfl
 obtain⟨row,rfl,hl,q⟩:=h
 refine⟨_,(@zK _ _ _ _ _ (@KC _ (1) _ _ _ _ _ scWordsR.nd rfl (Or.inl rfl) (@Qa _ _ _ _ _ _ _ _ _ _ _ (by decide+kernel) (by decide+kernel) (@Qa _ _ _ _ _ _ _ _ _ _ _ (by decide+kernel) (by decide+kernel) (@PE.one _ _ _ (pv 0)) (by rfl) (by rfl) (by rfl)) (by rfl) (by rfl) (by rfl)) (by rfl) (by first |exact .inl rfl |exact .inr rfl)) (@PSs.one _ _ _ (jg (jr (@kU _ _ _ _ _ _ _ (["word"]) (1) ([]) _ _ _ _ rfl (@ze _ _ _ _ (@jS _ _ _ _ _ _ _ _ _ _ _ _ PySem.F.plainAttrs_str PySem.F.slot_str_split PySem.F.type_str_split zo (pv 1) (ja jk jc) (by rfl) (by rfl) (by rfl) (by rfl) (by rfl))) cs_wr1 (fun _ _ _ _ _=>(jD (i:=0) nd_wr1 rfl (Or.inl rfl))) (fun _ _ _ _ _=>(@YU _ _ _ (@jq _ _ _ _ _ _ _ _ qm (pv 0) jk (nomark _)))) (fun _ _ _ _ _=>(pv 0)) (by intro _;rfl)))))),?_⟩
 try dsimp only[cxOf,Cx.nox,Cx.wish]
 obtain⟨l1,l2⟩:=Q8 row
 refine seqF fun F1 f1=>⟨_,rfl,row,rfl,by omega,_,rfl,by omega,f1 _ _ ?_⟩
 clear f1
 have hs:=split_le (Txt.replace (Txt.replace row "(" " ( ") ")" " ) ") " "
 refine⟨_,rfl,rfl,_,_,rfl,rfl,by decide+kernel,by omega,fun p np=>⟨p,rfl,⟨_,SqL.of jb⟩,?_⟩⟩
 refine Q7 (fun y=>!decide (V.str y=V.str "")) (by omega) jb (fun y H1 Q' hy k hq=>?_) (fun y H1 Q' hy hq=>⟨_,rfl,hq⟩) fun H' k r nr=>?_
 ·exact⟨_,rfl,rfl,_,rfl,hq _ (Same.refl _)⟩
 ·rw[Q9]
  refine q r _ ?_ jb (((je np).trans k).trans (je nr))
  exact((je np).trans k).free nr
noncomputable def signs:List Str:=["+","-","*","/","<","="]
theorem Y7{i:Nat}(h:i < 6):inV (.str (sgn i)) (signs.map V.str)=true:=by
 have:∀m:Fin 6,inV (.str (sgn m.val)) (signs.map V.str)=true:=by decide+kernel
 exact this ⟨i,h⟩
theorem Y8{s:Str}(h:s∈signs):s.l∈[[43],[45],[42],[47],[60],[61]]:=by
 have:∀s∈signs,s.l∈[[43],[45],[42],[47],[60],[61]]:=by decide+kernel
 exact this s h
theorem wn_sign{x:Str}(h:WN x):x∉signs:=fun m=>by
 have e:=Y8 m
 have hl:=h.1.1
 unfold low at hl
 have hl:∀c∈x.l,97<=c/\c<=122:=hl
 simp only[List.mem_cons,List.not_mem_nil,or_false]at e
 rcases e with e |e |e |e |e |e<;>(rw[e]at hl;have:=hl _ List.mem_cons_self;omega)
theorem ZT{n:Int}(h0:0<=n):Str.ofString (toString n)∉signs:=fun m=>by
 have e:=Y8 m
 have hl:=qD h0
 simp only[List.mem_cons,List.not_mem_nil,or_false]at e
 rcases e with e |e |e |e |e |e<;>(rw[e]at hl;have:=hl _ List.mem_cons_self;omega)
inductive Pc where
 |sg (i:Nat) |tm (T:Tm)
def PcW:Pc->Str->Prop
 | .sg i,w=>i < 6/\w=sgn i
 | .tm (.var x),w=>WN x/\w=x
 | .tm (.num n),w=>(0<=n/\n < 1000000000000000000)/\w=Str.ofString (toString n)
 | .tm (.op _ _ _),_=>False
def PcV(H:Hp):Pc->V->Prop
 | .sg i,v=>v= .str (sgn i)/\i < 6
 | .tm T,v=>∃a,v= .ref a/\TmAt H T a
theorem PcV.mono{H H':Hp}(k:TMono H H'){p:Pc}{v:V}(h:PcV H p v):PcV H' p v:=by
 cases p with
 |sg i=>exact h
 |tm T=>obtain⟨a,e,h⟩:=h;exact⟨a,e,h.mono k⟩
def PcsV(H:Hp):List Pc->List V->Prop
 | [],vs=>vs=[]
 |p::ps,vs=>∃v r,vs=v::r/\PcV H p v/\PcsV H ps r
theorem PcsV.mono{H H':Hp}(k:TMono H H'){ps:List Pc}:∀{vs:List V},PcsV H ps vs->PcsV H' ps vs:=by
 induction ps with
 |nil=>exact fun h=>h
 |cons p ps ih=>rintro vs ⟨v,r,e,h1,h2⟩;exact⟨v,r,e,h1.mono k,ih h2⟩
theorem PcsV.snoc{H:Hp}{p:Pc}{v:V}(h:PcV H p v){ps:List Pc}:∀{vs:List V},PcsV H ps vs->PcsV H (ps++[p]) (vs++[v]):=by
 induction ps with
 |nil=>intro vs e;have e:vs=[]:=e;rw[e];exact⟨v,[],rfl,h,rfl⟩
 |cons q ps ih=>rintro vs ⟨u,r,e,h1,h2⟩;exact⟨u,r++[v],by rw[e];rfl,h1,ih h2⟩
theorem PcsV.len{H:Hp}{ps:List Pc}:∀{vs:List V},PcsV H ps vs->vs.length=ps.length:=by
 induction ps with
 |nil=>intro vs h;have e:vs=[]:=h;rw[e];rfl
 |cons q ps ih=>rintro vs ⟨u,r,e,h1,h2⟩;rw[e,List.length_cons,List.length_cons,ih h2]
theorem PcsV.tms{H:Hp}{Ts:List Tm}:∀{vs:List V},PcsV H (Ts.map Pc.tm) vs->TmsV H Ts vs:=by
 induction Ts with
 |nil=>exact fun h=>h
 |cons T Ts ih=>rintro vs ⟨v,r,e,⟨a,e1,h1⟩,h2⟩;exact⟨a,r,by rw[e,e1],h1,ih h2⟩
def spPiece:Sp:=fun vs H Q _=>∃(x:Str) (p:Pc),vs=[.str x]/\PcW p x/\∀(v:V) (H':Hp),PcV H' p v->Same H H'->Q v H'
def spAreT:Sp:=fun vs H Q _=>∃(a:Addr) (ys:List V) (Ts:List Tm),vs=[.ref a]/\H a=some (.lst ys)/\TmsV H Ts ys/\Ts.length<=100000/\∀H',Same H H'->Q (.bl true) H'
def spOpOf:Sp:=fun vs H Q _=>∃(a:Addr) (ys:List V) (i:Nat) (T U:Tm),vs=[.ref a]/\H a=some (.lst ys)/\PcsV H [.sg i,.tm T,.tm U] ys/\∀(r:Addr) (H':Hp),TmAt H' (.op i T U) r->Same H H'->Q (.ref r) H'
theorem qQ{X:Cx}{K:Frag}(hK:X.K=K):CallR X (.builtin "isinstance") (fun xs H Q=>∃x y c t b,xs=[x,y]/\clsV y=some c/\TyOf K H x t/\kitOne K t c=some b/\Q (.bl b) H):=by
 subst hK
 exact Jd
theorem scPiece:FnScope ["word"] ["word"] (defScope sPiece):=fsc
theorem ZU{f:Addr}{fd:FuncData}{fN fI:Addr}{fdN fdI:FuncData}(F:Fun K "piece_of" "piece_of" sPiece f fd)(GN:FnOk P w K mg base CX0 2 fN fdN ["text"] (spIs isName))(bN:Binds K fdN ["text"] [])(kN:keepIn K (.ref fN)=true)(mN:mg "is_name"=some (.ref fN))(GI:FnOk P w K mg base CX0 2 fI fdI ["text"] (spIs isNum))(bI:Binds K fdI ["text"] [])(kI:keepIn K (.ref fI)=true)(mI:mg "is_number"=some (.ref fI)){sg:Addr}(mSg:mg "SIGNS"=some (.ref sg))(hS:∀H,SqT K H sg (signs.map V.str))(mi:mg "int"=none):FnOk P w K mg base CX0 3 f fd ["word"] spPiece:=by
 refine F.ok scPiece (fun vs H Q E h=>?_) (fun cdv A outer s H vs Q E hr h=>?_)
 ·refine opq fun Gq kq=>?_
  obtain⟨x,p,rfl,_⟩:=h
  refine kq ?_
  clear kq
  rfl
 refine opq fun Gq kq=>?_
 obtain⟨x,p,rfl,hp,q⟩:=h
 refine kq ?_
 clear kq
 refine⟨_,(jd (jx (@jq _ _ _ _ _ _ _ _ jZ (pv 0) (@jX _ _ (.ref sg) _ _ rfl mSg rfl (by decide)) rfl) (jg (jr (pv 0))) jp) (jd (jx (@jW _ _ _ (ji GN hr.m rfl mN kN bN .nil pass0 (ja (pv 0) jc)) (by intro _;rfl)) (jg (jr (jH (ja jk (ja (pv 0) jc))))) jp) (jd (jx (@jW _ _ _ (ji GI hr.m rfl mI kI bI .nil pass0 (ja (pv 0) jc)) (by intro _;rfl)) (jg (jr (jH (ja jk (ja (@jG _ _ _ _ _ _ _ _ _ Kh rfl mi boot_int (ja (pv 0) jc) (by decide) (by decide) (by rfl) (by rfl)) jc))))) jp) (jg (jr (@kY _ _ _)))))),?_⟩
 try dsimp only[cxOf,Cx.nox,Cx.wish]
 cases p with
 |sg i=>
  obtain⟨hi,rfl⟩:=hp
  refine seqF fun F1 f1=>⟨_,rfl,sg,_,rfl,.inr (hS H),rfl,kJ _,_,rfl,ifY (Y7 hi) ?_⟩
  exact⟨_,rfl,q _ _ ⟨rfl,hi⟩ (Same.refl _)⟩
 |tm T=>
  cases T with
  |op i a b=>exact absurd hp (fun z=>z)
  |var y=>
   obtain⟨hy,rfl⟩:=hp
   have l8:=hy.1.2.2
   refine seqF fun F1 f1=>⟨_,rfl,sg,_,rfl,.inr (hS H),rfl,kJ _,_,rfl,ifX (qG (wn_sign hy)) (f1 _ _ ?_)⟩
   clear f1
   refine seqF fun F1 f1=>⟨_,rfl,x,rfl,by omega,fun H1 s1=>⟨_,rfl,?_⟩⟩
   rw[Xw hy]
   refine ifY rfl ⟨_,rfl,sz2,fun r nr=>q _ _ ⟨r,rfl,?_⟩ (s1.trans (je nr))⟩
   exact jb
  |num n=>
   obtain⟨⟨h0,h1⟩,rfl⟩:=hp
   have l8:=qE h0 h1
   refine seqF fun F1 f1=>⟨_,rfl,sg,_,rfl,.inr (hS H),rfl,kJ _,_,rfl,ifX (qG (ZT h0)) (f1 _ _ ?_)⟩
   clear f1
   refine seqF fun F1 f1=>⟨_,rfl,_,rfl,by omega,fun H1 s1=>⟨_,rfl,?_⟩⟩
   rw[ZR h0]
   refine ifX rfl (f1 _ _ ?_)
   clear f1
   refine seqF fun F1 f1=>⟨_,rfl,_,rfl,by omega,fun H2 s2=>⟨_,rfl,?_⟩⟩
   rw[num_num h0 h1]
   refine ifY rfl ⟨_,rfl,_,n,rfl,L2.Yf h0 h1,by omega,sz2,fun r nr=>q _ _ ⟨r,rfl,?_⟩ ((s1.trans s2).trans (je nr))⟩
   exact jb
theorem scAreT:FnScope ["pieces"] ["pieces"] (defScope sAreT):=fsc
noncomputable def Yn:Scope:=⟨.function,[(".0",.local),("piece",.local),("isinstance",.globalImplicit),("tuple",.globalImplicit)],false,false,[]⟩
theorem Y9:(["piece"]:List Str).Nodup:=by decide+kernel
theorem Za:CompSc ["pieces"] (defScope sAreT) Yn ["piece"] 1 []:=csc
theorem ok_areT{f:Addr}{fd:FuncData}(F:Fun K "are_terms" "are_terms" sAreT f fd)(mal:mg "all"=none)(mis:mg "isinstance"=none)(mtu:mg "tuple"=none)(ktt:kitOne K (.type "tuple") (.type "tuple")=some true):FnOk P w K mg base CX0 1 f fd ["pieces"] spAreT:=by
 refine F.ok scAreT (fun vs H Q E h=>?_) (fun cdv A outer s H vs Q E hr h=>?_)
 ·refine opq fun Gq kq=>?_
  obtain⟨a,ys,Ts,rfl,_⟩:=h
  refine kq ?_
  clear kq
  rfl
 refine opq fun Gq kq=>?_
 obtain⟨a,ys,Ts,rfl,ha,hT,hl,q⟩:=h
 refine kq ?_
 clear kq
 refine⟨_,(jg (jr (@jz _ _ _ _ _ _ _ _ _ (z8 rfl) rfl mal boot_all (ja (@kU _ _ _ _ _ _ _ (["piece"]) (1) ([]) _ _ _ _ rfl (@ze _ _ _ _ (pv 0)) Za (fun _ _ _ _ _=>(jD (i:=0) Y9 rfl (Or.inl rfl))) (fun _ _ _ _ _=>(@zq _)) (fun _ _ _ _ _=>(@jz _ _ _ _ _ _ _ _ _ (qQ (K:=K) rfl) rfl mis boot_isinstance (ja (pv 0) (ja (@Jj _ _ (.ty "tuple") _ _ rfl mtu boot_tuple rfl (by decide) (by decide)) jc)) (by decide) (by decide) (by rfl) (by rfl))) (by intro _;rfl)) jc) (by decide) (by decide) (by rfl) (by rfl)))),?_⟩
 try dsimp only[cxOf,Cx.nox,Cx.wish]
 have big:=line24
 have ll:=hT.len
 refine⟨_,rfl,a,rfl,⟨_,SqL.of ha⟩,?_⟩
 refine zL (K:=K) (xs:=ys) (by omega) (fun i zs Hx=>zs=(List.replicate i true).map V.bl/\Same H Hx) ⟨rfl,Same.refl _⟩ (fun i zs Hx h=>?_) (fun i x zs Hx hx h=>?_) (fun zs Hx h l nl=>?_)
 ·obtain⟨rfl,sx⟩:=h
  exact⟨SqL.of (sx _ _ ha),by rw[List.length_map,List.length_replicate];exact Nat.le_refl _⟩
 ·obtain⟨rfl,sx⟩:=h
  obtain⟨T,b,_,rfl,hb⟩:=hT.at i x hx
  have hb':=hb.same sx
  have hb2:∃xs,Hx b=some (.tup xs):=by
   cases T with
   |num m=>exact⟨_,hb'⟩
   |var x=>exact⟨_,hb'⟩
   |op i t u=>obtain⟨_,_,h,_⟩:=hb';exact⟨_,h⟩
  obtain⟨xs,hb2⟩:=hb2
  exact⟨_,rfl,_,_,_,_,_,rfl,rfl,TyOf.tup hb2,ktt,by rw[List.replicate_succ',List.map_append];rfl,sx⟩
 ·obtain⟨rfl,sx⟩:=h
  refine⟨l,List.replicate ys.length true,rfl,SqL.of jb,?_⟩
  have e1:(List.replicate ys.length true).all id=true:=List.all_eq_true.mpr fun x hx=>(List.mem_replicate.mp hx).2
  rw[e1]
  exact q _ (sx.trans (je nl))
theorem scOpOf:FnScope ["pieces"] ["pieces"] (defScope sOpOf):=fsc
theorem ok_opOf{f:Addr}{fd:FuncData}{fT:Addr}{fdT:FuncData}(F:Fun K "op_of" "op_of" sOpOf f fd)(GT:FnOk P w K mg base CX0 1 fT fdT ["pieces"] spAreT)(bT:Binds K fdT ["pieces"] [])(kT:keepIn K (.ref fT)=true)(mT:mg "are_terms"=some (.ref fT)){sg:Addr}(mSg:mg "SIGNS"=some (.ref sg))(hS:∀H,SqT K H sg (signs.map V.str))(ml:mg "len"=none):FnOk P w K mg base CX0 2 f fd ["pieces"] spOpOf:=by
 refine F.ok scOpOf (fun vs H Q E h=>?_) (fun cdv A outer s H vs Q E hr h=>?_)
 ·refine opq fun Gq kq=>?_
  obtain⟨a,ys,i,T,U,rfl,_⟩:=h
  refine kq ?_
  clear kq
  rfl
 refine opq fun Gq kq=>?_
 obtain⟨a,ys,i,T,U,rfl,ha,hy,q⟩:=h
 refine kq ?_
 clear kq
 refine⟨_,(jd (jx (@PW.pt _ _ _ (@zi _ _ _ _ _ _ _ (@jq _ _ _ _ _ _ _ _ jI (@jz _ _ _ _ _ _ _ _ _ jw rfl ml PySem.boot_len (ja (pv 0) jc) (by decide) (by decide) (by rfl) (by rfl)) jf (nomark _)) (@zi _ _ _ _ _ _ _ (@jq _ _ _ _ _ _ _ _ jZ (@jv _ _ _ _ _ _ _ jy (pv 0) jf (fun _ _=>rfl)) (@jX _ _ (.ref sg) _ _ rfl mSg rfl (by decide)) rfl) (@zd _ _ _ _ (@jW _ _ _ (ji GT hr.m rfl mT kT bT .nil pass0 (ja (@jF _ _ _ _ _ _ _ _ _ _ jJ (pv 0) (@jE _ _ _ jf) (@jR _)) jc)) (by intro _;rfl)))))) (jg (jr (jH (ja jk (ja (@jv _ _ _ _ _ _ _ jy (pv 0) jf (fun _ _=>rfl)) (ja (@jv _ _ _ _ _ _ _ jy (pv 0) jf (fun _ _=>rfl)) (ja (@jv _ _ _ _ _ _ _ jy (pv 0) jf (fun _ _=>rfl)) jc))))))) jp) (jg (jr (@kY _ _ _)))),?_⟩
 try dsimp only[cxOf,Cx.nox,Cx.wish]
 have big:=line24
 obtain⟨_,_,rfl,⟨rfl,hi⟩,_,_,rfl,⟨b,rfl,hb⟩,_,_,rfl,⟨c,rfl,hc⟩,rfl⟩:=hy
 refine seqF fun F1 f1=>⟨_,rfl,a,_,rfl,.inl (SqL.of ha),rfl,_,rfl,ifY (decide_eq_true rfl) ⟨_,rfl,a,_,_,_,rfl,rfl,SqL.of ha,jo (j:=0) rfl,sg,_,rfl,.inr (hS H),rfl,kJ _,_,rfl,ifY (Y7 hi) ⟨_,rfl,_,rfl,a,_,rfl,SqL.of ha,fun s1 n1=>?_⟩⟩⟩
 have ec:cutV [V.str (sgn i),.ref b,.ref c] (some 1) none=[.ref b,.ref c]:=rfl
 rw[ec]
 have s0:Same H (upd H s1 (.lst [.ref b,.ref c])):=je n1
 refine⟨s1,_,[T,U],rfl,jb,⟨b,_,rfl,hb.same s0,c,_,rfl,hc.same s0,rfl⟩,(by show 2<=100000;decide),fun H1 s2=>⟨_,rfl,iteT ?_⟩⟩
 have s3:=s0.trans s2
 have ha1:=s3 _ _ ha
 refine⟨_,rfl,a,_,_,_,rfl,rfl,SqL.of ha1,jo (j:=0) rfl,_,rfl,a,_,_,_,rfl,rfl,SqL.of ha1,jo (j:=1) rfl,_,rfl,a,_,_,_,rfl,rfl,SqL.of ha1,jo (j:=2) rfl,sz4,fun r nr=>?_⟩
 have s4:=s3.trans (je (o:=.tup [.str "op",.str (sgn i),.ref b,.ref c]) nr)
 exact q r _ ⟨b,c,jb,hb.same s4,hc.same s4⟩ s4
def Pars:List Str->List (List Pc)->List (List Pc)->Prop
 | [],L,F=>L=F
 |w::ws,L,F=>(w="("/\∃M L',L=M::L'/\Pars ws ([]::L) F)∨(w=")"/\∃i T U M L',L=[.sg i,.tm T,.tm U]::M::L'/\Pars ws ((M++[.tm (.op i T U)])::L') F)∨
   (w≠"("/\w≠")"/\∃p M L',PcW p w/\L=M::L'/\Pars ws ((M++[p])::L') F)
theorem Xx{x:Str}(h:Wrd x):x≠"("/\x≠")":=by
 refine⟨fun e=>?_,fun e=>?_⟩
 ·have:=(h.2 40 (by rw[e,YL];exact List.mem_cons_self)).2.1
  exact this rfl
 ·have:=(h.2 41 (by rw[e,YM];exact List.mem_cons_self)).2.2.1
  exact this rfl
theorem KH{p:Pc}{x:Str}(hx:Wrd x)(hp:PcW p x){ws:List Str}{M:List Pc}{L F:List (List Pc)}(h:Pars ws ((M++[p])::L) F):Pars (x::ws) (M::L) F:=
 .inr (.inr ⟨(Xx hx).1,(Xx hx).2,p,M,L,hp,rfl,h⟩)
theorem KI:∀{T:Tm},T.Good->∀{ws:List Str} {M:List Pc} {L F:List (List Pc)},Pars ws ((M++[.tm T])::L) F->Pars (T.toks++ws) (M::L) F
 | .num n,g,ws,M,L,F,h=>KH (p:=.tm (.num n)) (KE g.1) ⟨g,rfl⟩ h
 | .var x,g,ws,M,L,F,h=>KH (p:=.tm (.var x)) (WN.wrd g) ⟨g,rfl⟩ h
 | .op i a b,g,ws,M,L,F,h=>by
  show Pars ((Str.ofString "("::sgn i::(a.toks++(b.toks++[Str.ofString ")"])))++ws) (M::L) F
  rw[List.cons_append,List.cons_append,List.append_assoc,List.append_assoc]
  refine .inl ⟨rfl,M,L,rfl,KH (p:=.sg i) (KF g.1) ⟨g.1,rfl⟩ (KI g.2.1 (KI g.2.2 (.inr (.inl ⟨rfl,i,a,b,M,L,rfl,h⟩))))⟩
theorem ZV{Ts:List Tm}(g:∀T∈Ts,T.Good){ws:List Str}{L F:List (List Pc)}:∀{M:List Pc},Pars ws ((M++Ts.map Pc.tm)::L) F->Pars ((Ts.map Tm.toks).flatten++ws) (M::L) F:=by
 induction Ts with
 |nil=>intro M h;rw[List.map_nil,List.append_nil]at h;exact h
 |cons T Ts ih=>
  intro M h
  rw[List.map_cons,List.flatten_cons,List.append_assoc]
  refine KI (g T List.mem_cons_self) (ih (fun U hU=>g U (List.mem_cons_of_mem _ hU)) ?_)
  rw[List.map_cons]at h
  rw[List.append_assoc]
  exact h
theorem Qg{Ts:List Tm}(g:∀T∈Ts,T.Good):Pars ((Ts.map Tm.toks).flatten) [[]] [Ts.map Pc.tm]:=by
 have h:=ZV (ws:=[]) (L:=[]) (F:=[Ts.map Pc.tm]) (M:=[]) g rfl
 rw[List.append_nil]at h
 exact h
def LevV(H:Hp):List (List Pc)->List Addr->Prop
 | [],as=>as=[]
 |M::L,as=>∃a bs vs,as=a::bs/\H a=some (.lst vs)/\PcsV H M vs/\LevV H L bs
theorem LevV.keep{H H':Hp}(k:TMono H H'){L:List (List Pc)}:∀{as:List Addr},(∀a∈as,H' a=H a)->LevV H L as->LevV H' L as:=by
 induction L with
 |nil=>exact fun _ h=>h
 |cons M L ih=>
  rintro as e ⟨a,bs,vs,rfl,h1,h2,h3⟩
  exact⟨a,bs,vs,rfl,by rw[e a List.mem_cons_self];exact h1,h2.mono k,ih (fun b hb=>e b (List.mem_cons_of_mem _ hb)) h3⟩
theorem LevV.len{H:Hp}{L:List (List Pc)}:∀{as:List Addr},LevV H L as->as.length=L.length:=by
 induction L with
 |nil=>intro as h;have e:as=[]:=h;rw[e];rfl
 |cons M L ih=>rintro as ⟨a,bs,vs,rfl,h1,h2,h3⟩;rw[List.length_cons,List.length_cons,ih h3]
theorem LevV.some{H:Hp}{L:List (List Pc)}:∀{as:List Addr},LevV H L as->∀a∈as,∃o,H a=some o:=by
 induction L with
 |nil=>intro as h a ha;have e:as=[]:=h;rw[e]at ha;cases ha
 |cons M L ih=>
  rintro as ⟨a,bs,vs,rfl,h1,h2,h3⟩ b hb
  rcases List.mem_cons.mp hb with rfl |hb
  ·exact⟨_,h1⟩
  ·exact ih h3 b hb
def spTerms:Sp:=fun vs H Q _=>∃(a:Addr) (ws:List Str) (Ts:List Tm),vs=[.ref a]/\H a=some (.lst (ws.map V.str))/\Pars ws [[]] [Ts.map Pc.tm]/\ws.length<=100000/\Ts.length<=100000/\
 ∀(r:Addr) (ys:List V) (H':Hp),H r=none->H' r=some (.lst ys)->TmsV H' Ts ys->Same H H'->Q (.ref r) H'
inductive TI(a l:Addr)(ws:List Str)(F:List (List Pc))(H:Hp)(i:Nat)(σ:L2.St)(H':Hp):Prop
 |mk (o2 o3:Option V) (L:List (List Pc)) (as:List Addr) (e0:σ=[some (.ref a),some (.ref l),o2,o3]) (e1:H' l=some (.lst (as.reverse.map V.ref))) (e2:LevV H' L as) (e3:(l::as).Nodup) (e4:∀b∈l::as,H b=none) (e5:Same H H') (e6:Pars (ws.drop i) L F) (e7:L.length<=i+1/\∀M∈L,M.length<=i):TI a l ws F H i σ H'
theorem Kl{K:Frag}{a:Addr}{xs:List V}{g:TG}{tb:TS}{D:Ends}{σ:L2.St}{H:Hp}(Pv:Nat->L2.St->Hp->Prop)(h0:Pv 0 σ H)(hl:∀i σ H,i<=xs.length->Pv i σ H->SqL K H a xs)
  (hs:∀E:Ends,E.rt=D.rt->∀i x σ H,xs[i]?=some x->(∀σ' H',Pv (i+1) σ' H'->E.nx σ' H'/\E.ct σ' H')->∀G:Prop,((g x σ H fun σ2 H2=>tb E σ2 H2)->G)->Pv i σ H->G) (hd:∀σ H,Pv xs.length σ H->D.nx σ H):ForW (Itl K a) g tb D σ H:=
 KY Pv h0 hl (fun i x σ H hi p=>hs { D with nx:=Pv (i+1),ct:=Pv (i+1),bk:=D.nx } rfl i x σ H hi (fun _ _ h=>⟨h,h⟩) _ (fun z=>z) p) hd
theorem j4{as:List Addr}{a:Addr}:((a::as).reverse.map V.ref)[((a::as).reverse.map V.ref).length - 1]?=some (.ref a)/\((a::as).reverse.map V.ref).dropLast=as.reverse.map V.ref/\atI ((a::as).reverse.map V.ref) (-1)=some (.ref a):=by
 have e:(a::as).reverse.map V.ref=as.reverse.map V.ref++[.ref a]:=by rw[List.reverse_cons,List.map_append];rfl
 rw[e]
 refine⟨by simp,List.dropLast_concat,?_⟩
 unfold atI ixN
 have hl:(as.reverse.map V.ref++[V.ref a]).length=as.length+1:=by simp
 rw[hl,if_neg (by omega),if_pos (by omega)]
 have e2:(-1+((as.length+1:Nat):Int)).toNat=as.length:=by omega
 show(as.reverse.map V.ref++[V.ref a])[(-1+((as.length+1:Nat):Int)).toNat]?=_
 rw[e2]
 simp
theorem scTerms:FnScope ["words","levels","word","piece"] ["words"] (defScope sTerms):=fsc
theorem Xa{f:Addr}{fd:FuncData}{fO fP fT:Addr}{fdO fdP fdT:FuncData}(F:Fun K "terms_of" "terms_of" sTerms f fd)(GO:FnOk P w K mg base CX0 2 fO fdO ["pieces"] spOpOf)(bO:Binds K fdO ["pieces"] [])(kO:keepIn K (.ref fO)=true)(mO:mg "op_of"=some (.ref fO))(GP:FnOk P w K mg base CX0 3 fP fdP ["word"] spPiece)(bP:Binds K fdP ["word"] [])(kP:keepIn K (.ref fP)=true)(mP:mg "piece_of"=some (.ref fP))(GT:FnOk P w K mg base CX0 1 fT fdT ["pieces"] spAreT)(bT:Binds K fdT ["pieces"] [])(kT:keepIn K (.ref fT)=true)(mT:mg "are_terms"=some (.ref fT))(ml:mg "len"=none):FnOk P w K mg base CX0 4 f fd ["words"] spTerms:=by
 refine F.ok scTerms (fun vs H Q E h=>?_) (fun cdv A outer s H vs Q E hr h=>?_)
 ·refine opq fun Gq kq=>?_
  obtain⟨a,ws,Ts,rfl,_⟩:=h
  refine kq ?_
  clear kq
  rfl
 refine opq fun Gq kq=>?_
 obtain⟨a,ws,Ts,rfl,ha,hP,hW,hT,q⟩:=h
 refine kq ?_
 clear kq
 refine⟨_,(jd (js (i:=1) scTerms.nd rfl (Or.inl rfl) (jC (ja (jC jc) jc))) (jd (@zj _ _ _ _ _ _ _ _ PassesOwn.never rfl (@ze _ _ _ _ (pv 0)) (jD (i:=2) scTerms.nd rfl (Or.inl rfl)) (jd (jx (@jq _ _ _ _ _ _ _ _ jI (pv 2) jk (nomark _)) (jd (jN (@jS _ _ _ _ _ _ _ _ _ _ _ _ PySem.F.plainAttrs_list PySem.F.slot_list_append PySem.F.type_list_append jL (pv 1) (ja (jC jc) jc) (by rfl) (by rfl) (by rfl) (by rfl) (by rfl))) (jg (@zD _ _))) jp) (jd (js (i:=3) scTerms.nd rfl (Or.inl rfl) (@KU _ _ _ _ _ _ _ _ (@jq _ _ _ _ _ _ _ _ jI (pv 2) jk (nomark _)) (ji GO hr.m rfl mO kO bO .nil pass0 (ja (@qv _ _ _ _ _ _ _ _ _ PySem.F.plainAttrs_list PySem.F.slot_list_pop PySem.F.type_list_pop Jx (pv 1) (by rfl) (by rfl)) jc)) (ji GP hr.m rfl mP kP bP .nil pass0 (ja (pv 2) jc)))) (jd (jx (@PW.pt _ _ _ (@kL _ _ _ _ _ _ _ (@zO _ _ _ _ _ _ (@zE _ _ _ _ _ (pv 3)) (by rfl)) (@kC _ _ _ _ (@j7 _ _ _ _ (@kG _ _ _ (pv 1) (fun _=>rfl)))))) (@zZ _ _) jp) (jg (jN (@jS _ _ _ _ _ _ _ _ _ _ _ _ PySem.F.plainAttrs_list PySem.F.slot_list_append PySem.F.type_list_append jL (@jv _ _ _ _ _ _ _ jy (pv 1) (@zY _ _ _ _ _ _ zk jf) (fun _ _=>rfl)) (ja (pv 3) jc) (by rfl) (by rfl) (by rfl) (by rfl) (by rfl))))))) (by intro _;rfl)) (jd (jx (@PW.pt _ _ _ (@kL _ _ _ _ _ _ _ (@jq _ _ _ _ _ _ _ _ qo (@jz _ _ _ _ _ _ _ _ _ jw rfl ml PySem.boot_len (ja (pv 1) jc) (by decide) (by decide) (by rfl) (by rfl)) jf (nomark _)) (@kC _ _ _ _ (@j7 _ _ _ _ (@jW _ _ _ (ji GT hr.m rfl mT kT bT .nil pass0 (ja (@jv _ _ _ _ _ _ _ jy (pv 1) jf (fun _ _=>rfl)) jc)) (by intro _;rfl)))))) (@zZ _ _) jp) (jg (jr (@jv _ _ _ _ _ _ _ jy (pv 1) jf (fun _ _=>rfl))))))),?_⟩
 try dsimp only[cxOf,Cx.nox,Cx.wish]
 have big:=line24
 refine seqF fun F1 f1=>⟨sz0,fun a0 n0=>⟨sz1,fun l nl=>f1 _ _ ?_⟩⟩
 clear f1
 have na0:a0≠l:=fun e=>by rw[<- e,jb]at nl;cases nl
 have s0:Same H (upd (upd H a0 (.lst [])) l (.lst [.ref a0])):=(je n0).trans (je nl)
 have nl':H l=none:=(je n0).free nl
 refine seqF fun F1 f1=>forE fun J j=>⟨_,rfl,a,rfl,⟨_,SqL.of (s0 _ _ ha)⟩,j _ _ ?_⟩
 clear j
 refine Kl (K:=K) (a:=a) (xs:=ws.map V.str) (TI a l ws [Ts.map Pc.tm] H) ⟨_,_,[[]],[a0],rfl,jb,⟨a0,[],[],rfl,by rw[jh na0];exact jb,rfl,rfl⟩,by simp;exact Ne.symm na0,fun b hb=>?_,s0,by rw[List.drop_zero];exact hP,⟨Nat.le_refl 1,fun M hM=>by rw[List.mem_singleton.mp hM];exact Nat.le_refl 0⟩⟩ (fun i σ H1 _ h=>?_) ?_ ?_
 ·rcases List.mem_cons.mp hb with rfl |hb
  ·exact nl'
  ·rw[List.mem_singleton.mp hb];exact n0
 ·obtain⟨o2,o3,L,as,rfl,e1,e2,e3,e4,e5,e6,e7⟩:=h
  exact SqL.of (e5 _ _ ha)
 ·intro E _ i x σ H1 hx fE Gq kq h
  obtain⟨o2,o3,L,as,rfl,e1,e2,e3,e4,e5,e6,e7⟩:=h
  clear f1
  rw[List.getElem?_map]at hx
  obtain⟨y,hy,rfl⟩:=Option.map_eq_some_iff.mp hx
  have hil:i < ws.length:=(List.getElem?_eq_some_iff.mp hy).1
  have ed:ws.drop i=y::ws.drop (i+1):=by
   rw[List.drop_eq_getElem_cons hil]
   have:=(List.getElem?_eq_some_iff.mp hy).2
   rw[this]
  rw[ed]at e6
  have hll:=e2.len
  have nla:l∉as:=(List.nodup_cons.mp e3).1
  have nda:as.Nodup:=(List.nodup_cons.mp e3).2
  have fin:∀(M:List Pc) (L':List (List Pc)) (c:Addr) (bs:List Addr) (vs:List V) (H3:Hp) (p:Pc) (v:V),H3 l=some (.lst ((c::bs).reverse.map V.ref))->H3 c=some (.lst vs)->PcsV H3 M vs->LevV H3 L' bs->(l::c::bs).Nodup->(∀b∈l::c::bs,H b=none)->Same H H3->PcV H3 p v->
    Pars (ws.drop (i+1)) ((M++[p])::L') [Ts.map Pc.tm]->L'.length<=i+1->M.length<=i->(∀M'∈L',M'.length<=i)->∀o2 o3:Option V,TI a l ws [Ts.map Pc.tm] H (i+1) [some (.ref a),some (.ref l),o2,o3] (upd H3 c (.lst (vs++[v]))):=fun M L' c bs vs H3 p v g1 g2 g3 g4 g5 g6 g7 g8 g9 g10 g11 g12 o2 o3=>by
   have nlc:l≠c:=fun e=>(List.nodup_cons.mp g5).1 (by rw[e];exact List.mem_cons_self)
   have ncb:c∉bs:=(List.nodup_cons.mp (List.nodup_cons.mp g5).2).1
   have tm:TMono H3 (upd H3 c (.lst (vs++[v]))):=fun b xs e=>by rw[jh (jU e g2 (by intro z;cases z))];exact e
   exact⟨_,_,(M++[p])::L',c::bs,rfl,by rw[jh nlc];exact g1,⟨c,bs,_,rfl,jb,(g3.snoc g8).mono tm,g4.keep tm fun b hb=>jh fun e=>ncb (by rw[<- e];exact hb)⟩,g5,g6,fun b o e=>by rw[jh (jj e (g6 c (by simp)))];exact g7 _ _ e,g9,⟨by rw[List.length_cons];omega,fun M' hM=>by
    rcases List.mem_cons.mp hM with rfl |hM
    ·rw[List.length_append];show M.length+1<=i+1;omega
    ·have:=g12 M' hM;omega⟩⟩
  refine kq ?_
  clear kq
  show tSeq (tIfS _ _ _) _ E [some (.ref a),some (.ref l),some (.str y),o3] H1
  rcases e6 with ⟨rfl,M,L',rfl,hp⟩ | ⟨rfl,i',T,U,M,L',rfl,hp⟩ | ⟨z1,z2,p,M,L',hw,rfl,hp⟩
  ·refine seqF fun F1 f1=>⟨_,rfl,rfl,_,rfl,ifY (by decide+kernel) ?_⟩
   clear f1
   refine seqF fun F2 f2=>⟨_,rfl,.inl ⟨rfl,_,SqL.of e1⟩,sz0,fun n nn=>⟨l,_,_,rfl,rfl,keepN e1 nn,by rw[List.length_map,List.length_reverse];have:=e7.1;omega,f2 _ _ ?_⟩⟩
   clear f2
   have nln:n≠l:=Ne.symm (jj e1 nn)
   have nn0:=e5.free nn
   have an:∀b∈as,b≠n:=fun b hb e=>by obtain⟨o,ho⟩:=e2.some b hb;rw[e,nn]at ho;cases ho
   have al:∀b∈as,b≠l:=fun b hb e=>nla (by rw[<- e];exact hb)
   have tm:TMono H1 (upd (upd H1 n (.lst [])) l (.lst (as.reverse.map V.ref++[.ref n]))):=fun b xs e=>by rw[jh (jU e e1 (by intro z;cases z))];exact keepN e nn
   refine(fE _ _ ⟨_,_,[]::M::L',n::as,rfl,by rw[jb,List.reverse_cons,List.map_append];rfl,⟨n,as,[],rfl,by rw[jh nln];exact jb,rfl,e2.keep tm fun b hb=>by rw[jh (al b hb),jh (an b hb)]⟩,?_,fun b hb=>?_,fun b o e=>?_,hp,?_⟩).2
   ·exact List.nodup_cons.mpr ⟨fun m=>by
     rcases List.mem_cons.mp m with m |m
     ·exact nln m.symm
     ·exact nla m,List.nodup_cons.mpr ⟨fun m=>an n m rfl,nda⟩⟩
   ·rcases List.mem_cons.mp hb with rfl |hb
    ·exact e4 _ List.mem_cons_self
    ·rcases List.mem_cons.mp hb with rfl |hb
     ·exact nn0
     ·exact e4 b (List.mem_cons_of_mem _ hb)
   ·rw[jh (jj e (e4 l List.mem_cons_self)),jh (jj e nn0)]
    exact e5 _ _ e
   ·refine⟨by have:=e7.1;rw[List.length_cons];omega,fun M' hM=>?_⟩
    rcases List.mem_cons.mp hM with rfl |hM
    ·exact Nat.zero_le _
    ·have:=e7.2 M' hM;omega
  ·obtain⟨b,cs,vs,rfl,h1,h2,c,bs,us,rfl,h3,h4,h5⟩:=e2
   refine seqF fun F1 f1=>⟨_,rfl,rfl,_,rfl,ifX (by decide+kernel) (f1 _ _ ?_)⟩
   clear f1
   have nlb:b≠l:=fun e=>nla (by rw[<- e];exact List.mem_cons_self)
   have nlc:c≠l:=fun e=>nla (by rw[<- e];exact List.mem_cons_of_mem _ List.mem_cons_self)
   have tm:TMono H1 (upd H1 l (.lst ((c::bs).reverse.map V.ref))):=fun b xs e=>by rw[jh (jU e e1 (by intro z;cases z))];exact e
   refine seqF fun F1 f1=>⟨_,rfl,rfl,_,rfl,ifY (by decide+kernel) ⟨_,rfl,.inl ⟨rfl,_,SqL.of e1⟩,l,_,.ref b,rfl,rfl,e1,j4.1,?_⟩⟩
   rw[j4.2.1]
   refine⟨b,vs,i',T,U,rfl,by rw[jh nlb];exact h1,h2.mono tm,fun r H3 tr s3=>f1 _ _ ?_⟩
   clear f1
   have g1:H3 l=some (.lst ((c::bs).reverse.map V.ref)):=s3 _ _ jb
   have g2:H3 c=some (.lst us):=s3 _ _ (by rw[jh nlc];exact h3)
   have ne:(!((c::bs).reverse.map V.ref).isEmpty)=true:=by simp
   have hm:=(List.nodup_cons.mp nda).2
   have nb:∀b'∈bs,b'≠l:=fun b' hb e=>nla (by rw[<- e];exact List.mem_cons_of_mem _ (List.mem_cons_of_mem _ hb))
   have h5':LevV H3 L' bs:=(h5.keep tm fun b' hb=>jh (nb b' hb)).keep (Same.tm s3) fun b' hb=>by
    obtain⟨o,ho⟩:=h5.some b' hb
    have ho':upd H1 l (.lst ((c::bs).reverse.map V.ref)) b'=some o:=by rw[jh (nb b' hb)];exact ho
    rw[ho',s3 _ _ ho']
   refine seqF fun F1 f1=>⟨_,rfl,_,rfl,ifX (decide_eq_false (by intro z;cases z)) ⟨_,rfl,_,.inl ⟨_,SqL.of g1,rfl⟩,?_⟩⟩
   rw[ne]
   refine iteF (f1 _ _ ?_)
   clear f1
   have q1:=e7.1
   have q2:=e7.2
   rw[List.length_cons,List.length_cons]at q1
   have q3:=q2 M (List.mem_cons_of_mem _ List.mem_cons_self)
   have lu:=h4.len
   refine⟨_,rfl,_,rfl,l,_,_,_,rfl,rfl,SqL.of g1,j4.2.2,.inl ⟨rfl,_,SqL.of g2⟩,_,rfl,c,_,_,rfl,rfl,g2,by omega,?_⟩
   refine(fE _ _ (fin M L' c bs us H3 (.tm (.op i' T U)) (.ref r) g1 g2 ((h4.mono tm).mono (Same.tm s3)) h5' ?_ (fun b' hb=>?_) ?_ ⟨r,rfl,tr⟩ hp (by omega) q3 (fun M' hM=>q2 M' (List.mem_cons_of_mem _ (List.mem_cons_of_mem _ hM))) _ _)).1
   ·exact List.nodup_cons.mpr ⟨fun m=>nla (List.mem_cons_of_mem _ m),hm⟩
   ·rcases List.mem_cons.mp hb with rfl |hb
    ·exact e4 _ List.mem_cons_self
    ·exact e4 b' (List.mem_cons_of_mem _ (List.mem_cons_of_mem _ hb))
   ·exact fun b' o e=>s3 _ _ (by rw[jh (jj e (e4 l List.mem_cons_self))];exact e5 _ _ e)
  ·obtain⟨c,bs,us,rfl,h3,h4,h5⟩:=e2
   have n1:decide (V.str y=V.str "(")=false:=decide_eq_false fun z=>z1 (by injection z)
   have n2:decide (V.str y=V.str ")")=false:=decide_eq_false fun z=>z2 (by injection z)
   refine seqF fun F1 f1=>⟨_,rfl,rfl,_,rfl,ifX n1 (f1 _ _ ?_)⟩
   clear f1
   refine seqF fun F1 f1=>⟨_,rfl,rfl,_,rfl,ifX n2 ⟨_,rfl,y,p,rfl,hw,fun v H3 pv s3=>f1 _ _ ?_⟩⟩
   clear f1
   have g1:H3 l=some (.lst ((c::bs).reverse.map V.ref)):=s3 _ _ e1
   have g2:H3 c=some (.lst us):=s3 _ _ h3
   have ne:(!((c::bs).reverse.map V.ref).isEmpty)=true:=by simp
   have h5':LevV H3 L' bs:=h5.keep (Same.tm s3) fun b' hb=>by
    obtain⟨o,ho⟩:=h5.some b' hb
    rw[ho,s3 _ _ ho]
   have nn:v≠ .non:=by
    cases p with
    |sg i=>rw[pv.1];intro z;cases z
    |tm T=>obtain⟨a,rfl,_⟩:=pv;intro z;cases z
   refine seqF fun F1 f1=>⟨_,rfl,_,rfl,ifX (decide_eq_false nn) ⟨_,rfl,_,.inl ⟨_,SqL.of g1,rfl⟩,?_⟩⟩
   rw[ne]
   refine iteF (f1 _ _ ?_)
   clear f1
   have q1:=e7.1
   have q2:=e7.2
   rw[List.length_cons]at q1
   have q3:=q2 M List.mem_cons_self
   have lu:=h4.len
   refine⟨_,rfl,_,rfl,l,_,_,_,rfl,rfl,SqL.of g1,j4.2.2,.inl ⟨rfl,_,SqL.of g2⟩,_,rfl,c,_,_,rfl,rfl,g2,by omega,?_⟩
   exact(fE _ _ (fin M L' c bs us H3 p v g1 g2 (h4.mono (Same.tm s3)) h5' e3 e4 (e5.trans s3) pv hp (by omega) q3 (fun M' hM=>q2 M' (List.mem_cons_of_mem _ hM)) _ _)).1
 ·intro σ H1 h
  obtain⟨o2,o3,L,as,rfl,e1,e2,e3,e4,e5,e6,e7⟩:=h
  refine f1 _ _ ?_
  clear f1
  rw[List.length_map,List.drop_length]at e6
  have eL:L=[Ts.map Pc.tm]:=e6
  subst eL
  obtain⟨b,bs,vs,rfl,h1,h2,h3⟩:=e2
  have eb:bs=[]:=h3
  subst eb
  have e1:H1 l=some (.lst [.ref b]):=e1
  refine seqF fun F1 f1=>⟨_,rfl,l,_,rfl,.inl (SqL.of e1),_,_,rfl,rfl,_,rfl,ifX (decide_eq_false (by show ¬(1:Int) < 1;decide)) ⟨_,rfl,l,_,_,_,rfl,rfl,SqL.of e1,jo (j:=0) rfl,b,vs,Ts,rfl,h1,h2.tms,hT,fun H2 s2=>⟨_,rfl,iteF (f1 _ _ ?_)⟩⟩⟩
  clear f1
  exact⟨_,rfl,l,_,_,_,rfl,rfl,SqL.of (s2 _ _ e1),jo (j:=0) rfl,q b vs H2 (e4 b (by simp)) (s2 _ _ h1) (h2.tms.mono (Same.tm s2)) (e5.trans s2)⟩
noncomputable abbrev sDefR:Stmt:=top 22
noncomputable abbrev sRowR:Stmt:=top 23
def RwV(H:Hp):Rw'->List V->Prop
 | .df f ps,xs=>∃t,xs=[.str "def",.str f,.ref t]/\H t=some (.tup (ps.map V.str))
 | .lf l,xs=>LfV H l xs
 | .ifr T,xs=>∃t,xs=[.str "if",.ref t]/\TmAt H T t
 | .whr T,xs=>∃t,xs=[.str "while",.ref t]/\TmAt H T t
 | .els,xs=>xs=[.str "else"]
 | .fin,xs=>xs=[.str "end"]
noncomputable def shp:List (Str×Int×V):=[("set",1,.int 1),("read",1,.int 1),("write",0,.int 2),("call",2,.non),("give",0,.int 1),("if",0,.int 1),("while",0,.int 1),("else",0,.int 0),("end",0,.int 0)]
def Shp(K:Frag)(sh:Addr):Prop:=∀c∈shp,∃ta:Addr,nsIn K sh c.1=some (some (.ref ta))/\∀H:Hp,SqT K H ta [.int c.2.1,c.2.2]
theorem JD:∀{T:Tm},T.toks.length+3<=4*2 ^ T.depth
 | .num n=>by show 1+3<=4*2 ^ 0;decide
 | .var x=>by show 1+3<=4*2 ^ 0;decide
 | .op i a b=>by
  have h1:=JD (T:=a)
  have h2:=JD (T:=b)
  have m1:2 ^ a.depth<=2 ^ (max a.depth b.depth):=Nat.pow_le_pow_right (by decide) (Nat.le_max_left _ _)
  have m2:2 ^ b.depth<=2 ^ (max a.depth b.depth):=Nat.pow_le_pow_right (by decide) (Nat.le_max_right _ _)
  show(Str.ofString "("::sgn i::(a.toks++(b.toks++[Str.ofString ")"]))).length+3<=4*2 ^ (max a.depth b.depth+1)
  rw[List.length_cons,List.length_cons,List.length_append,List.length_append,Nat.pow_succ]
  show _+(_+1)+1+1+3<=_
  omega
theorem ZW{Ts:List Tm}(h:∀T∈Ts,TmOk T):((Ts.map Tm.toks).flatten).length<=128*Ts.length:=by
 induction Ts with
 |nil=>exact Nat.le_refl 0
 |cons T r ih=>
  have h1:=JD (T:=T)
  have h2:2 ^ T.depth<=2 ^ 5:=Nat.pow_le_pow_right (by decide) (by have:=(h T List.mem_cons_self).2;omega)
  have h3:(2:Nat) ^ 5=32:=by decide
  have:=ih fun U hU=>h U (List.mem_cons_of_mem _ hU)
  rw[List.map_cons,List.flatten_cons,List.length_append,List.length_cons]
  omega
inductive Dec(r:Rw'):Prop
 |df (f:Str) (ps:List Str) (e:r= .df f ps)
 |row (x:Str) (ns:List Str) (Ts:List Tm) (m:V) (e:r.toks=x::(ns++(Ts.map Tm.toks).flatten)) (h1:(x,(ns.length:Int),m)∈shp) (h2:x≠"def") (h3:∀y∈ns,WN y) (h4:∀T∈Ts,TmOk T) (h5:ns.length<=2) (h6:Ts.length<=6)
   (h7:(m= .int (Ts.length:Int)/\∀H ys,TmsV H Ts ys->RwV H r (.str x::(ns.map V.str++ys)))∨(m= .non/\∀H tt ys,H tt=some (.tup ys)->TmsV H Ts ys->RwV H r (.str x::(ns.map V.str++[.ref tt])))):Dec r
theorem Xy{r:Rw'}(h:r.Ok):Dec r:=by
 have nx:∀y∈([]:List Str),WN y:=fun y hy=>nomatch hy
 cases r with
 |df f ps=>exact .df f ps rfl
 |ifr T=>exact .row "if" [] [T] (.int 1) (by simp [Rw'.toks]) (by decide+kernel) (by decide+kernel) nx (fun U hU=>by rw[List.mem_singleton.mp hU];exact h) (by decide) (by show 1<=6;decide) (.inl ⟨rfl,fun H ys ⟨a,r,e,h1,h2⟩=>by have e2:r=[]:=h2;rw[e,e2];exact⟨a,rfl,h1⟩⟩)
 |whr T=>exact .row "while" [] [T] (.int 1) (by simp [Rw'.toks]) (by decide+kernel) (by decide+kernel) nx (fun U hU=>by rw[List.mem_singleton.mp hU];exact h) (by decide) (by show 1<=6;decide) (.inl ⟨rfl,fun H ys ⟨a,r,e,h1,h2⟩=>by have e2:r=[]:=h2;rw[e,e2];exact⟨a,rfl,h1⟩⟩)
 |els=>exact .row "else" [] [] (.int 0) rfl (by decide+kernel) (by decide+kernel) nx (fun U hU=>nomatch hU) (by decide) (by decide) (.inl ⟨rfl,fun H ys e=>by have e2:ys=[]:=e;rw[e2];rfl⟩)
 |fin=>exact .row "end" [] [] (.int 0) rfl (by decide+kernel) (by decide+kernel) nx (fun U hU=>nomatch hU) (by decide) (by decide) (.inl ⟨rfl,fun H ys e=>by have e2:ys=[]:=e;rw[e2];rfl⟩)
 |lf l=>
  cases l with
  |rd x T=>exact .row "read" [x] [T] (.int 1) (by simp [Rw'.toks,Lf.toks]) (by show(Str.ofString "read",(1:Int),V.int 1)∈shp;decide+kernel) (by decide+kernel) (fun y hy=>by rw[List.mem_singleton.mp hy];exact h.1) (fun U hU=>by rw[List.mem_singleton.mp hU];exact h.2) (by show 1<=2;decide) (by show 1<=6;decide) (.inl ⟨rfl,fun H ys ⟨a,r,e,h1,h2⟩=>by have e2:r=[]:=h2;rw[e,e2];exact⟨a,rfl,h1⟩⟩)
  |st x T=>exact .row "set" [x] [T] (.int 1) (by simp [Rw'.toks,Lf.toks]) (by show(Str.ofString "set",(1:Int),V.int 1)∈shp;decide+kernel) (by decide+kernel) (fun y hy=>by rw[List.mem_singleton.mp hy];exact h.1) (fun U hU=>by rw[List.mem_singleton.mp hU];exact h.2) (by show 1<=2;decide) (by show 1<=6;decide) (.inl ⟨rfl,fun H ys ⟨a,r,e,h1,h2⟩=>by have e2:r=[]:=h2;rw[e,e2];exact⟨a,rfl,h1⟩⟩)
  |wr T U=>exact .row "write" [] [T,U] (.int 2) (by simp [Rw'.toks,Lf.toks]) (by decide+kernel) (by decide+kernel) nx (fun W hW=>by rcases List.mem_cons.mp hW with rfl |hW;exact h.1;rw[List.mem_singleton.mp hW];exact h.2) (by decide) (by show 2<=6;decide) (.inl ⟨rfl,fun H ys ⟨a,r,e,h1,b,r2,e2,h2,h3⟩=>by have e3:r2=[]:=h3;rw[e,e2,e3];exact⟨a,b,rfl,h1,h2⟩⟩)
  |cl x f ts=>exact .row "call" [x,f] ts .non rfl (by show(Str.ofString "call",(2:Int),V.non)∈shp;decide+kernel) (by decide+kernel) (fun y hy=>by rcases List.mem_cons.mp hy with rfl |hy;exact h.1;rw[List.mem_singleton.mp hy];exact h.2.1) h.2.2.2 (by show 2<=2;decide) h.2.2.1 (.inr ⟨rfl,fun H tt ys h1 h2=>⟨tt,ys,rfl,h1,h2⟩⟩)
  |gv T=>exact .row "give" [] [T] (.int 1) (by simp [Rw'.toks,Lf.toks]) (by decide+kernel) (by decide+kernel) nx (fun U hU=>by rw[List.mem_singleton.mp hU];exact h) (by decide) (by show 1<=6;decide) (.inl ⟨rfl,fun H ys ⟨a,r,e,h1,h2⟩=>by have e2:r=[]:=h2;rw[e,e2];exact⟨a,rfl,h1⟩⟩)
def spAreN:Sp:=fun vs H Q _=>∃(a:Addr) (ws:List Str),vs=[.ref a]/\H a=some (.lst (ws.map V.str))/\(∀x∈ws,WN x)/\ws.length<=1000/\∀H',Same H H'->Q (.bl true) H'
def spDefR:Sp:=fun vs H Q _=>∃(a:Addr) (f:Str) (ps:List Str),vs=[.ref a]/\H a=some (.lst ((Str.ofString "def"::f::ps).map V.str))/\WN f/\(∀x∈ps,WN x)/\ps.length<=6/\
 ∀(r t:Addr) (H':Hp),H' r=some (.tup [.str "def",.str f,.ref t])->H' t=some (.tup (ps.map V.str))->Same H H'->Q (.ref r) H'
def spRowR:Sp:=fun vs H Q _=>∃(a:Addr) (r:Rw'),vs=[.ref a]/\H a=some (.lst (r.toks.map V.str))/\r.Ok/\∀(t:Addr) (xs:List V) (H':Hp),H' t=some (.tup xs)->RwV H' r xs->Same H H'->Q (.ref t) H'
theorem qJ{xs:List V}{n:Nat}(h:n<=xs.length):cutV xs (some (n:Int)) none=xs.drop n:=by
 unfold cutV
 rw[HT.sIx_nat,HT.sIx_none,Nat.min_eq_left h]
 rw[List.take_of_length_le]
 rw[List.length_drop]
 omega
theorem cut_mid{xs:List V}{m n:Nat}(h:m<=n)(h2:n<=xs.length):cutV xs (some (m:Int)) (some (n:Int))=(xs.drop m).take (n - m):=by
 unfold cutV
 rw[HT.sIx_nat,HT.sIx_nat,show min m xs.length=m by omega,show min n xs.length=n by omega]
theorem scAreN:FnScope ["words"] ["words"] (defScope sAreN):=fsc
noncomputable def Yo:Scope:=⟨.function,[(".0",.local),("word",.local),("is_name",.globalImplicit)],false,false,[]⟩
theorem Zb:(["word"]:List Str).Nodup:=by decide+kernel
theorem Zc:CompSc ["words"] (defScope sAreN) Yo ["word"] 1 []:=csc
theorem ok_areN{f:Addr}{fd:FuncData}{fN:Addr}{fdN:FuncData}(F:Fun K "are_names" "are_names" sAreN f fd)(GN:FnOk P w K mg base CX0 2 fN fdN ["text"] (spIs isName))(bN:Binds K fdN ["text"] [])(kN:keepIn K (.ref fN)=true)(mN:mg "is_name"=some (.ref fN))(mal:mg "all"=none):FnOk P w K mg base CX0 3 f fd ["words"] spAreN:=by
 refine F.ok scAreN (fun vs H Q E h=>?_) (fun cdv A outer s H vs Q E hr h=>?_)
 ·refine opq fun Gq kq=>?_
  obtain⟨a,ws,rfl,_⟩:=h
  refine kq ?_
  clear kq
  rfl
 refine opq fun Gq kq=>?_
 obtain⟨a,ws,rfl,ha,hW,hl,q⟩:=h
 refine kq ?_
 clear kq
 refine⟨_,(jg (jr (@jz _ _ _ _ _ _ _ _ _ (z8 rfl) rfl mal boot_all (ja (@kU _ _ _ _ _ _ _ (["word"]) (1) ([]) _ _ _ _ rfl (@ze _ _ _ _ (pv 0)) Zc (fun _ _ _ _ _=>(jD (i:=0) Zb rfl (Or.inl rfl))) (fun _ _ _ _ _=>(@zq _)) (fun _ _ _ _ _=>(ji GN hr.m rfl mN kN bN .nil pass0 (ja (pv 0) jc))) (by intro _;rfl)) jc) (by decide) (by decide) (by rfl) (by rfl)))),?_⟩
 try dsimp only[cxOf,Cx.nox,Cx.wish]
 have big:=line24
 refine⟨_,rfl,a,rfl,⟨_,SqL.of ha⟩,?_⟩
 refine zL (K:=K) (xs:=ws.map V.str) (by rw[List.length_map];omega) (fun i zs Hx=>zs=(List.replicate i true).map V.bl/\Same H Hx) ⟨rfl,Same.refl _⟩ (fun i zs Hx h=>?_) (fun i x zs Hx hx h=>?_) (fun zs Hx h l nl=>?_)
 ·obtain⟨rfl,sx⟩:=h
  exact⟨SqL.of (sx _ _ ha),by rw[List.length_map,List.length_replicate];exact Nat.le_refl _⟩
 ·obtain⟨rfl,sx⟩:=h
  rw[List.getElem?_map]at hx
  obtain⟨y,hy,rfl⟩:=Option.map_eq_some_iff.mp hx
  have hw:=hW y (List.mem_of_getElem? hy)
  have l8:=hw.1.2.2
  refine⟨_,rfl,y,rfl,by omega,fun H1 s1=>?_⟩
  rw[Xw hw]
  exact⟨by rw[List.replicate_succ',List.map_append];rfl,sx.trans s1⟩
 ·obtain⟨rfl,sx⟩:=h
  rw[List.length_map]
  refine⟨l,List.replicate ws.length true,rfl,SqL.of jb,?_⟩
  have e1:(List.replicate ws.length true).all id=true:=List.all_eq_true.mpr fun x hx=>(List.mem_replicate.mp hx).2
  rw[e1]
  exact q _ (sx.trans (je nl))
theorem scDefR:FnScope ["words"] ["words"] (defScope sDefR):=fsc
theorem ok_defR{f:Addr}{fd:FuncData}{fA:Addr}{fdA:FuncData}(F:Fun K "def_row" "def_row" sDefR f fd)(GA:FnOk P w K mg base CX0 3 fA fdA ["words"] spAreN)(bA:Binds K fdA ["words"] [])(kA:keepIn K (.ref fA)=true)(mA:mg "are_names"=some (.ref fA))(ml:mg "len"=none)(mtu:mg "tuple"=none):FnOk P w K mg base CX0 4 f fd ["words"] spDefR:=by
 refine F.ok scDefR (fun vs H Q E h=>?_) (fun cdv A outer s H vs Q E hr h=>?_)
 ·refine opq fun Gq kq=>?_
  obtain⟨a,f',ps,rfl,_⟩:=h
  refine kq ?_
  clear kq
  rfl
 refine opq fun Gq kq=>?_
 obtain⟨a,f',ps,rfl,ha,hf,hp,hl,q⟩:=h
 refine kq ?_
 clear kq
 refine⟨_,(jd (jx (@PW.pt _ _ _ (@kL _ _ _ _ _ _ _ (@jq _ _ _ _ _ _ _ _ qA (@jz _ _ _ _ _ _ _ _ _ jw rfl ml PySem.boot_len (ja (pv 0) jc) (by decide) (by decide) (by rfl) (by rfl)) jf (nomark _)) (@kC _ _ _ _ (@j7 _ _ _ _ (@jW _ _ _ (ji GA hr.m rfl mA kA bA .nil pass0 (ja (@jF _ _ _ _ _ _ _ _ _ _ jJ (pv 0) (@jE _ _ _ jf) (@jR _)) jc)) (by intro _;rfl)))))) (@zZ _ _) jp) (jg (jr (jH (ja jk (ja (@jv _ _ _ _ _ _ _ jy (pv 0) jf (fun _ _=>rfl)) (ja (@jG _ _ _ _ _ _ _ _ _ jA rfl mtu boot_tuple (ja (@jF _ _ _ _ _ _ _ _ _ _ jJ (pv 0) (@jE _ _ _ jf) (@jR _)) jc) (by decide) (by decide) (by rfl) (by rfl)) jc))))))),?_⟩
 try dsimp only[cxOf,Cx.nox,Cx.wish]
 have big:=line24
 have hn:¬((((Str.ofString "def"::f'::ps).map V.str).length:Nat):Int) < 2:=by rw[List.length_map,List.length_cons,List.length_cons];omega
 refine seqF fun F1 f1=>⟨_,rfl,a,_,rfl,.inl (SqL.of ha),_,_,rfl,rfl,_,rfl,ifX (decide_eq_false hn) ⟨_,rfl,_,rfl,a,_,rfl,SqL.of ha,fun s1 n1=>?_⟩⟩
 have e1:cutV ((Str.ofString "def"::f'::ps).map V.str) (some 1) none=(f'::ps).map V.str:=qJ (n:=1) (by simp)
 have e2:cutV ((Str.ofString "def"::f'::ps).map V.str) (some 2) none=ps.map V.str:=qJ (n:=2) (by simp)
 rw[e1]
 have s0:Same H (upd H s1 (.lst ((f'::ps).map V.str))):=je n1
 refine⟨s1,f'::ps,rfl,jb,fun x hx=>?_,by rw[List.length_cons];omega,fun H1 s2=>⟨_,rfl,iteF (f1 _ _ ?_)⟩⟩
 ·rcases List.mem_cons.mp hx with rfl |hx
  ·exact hf
  ·exact hp x hx
 clear f1
 have ha1:=s2 _ _ (s0 _ _ ha)
 refine⟨_,rfl,a,_,_,_,rfl,rfl,SqL.of ha1,jo (j:=1) rfl,_,rfl,_,rfl,a,_,rfl,SqL.of ha1,fun s3 n3=>?_⟩
 rw[e2]
 refine⟨s3,_,rfl,.inl ⟨SqL.of jb,fun t nt=>⟨sz3,fun r nr=>?_⟩⟩⟩
 exact q r t _ jb (keepN jb nr) (((s0.trans s2).trans (je n3)).trans ((je nt).trans (je nr)))
theorem scRowR:FnScope ["words","word","many_names","many_terms","names","terms"] ["words"] (defScope sRowR):=fsc
theorem ok_rowR{f:Addr}{fd:FuncData}{fD fT fA:Addr}{fdD fdT fdA:FuncData}(F:Fun K "row_of" "row_of" sRowR f fd)(GD:FnOk P w K mg base CX0 4 fD fdD ["words"] spDefR)(bD:Binds K fdD ["words"] [])(kD:keepIn K (.ref fD)=true)(mD:mg "def_row"=some (.ref fD))(GT:FnOk P w K mg base CX0 4 fT fdT ["words"] spTerms)(bT:Binds K fdT ["words"] [])(kT:keepIn K (.ref fT)=true)(mT:mg "terms_of"=some (.ref fT))(GA:FnOk P w K mg base CX0 3 fA fdA ["words"] spAreN)(bA:Binds K fdA ["words"] [])(kA:keepIn K (.ref fA)=true)(mA:mg "are_names"=some (.ref fA)){sh:Addr}(mSh:mg "SHAPES"=some (.ref sh))(hSh:TopD K w.params sh)(hK:Shp K sh)(ml:mg "len"=none)(mtu:mg "tuple"=none):FnOk P w K mg base CX0 5 f fd ["words"] spRowR:=by
 refine F.ok scRowR (fun vs H Q E h=>?_) (fun cdv A outer s H vs Q E hr h=>?_)
 ·refine opq fun Gq kq=>?_
  obtain⟨a,rw,rfl,_⟩:=h
  refine kq ?_
  clear kq
  rfl
 refine opq fun Gq kq=>?_
 obtain⟨a,rw,rfl,ha,ho,q⟩:=h
 refine kq ?_
 clear kq
 refine⟨_,(jd (js (i:=1) scRowR.nd rfl (Or.inl rfl) (@jv _ _ _ _ _ _ _ jy (pv 0) jf (fun _ _=>rfl))) (jd (jx (@jq _ _ _ _ _ _ _ _ jI (pv 1) jk (nomark _)) (jg (jr (ji GD hr.m rfl mD kD bD .nil pass0 (ja (pv 0) jc)))) jp) (jd (jx (@jq _ _ _ _ _ _ _ _ (Kj hSh) (pv 1) (@jX _ _ (.ref sh) _ _ rfl mSh rfl (by decide)) rfl) (@zZ _ _) jp) (jd (js (i:=2) scRowR.nd rfl (Or.inl rfl) (@jv _ _ _ _ _ _ _ jK (@jv _ _ _ _ _ _ _ (Jm hSh) (@jX _ _ (.ref sh) _ _ rfl mSh rfl (by decide)) (pv 1) (fun _ _=>rfl)) jf (fun _ _=>rfl))) (jd (js (i:=3) scRowR.nd rfl (Or.inl rfl) (@jv _ _ _ _ _ _ _ jK (@jv _ _ _ _ _ _ _ (Jm hSh) (@jX _ _ (.ref sh) _ _ rfl mSh rfl (by decide)) (pv 1) (fun _ _=>rfl)) jf (fun _ _=>rfl))) (jd (js (i:=4) scRowR.nd rfl (Or.inl rfl) (@jF _ _ _ _ _ _ _ _ _ _ jJ (pv 0) (@jE _ _ _ jf) (@jE _ _ _ (ju jQ jf (pv 2))))) (jd (js (i:=5) scRowR.nd rfl (Or.inl rfl) (ji GT hr.m rfl mT kT bT .nil pass0 (ja (@jF _ _ _ _ _ _ _ _ _ _ jJ (pv 0) (@jE _ _ _ (ju jQ jf (pv 2))) (@jR _)) jc))) (jd (jx (@PW.pt _ _ _ (@kL _ _ _ _ _ _ _ (@jq _ _ _ _ _ _ _ _ qA (@jz _ _ _ _ _ _ _ _ _ jw rfl ml PySem.boot_len (ja (pv 4) jc) (by decide) (by decide) (by rfl) (by rfl)) (pv 2) (nomark _)) (@kL _ _ _ _ _ _ _ (@j7 _ _ _ _ (@jW _ _ _ (ji GA hr.m rfl mA kA bA .nil pass0 (ja (pv 4) jc)) (by intro _;rfl))) (@kC _ _ _ _ (@zO _ _ _ _ _ _ (@zE _ _ _ _ _ (pv 5)) (by rfl)))))) (@zZ _ _) jp) (jd (jx (@zO _ _ _ _ _ _ (@zE _ _ _ _ _ (pv 3)) (by rfl)) (jg (jr (ju zf (ju zf (jH (ja (pv 1) jc)) (@jG _ _ _ _ _ _ _ _ _ jA rfl mtu boot_tuple (ja (pv 4) jc) (by decide) (by decide) (by rfl) (by rfl))) (jH (ja (@jG _ _ _ _ _ _ _ _ _ jA rfl mtu boot_tuple (ja (pv 5) jc) (by decide) (by decide) (by rfl) (by rfl)) jc))))) jp) (jd (jx (@jq _ _ _ _ _ _ _ _ qm (@jz _ _ _ _ _ _ _ _ _ jw rfl ml PySem.boot_len (ja (pv 5) jc) (by decide) (by decide) (by rfl) (by rfl)) (pv 3) (nomark _)) (@zZ _ _) jp) (jg (jr (ju zf (ju zf (jH (ja (pv 1) jc)) (@jG _ _ _ _ _ _ _ _ _ jA rfl mtu boot_tuple (ja (pv 4) jc) (by decide) (by decide) (by rfl) (by rfl))) (@jG _ _ _ _ _ _ _ _ _ jA rfl mtu boot_tuple (ja (pv 5) jc) (by decide) (by decide) (by rfl) (by rfl))))))))))))))),?_⟩
 try dsimp only[cxOf,Cx.nox,Cx.wish]
 have big:=line24
 cases Xy ho with
 |df f' ps e=>
  subst e
  refine seqF fun F1 f1=>⟨_,rfl,a,_,_,_,rfl,rfl,SqL.of ha,jo (j:=0) rfl,f1 _ _ ?_⟩
  clear f1
  refine seqF fun F1 f1=>⟨_,rfl,rfl,_,rfl,ifY (decide_eq_true rfl) ?_⟩
  exact⟨_,rfl,a,f',ps,rfl,ha,ho.1,ho.2.1,ho.2.2,fun t u H1 h1 h2 s1=>q t _ H1 h1 ⟨u,rfl,h2⟩ s1⟩
 |row x ns Ts m e h1 h2 h3 h4 h5 h6 h7=>
  rw[e]at ha
  obtain⟨ta,hta,hT⟩:=hK _ h1
  have fit:=ZW h4
  refine seqF fun F1 f1=>⟨_,rfl,a,_,_,_,rfl,rfl,SqL.of ha,jo (j:=0) rfl,f1 _ _ ?_⟩
  clear f1
  refine seqF fun F1 f1=>⟨_,rfl,rfl,_,rfl,ifX (decide_eq_false fun z=>h2 (by injection z)) (f1 _ _ ?_)⟩
  clear f1
  refine seqF fun F1 f1=>⟨_,rfl,x,_,rfl,rfl,hta,_,rfl,ifX rfl (f1 _ _ ?_)⟩
  clear f1
  refine seqF fun F1 f1=>⟨_,rfl,x,.ref ta,_,rfl,rfl,hta,rfl,ta,_,_,_,rfl,rfl,hT H,jo (j:=0) rfl,f1 _ _ ?_⟩
  clear f1
  refine seqF fun F1 f1=>⟨_,rfl,x,.ref ta,_,rfl,rfl,hta,rfl,ta,_,_,_,rfl,rfl,hT H,jo (j:=1) rfl,f1 _ _ ?_⟩
  clear f1
  have en:(1:Int)+(ns.length:Int)=((1+ns.length:Nat):Int):=by omega
  have hl1:((x::(ns++(Ts.map Tm.toks).flatten)).map V.str).length=1+ns.length+(Ts.map Tm.toks).flatten.length:=by rw[List.length_map,List.length_cons,List.length_append];omega
  have c1:cutV ((x::(ns++(Ts.map Tm.toks).flatten)).map V.str) (some 1) (some (1+(ns.length:Int)))=ns.map V.str:=by
   rw[en]
   rw[show(1:Int)=((1:Nat):Int) from rfl,cut_mid (m:=1) (by omega) (by omega)]
   rw[List.map_cons,List.drop_succ_cons,List.drop_zero,List.map_append]
   have e0:1+ns.length - 1=(ns.map V.str).length:=by rw[List.length_map];omega
   rw[e0,List.take_left]
  have c2:cutV ((x::(ns++(Ts.map Tm.toks).flatten)).map V.str) (some (1+(ns.length:Int))) none=((Ts.map Tm.toks).flatten).map V.str:=by
   rw[en,qJ (by omega)]
   rw[List.map_cons,Nat.add_comm,List.drop_succ_cons,List.map_append]
   have e0:ns.length=(ns.map V.str).length:=by rw[List.length_map]
   rw[e0,List.drop_left]
  refine seqF fun F1 f1=>⟨_,rfl,_,rfl,_,rfl,_,_,rfl,rfl,_,rfl,a,_,rfl,SqL.of ha,fun s1 n1=>f1 _ _ ?_⟩
  clear f1
  rw[c1]
  have g1:Same H (upd H s1 (.lst (ns.map V.str))):=je n1
  have hs1:upd H s1 (.lst (ns.map V.str)) s1=some (.lst (ns.map V.str)):=jb
  generalize upd H s1 (.lst (ns.map V.str))=H1 at g1 hs1
  refine seqF fun F1 f1=>⟨_,rfl,_,rfl,_,_,rfl,rfl,_,rfl,a,_,rfl,SqL.of (g1 _ _ ha),fun s2 n2=>?_⟩
  rw[c2]
  refine⟨s2,_,Ts,rfl,jb,Qg fun T hT=>(h4 T hT).1,by omega,by omega,fun r ys H2 nr hr hT2 g2=>f1 _ _ ?_⟩
  clear f1
  have g3:Same H1 H2:=(je n2).trans g2
  have ly:=hT2.len
  refine seqF fun F1 f1=>⟨_,rfl,s1,_,rfl,.inl (SqL.of (g3 _ _ hs1)),_,rfl,_,_,rfl,rfl,_,rfl,ifX (decide_eq_false (by rw[List.length_map];show ¬(ns.length:Int) < (ns.length:Int);omega)) ⟨_,rfl,s1,ns,rfl,g3 _ _ hs1,h3,by omega,fun H3 g4=>⟨_,rfl,iteF ⟨_,rfl,_,rfl,ifX (decide_eq_false (by intro z;cases z)) (f1 _ _ ?_)⟩⟩⟩⟩
  clear f1
  have g5:Same H H3:=(g1.trans g3).trans g4
  have hs3:=g4 _ _ (g3 _ _ hs1)
  have hr3:=g4 _ _ hr
  have hT3:=hT2.mono (Same.tm g4)
  rcases h7 with ⟨rfl,h7⟩ | ⟨rfl,h7⟩
  ·refine seqF fun F1 f1=>⟨_,rfl,_,rfl,ifX (decide_eq_false (by intro z;cases z)) (f1 _ _ ?_)⟩
   clear f1
   refine seqF fun F1 f1=>⟨_,rfl,r,_,rfl,.inl (SqL.of hr3),_,rfl,rfl,_,rfl,ifX (by rw[ly,decide_eq_true rfl];rfl) (f1 _ _ ?_)⟩
   clear f1
   refine⟨_,rfl,sz1,fun t1 nt1=>⟨_,rfl,s1,_,rfl,.inl ⟨SqL.of (keepN hs3 nt1),fun t2 nt2=>⟨t1,t2,_,_,rfl,rfl,keepN jb nt2,jb,by rw[List.length_map];show 1+_<=_;omega,fun t3 H4 ht3 g6=>?_⟩⟩⟩⟩
   have g7:Same H3 H4:=((je nt1).trans (je nt2)).trans g6
   refine⟨_,rfl,r,ys,rfl,.inl ⟨SqL.of (g7 _ _ hr3),fun t4 nt4=>⟨t3,t4,_,_,rfl,rfl,keepN ht3 nt4,jb,by simp;omega,fun t5 H5 ht5 g8=>?_⟩⟩⟩
   have g9:Same H3 H5:=(g7.trans (je nt4)).trans g8
   exact q t5 _ H5 ht5 (h7 H5 ys (hT3.mono (Same.tm g9))) (g5.trans g9)
  ·refine seqF fun F1 f1=>⟨_,rfl,_,rfl,ifY (decide_eq_true rfl) ?_⟩
   clear f1
   refine⟨_,rfl,sz1,fun t1 nt1=>⟨_,rfl,s1,_,rfl,.inl ⟨SqL.of (keepN hs3 nt1),fun t2 nt2=>⟨t1,t2,_,_,rfl,rfl,keepN jb nt2,jb,by rw[List.length_map];show 1+_<=_;omega,fun t3 H4 ht3 g6=>?_⟩⟩⟩⟩
   have g7:Same H3 H4:=((je nt1).trans (je nt2)).trans g6
   refine⟨_,rfl,r,ys,rfl,.inl ⟨SqL.of (g7 _ _ hr3),fun t4 nt4=>⟨sz1,fun t6 nt6=>⟨t3,t6,_,_,rfl,rfl,keepN (keepN ht3 nt4) nt6,jb,by simp;omega,fun t5 H5 ht5 g8=>?_⟩⟩⟩⟩
   have g9:Same H3 H5:=(g7.trans ((je nt4).trans (je nt6))).trans g8
   exact q t5 _ H5 ht5 (h7 H5 t4 ys (g8 _ _ (keepN jb nt6)) (hT3.mono (Same.tm g9))) (g5.trans g9)
noncomputable abbrev sBIni:Stmt:=inClass (top 25) 0
noncomputable abbrev sBAw:Stmt:=inClass (top 25) 1
noncomputable abbrev sBWh:Stmt:=inClass (top 25) 2
noncomputable def Rw'.isB:Rw'->Bool
 | .df _ _=>true
 | .ifr _=>true
 | .whr _=>true
 |_=>false
noncomputable def Rw'.isIf:Rw'->Bool
 | .ifr _=>true
 |_=>false
theorem RwV.mono{H H':Hp}(k:TMono H H'){r:Rw'}{xs:List V}(h:RwV H r xs):RwV H' r xs:=by
 cases r with
 |df f ps=>obtain⟨t,e,h⟩:=h;exact⟨t,e,k _ _ h⟩
 |lf l=>exact LfV.mono k h
 |ifr T=>obtain⟨t,e,h⟩:=h;exact⟨t,e,h.mono k⟩
 |whr T=>obtain⟨t,e,h⟩:=h;exact⟨t,e,h.mono k⟩
 |els=>exact h
 |fin=>exact h
structure Bk where
 b:Addr
 dx:Addr
 h:Addr
 bo:Addr
 R:Rw'
 bs:List (Addr×Bd)
noncomputable def muts(k:Bk):List Addr:=k.bo::k.bs.map (·.1)
def BoV(n:Nat)(H:Hp)(bs:List (Addr×Bd)):Prop:=∀c∈bs,∃vs,H c.1=some (.lst vs)/\BdV H c.2 vs/\vs.length<=n
structure BkV(n:Nat)(C:Addr)(H:Hp)(k:Bk):Prop where
 ins:H k.b=some (.ins C k.dx [("head",.ref k.h),("bodies",.ref k.bo)])
 hd:∃xs,H k.h=some (.tup xs)/\RwV H k.R xs
 bo:H k.bo=some (.lst (k.bs.map fun c=>V.ref c.1))
 bs:BoV n H k.bs
 r:k.R.isB=true
 l:k.bs.length<=2
theorem BoV.keep{n m:Nat}{H H':Hp}{bs:List (Addr×Bd)}(h:BoV n H bs)(tm:TMono H H')(e:∀c∈bs,H' c.1=H c.1)(hn:n<=m):BoV m H' bs:=fun c hc=>by
 obtain⟨vs,h1,h2,h3⟩:=h c hc
 exact⟨vs,by rw[e c hc];exact h1,h2.mono tm,Nat.le_trans h3 hn⟩
theorem BkV.keep{n m:Nat}{C:Addr}{H H':Hp}{k:Bk}(h:BkV n C H k)(tm:TMono H H')(e1:H' k.b=H k.b)(e2:∀a∈muts k,H' a=H a)(hn:n<=m):BkV m C H' k:=by
 obtain⟨xs,h1,h2⟩:=h.hd
 refine⟨by rw[e1];exact h.ins,⟨xs,tm _ _ h1,h2.mono tm⟩,by rw[e2 _ List.mem_cons_self];exact h.bo,h.bs.keep tm (fun c hc=>e2 _ (List.mem_cons_of_mem _ (List.mem_map.mpr ⟨c,hc,rfl⟩))) hn,h.r,h.l⟩
theorem BkV.lsts{n:Nat}{C:Addr}{H:Hp}{k:Bk}(h:BkV n C H k):∀a∈muts k,∃vs,H a=some (.lst vs):=fun a ha=>by
 rcases List.mem_cons.mp ha with rfl |ha
 ·exact⟨_,h.bo⟩
 ·obtain⟨c,hc,rfl⟩:=List.mem_map.mp ha
  obtain⟨vs,h1,_⟩:=h.bs c hc
  exact⟨vs,h1⟩
theorem BkV.same{n m:Nat}{C:Addr}{H H':Hp}{k:Bk}(h:BkV n C H k)(s:Same H H')(hn:n<=m):BkV m C H' k:=h.keep (Same.tm s) (by rw[h.ins];exact s _ _ h.ins) (fun a ha=>by obtain⟨vs,e⟩:=h.lsts a ha;rw[e];exact s _ _ e) hn
theorem z5{H:Hp}{c:Addr}{vs zs:List V}(h:H c=some (.lst vs)):TMono H (upd H c (.lst zs)):=fun b xs e=>by rw[jh (jU e h (by intro z;cases z))];exact e
theorem BkV.updL{n m:Nat}{C c:Addr}{H:Hp}{k:Bk}{vs zs:List V}(h:BkV n C H k)(hc:H c=some (.lst vs))(hm:c∉muts k)(hn:n<=m):BkV m C (upd H c (.lst zs)) k:=
 h.keep (z5 hc) (jh (jU h.ins hc (by intro z;cases z))) (fun a ha=>jh fun e=>hm (by rw[<- e];exact ha)) hn
structure CB'(K:Frag)(C:Addr):Prop where
 cl:Cls K C
 n1:NoAttr K C "head"
 n2:NoAttr K C "bodies"
def spBIni(C:Addr):Sp:=fun vs H Q _=>∃(b dx:Addr) (v:V),vs=[.ref b,v]/\H b=some (.ins C dx [])/\
 ∀(bo ba:Addr) (H':Hp),H bo=none->H ba=none->bo≠ba->H' b=some (.ins C dx [("head",v),("bodies",.ref bo)])->H' bo=some (.lst [.ref ba])->H' ba=some (.lst [])->But b H H'->Q .non H'
def spBAw(C:Addr):Sp:=fun vs H Q _=>∃(n:Nat) (k:Bk),vs=[.ref k.b]/\BkV n C H k/\Q (.bl (if k.R.isIf=true then decide (k.bs.length=1) else false)) H
def TupsV(H:Hp):List Bd->List V->Prop
 | [],ts=>ts=[]
 |b::bs,ts=>∃a vs r,ts= .ref a::r/\H a=some (.tup vs)/\BdV H b vs/\TupsV H bs r
theorem TupsV.mono{H H':Hp}(k:TMono H H'){bs:List Bd}:∀{ts:List V},TupsV H bs ts->TupsV H' bs ts:=by
 induction bs with
 |nil=>exact fun h=>h
 |cons b bs ih=>rintro ts ⟨a,vs,r,e,h1,h2,h3⟩;exact⟨a,vs,r,e,k _ _ h1,h2.mono k,ih h3⟩
theorem TupsV.snoc{H:Hp}{b:Bd}{a:Addr}{vs:List V}(h1:H a=some (.tup vs))(h2:BdV H b vs){bs:List Bd}:∀{ts:List V},TupsV H bs ts->TupsV H (bs++[b]) (ts++[.ref a]):=by
 induction bs with
 |nil=>intro ts e;have e:ts=[]:=e;rw[e];exact⟨a,vs,[],rfl,h1,h2,rfl⟩
 |cons c bs ih=>rintro ts ⟨d,us,r,e,g1,g2,g3⟩;exact⟨d,us,r++[.ref a],by rw[e];rfl,g1,g2,ih g3⟩
def spBWh(C:Addr):Sp:=fun vs H Q _=>∃(n:Nat) (k:Bk),vs=[.ref k.b]/\BkV n C H k/\n<=100000/\
 ∀(r:Addr) (xs ts:List V) (H':Hp),H' r=some (.tup (xs++ts))->RwV H' k.R xs->TupsV H' (k.bs.map (·.2)) ts->Same H H'->Q (.ref r) H'
theorem Qx{X:Cx}{K:Frag}(hK:X.K=K):CallR X (.type "tuple") (fun xs H Q=>∃p ys,xs=[.ref p]/\((SqL K H p ys/\∀l,H l=none->Q (.ref l) (upd H l (.tup ys)))∨(SqT K H p ys/\Q (.ref p) H))):=by
 subst hK
 exact jA
theorem RwV.head{H:Hp}{r:Rw'}{xs:List V}(h:RwV H r xs)(hb:r.isB=true):∃x ys,xs= .str x::ys/\decide (V.str x=V.str "if")=r.isIf/\ys.length<=2:=by
 cases r with
 |df f ps=>obtain⟨t,e,h⟩:=h;exact⟨_,_,e,(by show decide (V.str (Str.ofString "def")=V.str (Str.ofString "if"))=false;decide+kernel),Nat.le_refl 2⟩
 |ifr T=>obtain⟨t,e,h⟩:=h;exact⟨_,_,e,(by show decide (V.str (Str.ofString "if")=V.str (Str.ofString "if"))=true;decide+kernel),by show 1<=2;decide⟩
 |whr T=>obtain⟨t,e,h⟩:=h;exact⟨_,_,e,(by show decide (V.str (Str.ofString "while")=V.str (Str.ofString "if"))=false;decide+kernel),by show 1<=2;decide⟩
 |lf l=>cases hb
 |els=>cases hb
 |fin=>cases hb
theorem scBIni:FnScope ["self","head"] ["self","head"] (defScope sBIni):=fsc
theorem ok_bini{f:Addr}{fd:FuncData}{C:Addr}(F:Fun K "__init__" "Block.__init__" sBIni f fd)(ck:CB' K C):FnOk P w K mg base CX0 1 f fd ["self","head"] (spBIni C):=by
 refine F.ok scBIni (fun vs H Q E h=>?_) (fun cdv A outer s H vs Q E hr h=>?_)
 ·refine opq fun Gq kq=>?_
  obtain⟨b,dx,v,rfl,_⟩:=h
  refine kq ?_
  clear kq
  rfl
 refine opq fun Gq kq=>?_
 obtain⟨b,dx,v,rfl,hb,q⟩:=h
 refine kq ?_
 clear kq
 refine⟨_,(jd (@Kq _ _ _ _ _ _ _ _ (pv 0) (pv 1) rfl) (jg (@Kq _ _ _ _ _ _ _ _ (pv 0) (jC (ja (jC jc) jc)) rfl))),?_⟩
 try dsimp only[cxOf,Cx.nox,Cx.wish]
 refine seqF fun F1 f1=>⟨_,rfl,_,rfl,b,C,dx,_,rfl,hb,ck.cl,ck.n1,by decide,f1 _ _ ?_⟩
 clear f1
 refine⟨sz0,fun ba nba=>⟨sz1,fun bo nbo=>⟨_,rfl,b,C,dx,_,rfl,keepN (keepN jb nba) nbo,ck.cl,ck.n2,(by show 1 < 1000;decide),?_⟩⟩⟩
 have n1:b≠ba:=jj jb nba
 have n2:b≠bo:=jj (keepN jb nba) nbo
 have n3:ba≠bo:=jj jb nbo
 have a0:H ba=none:=by rw[jh (Ne.symm n1)]at nba;exact nba
 have b0:H bo=none:=by rw[jh (Ne.symm n3),jh (Ne.symm n2)]at nbo;exact nbo
 refine q bo ba _ b0 a0 (Ne.symm n3) jb (by rw[jh (Ne.symm n2)];exact jb) (by rw[jh (Ne.symm n1),jh n3];exact jb) fun c o nc e=>?_
 rw[jh nc,jh (jj e b0),jh (jj e a0),jh nc]
 exact e
theorem scBAw:FnScope ["self"] ["self"] (defScope sBAw):=fsc
theorem ok_baw{f:Addr}{fd:FuncData}{C:Addr}(F:Fun K "awaits_else" "Block.awaits_else" sBAw f fd)(ck:CB' K C)(ml:mg "len"=none):FnOk P w K mg base CX0 1 f fd ["self"] (spBAw C):=by
 refine F.ok scBAw (fun vs H Q E h=>?_) (fun cdv A outer s H vs Q E hr h=>?_)
 ·refine opq fun Gq kq=>?_
  obtain⟨n,k,rfl,_⟩:=h
  refine kq ?_
  clear kq
  rfl
 refine opq fun Gq kq=>?_
 obtain⟨n,k,rfl,hk,q⟩:=h
 refine kq ?_
 clear kq
 refine⟨_,(jg (jr (@Qz _ _ _ _ _ _ _ (@j5 _ _ _ _ _ _ _ _ jI (@jv _ _ _ _ _ _ _ jK (@jT _ _ _ _ _ (pv 0) rfl) jf (fun _ _=>rfl)) jk (nomark _)) (@Qy _ _ _ _ _ (@j5 _ _ _ _ _ _ _ _ jI (@jz _ _ _ _ _ _ _ _ _ jw rfl ml PySem.boot_len (ja (@jT _ _ _ _ _ (pv 0) rfl) jc) (by decide) (by decide) (by rfl) (by rfl)) jf (nomark _)))))),?_⟩
 try dsimp only[cxOf,Cx.nox,Cx.wish]
 obtain⟨xs,h1,h2⟩:=hk.hd
 obtain⟨x,ys,rfl,hx,_⟩:=h2.head hk.r
 refine⟨_,rfl,k.b,C,k.dx,_,_,rfl,hk.ins,ck.cl,ck.n1,rfl,k.h,_,_,_,rfl,rfl,SqT.of h1,jo (j:=0) rfl,rfl,_,rfl,?_⟩
 rw[hx]
 cases e:k.R.isIf with
 |false=>
  rw[e]at q
  exact iteF q
 |true=>
  rw[e]at q
  refine iteT ⟨_,rfl,k.b,C,k.dx,_,_,rfl,hk.ins,ck.cl,ck.n2,rfl,k.bo,_,rfl,.inl (SqL.of hk.bo),rfl,?_⟩
  have e2:decide (V.int (((k.bs.map fun c=>V.ref c.1).length:Nat):Int)=V.int 1)=decide (k.bs.length=1):=by
   rw[List.length_map]
   by_cases h:k.bs.length=1
   ·rw[decide_eq_true h,h];rfl
   ·rw[decide_eq_false h,decide_eq_false]
    intro z
    injection z with z
    omega
  rw[e2]
  exact q
theorem scBWh:FnScope ["self"] ["self"] (defScope sBWh):=fsc
noncomputable def Yp:Scope:=⟨.function,[(".0",.local),("body",.local),("tuple",.globalImplicit)],false,false,[]⟩
theorem nd_bw1:(["body"]:List Str).Nodup:=by decide+kernel
theorem cs_bw1:CompSc ["self"] (defScope sBWh) Yp ["body"] 1 []:=csc
theorem ok_bwh{f:Addr}{fd:FuncData}{C:Addr}(F:Fun K "whole" "Block.whole" sBWh f fd)(ck:CB' K C)(mtu:mg "tuple"=none):FnOk P w K mg base CX0 1 f fd ["self"] (spBWh C):=by
 refine F.ok scBWh (fun vs H Q E h=>?_) (fun cdv A outer s H vs Q E hr h=>?_)
 ·refine opq fun Gq kq=>?_
  obtain⟨n,k,rfl,_⟩:=h
  refine kq ?_
  clear kq
  rfl
 refine opq fun Gq kq=>?_
 obtain⟨n,k,rfl,hk,hn,q⟩:=h
 refine kq ?_
 clear kq
 refine⟨_,(jg (jr (ju zf (@jT _ _ _ _ _ (pv 0) rfl) (@jG _ _ _ _ _ _ _ _ _ jA rfl mtu boot_tuple (ja (@kU _ _ _ _ _ _ _ (["body"]) (1) ([]) _ _ _ _ rfl (@ze _ _ _ _ (@jT _ _ _ _ _ (pv 0) rfl)) cs_bw1 (fun _ _ _ _ _=>(jD (i:=0) nd_bw1 rfl (Or.inl rfl))) (fun _ _ _ _ _=>(@zq _)) (fun _ _ _ _ _=>(@jG _ _ _ _ _ _ _ _ _ (Qx (K:=K) rfl) rfl mtu boot_tuple (ja (pv 0) jc) (by decide) (by decide) (by rfl) (by rfl))) (by intro _;rfl)) jc) (by decide) (by decide) (by rfl) (by rfl))))),?_⟩
 try dsimp only[cxOf,Cx.nox,Cx.wish]
 have big:=line24
 obtain⟨xs,h1,h2⟩:=hk.hd
 obtain⟨x,ys,rfl,_,ly⟩:=h2.head hk.r
 have kl:=hk.l
 refine⟨_,rfl,k.b,C,k.dx,_,_,rfl,hk.ins,ck.cl,ck.n1,rfl,_,rfl,k.b,C,k.dx,_,_,rfl,hk.ins,ck.cl,ck.n2,rfl,k.bo,rfl,⟨_,SqL.of hk.bo⟩,?_⟩
 refine zL (K:=K) (xs:=k.bs.map fun c=>V.ref c.1) (by rw[List.length_map];omega) (fun i zs Hx=>zs.length=i/\TupsV Hx ((k.bs.take i).map (·.2)) zs/\Same H Hx) ⟨rfl,rfl,Same.refl _⟩ (fun i zs Hx h=>?_) (fun i v zs Hx hx h=>?_) (fun zs Hx h l nl=>?_)
 ·exact⟨SqL.of (h.2.2 _ _ hk.bo),Nat.le_of_eq h.1⟩
 ·obtain⟨e,hT,sx⟩:=h
  rw[List.getElem?_map]at hx
  obtain⟨c,hc,rfl⟩:=Option.map_eq_some_iff.mp hx
  obtain⟨vs,g1,g2,g3⟩:=hk.bs c (List.mem_of_getElem? hc)
  refine⟨_,rfl,c.1,vs,rfl,.inl ⟨SqL.of (sx _ _ g1),fun t nt=>⟨by rw[List.length_append,e];rfl,?_,sx.trans (je nt)⟩⟩⟩
  rw[List.take_add_one,hc,List.map_append]
  exact(hT.mono (Same.tm (je nt))).snoc jb (g2.mono (Same.tm (sx.trans (je nt))))
 ·obtain⟨e,hT,sx⟩:=h
  rw[List.length_map,List.take_length]at hT
  rw[List.length_map]at e
  refine⟨l,zs,rfl,.inl ⟨SqL.of jb,fun t nt=>?_⟩⟩
  have s1:Same H (upd (upd Hx l (.lst zs)) t (.tup zs)):=(sx.trans (je nl)).trans (je nt)
  have s2:Same Hx (upd (upd Hx l (.lst zs)) t (.tup zs)):=(je nl).trans (je nt)
  refine⟨k.h,t,_,_,rfl,rfl,s1 _ _ h1,jb,by rw[List.length_cons];omega,fun r H' hr s3=>q r _ zs H' hr (h2.mono (Same.tm (s1.trans s3))) (hT.mono (Same.tm (s2.trans s3))) (s1.trans s3)⟩
noncomputable abbrev sRIni:Stmt:=inClass (top 26) 0
noncomputable abbrev sRFit:Stmt:=inClass (top 26) 1
noncomputable abbrev sRTk:Stmt:=inClass (top 26) 2
noncomputable abbrev sRFin:Stmt:=inClass (top 26) 3
noncomputable def Lf.word:Lf->Str
 | .rd _ _=>"read"
 | .st _ _=>"set"
 | .wr _ _=>"write"
 | .cl _ _ _=>"call"
 | .gv _=>"give"
noncomputable def Rw'.word:Rw'->Str
 | .df _ _=>"def"
 | .lf l=>l.word
 | .ifr _=>"if"
 | .whr _=>"while"
 | .els=>"else"
 | .fin=>"end"
theorem RwV.word{H:Hp}{r:Rw'}{xs:List V}(h:RwV H r xs):∃ys,xs= .str r.word::ys:=by
 cases r with
 |df f ps=>obtain⟨t,e,h⟩:=h;exact⟨_,e⟩
 |ifr T=>obtain⟨t,e,h⟩:=h;exact⟨_,e⟩
 |whr T=>obtain⟨t,e,h⟩:=h;exact⟨_,e⟩
 |els=>exact⟨_,h⟩
 |fin=>exact⟨_,h⟩
 |lf l=>
  cases l with
  |rd x T=>obtain⟨t,e,h⟩:=h;exact⟨_,e⟩
  |st x T=>obtain⟨t,e,h⟩:=h;exact⟨_,e⟩
  |wr T U=>obtain⟨t,u,e,h⟩:=h;exact⟨_,e⟩
  |cl x f ts=>obtain⟨q,ts,e,h⟩:=h;exact⟨_,e⟩
  |gv T=>obtain⟨t,e,h⟩:=h;exact⟨_,e⟩
inductive Stp:Rw'->List Df->List (Rw'×List Bd)->List Df->List (Rw'×List Bd)->Prop
 |df (f:Str) (ps:List Str) (ds:List Df):Stp (.df f ps) ds [] ds [(.df f ps,[.nil])]
 |lf (l:Lf) (ds:List Df) (R:Rw') (B:List Bd) (a:Bd) (L:List (Rw'×List Bd)):Stp (.lf l) ds ((R,B++[a])::L) ds ((R,B++[a.app (.lf l .nil)])::L)
 |ifr (T:Tm) (ds:List Df) (Y:Rw'×List Bd) (L:List (Rw'×List Bd)):Stp (.ifr T) ds (Y::L) ds ((.ifr T,[.nil])::Y::L)
 |whr (T:Tm) (ds:List Df) (Y:Rw'×List Bd) (L:List (Rw'×List Bd)):Stp (.whr T) ds (Y::L) ds ((.whr T,[.nil])::Y::L)
 |els (T:Tm) (ds:List Df) (a:Bd) (L:List (Rw'×List Bd)):Stp .els ds ((.ifr T,[a])::L) ds ((.ifr T,[a,.nil])::L)
 |ed (f:Str) (ps:List Str) (ds:List Df) (a:Bd):Stp .fin ds [(.df f ps,[a])] (ds++[⟨f,ps,a⟩]) []
 |ei (T:Tm) (ds:List Df) (a b:Bd) (R:Rw') (B:List Bd) (c:Bd) (L:List (Rw'×List Bd)):Stp .fin ds ((.ifr T,[a,b])::(R,B++[c])::L) ds ((R,B++[c.app (.ite T a b .nil)])::L)
 |ew (T:Tm) (ds:List Df) (a:Bd) (R:Rw') (B:List Bd) (c:Bd) (L:List (Rw'×List Bd)):Stp .fin ds ((.whr T,[a])::(R,B++[c])::L) ds ((R,B++[c.app (.loop T a .nil)])::L)
noncomputable def ab(k:Bk):Rw'×List Bd:=(k.R,k.bs.map (·.2))
noncomputable def mts(dl bl:Addr)(ks:List Bk):List Addr:=dl::bl::(ks.map muts).flatten
structure Rdg(n:Nat)(CR CB:Addr)(H:Hp)(r dx dl bl:Addr)(ds:List Df)(ks:List Bk):Prop where
 ins:H r=some (.ins CR dx [("defs",.ref dl),("blocks",.ref bl)])
 dv:∃vs,H dl=some (.lst vs)/\DfsV H ds vs
 bv:H bl=some (.lst (ks.reverse.map fun k=>V.ref k.b))
 kv:∀k∈ks,BkV n CB H k
 nd:(mts dl bl ks).Nodup
 sz:ds.length<=n/\ks.length<=n
theorem kK{α:Type}{f:α->V}{as:List α}{a:α}:((a::as).reverse.map f)[((a::as).reverse.map f).length - 1]?=some (f a)/\((a::as).reverse.map f).dropLast=as.reverse.map f/\atI ((a::as).reverse.map f) (-1)=some (f a):=by
 have e:(a::as).reverse.map f=as.reverse.map f++[f a]:=by rw[List.reverse_cons,List.map_append];rfl
 rw[e]
 refine⟨by simp,List.dropLast_concat,?_⟩
 unfold atI ixN
 have hl:(as.reverse.map f++[f a]).length=as.length+1:=by simp
 rw[hl,if_neg (by omega),if_pos (by omega)]
 have e2:(-1+((as.length+1:Nat):Int)).toNat=as.length:=by omega
 show(as.reverse.map f++[f a])[(-1+((as.length+1:Nat):Int)).toNat]?=_
 rw[e2]
 simp
theorem at_last{α:Type}{f:α->V}{B:List α}{c:α}:atI ((B++[c]).map f) (-1)=some (f c):=by
 have h:=(kK (f:=f) (as:=B.reverse) (a:=c)).2.2
 rw[List.reverse_cons,List.reverse_reverse]at h
 exact h
theorem Rdg.same{n:Nat}{CR CB r dx dl bl:Addr}{H H':Hp}{ds:List Df}{ks:List Bk}(h:Rdg n CR CB H r dx dl bl ds ks)(s:Same H H'):Rdg n CR CB H' r dx dl bl ds ks:=by
 obtain⟨vs,h1,h2⟩:=h.dv
 exact⟨s _ _ h.ins,⟨vs,s _ _ h1,h2.mono (Same.tm s)⟩,s _ _ h.bv,fun k hk=>(h.kv k hk).same s (Nat.le_refl _),h.nd,h.sz⟩
theorem qf{dl bl:Addr}{ks:List Bk}{k:Bk}{a:Addr}(hk:k∈ks)(ha:a∈muts k):a∈(ks.map muts).flatten:=List.mem_flatten.mpr ⟨muts k,List.mem_map.mpr ⟨k,hk,rfl⟩,ha⟩
theorem ZX{α β:Type}{f:α->β}{l:List α}{B:List β}{b:β}(h:l.map f=B++[b]):∃l' a,l=l'++[a]/\l'.map f=B/\f a=b:=by
 obtain⟨l1,l2,e,h1,h2⟩:=List.map_eq_append_iff.mp h
 match l2,h2 with
 | [a],h2=>exact⟨l1,a,e,h1,by injection h2⟩
theorem Rdg.add{n:Nat}{CR CB r dx dl bl c:Addr}{H:Hp}{ds:List Df}{k:Bk}{ks:List Bk}{B:List (Addr×Bd)}{a s:Bd}{vs:List V}{v:V}(h:Rdg n CR CB H r dx dl bl ds (k::ks))(e:k.bs=B++[(c,a)])
  (hc:H c=some (.lst vs)) (hb:BdV H a vs) (hl:vs.length<=n) (hs:BdV H s [v]):Rdg (n+1) CR CB (upd H c (.lst (vs++[v]))) r dx dl bl ds ({ k with bs:=B++[(c,a.app s)] }::ks):=by
 have hk:=h.kv k List.mem_cons_self
 have cm:c∈muts k:=List.mem_cons_of_mem _ (by rw[e];simp)
 have nd:=h.nd
 unfold mts at nd
 rw[List.map_cons,List.flatten_cons]at nd
 have n1:=(List.nodup_cons.mp nd).1
 have nd2:=(List.nodup_cons.mp nd).2
 have n2:=(List.nodup_cons.mp nd2).1
 have nd3:=(List.nodup_cons.mp nd2).2
 have cd:dl≠c:=fun z=>n1 (by rw[z];exact List.mem_cons_of_mem _ (List.mem_append_left _ cm))
 have cb:bl≠c:=fun z=>n2 (by rw[z];exact List.mem_append_left _ cm)
 have ndk:=(List.nodup_append.mp nd3).1
 have em:muts { k with bs:=B++[(c,a.app s)] }=muts k:=by unfold muts;rw[e];simp
 have tm:=z5 (zs:=vs++[v]) hc
 have cbo:k.bo≠c:=fun z=>by
  have:=(List.nodup_cons.mp ndk).1
  exact this (by rw[z,e];simp)
 have cB:∀d∈B,d.1≠c:=fun d hd z=>by
  have:=(List.nodup_cons.mp ndk).2
  rw[e,List.map_append]at this
  exact(List.nodup_append.mp this).2.2 d.1 (List.mem_map.mpr ⟨d,hd,rfl⟩) c (by simp) z
 obtain⟨us,g1,g2⟩:=h.dv
 obtain⟨xs,g3,g4⟩:=hk.hd
 refine⟨by rw[jh (jU h.ins hc (by intro z;cases z))];exact h.ins,⟨us,by rw[jh cd];exact g1,g2.mono tm⟩,by rw[jh cb,h.bv,List.reverse_cons,List.reverse_cons,List.map_append,List.map_append];rfl,fun k' hk'=>?_,?_,⟨by have:=h.sz.1;omega,by have:=h.sz.2;rw[List.length_cons]at this ⊢;omega⟩⟩
 ·rcases List.mem_cons.mp hk' with rfl |hk'
  ·refine⟨by show upd H c _ k.b=_;rw[jh (jU hk.ins hc (by intro z;cases z))];exact hk.ins,⟨xs,tm _ _ g3,g4.mono tm⟩,?_,?_,hk.r,by have:=hk.l;rw[e]at this;simpa using this⟩
   ·show upd H c _ k.bo=_
    rw[jh cbo,hk.bo,e,List.map_append,List.map_append]
    rfl
   ·intro d hd
    rcases List.mem_append.mp hd with hd |hd
    ·obtain⟨ws,q1,q2,q3⟩:=hk.bs d (by rw[e];exact List.mem_append_left _ hd)
     exact⟨ws,by rw[jh (cB d hd)];exact q1,q2.mono tm,by omega⟩
    ·rw[List.mem_singleton.mp hd]
     exact⟨_,jb,(hs.mono tm).app (hb.mono tm),by rw[List.length_append];show vs.length+1<=n+1;omega⟩
  ·refine(h.kv k' (List.mem_cons_of_mem _ hk')).updL hc (fun m=>?_) (Nat.le_succ _)
   exact(List.nodup_append.mp nd3).2.2 c cm c (qf (dl:=dl) (bl:=bl) hk' m) rfl
 ·unfold mts
  rw[List.map_cons,List.flatten_cons,em]
  exact nd
def Fr'(M:List Addr)(H H':Hp):Prop:=∀b o,b∉M->H b=some o->H' b=some o
structure CR'(K:Frag)(C:Addr):Prop where
 cl:Cls K C
 n1:NoAttr K C "defs"
 n2:NoAttr K C "blocks"
def spRIni(CR CB:Addr):Sp:=fun vs H Q _=>∃(r dx:Addr),vs=[.ref r]/\H r=some (.ins CR dx [])/\∀(dl bl:Addr) (H':Hp),H dl=none->H bl=none->Rdg 0 CR CB H' r dx dl bl [] []->But r H H'->Q .non H'
def spRFit(CR CB:Addr):Sp:=fun vs H Q _=>∃(n:Nat) (r dx dl bl:Addr) (ds ds':List Df) (ks:List Bk) (L:List (Rw'×List Bd)) (row:Rw'),vs=[.ref r,.str row.word]/\Rdg n CR CB H r dx dl bl ds ks/\Stp row ds (ks.map ab) ds' L/\Q (.bl true) H
def After(n:Nat)(CR CB:Addr)(H:Hp)(r dx dl bl:Addr)(ks:List Bk)(ds':List Df)(L:List (Rw'×List Bd))(Q:VK):Prop:=∀(ks':List Bk) (H':Hp),Rdg (n+1) CR CB H' r dx dl bl ds' ks'->ks'.map ab=L->Fr' (mts dl bl ks) H H'->(∀a∈mts dl bl ks',a∈mts dl bl ks∨H a=none)->Q .non H'
def spRFin(CR CB:Addr):Sp:=fun vs H Q _=>∃(n:Nat) (r dx dl bl:Addr) (ds ds':List Df) (k:Bk) (ks:List Bk) (L:List (Rw'×List Bd)),vs=[.ref r,.ref k.b]/\Rdg n CR CB H r dx dl bl ds ks/\BkV n CB H k/\Stp .fin ds (ab k::ks.map ab) ds' L/\n<=100000/\After n CR CB H r dx dl bl ks ds' L Q
def spRTk(CR CB:Addr):Sp:=fun vs H Q _=>∃(n:Nat) (r dx dl bl t:Addr) (xs:List V) (ds ds':List Df) (ks:List Bk) (L:List (Rw'×List Bd)) (row:Rw'),vs=[.ref r,.ref t]/\Rdg n CR CB H r dx dl bl ds ks/\H t=some (.tup xs)/\RwV H row xs/\Stp row ds (ks.map ab) ds' L/\n<=100000/\After n CR CB H r dx dl bl ks ds' L Q
theorem QE{ks:List Bk}(h:ks.map ab=[]):ks=[]:=List.map_eq_nil_iff.mp h
theorem j6{ks:List Bk}{Y:Rw'×List Bd}{L:List (Rw'×List Bd)}(h:ks.map ab=Y::L):∃k ks',ks=k::ks'/\ab k=Y/\ks'.map ab=L:=by
 match ks,h with
 |k::ks',h=>injection h with h1 h2;exact⟨k,ks',rfl,h1,h2⟩
theorem scRIni:FnScope ["self"] ["self"] (defScope sRIni):=fsc
theorem ok_rini{f:Addr}{fd:FuncData}{CR CB:Addr}(F:Fun K "__init__" "Reading.__init__" sRIni f fd)(ck:CR' K CR):FnOk P w K mg base CX0 1 f fd ["self"] (spRIni CR CB):=by
 refine F.ok scRIni (fun vs H Q E h=>?_) (fun cdv A outer s H vs Q E hr h=>?_)
 ·refine opq fun Gq kq=>?_
  obtain⟨r,dx,rfl,_⟩:=h
  refine kq ?_
  clear kq
  rfl
 refine opq fun Gq kq=>?_
 obtain⟨r,dx,rfl,hr',q⟩:=h
 refine kq ?_
 clear kq
 refine⟨_,(jd (@Kq _ _ _ _ _ _ _ _ (pv 0) (jC jc) rfl) (jg (@Kq _ _ _ _ _ _ _ _ (pv 0) (jC jc) rfl))),?_⟩
 try dsimp only[cxOf,Cx.nox,Cx.wish]
 refine seqF fun F1 f1=>⟨sz0,fun dl nd=>⟨_,rfl,r,CR,dx,_,rfl,keepN hr' nd,ck.cl,ck.n1,by decide,f1 _ _ ?_⟩⟩
 clear f1
 have n1:r≠dl:=jj hr' nd
 refine⟨sz0,fun bl nb=>⟨_,rfl,r,CR,dx,_,rfl,keepN jb nb,ck.cl,ck.n2,(by show 1 < 1000;decide),?_⟩⟩
 have n2:r≠bl:=jj jb nb
 have hdl:upd (upd H dl (.lst [])) r (.ins CR dx [("defs",.ref dl)]) dl=some (.lst []):=by rw[jh (Ne.symm n1)];exact jb
 have n3:dl≠bl:=jj hdl nb
 have b0:H bl=none:=by rw[jh (Ne.symm n2),jh (Ne.symm n3)]at nb;exact nb
 refine q dl bl _ nd b0 ⟨jb,⟨[],by rw[jh (Ne.symm n1),jh n3];exact hdl,rfl⟩,by rw[jh (Ne.symm n2)];exact jb,(fun k hk=>nomatch hk),by unfold mts;simp;exact n3,⟨Nat.le_refl 0,Nat.le_refl 0⟩⟩ fun c o nc e=>?_
 rw[jh nc,jh (jj e b0),jh nc,jh (jj e nd)]
 exact e
theorem scRFit:FnScope ["self","word"] ["self","word"] (defScope sRFit):=fsc
theorem ok_rfit{f:Addr}{fd:FuncData}{CR CB fW:Addr}{fdW:FuncData}(F:Fun K "fits" "Reading.fits" sRFit f fd)(ckR:CR' K CR)(ckB:CB' K CB)(GW:FnOk P w K mg base CX0 1 fW fdW ["self"] (spBAw CB))(bW:Binds K fdW ["self"] [])(eW:Meth K CB "awaits_else" fW):FnOk P w K mg base CX0 2 f fd ["self","word"] (spRFit CR CB):=by
 refine F.ok scRFit (fun vs H Q E h=>?_) (fun cdv A outer s H vs Q E hr h=>?_)
 ·refine opq fun Gq kq=>?_
  obtain⟨n,r,dx,dl,bl,ds,ds',ks,L,row,rfl,_⟩:=h
  refine kq ?_
  clear kq
  rfl
 refine opq fun Gq kq=>?_
 obtain⟨n,r,dx,dl,bl,ds,ds',ks,L,row,rfl,hG,hS,q⟩:=h
 refine kq ?_
 clear kq
 refine⟨_,(jd (jx (@j7 _ _ _ _ (@kG _ _ _ (@jT _ _ _ _ _ (pv 0) rfl) (fun _=>rfl))) (jg (jr (@j5 _ _ _ _ _ _ _ _ jI (pv 1) jk (nomark _)))) jp) (jd (jx (@jq _ _ _ _ _ _ _ _ jI (pv 1) jk (nomark _)) (jg (jr (@zI _ _ _ _ _ _ _ _ _ _ _ _ _ _ _ _ _ (@jv _ _ _ _ _ _ _ jy (@jT _ _ _ _ _ (pv 0) rfl) (@zY _ _ _ _ _ _ zk jf) (fun _ _=>rfl)) ckB.cl eW GW hr.m bW .nil pass0 (by rfl)))) jp) (jd (jx (@jq _ _ _ _ _ _ _ _ jI (pv 1) jk (nomark _)) (jg (jr (@YQ _ _ _ _ (@zI _ _ _ _ _ _ _ _ _ _ _ _ _ _ _ _ _ (@jv _ _ _ _ _ _ _ jy (@jT _ _ _ _ _ (pv 0) rfl) (@zY _ _ _ _ _ _ zk jf) (fun _ _=>rfl)) ckB.cl eW GW hr.m bW .nil pass0 (by rfl))))) jp) (jg (jr (@j5 _ _ _ _ _ _ _ _ qm (pv 1) jk (nomark _))))))),?_⟩
 try dsimp only[cxOf,Cx.nox,Cx.wish]
 have hbl:=hG.bv
 have e1:(!(ks.reverse.map fun k=>V.ref k.b).isEmpty)=!ks.isEmpty:=by cases ks<;>simp
 refine seqF fun F1 f1=>⟨_,rfl,r,CR,dx,_,_,rfl,hG.ins,ckR.cl,ckR.n2,rfl,_,.inl ⟨_,SqL.of hbl,rfl⟩,?_⟩
 rw[e1]
 have top:∀(k:Bk) (ks':List Bk),ks=k::ks'->(!ks.isEmpty)=true/\atI (ks.reverse.map fun k=>V.ref k.b) (-1)=some (.ref k.b)/\BkV n CB H k:=fun k ks' e=>by
  subst e
  exact⟨rfl,kK.2.2,hG.kv k List.mem_cons_self⟩
 generalize eM:ks.map ab=M at hS
 cases hS with
 |df f ps ds=>
  have:=QE eM
  subst this
  refine ifY rfl ⟨_,rfl,rfl,?_⟩
  rw[show decide (V.str (Rw'.df f ps).word=V.str "def")=true from decide_eq_true rfl]
  exact q
 |lf l ds R B a L=>
  obtain⟨k,ks',e,_⟩:=j6 eM
  obtain⟨z1,z2,z3⟩:=top k ks' e
  rw[z1]
  refine ifX rfl (f1 _ _ ?_)
  clear f1
  cases l<;>
  ·refine seqF fun F1 f1=>⟨_,rfl,rfl,_,rfl,ifX (by show decide (V.str (Str.ofString _)=V.str (Str.ofString "else"))=false;decide+kernel) (f1 _ _ ?_)⟩
   clear f1
   refine seqF fun F1 f1=>⟨_,rfl,rfl,_,rfl,ifX (by show decide (V.str (Str.ofString _)=V.str (Str.ofString "end"))=false;decide+kernel) (f1 _ _ ?_)⟩
   clear f1
   refine⟨_,rfl,rfl,?_⟩
   rw[show ∀b:Bool,b=false->(!b)=true from fun b h=>by rw[h];rfl]
   ·exact q
   ·show decide (V.str (Str.ofString _)=V.str (Str.ofString "def"))=false
    decide+kernel
 |ifr T ds Y L=>
  obtain⟨k,ks',e,_⟩:=j6 eM
  obtain⟨z1,z2,z3⟩:=top k ks' e
  rw[z1]
  refine ifX rfl (f1 _ _ ?_)
  clear f1
  refine seqF fun F1 f1=>⟨_,rfl,rfl,_,rfl,ifX (by show decide (V.str (Str.ofString "if")=V.str (Str.ofString "else"))=false;decide+kernel) (f1 _ _ ?_)⟩
  clear f1
  refine seqF fun F1 f1=>⟨_,rfl,rfl,_,rfl,ifX (by show decide (V.str (Str.ofString "if")=V.str (Str.ofString "end"))=false;decide+kernel) (f1 _ _ ?_)⟩
  clear f1
  refine⟨_,rfl,rfl,?_⟩
  rw[show(decide (V.str (Rw'.ifr T).word=V.str "def"))=false by show decide (V.str (Str.ofString "if")=V.str (Str.ofString "def"))=false;decide+kernel]
  exact q
 |whr T ds Y L=>
  obtain⟨k,ks',e,_⟩:=j6 eM
  obtain⟨z1,z2,z3⟩:=top k ks' e
  rw[z1]
  refine ifX rfl (f1 _ _ ?_)
  clear f1
  refine seqF fun F1 f1=>⟨_,rfl,rfl,_,rfl,ifX (by show decide (V.str (Str.ofString "while")=V.str (Str.ofString "else"))=false;decide+kernel) (f1 _ _ ?_)⟩
  clear f1
  refine seqF fun F1 f1=>⟨_,rfl,rfl,_,rfl,ifX (by show decide (V.str (Str.ofString "while")=V.str (Str.ofString "end"))=false;decide+kernel) (f1 _ _ ?_)⟩
  clear f1
  refine⟨_,rfl,rfl,?_⟩
  rw[show(decide (V.str (Rw'.whr T).word=V.str "def"))=false by show decide (V.str (Str.ofString "while")=V.str (Str.ofString "def"))=false;decide+kernel]
  exact q
 |els T ds a L=>
  obtain⟨k,ks',e,ek,_⟩:=j6 eM
  obtain⟨z1,z2,z3⟩:=top k ks' e
  rw[z1]
  refine ifX rfl (f1 _ _ ?_)
  clear f1
  have er:k.R= .ifr T:=congrArg Prod.fst ek
  have el:k.bs.length=1:=by have:=congrArg (fun p=>p.2.length) ek;simpa [ab] using this
  refine seqF fun F1 f1=>⟨_,rfl,rfl,_,rfl,ifY (by show decide (V.str (Str.ofString "else")=V.str (Str.ofString "else"))=true;decide+kernel) ⟨_,rfl,r,CR,dx,_,_,rfl,hG.ins,ckR.cl,ckR.n2,rfl,_,rfl,bl,_,_,_,rfl,rfl,SqL.of hbl,z2,k.b,k.dx,_,rfl,z3.ins,rfl,n,k,rfl,z3,?_⟩⟩
  rw[er,el]
  exact q
 |ed f ps ds a=>
  obtain⟨k,ks',e,ek,_⟩:=j6 eM
  obtain⟨z1,z2,z3⟩:=top k ks' e
  rw[z1]
  refine ifX rfl (f1 _ _ ?_)
  clear f1
  have er:k.R= .df f ps:=congrArg Prod.fst ek
  refine seqF fun F1 f1=>⟨_,rfl,rfl,_,rfl,ifX (by show decide (V.str (Str.ofString "end")=V.str (Str.ofString "else"))=false;decide+kernel) (f1 _ _ ?_)⟩
  clear f1
  refine seqF fun F1 f1=>⟨_,rfl,rfl,_,rfl,ifY (by show decide (V.str (Str.ofString "end")=V.str (Str.ofString "end"))=true;decide+kernel) ⟨_,rfl,r,CR,dx,_,_,rfl,hG.ins,ckR.cl,ckR.n2,rfl,_,rfl,bl,_,_,_,rfl,rfl,SqL.of hbl,z2,k.b,k.dx,_,rfl,z3.ins,rfl,n,k,rfl,z3,_,rfl,?_⟩⟩
  rw[er]
  exact q
 |ei T ds a b R B c L=>
  obtain⟨k,ks',e,ek,_⟩:=j6 eM
  obtain⟨z1,z2,z3⟩:=top k ks' e
  rw[z1]
  refine ifX rfl (f1 _ _ ?_)
  clear f1
  have er:k.R= .ifr T:=congrArg Prod.fst ek
  have el:k.bs.length=2:=by have:=congrArg (fun p=>p.2.length) ek;simpa [ab] using this
  refine seqF fun F1 f1=>⟨_,rfl,rfl,_,rfl,ifX (by show decide (V.str (Str.ofString "end")=V.str (Str.ofString "else"))=false;decide+kernel) (f1 _ _ ?_)⟩
  clear f1
  refine seqF fun F1 f1=>⟨_,rfl,rfl,_,rfl,ifY (by show decide (V.str (Str.ofString "end")=V.str (Str.ofString "end"))=true;decide+kernel) ⟨_,rfl,r,CR,dx,_,_,rfl,hG.ins,ckR.cl,ckR.n2,rfl,_,rfl,bl,_,_,_,rfl,rfl,SqL.of hbl,z2,k.b,k.dx,_,rfl,z3.ins,rfl,n,k,rfl,z3,_,rfl,?_⟩⟩
  rw[er,el]
  exact q
 |ew T ds a R B c L=>
  obtain⟨k,ks',e,ek,_⟩:=j6 eM
  obtain⟨z1,z2,z3⟩:=top k ks' e
  rw[z1]
  refine ifX rfl (f1 _ _ ?_)
  clear f1
  have er:k.R= .whr T:=congrArg Prod.fst ek
  refine seqF fun F1 f1=>⟨_,rfl,rfl,_,rfl,ifX (by show decide (V.str (Str.ofString "end")=V.str (Str.ofString "else"))=false;decide+kernel) (f1 _ _ ?_)⟩
  clear f1
  refine seqF fun F1 f1=>⟨_,rfl,rfl,_,rfl,ifY (by show decide (V.str (Str.ofString "end")=V.str (Str.ofString "end"))=true;decide+kernel) ⟨_,rfl,r,CR,dx,_,_,rfl,hG.ins,ckR.cl,ckR.n2,rfl,_,rfl,bl,_,_,_,rfl,rfl,SqL.of hbl,z2,k.b,k.dx,_,rfl,z3.ins,rfl,n,k,rfl,z3,_,rfl,?_⟩⟩
  rw[er]
  exact q
theorem Fr'.of_upd{M:List Addr}{H:Hp}{c:Addr}{o:HO}(h:c∈M):Fr' M H (upd H c o):=fun b u nb e=>by rw[jh fun z=>nb (by rw[z];exact h)];exact e
theorem Fr'.same{M:List Addr}{H H1 H2:Hp}(s:Same H H1)(h:Fr' M H1 H2):Fr' M H H2:=fun b o nb e=>h b o nb (s _ _ e)
theorem Qh{n:Nat}{CR CB r dx dl bl:Addr}{H:Hp}{ds:List Df}{k:Bk}{ks:List Bk}{B:List Bd}{a:Bd}{R:Rw'}(h:Rdg n CR CB H r dx dl bl ds (k::ks))(e:ab k=(R,B++[a])):
  ∃B' c vs,k.R=R/\k.bs=B'++[(c,a)]/\B'.map (·.2)=B/\H c=some (.lst vs)/\BdV H a vs/\vs.length<=n/\c∈mts dl bl (k::ks)/\atI (k.bs.map fun c=>V.ref c.1) (-1)=some (.ref c):=by
 have e1:k.R=R:=congrArg Prod.fst e
 have e2:k.bs.map (·.2)=B++[a]:=congrArg Prod.snd e
 obtain⟨B',⟨c,a'⟩,h1,h2,rfl⟩:=ZX e2
 obtain⟨vs,g1,g2,g3⟩:=(h.kv k List.mem_cons_self).bs (c,a') (by rw[h1];simp)
 refine⟨B',c,vs,e1,h1,h2,g1,g2,g3,?_,by rw[h1];exact at_last⟩
 exact List.mem_cons_of_mem _ (List.mem_cons_of_mem _ (qf (dl:=dl) (bl:=bl) List.mem_cons_self (List.mem_cons_of_mem _ (by rw[h1];simp))))
theorem Xz{dl bl c:Addr}{k:Bk}{ks:List Bk}{B:List (Addr×Bd)}{a s:Bd}(e:k.bs=B++[(c,a)]):mts dl bl ({ k with bs:=B++[(c,a.app s)] }::ks)=mts dl bl (k::ks):=by
 have em:muts { k with bs:=B++[(c,a.app s)] }=muts k:=by unfold muts;rw[e];simp
 unfold mts
 rw[List.map_cons,List.map_cons,em]
theorem scRFin:FnScope ["self","block"] ["self","block"] (defScope sRFin):=fsc
theorem ok_rfin{f:Addr}{fd:FuncData}{CR CB fW:Addr}{fdW:FuncData}(F:Fun K "finish" "Reading.finish" sRFin f fd)(ckR:CR' K CR)(ckB:CB' K CB)(GW:FnOk P w K mg base CX0 1 fW fdW ["self"] (spBWh CB))(bW:Binds K fdW ["self"] [])(eW:Meth K CB "whole" fW):FnOk P w K mg base CX0 2 f fd ["self","block"] (spRFin CR CB):=by
 refine F.ok scRFin (fun vs H Q E h=>?_) (fun cdv A outer s H vs Q E hr h=>?_)
 ·refine opq fun Gq kq=>?_
  obtain⟨n,r,dx,dl,bl,ds,ds',k,ks,L,rfl,_⟩:=h
  refine kq ?_
  clear kq
  rfl
 refine opq fun Gq kq=>?_
 obtain⟨n,r,dx,dl,bl,ds,ds',k,ks,L,rfl,hG,hk,hS,hn,q⟩:=h
 refine kq ?_
 clear kq
 refine⟨_,(jg (jx (@kG _ _ _ (@jT _ _ _ _ _ (pv 0) rfl) (fun _=>rfl)) (jg (jN (@jS _ _ _ _ _ _ _ _ _ _ _ _ PySem.F.plainAttrs_list PySem.F.slot_list_append PySem.F.type_list_append jL (@jv _ _ _ _ _ _ _ jy (@jT _ _ _ _ _ (@jv _ _ _ _ _ _ _ jy (@jT _ _ _ _ _ (pv 0) rfl) (@zY _ _ _ _ _ _ zk jf) (fun _ _=>rfl)) rfl) (@zY _ _ _ _ _ _ zk jf) (fun _ _=>rfl)) (ja (@zI _ _ _ _ _ _ _ _ _ _ _ _ _ _ _ _ _ (pv 1) ckB.cl eW GW hr.m bW .nil pass0 (by rfl)) jc) (by rfl) (by rfl) (by rfl) (by rfl) (by rfl)))) (jg (jN (@jS _ _ _ _ _ _ _ _ _ _ _ _ PySem.F.plainAttrs_list PySem.F.slot_list_append PySem.F.type_list_append jL (@jT _ _ _ _ _ (pv 0) rfl) (ja (@jF _ _ _ _ _ _ _ _ _ _ sl_tupA (@zI _ _ _ _ _ _ _ _ _ _ _ _ _ _ _ _ _ (pv 1) ckB.cl eW GW hr.m bW .nil pass0 (by rfl)) (@jE _ _ _ jf) (@jR _)) jc) (by rfl) (by rfl) (by rfl) (by rfl) (by rfl)))))),?_⟩
 try dsimp only[cxOf,Cx.nox,Cx.wish]
 have big:=line24
 have hbl:=hG.bv
 have e1:(!(ks.reverse.map fun k=>V.ref k.b).isEmpty)=!ks.isEmpty:=by cases ks<;>simp
 refine⟨_,rfl,r,CR,dx,_,_,rfl,hG.ins,ckR.cl,ckR.n2,rfl,_,.inl ⟨_,SqL.of hbl,rfl⟩,?_⟩
 rw[e1]
 generalize eM:ab k::ks.map ab=M at hS
 have inner:∀(k0:Bk) (ks0:List Bk) (R:Rw') (B:List Bd) (c:Bd) (st:Bd),ks=k0::ks0->ab k0=(R,B++[c])->(∀(t:Addr) (xs ts:List V) (H':Hp),H' t=some (.tup (xs++ts))->RwV H' k.R xs->TupsV H' (k.bs.map (·.2)) ts->BdV H' st [.ref t])->L=(R,B++[c.app st])::ks0.map ab->ds'=ds->
   tDrop (tBM K "list" rAppend (tOp (rIxL K) (tFld K (tOp (rIxL K) (tFld K (tVar 0) "blocks") (tUn (rU fun i=>V.int (-i)) (tC (V.int 1)))) "bodies") (tUn (rU fun i=>V.int (-i)) (tC (V.int 1)))) (tCons (tMeth CB "whole" (spBWh CB) [] E0 (tVar 1) tNil) tNil)) { nx:=fun x H'=>Q V.non H',rt:=Q } [some (.ref r),some (.ref k.b)] H:=fun k0 ks0 R B c st ek e2 mk eL ed=>by
  subst ek
  obtain⟨B',a,vs,g1,g2,g3,g4,g5,g6,g7,g8⟩:=Qh hG e2
  have k0v:=hG.kv k0 List.mem_cons_self
  refine⟨_,rfl,r,CR,dx,_,_,rfl,hG.ins,ckR.cl,ckR.n2,rfl,_,rfl,bl,_,_,_,rfl,rfl,SqL.of hbl,kK.2.2,k0.b,CB,k0.dx,_,_,rfl,k0v.ins,ckB.cl,ckB.n2,rfl,_,rfl,k0.bo,_,_,_,rfl,rfl,SqL.of k0v.bo,g8,.inl ⟨rfl,_,SqL.of g4⟩,?_⟩
  refine⟨_,rfl,k.b,k.dx,_,rfl,hk.ins,rfl,n,k,rfl,hk,hn,fun t xs ts H1 h1 h2 h3 s1=>?_⟩
  have hG1:=hG.same s1
  refine⟨a,_,_,rfl,rfl,s1 _ _ g4,by omega,?_⟩
  have hA:=hG1.add (s:=st) (v:=.ref t) g2 (s1 _ _ g4) (g5.mono (Same.tm s1)) g6 (mk t xs ts H1 h1 h2 h3)
  subst ed
  refine q _ _ hA (by rw[eL,List.map_cons];refine congrArg (·::_) ?_;show(k0.R,(B'++[(a,c.app st)]).map (·.2))=_;rw[List.map_append,g3,g1];rfl) (Fr'.same s1 (Fr'.of_upd g7)) fun b hb=>.inl ?_
  rw[Xz g2]at hb
  exact hb
 cases hS with
 |ed f ps ds a=>
  injection eM with ek eM
  have:=QE eM
  subst this
  have er:k.R= .df f ps:=congrArg Prod.fst ek
  have el:k.bs.map (·.2)=[a]:=congrArg Prod.snd ek
  obtain⟨us,g1,g2⟩:=hG.dv
  have lu:=g2.len
  have sz:=hG.sz.1
  refine ifX rfl ⟨_,rfl,r,CR,dx,_,_,rfl,hG.ins,ckR.cl,ckR.n1,rfl,.inl ⟨rfl,_,SqL.of g1⟩,_,rfl,k.b,k.dx,_,rfl,hk.ins,rfl,n,k,rfl,hk,hn,fun t xs ts H1 h1 h2 h3 s1=>?_⟩
  rw[er]at h2
  rw[el]at h3
  obtain⟨pt,rfl,h4⟩:=h2
  obtain⟨at',vs,r3,rfl,h5,h6,h7⟩:=h3
  have e3:r3=[]:=h7
  subst e3
  refine⟨_,rfl,t,_,rfl,h1,fun r2 H2 h8 s2=>⟨dl,_,_,rfl,rfl,s2 _ _ (s1 _ _ g1),by omega,?_⟩⟩
  have h8:H2 r2=some (.tup [.str f,.ref pt,.ref at']):=h8
  have s3:=s1.trans s2
  have g1':=s3 _ _ g1
  have tm:=z5 (zs:=us++[.ref r2]) g1'
  have hG2:=hG.same s3
  have nd:=hG.nd
  unfold mts at nd
  have nbl:bl≠dl:=fun z=>(List.nodup_cons.mp nd).1 (by rw[z];exact List.mem_cons_self)
  refine q [] _ ⟨by rw[jh (jU hG2.ins g1' (by intro z;cases z))];exact hG2.ins,⟨_,jb,((g2.mono (Same.tm s3)).mono tm).snoc ⟨r2,pt,at',vs,rfl,tm _ _ h8,tm _ _ (s2 _ _ h4),tm _ _ (s2 _ _ h5),(h6.mono (Same.tm s2)).mono tm⟩⟩,by rw[jh nbl];exact hG2.bv,(fun k hk=>nomatch hk),nd,⟨by rw[List.length_append];show ds.length+1<=n+1;omega,Nat.zero_le _⟩⟩ rfl (Fr'.same s3 (Fr'.of_upd List.mem_cons_self)) fun b hb=>.inl hb
 |ei T ds a b R B c L=>
  injection eM with ek eM
  obtain⟨k0,ks0,e,e2,e3⟩:=j6 eM
  have er:k.R= .ifr T:=congrArg Prod.fst ek
  have el:k.bs.map (·.2)=[a,b]:=congrArg Prod.snd ek
  rw[e]
  refine ifY rfl (inner k0 ks0 R B c (.ite T a b .nil) e e2 (fun t xs ts H' h1 h2 h3=>?_) (by rw[e3]) rfl)
  rw[er]at h2
  rw[el]at h3
  obtain⟨tt,rfl,h4⟩:=h2
  obtain⟨ta,vs,r3,rfl,h5,h6,tb,us,r4,rfl,h7,h8,h9⟩:=h3
  have e4:r4=[]:=h9
  subst e4
  exact⟨t,tt,ta,tb,vs,us,[],rfl,h1,h4,h5,h7,h6,h8,rfl⟩
 |ew T ds a R B c L=>
  injection eM with ek eM
  obtain⟨k0,ks0,e,e2,e3⟩:=j6 eM
  have er:k.R= .whr T:=congrArg Prod.fst ek
  have el:k.bs.map (·.2)=[a]:=congrArg Prod.snd ek
  rw[e]
  refine ifY rfl (inner k0 ks0 R B c (.loop T a .nil) e e2 (fun t xs ts H' h1 h2 h3=>?_) (by rw[e3]) rfl)
  rw[er]at h2
  rw[el]at h3
  obtain⟨tt,rfl,h4⟩:=h2
  obtain⟨ta,vs,r3,rfl,h5,h6,h9⟩:=h3
  have e4:r3=[]:=h9
  subst e4
  exact⟨t,tt,ta,vs,[],rfl,h1,h4,h5,h6,rfl⟩
theorem Rdg.up{n m:Nat}{CR CB r dx dl bl:Addr}{H:Hp}{ds:List Df}{ks:List Bk}(h:Rdg n CR CB H r dx dl bl ds ks)(hn:n<=m):Rdg m CR CB H r dx dl bl ds ks:=
 ⟨h.ins,h.dv,h.bv,fun k hk=>(h.kv k hk).same (Same.refl _) hn,h.nd,⟨Nat.le_trans h.sz.1 hn,Nat.le_trans h.sz.2 hn⟩⟩
theorem Rdg.lsts{n:Nat}{CR CB r dx dl bl:Addr}{H:Hp}{ds:List Df}{ks:List Bk}(h:Rdg n CR CB H r dx dl bl ds ks):∀a∈mts dl bl ks,∃vs,H a=some (.lst vs):=fun a ha=>by
 rcases List.mem_cons.mp ha with rfl |ha
 ·obtain⟨vs,h1,_⟩:=h.dv;exact⟨vs,h1⟩
 ·rcases List.mem_cons.mp ha with rfl |ha
  ·exact⟨_,h.bv⟩
  ·obtain⟨l,hl,hal⟩:=List.mem_flatten.mp ha
   obtain⟨k,hk,rfl⟩:=List.mem_map.mp hl
   exact(h.kv k hk).lsts a hal
theorem Qi{dl bl:Addr}{k:Bk}{ks:List Bk}(h:(mts dl bl (k::ks)).Nodup):(mts dl bl ks).Nodup/\dl∉muts k/\bl∉muts k/\(muts k).Nodup/\(∀k'∈ks,∀a∈muts k,a∉muts k')/\dl≠bl:=by
 unfold mts at h ⊢
 rw[List.map_cons,List.flatten_cons]at h
 have n1:=(List.nodup_cons.mp h).1
 have h2:=(List.nodup_cons.mp h).2
 have n2:=(List.nodup_cons.mp h2).1
 have h3:=List.nodup_append.mp (List.nodup_cons.mp h2).2
 refine⟨List.nodup_cons.mpr ⟨fun m=>n1 ?_,List.nodup_cons.mpr ⟨fun m=>n2 (List.mem_append_right _ m),h3.2.1⟩⟩,fun m=>n1 (List.mem_cons_of_mem _ (List.mem_append_left _ m)),fun m=>n2 (List.mem_append_left _ m),h3.1,fun k' hk a ha hb=>h3.2.2 a ha a (qf (dl:=dl) (bl:=bl) hk hb) rfl,fun e=>n1 (by rw[e];exact List.mem_cons_self)⟩
 rcases List.mem_cons.mp m with m |m
 ·rw[m];exact List.mem_cons_self
 ·exact List.mem_cons_of_mem _ (List.mem_append_right _ m)
theorem YN{dl bl:Addr}{ks:List Bk}(h:(mts dl bl ks).Nodup):dl≠bl/\∀k∈ks,bl∉muts k:=by
 unfold mts at h
 have n1:=(List.nodup_cons.mp h).1
 have n2:=(List.nodup_cons.mp (List.nodup_cons.mp h).2).1
 exact⟨fun e=>n1 (by rw[e];exact List.mem_cons_self),fun k hk m=>n2 (qf (dl:=dl) (bl:=bl) hk m)⟩
theorem Rdg.setB{n:Nat}{CR CB r dx dl bl:Addr}{H:Hp}{ds:List Df}{ks ks':List Bk}(h:Rdg n CR CB H r dx dl bl ds ks)(hk:∀k∈ks',BkV n CB H k)(hb:∀k∈ks',bl∉muts k)(hn:(mts dl bl ks').Nodup)(hz:ks'.length<=n):
  Rdg n CR CB (upd H bl (.lst (ks'.reverse.map fun k=>V.ref k.b))) r dx dl bl ds ks':=by
 have hbl:=h.bv
 have tm:=z5 (zs:=ks'.reverse.map fun k=>V.ref k.b) hbl
 obtain⟨vs,g1,g2⟩:=h.dv
 exact⟨by rw[jh (jU h.ins hbl (by intro z;cases z))];exact h.ins,⟨vs,by rw[jh (YN h.nd).1];exact g1,g2.mono tm⟩,jb,fun k hk'=>(hk k hk').updL hbl (hb k hk') (Nat.le_refl _),hn,⟨h.sz.1,hz⟩⟩
theorem Rdg.pop{n:Nat}{CR CB r dx dl bl:Addr}{H:Hp}{ds:List Df}{k:Bk}{ks:List Bk}(h:Rdg n CR CB H r dx dl bl ds (k::ks)):
  Rdg n CR CB (upd H bl (.lst (ks.reverse.map fun k=>V.ref k.b))) r dx dl bl ds ks/\BkV n CB (upd H bl (.lst (ks.reverse.map fun k=>V.ref k.b))) k:=by
 have np:=Qi h.nd
 have nb:=YN h.nd
 refine⟨h.setB (fun k' hk=>h.kv k' (List.mem_cons_of_mem _ hk)) (fun k' hk=>nb.2 k' (List.mem_cons_of_mem _ hk)) np.1 (by have:=h.sz.2;rw[List.length_cons]at this;omega),(h.kv k List.mem_cons_self).updL h.bv np.2.2.1 (Nat.le_refl _)⟩
theorem Qj{dl bl:Addr}{k:Bk}{ks:List Bk}{a:Addr}(h:a∈mts dl bl ks):a∈mts dl bl (k::ks):=by
 unfold mts at h ⊢
 rw[List.map_cons,List.flatten_cons]
 rcases List.mem_cons.mp h with rfl |h
 ·exact List.mem_cons_self
 ·rcases List.mem_cons.mp h with rfl |h
  ·exact List.mem_cons_of_mem _ List.mem_cons_self
  ·exact List.mem_cons_of_mem _ (List.mem_cons_of_mem _ (List.mem_append_right _ h))
theorem Rdg.push{n:Nat}{CR CB r dx dl bl:Addr}{H:Hp}{ds:List Df}{ks:List Bk}{k:Bk}(h:Rdg n CR CB H r dx dl bl ds ks)(hk:BkV (n+1) CB H k)(hf:∀a∈muts k,a∉mts dl bl ks)(hm:(muts k).Nodup):
  Rdg (n+1) CR CB (upd H bl (.lst (ks.reverse.map (fun k=>V.ref k.b)++[.ref k.b]))) r dx dl bl ds (k::ks):=by
 have h1:=h.up (Nat.le_succ n)
 have e:ks.reverse.map (fun k=>V.ref k.b)++[.ref k.b]=(k::ks).reverse.map fun k=>V.ref k.b:=by rw[List.reverse_cons,List.map_append];rfl
 rw[e]
 have nb:=YN h.nd
 refine h1.setB (fun k' hk'=>?_) (fun k' hk'=>?_) ?_ (by rw[List.length_cons];have:=h.sz.2;omega)
 ·rcases List.mem_cons.mp hk' with rfl |hk'
  ·exact hk
  ·exact h1.kv k' hk'
 ·rcases List.mem_cons.mp hk' with rfl |hk'
  ·exact fun m=>hf bl m (List.mem_cons_of_mem _ List.mem_cons_self)
  ·exact nb.2 k' hk'
 ·have nd:=h.nd
  unfold mts at nd hf ⊢
  rw[List.map_cons,List.flatten_cons]
  have n1:=(List.nodup_cons.mp nd).1
  have nd2:=(List.nodup_cons.mp nd).2
  have n2:=(List.nodup_cons.mp nd2).1
  have nd3:=(List.nodup_cons.mp nd2).2
  refine List.nodup_cons.mpr ⟨fun m=>?_,List.nodup_cons.mpr ⟨fun m=>?_,List.nodup_append.mpr ⟨hm,nd3,fun a ha b hb z=>hf a ha (by rw[z];exact List.mem_cons_of_mem _ (List.mem_cons_of_mem _ hb))⟩⟩⟩
  ·rcases List.mem_cons.mp m with m |m
   ·exact n1 (by rw[m];exact List.mem_cons_self)
   ·rcases List.mem_append.mp m with m |m
    ·exact hf dl m List.mem_cons_self
    ·exact n1 (List.mem_cons_of_mem _ m)
  ·rcases List.mem_append.mp m with m |m
   ·exact hf bl m (List.mem_cons_of_mem _ List.mem_cons_self)
   ·exact n2 m
theorem Rdg.els{n:Nat}{CR CB r dx dl bl c:Addr}{H:Hp}{ds:List Df}{ks:List Bk}{k:Bk}(h:Rdg n CR CB H r dx dl bl ds (k::ks))(hc:H c=some (.lst []))(hf:c∉mts dl bl (k::ks))(hl:k.bs.length=1):
  Rdg (n+1) CR CB (upd H k.bo (.lst ((k.bs.map fun c=>V.ref c.1)++[.ref c]))) r dx dl bl ds ({ k with bs:=k.bs++[(c,.nil)] }::ks):=by
 have hk:=h.kv k List.mem_cons_self
 have hbo:=hk.bo
 have np:=Qi h.nd
 have tm:=z5 (zs:=(k.bs.map fun c=>V.ref c.1)++[.ref c]) hbo
 obtain⟨us,g1,g2⟩:=h.dv
 obtain⟨xs,g3,g4⟩:=hk.hd
 have bm:k.bo∈muts k:=List.mem_cons_self
 have km:∀a∈muts k,a∈mts dl bl (k::ks):=fun a ha=>List.mem_cons_of_mem _ (List.mem_cons_of_mem _ (qf (dl:=dl) (bl:=bl) List.mem_cons_self ha))
 have cb:c≠k.bo:=fun e=>hf (by rw[e];exact km _ bm)
 refine⟨by rw[jh (jU h.ins hbo (by intro z;cases z))];exact h.ins,⟨us,by rw[jh fun e=>np.2.1 (by rw[e];exact bm)];exact g1,g2.mono tm⟩,by rw[jh fun e=>np.2.2.1 (by rw[e];exact bm),h.bv,List.reverse_cons,List.reverse_cons,List.map_append,List.map_append];rfl,fun k' hk'=>?_,?_,⟨by have:=h.sz.1;omega,by have:=h.sz.2;rw[List.length_cons]at this ⊢;omega⟩⟩
 ·rcases List.mem_cons.mp hk' with rfl |hk'
  ·refine⟨by show upd H k.bo _ k.b=_;rw[jh (jU hk.ins hbo (by intro z;cases z))];exact hk.ins,⟨xs,tm _ _ g3,g4.mono tm⟩,?_,fun d hd=>?_,hk.r,by show(k.bs++[(c,Bd.nil)]).length<=2;rw[List.length_append,hl];exact Nat.le_refl 2⟩
   ·show upd H k.bo _ k.bo=_
    rw[jb,List.map_append]
    rfl
   ·rcases List.mem_append.mp hd with hd |hd
    ·obtain⟨ws,q1,q2,q3⟩:=hk.bs d hd
     have:=(List.nodup_cons.mp np.2.2.2.1).1
     exact⟨ws,by rw[jh fun e=>this (by rw[<- e];exact List.mem_map.mpr ⟨d,hd,rfl⟩)];exact q1,q2.mono tm,by omega⟩
    ·rw[List.mem_singleton.mp hd]
     exact⟨[],by rw[jh cb];exact hc,rfl,Nat.zero_le _⟩
  ·exact(h.kv k' (List.mem_cons_of_mem _ hk')).updL hbo (np.2.2.2.2.1 k' hk' _ bm) (Nat.le_succ _)
 ·have nd:=h.nd
  unfold mts at nd hf ⊢
  rw[List.map_cons,List.flatten_cons]at nd hf ⊢
  have em:muts { k with bs:=k.bs++[(c,.nil)] }=muts k++[c]:=by unfold muts;simp
  rw[em,List.append_assoc]
  have n1:=(List.nodup_cons.mp nd).1
  have nd2:=(List.nodup_cons.mp nd).2
  have n2:=(List.nodup_cons.mp nd2).1
  have nd3:=List.nodup_append.mp (List.nodup_cons.mp nd2).2
  have hf1:c∉muts k:=fun m=>hf (List.mem_cons_of_mem _ (List.mem_cons_of_mem _ (List.mem_append_left _ m)))
  have hf2:c∉(ks.map muts).flatten:=fun m=>hf (List.mem_cons_of_mem _ (List.mem_cons_of_mem _ (List.mem_append_right _ m)))
  refine List.nodup_cons.mpr ⟨fun m=>?_,List.nodup_cons.mpr ⟨fun m=>?_,List.nodup_append.mpr ⟨nd3.1,List.nodup_cons.mpr ⟨hf2,nd3.2.1⟩,fun a ha b hb z=>?_⟩⟩⟩
  ·rcases List.mem_cons.mp m with m |m
   ·exact n1 (by rw[m];exact List.mem_cons_self)
   ·rcases List.mem_append.mp m with m |m
    ·exact n1 (List.mem_cons_of_mem _ (List.mem_append_left _ m))
    ·rcases List.mem_cons.mp m with m |m
     ·exact hf (by rw[<- m];exact List.mem_cons_self)
     ·exact n1 (List.mem_cons_of_mem _ (List.mem_append_right _ m))
  ·rcases List.mem_append.mp m with m |m
   ·exact n2 (List.mem_append_left _ m)
   ·rcases List.mem_cons.mp m with m |m
    ·exact hf (by rw[<- m];exact List.mem_cons_of_mem _ List.mem_cons_self)
    ·exact n2 (List.mem_append_right _ m)
  ·rcases List.mem_cons.mp hb with hb |hb
   ·exact hf1 (by rw[<- hb,<- z];exact ha)
   ·exact nd3.2.2 a ha b hb z
theorem scRTk:FnScope ["self","row"] ["self","row"] (defScope sRTk):=fsc
theorem ok_rtk{f:Addr}{fd:FuncData}{CR CB fI fF:Addr}{fdI fdF:FuncData}(F:Fun K "take" "Reading.take" sRTk f fd)(ckR:CR' K CR)(ckB:CB' K CB)(mkB:Mk K CB fI)(GI:FnOk P w K mg base CX0 1 fI fdI ["self","head"] (spBIni CB))(bI:Binds K fdI ["self","head"] [])(mC:mg "Block"=some (.ref CB))(GF:FnOk P w K mg base CX0 2 fF fdF ["self","block"] (spRFin CR CB))(bF:Binds K fdF ["self","block"] [])(eF:Meth K CR "finish" fF):FnOk P w K mg base CX0 3 f fd ["self","row"] (spRTk CR CB):=by
 refine F.ok scRTk (fun vs H Q E h=>?_) (fun cdv A outer s H vs Q E hr h=>?_)
 ·refine opq fun Gq kq=>?_
  obtain⟨n,r,dx,dl,bl,t,xs,ds,ds',ks,L,row,rfl,_⟩:=h
  refine kq ?_
  clear kq
  rfl
 refine opq fun Gq kq=>?_
 obtain⟨n,r,dx,dl,bl,t,xs,ds,ds',ks,L,row,rfl,hG,ht,hR,hS,hn,q⟩:=h
 refine kq ?_
 clear kq
 refine⟨_,(jg (jx (@jq _ _ _ _ _ _ _ _ jZ (@jv _ _ _ _ _ _ _ jK (pv 1) jf (fun _ _=>rfl)) (jH (ja jk (ja jk (ja jk jc)))) rfl) (jg (jN (@jS _ _ _ _ _ _ _ _ _ _ _ _ PySem.F.plainAttrs_list PySem.F.slot_list_append PySem.F.type_list_append jL (@jT _ _ _ _ _ (pv 0) rfl) (ja (@pe_make _ _ _ _ _ _ _ _ _ _ _ _ _ _ _ _ _ mkB GI hr.m rfl mC bI .nil pass0 (ja (pv 1) jc) (by decide) (by rfl) (by rfl)) jc) (by rfl) (by rfl) (by rfl) (by rfl) (by rfl)))) (jg (jx (@jq _ _ _ _ _ _ _ _ jI (@jv _ _ _ _ _ _ _ jK (pv 1) jf (fun _ _=>rfl)) jk (nomark _)) (jg (jN (@jS _ _ _ _ _ _ _ _ _ _ _ _ PySem.F.plainAttrs_list PySem.F.slot_list_append PySem.F.type_list_append jL (@jT _ _ _ _ _ (@jv _ _ _ _ _ _ _ jy (@jT _ _ _ _ _ (pv 0) rfl) (@zY _ _ _ _ _ _ zk jf) (fun _ _=>rfl)) rfl) (ja (jC jc) jc) (by rfl) (by rfl) (by rfl) (by rfl) (by rfl)))) (jg (jx (@jq _ _ _ _ _ _ _ _ jI (@jv _ _ _ _ _ _ _ jK (pv 1) jf (fun _ _=>rfl)) jk (nomark _)) (jg (jN (@qB _ _ _ _ _ _ _ _ _ _ _ _ _ _ _ _ _ _ _ _ (pv 0) ckR.cl eF GF hr.m bF .nil pass0 (ja (@qv _ _ _ _ _ _ _ _ _ PySem.F.plainAttrs_list PySem.F.slot_list_pop PySem.F.type_list_pop Jx (@jT _ _ _ _ _ (pv 0) rfl) (by rfl) (by rfl)) jc) (by rfl) (by rfl) (by rfl)))) (jg (jN (@jS _ _ _ _ _ _ _ _ _ _ _ _ PySem.F.plainAttrs_list PySem.F.slot_list_append PySem.F.type_list_append jL (@jv _ _ _ _ _ _ _ jy (@jT _ _ _ _ _ (@jv _ _ _ _ _ _ _ jy (@jT _ _ _ _ _ (pv 0) rfl) (@zY _ _ _ _ _ _ zk jf) (fun _ _=>rfl)) rfl) (@zY _ _ _ _ _ _ zk jf) (fun _ _=>rfl)) (ja (pv 1) jc) (by rfl) (by rfl) (by rfl) (by rfl) (by rfl)))))))))),?_⟩
 try dsimp only[cxOf,Cx.nox,Cx.wish]
 have big:=line24
 obtain⟨ys,rfl⟩:=hR.word
 have sz2:=hG.sz.2
 refine⟨_,rfl,t,_,_,_,rfl,rfl,SqT.of ht,jo (j:=0) rfl,sz3,fun t0 n0=>⟨t0,_,rfl,.inr (SqT.of jb),rfl,rfl,_,rfl,?_⟩⟩
 have s0:Same H (upd H t0 (.tup [.str "def",.str "if",.str "while"])):=je n0
 show if _ then tDrop _ _ _ (upd H t0 (.tup [.str "def",.str "if",.str "while"])) else tIfS _ _ _ _ _ (upd H t0 (.tup [.str "def",.str "if",.str "while"]))
 have q1:After n CR CB (upd H t0 (.tup [.str "def",.str "if",.str "while"])) r dx dl bl ks ds' L Q:=fun ks' H' h1 h2 h3 h4=>q ks' H' h1 h2 (Fr'.same s0 h3) fun a ha=>(h4 a ha).imp id fun z=>s0.free z
 have hG1:=hG.same s0
 have ht1:=s0 _ _ ht
 have hR1:=hR.mono (Same.tm s0)
 generalize upd H t0 (.tup [.str "def",.str "if",.str "while"])=H1 at q1 hG1 ht1 hR1
 clear hG ht hR q s0 n0
 have blk:row.isB=true->L=(row,[.nil])::ks.map ab->ds'=ds->tDrop (tBM K "list" rAppend (tFld K (tVar 0) "blocks") (tCons (tMake CB (spBIni CB) [] E0 (tCons (tVar 1) tNil)) tNil)) { nx:=fun x H'=>Q V.non H',rt:=Q } [some (.ref r),some (.ref t)] H1:=fun hb eL ed=>by
  refine⟨_,rfl,r,CR,dx,_,_,rfl,hG1.ins,ckR.cl,ckR.n2,rfl,.inl ⟨rfl,_,SqL.of hG1.bv⟩,_,rfl,fun x dx' nx ndx ne=>⟨x,dx',.ref t,rfl,jb,fun bo ba H2 nbo nba hne h1 h2 h3 kb=>⟨rfl,?_⟩⟩⟩
  have ndx':upd H1 dx' (.own x) x=none:=by rw[jh (Ne.symm ne)];exact nx
  have s1:Same H1 (upd (upd H1 dx' (.own x)) x (.ins CB dx' [])):=(je ndx).trans (je ndx')
  have s2:Same H1 H2:=fun b o e=>kb b o (jj e nx) (s1 _ _ e)
  have fbo:=s1.free nbo
  have fba:=s1.free nba
  have hG2:=hG1.same s2
  refine⟨bl,_,_,rfl,rfl,hG2.bv,by rw[List.length_map,List.length_reverse];omega,?_⟩
  have kv:BkV (n+1) CB H2 ⟨x,dx',t,bo,row,[(ba,.nil)]⟩:=⟨h1,⟨_,s2 _ _ ht1,hR1.mono (Same.tm s2)⟩,h2,fun c hc=>by rw[List.mem_singleton.mp hc];exact⟨[],h3,rfl,Nat.zero_le _⟩,hb,by show 1<=2;decide⟩
  have nin:∀a,H1 a=none->a∉mts dl bl ks:=fun a ha m=>by obtain⟨vs,e⟩:=hG1.lsts a m;rw[ha]at e;cases e
  subst ed
  refine q1 _ _ (hG2.push kv (fun a ha=>?_) ?_) (by rw[eL];rfl) (Fr'.same s2 (Fr'.of_upd (List.mem_cons_of_mem _ List.mem_cons_self))) fun a ha=>?_
  ·rcases List.mem_cons.mp ha with rfl |ha
   ·exact nin _ fbo
   ·rw[List.mem_singleton.mp ha];exact nin _ fba
  ·exact List.nodup_cons.mpr ⟨fun m=>hne (List.mem_singleton.mp m),by simp⟩
  ·rcases List.mem_cons.mp ha with rfl |ha
   ·exact .inl List.mem_cons_self
   ·rcases List.mem_cons.mp ha with rfl |ha
    ·exact .inl (List.mem_cons_of_mem _ List.mem_cons_self)
    ·rw[List.map_cons,List.flatten_cons]at ha
     rcases List.mem_append.mp ha with ha |ha
     ·rcases List.mem_cons.mp ha with rfl |ha
      ·exact .inr fbo
      ·rw[List.mem_singleton.mp ha];exact .inr fba
     ·exact .inl (List.mem_cons_of_mem _ (List.mem_cons_of_mem _ ha))
 have done:∀(k:Bk) (ks':List Bk),ks=k::ks'->Stp .fin ds (ab k::ks'.map ab) ds' L->tDrop (tMeth CR "finish" (spRFin CR CB) [] E0 (tVar 0) (tCons (tBM0 K "list" rPop (tFld K (tVar 0) "blocks")) tNil)) { nx:=fun x H'=>Q V.non H',rt:=Q } [some (.ref r),some (.ref t)] H1:=fun k ks' e hS'=>by
  subst e
  refine⟨_,rfl,r,dx,_,rfl,hG1.ins,rfl,_,rfl,r,CR,dx,_,_,rfl,hG1.ins,ckR.cl,ckR.n2,rfl,.inl ⟨rfl,_,SqL.of hG1.bv⟩,bl,_,.ref k.b,rfl,rfl,hG1.bv,kK.1,?_⟩
  rw[kK.2.1]
  obtain⟨p1,p2⟩:=hG1.pop
  refine⟨n,r,dx,dl,bl,ds,ds',k,ks',L,rfl,p1,p2,hS',hn,fun ks2 H2 h1 h2 h3 h4=>q1 ks2 H2 h1 h2 (fun b o nb e=>h3 b o (fun m=>nb (Qj m)) ?_) fun a ha=>?_⟩
  ·rw[jh fun z=>nb (by rw[z];exact List.mem_cons_of_mem _ List.mem_cons_self)]
   exact e
  ·rcases h4 a ha with z |z
   ·exact .inl (Qj z)
   ·by_cases eb:a=bl
    ·exact .inl (by rw[eb];exact List.mem_cons_of_mem _ List.mem_cons_self)
    ·rw[jh eb]at z
     exact .inr z
 have hS0:=hS
 generalize eM:ks.map ab=M at hS
 cases hS with
 |df f ps ds=>exact ifY (by show inV (V.str (Str.ofString "def")) [V.str (Str.ofString "def"),V.str (Str.ofString "if"),V.str (Str.ofString "while")]=true;decide+kernel) (blk rfl (by rw[eM]) rfl)
 |ifr T ds Y L=>exact ifY (by show inV (V.str (Str.ofString "if")) [V.str (Str.ofString "def"),V.str (Str.ofString "if"),V.str (Str.ofString "while")]=true;decide+kernel) (blk rfl (by rw[eM]) rfl)
 |whr T ds Y L=>exact ifY (by show inV (V.str (Str.ofString "while")) [V.str (Str.ofString "def"),V.str (Str.ofString "if"),V.str (Str.ofString "while")]=true;decide+kernel) (blk rfl (by rw[eM]) rfl)
 |els T ds a L=>
  refine ifX (by show inV (V.str (Str.ofString "else")) [V.str (Str.ofString "def"),V.str (Str.ofString "if"),V.str (Str.ofString "while")]=false;decide+kernel) ⟨_,rfl,t,_,_,_,rfl,rfl,SqT.of ht1,jo (j:=0) rfl,rfl,_,rfl,ifY (by show decide (V.str (Str.ofString "else")=V.str (Str.ofString "else"))=true;decide+kernel) ?_⟩
  clear blk
  obtain⟨k,ks',rfl,ek,e3⟩:=j6 eM
  have er:k.R= .ifr T:=congrArg Prod.fst ek
  have eb:k.bs.map (·.2)=[a]:=congrArg Prod.snd ek
  have el:k.bs.length=1:=by have:=congrArg List.length eb;simpa using this
  have kv:=hG1.kv k List.mem_cons_self
  refine⟨_,rfl,r,CR,dx,_,_,rfl,hG1.ins,ckR.cl,ckR.n2,rfl,_,rfl,bl,_,_,_,rfl,rfl,SqL.of hG1.bv,kK.2.2,k.b,CB,k.dx,_,_,rfl,kv.ins,ckB.cl,ckB.n2,rfl,.inl ⟨rfl,_,SqL.of kv.bo⟩,sz0,fun c nc=>?_⟩
  have s1:Same H1 (upd H1 c (.lst [])):=je nc
  have kv1:=kv.same s1 (Nat.le_refl _)
  refine⟨k.bo,_,_,rfl,rfl,kv1.bo,by rw[List.length_map];omega,?_⟩
  have nin:c∉mts dl bl (k::ks'):=fun m=>by obtain⟨vs,e⟩:=hG1.lsts c m;rw[nc]at e;cases e
  refine q1 _ _ ((hG1.same s1).els jb nin el) ?_ (Fr'.same s1 (Fr'.of_upd (List.mem_cons_of_mem _ (List.mem_cons_of_mem _ (qf (dl:=dl) (bl:=bl) List.mem_cons_self List.mem_cons_self))))) fun b hb=>?_
  ·rw[List.map_cons,e3]
   refine congrArg (·::_) ?_
   show(k.R,(k.bs++[(c,Bd.nil)]).map (·.2))=_
   rw[List.map_append,eb,er]
   rfl
  ·have em:muts { k with bs:=k.bs++[(c,.nil)] }=muts k++[c]:=by unfold muts;simp
   unfold mts at hb ⊢
   rw[List.map_cons,List.flatten_cons]at hb ⊢
   rw[em]at hb
   rcases List.mem_cons.mp hb with rfl |hb
   ·exact .inl List.mem_cons_self
   ·rcases List.mem_cons.mp hb with rfl |hb
    ·exact .inl (List.mem_cons_of_mem _ List.mem_cons_self)
    ·rcases List.mem_append.mp hb with hb |hb
     ·rcases List.mem_append.mp hb with hb |hb
      ·exact .inl (List.mem_cons_of_mem _ (List.mem_cons_of_mem _ (List.mem_append_left _ hb)))
      ·rw[List.mem_singleton.mp hb];exact .inr nc
     ·exact .inl (List.mem_cons_of_mem _ (List.mem_cons_of_mem _ (List.mem_append_right _ hb)))
 |lf l ds Rr B a L=>
  obtain⟨k,ks',rfl,ek,e3⟩:=j6 eM
  have kv:=hG1.kv k List.mem_cons_self
  obtain⟨B',c,vs,g1,g2,g3,g4,g5,g6,g7,g8⟩:=Qh hG1 ek
  have st:BdV H1 (.lf l .nil) [.ref t]:=⟨t,_,[],rfl,ht1,hR1,rfl⟩
  have fin:tDrop (tBM K "list" rAppend (tOp (rIxL K) (tFld K (tOp (rIxL K) (tFld K (tVar 0) "blocks") (tUn (rU fun i=>V.int (-i)) (tC (V.int 1)))) "bodies") (tUn (rU fun i=>V.int (-i)) (tC (V.int 1)))) (tCons (tVar 1) tNil)) { nx:=fun x H'=>Q V.non H',rt:=Q } [some (.ref r),some (.ref t)] H1:=by
   refine⟨_,rfl,r,CR,dx,_,_,rfl,hG1.ins,ckR.cl,ckR.n2,rfl,_,rfl,bl,_,_,_,rfl,rfl,SqL.of hG1.bv,kK.2.2,k.b,CB,k.dx,_,_,rfl,kv.ins,ckB.cl,ckB.n2,rfl,_,rfl,k.bo,_,_,_,rfl,rfl,SqL.of kv.bo,g8,.inl ⟨rfl,_,SqL.of g4⟩,_,rfl,c,_,_,rfl,rfl,g4,by omega,?_⟩
   refine q1 _ _ (hG1.add (s:=.lf l .nil) (v:=.ref t) g2 g4 g5 g6 st) ?_ (Fr'.of_upd g7) fun b hb=>.inl (by rw[Xz g2]at hb;exact hb)
   rw[List.map_cons,e3]
   refine congrArg (·::_) ?_
   show(k.R,(B'++[(c,a.app (.lf l .nil))]).map (·.2))=_
   rw[List.map_append,g3,g1]
   rfl
  clear blk
  cases l with
  |rd x T=>exact ifX (by show inV (V.str (Str.ofString "read")) [V.str (Str.ofString "def"),V.str (Str.ofString "if"),V.str (Str.ofString "while")]=false;decide+kernel) ⟨_,rfl,t,_,_,_,rfl,rfl,SqT.of ht1,jo (j:=0) rfl,rfl,_,rfl,ifX (by show decide (V.str (Str.ofString "read")=V.str (Str.ofString "else"))=false;decide+kernel) ⟨_,rfl,t,_,_,_,rfl,rfl,SqT.of ht1,jo (j:=0) rfl,rfl,_,rfl,ifX (by show decide (V.str (Str.ofString "read")=V.str (Str.ofString "end"))=false;decide+kernel) fin⟩⟩
  |st x T=>exact ifX (by show inV (V.str (Str.ofString "set")) [V.str (Str.ofString "def"),V.str (Str.ofString "if"),V.str (Str.ofString "while")]=false;decide+kernel) ⟨_,rfl,t,_,_,_,rfl,rfl,SqT.of ht1,jo (j:=0) rfl,rfl,_,rfl,ifX (by show decide (V.str (Str.ofString "set")=V.str (Str.ofString "else"))=false;decide+kernel) ⟨_,rfl,t,_,_,_,rfl,rfl,SqT.of ht1,jo (j:=0) rfl,rfl,_,rfl,ifX (by show decide (V.str (Str.ofString "set")=V.str (Str.ofString "end"))=false;decide+kernel) fin⟩⟩
  |wr T U=>exact ifX (by show inV (V.str (Str.ofString "write")) [V.str (Str.ofString "def"),V.str (Str.ofString "if"),V.str (Str.ofString "while")]=false;decide+kernel) ⟨_,rfl,t,_,_,_,rfl,rfl,SqT.of ht1,jo (j:=0) rfl,rfl,_,rfl,ifX (by show decide (V.str (Str.ofString "write")=V.str (Str.ofString "else"))=false;decide+kernel) ⟨_,rfl,t,_,_,_,rfl,rfl,SqT.of ht1,jo (j:=0) rfl,rfl,_,rfl,ifX (by show decide (V.str (Str.ofString "write")=V.str (Str.ofString "end"))=false;decide+kernel) fin⟩⟩
  |cl x f ts=>exact ifX (by show inV (V.str (Str.ofString "call")) [V.str (Str.ofString "def"),V.str (Str.ofString "if"),V.str (Str.ofString "while")]=false;decide+kernel) ⟨_,rfl,t,_,_,_,rfl,rfl,SqT.of ht1,jo (j:=0) rfl,rfl,_,rfl,ifX (by show decide (V.str (Str.ofString "call")=V.str (Str.ofString "else"))=false;decide+kernel) ⟨_,rfl,t,_,_,_,rfl,rfl,SqT.of ht1,jo (j:=0) rfl,rfl,_,rfl,ifX (by show decide (V.str (Str.ofString "call")=V.str (Str.ofString "end"))=false;decide+kernel) fin⟩⟩
  |gv T=>exact ifX (by show inV (V.str (Str.ofString "give")) [V.str (Str.ofString "def"),V.str (Str.ofString "if"),V.str (Str.ofString "while")]=false;decide+kernel) ⟨_,rfl,t,_,_,_,rfl,rfl,SqT.of ht1,jo (j:=0) rfl,rfl,_,rfl,ifX (by show decide (V.str (Str.ofString "give")=V.str (Str.ofString "else"))=false;decide+kernel) ⟨_,rfl,t,_,_,_,rfl,rfl,SqT.of ht1,jo (j:=0) rfl,rfl,_,rfl,ifX (by show decide (V.str (Str.ofString "give")=V.str (Str.ofString "end"))=false;decide+kernel) fin⟩⟩
 |ed f ps ds a=>
  obtain⟨k,ks',rfl,ek,e3⟩:=j6 eM
  exact ifX (by show inV (V.str (Str.ofString "end")) [V.str (Str.ofString "def"),V.str (Str.ofString "if"),V.str (Str.ofString "while")]=false;decide+kernel) ⟨_,rfl,t,_,_,_,rfl,rfl,SqT.of ht1,jo (j:=0) rfl,rfl,_,rfl,ifX (by show decide (V.str (Str.ofString "end")=V.str (Str.ofString "else"))=false;decide+kernel) ⟨_,rfl,t,_,_,_,rfl,rfl,SqT.of ht1,jo (j:=0) rfl,rfl,_,rfl,ifY (by show decide (V.str (Str.ofString "end")=V.str (Str.ofString "end"))=true;decide+kernel) (done k ks' rfl hS0)⟩⟩
 |ei T ds a b R' B c L=>
  obtain⟨k,ks',rfl,ek,e3⟩:=j6 eM
  exact ifX (by show inV (V.str (Str.ofString "end")) [V.str (Str.ofString "def"),V.str (Str.ofString "if"),V.str (Str.ofString "while")]=false;decide+kernel) ⟨_,rfl,t,_,_,_,rfl,rfl,SqT.of ht1,jo (j:=0) rfl,rfl,_,rfl,ifX (by show decide (V.str (Str.ofString "end")=V.str (Str.ofString "else"))=false;decide+kernel) ⟨_,rfl,t,_,_,_,rfl,rfl,SqT.of ht1,jo (j:=0) rfl,rfl,_,rfl,ifY (by show decide (V.str (Str.ofString "end")=V.str (Str.ofString "end"))=true;decide+kernel) (done k ks' rfl hS0)⟩⟩
 |ew T ds a R' B c L=>
  obtain⟨k,ks',rfl,ek,e3⟩:=j6 eM
  exact ifX (by show inV (V.str (Str.ofString "end")) [V.str (Str.ofString "def"),V.str (Str.ofString "if"),V.str (Str.ofString "while")]=false;decide+kernel) ⟨_,rfl,t,_,_,_,rfl,rfl,SqT.of ht1,jo (j:=0) rfl,rfl,_,rfl,ifX (by show decide (V.str (Str.ofString "end")=V.str (Str.ofString "else"))=false;decide+kernel) ⟨_,rfl,t,_,_,_,rfl,rfl,SqT.of ht1,jo (j:=0) rfl,rfl,_,rfl,ifY (by show decide (V.str (Str.ofString "end")=V.str (Str.ofString "end"))=true;decide+kernel) (done k ks' rfl hS0)⟩⟩
theorem FnOk.or{P:Program}{w:World}{K:Frag}{mg:Str->Option Value}{base:Heap}{CX:CXT}{k:Nat}{f:Addr}{fd:FuncData}{ps:List Str}{sp sp':Sp}(F:FnOk P w K mg base CX k f fd ps sp)(F':FnOk P w K mg base CX k f fd ps sp'):FnOk P w K mg base CX k f fd ps (fun vs H Q E=>sp vs H Q E∨sp' vs H Q E):=
 ⟨fun vs H Q E h=>h.elim (F.1 vs H Q E) (F'.1 vs H Q E),fun A outer s H args us vs Q E a b c d h=>h.elim (F.2 A outer s H args us vs Q E a b c d) (F'.2 A outer s H args us vs Q E a b c d)⟩
noncomputable def Pc.isTm:Pc->Bool
 | .sg _=>false
 | .tm _=>true
def BadW(w:Str):Prop:=w∉signs/\isName w=false/\isNum w=false/\w.length<=1000/\w≠"("/\w≠")"
def ParsN:List Str->List (List Pc)->Prop
 | [],L=>∃M L',L=M::L'/\(L'≠[]∨M.all Pc.isTm=false)
 |w::ws,L=>(w="("/\L≠[]/\ParsN ws ([]::L))∨
   (w=")"/\∃M L',L=M::L'/\(M.length≠3∨∃i T U,M=[.sg i,.tm T,.tm U]/\(L'=[]∨∃N L'',L'=N::L''/\ParsN ws ((N++[.tm (.op i T U)])::L''))))∨
   (BadW w/\L≠[])∨
   (w≠"("/\w≠")"/\∃p M L',PcW p w/\L=M::L'/\ParsN ws ((M++[p])::L'))
def spPieceB:Sp:=fun vs H Q _=>∃x:Str,vs=[.str x]/\BadW x/\∀H',Same H H'->Q .non H'
def spOpOfB:Sp:=fun vs H Q _=>∃(a:Addr) (ys:List V),vs=[.ref a]/\H a=some (.lst ys)/\ys.length≠3/\Q .non H
def spAreTG:Sp:=fun vs H Q _=>∃(a:Addr) (ys:List V) (M:List Pc),vs=[.ref a]/\H a=some (.lst ys)/\PcsV H M ys/\M.length<=100000/\∀H',Same H H'->Q (.bl (M.all Pc.isTm)) H'
def spTermsB:Sp:=fun vs H Q _=>∃(a:Addr) (ws:List Str),vs=[.ref a]/\H a=some (.lst (ws.map V.str))/\ParsN ws [[]]/\ws.length<=100000/\∀H',Same H H'->Q .non H'
theorem PcsV.at{H:Hp}:∀{M:List Pc} {vs:List V},PcsV H M vs->∀(i:Nat) (v:V),vs[i]?=some v->∃p,M[i]?=some p/\PcV H p v
 | [],_,h,i,v,hv=>by have e:_=[]:=h;rw[e]at hv;simp at hv
 |p::M,_,⟨u,r,e,h1,h2⟩,0,v,hv=>by rw[e]at hv;cases hv;exact⟨p,rfl,h1⟩
 |p::M,_,⟨u,r,e,h1,h2⟩,i+1,v,hv=>by rw[e]at hv;simpa using PcsV.at h2 i v (by simpa using hv)
inductive TN(a l:Addr)(ws:List Str)(H:Hp)(i:Nat)(σ:L2.St)(H':Hp):Prop
 |mk (o2 o3:Option V) (L:List (List Pc)) (as:List Addr) (e0:σ=[some (.ref a),some (.ref l),o2,o3]) (e1:H' l=some (.lst (as.reverse.map V.ref))) (e2:LevV H' L as) (e3:(l::as).Nodup) (e4:∀b∈l::as,H b=none) (e5:Same H H') (e6:ParsN (ws.drop i) L) (e7:L.length<=i+1/\∀M∈L,M.length<=i):TN a l ws H i σ H'
theorem atT{K:Frag}{H:Hp}{T:Tm}{b:Addr}(h:TmAt H T b):∃xs,H b=some (.tup xs):=by
 cases T with
 |num m=>exact⟨_,h⟩
 |var x=>exact⟨_,h⟩
 |op i t u=>obtain⟨_,_,h,_⟩:=h;exact⟨_,h⟩
theorem Yq{f:Addr}{fd:FuncData}{fN fI:Addr}{fdN fdI:FuncData}(F:Fun K "piece_of" "piece_of" sPiece f fd)(GN:FnOk P w K mg base CX0 2 fN fdN ["text"] (spIs isName))(bN:Binds K fdN ["text"] [])(kN:keepIn K (.ref fN)=true)(mN:mg "is_name"=some (.ref fN))(GI:FnOk P w K mg base CX0 2 fI fdI ["text"] (spIs isNum))(bI:Binds K fdI ["text"] [])(kI:keepIn K (.ref fI)=true)(mI:mg "is_number"=some (.ref fI)){sg:Addr}(mSg:mg "SIGNS"=some (.ref sg))(hS:∀H,SqT K H sg (signs.map V.str))(mi:mg "int"=none):FnOk P w K mg base CX0 3 f fd ["word"] spPieceB:=by
 refine F.ok scPiece (fun vs H Q E h=>?_) (fun cdv A outer s H vs Q E hr h=>?_)
 ·refine opq fun Gq kq=>?_
  obtain⟨x,rfl,_⟩:=h
  refine kq ?_
  clear kq
  rfl
 refine opq fun Gq kq=>?_
 obtain⟨x,rfl,hb,q⟩:=h
 refine kq ?_
 clear kq
 refine⟨_,(jd (jx (@jq _ _ _ _ _ _ _ _ jZ (pv 0) (@jX _ _ (.ref sg) _ _ rfl mSg rfl (by decide)) rfl) (jg (jr (pv 0))) jp) (jd (jx (@jW _ _ _ (ji GN hr.m rfl mN kN bN .nil pass0 (ja (pv 0) jc)) (by intro _;rfl)) (jg (jr (jH (ja jk (ja (pv 0) jc))))) jp) (jd (jx (@jW _ _ _ (ji GI hr.m rfl mI kI bI .nil pass0 (ja (pv 0) jc)) (by intro _;rfl)) (jg (jr (jH (ja jk (ja (@jG _ _ _ _ _ _ _ _ _ Kh rfl mi boot_int (ja (pv 0) jc) (by decide) (by decide) (by rfl) (by rfl)) jc))))) jp) (jg (jr (@kY _ _ _)))))),?_⟩
 try dsimp only[cxOf,Cx.nox,Cx.wish]
 obtain⟨h1,h2,h3,h4,h5,h6⟩:=hb
 refine seqF fun F1 f1=>⟨_,rfl,sg,_,rfl,.inr (hS H),rfl,kJ _,_,rfl,ifX (qG h1) (f1 _ _ ?_)⟩
 clear f1
 refine seqF fun F1 f1=>⟨_,rfl,x,rfl,h4,fun H1 s1=>⟨_,rfl,?_⟩⟩
 rw[h2]
 refine ifX rfl (f1 _ _ ?_)
 clear f1
 refine seqF fun F1 f1=>⟨_,rfl,_,rfl,h4,fun H2 s2=>⟨_,rfl,?_⟩⟩
 rw[h3]
 refine ifX rfl (f1 _ _ ?_)
 exact q _ (s1.trans s2)
theorem ZY{f:Addr}{fd:FuncData}(F:Fun K "are_terms" "are_terms" sAreT f fd)(mal:mg "all"=none)(mis:mg "isinstance"=none)(mtu:mg "tuple"=none)(ktt:kitOne K (.type "tuple") (.type "tuple")=some true)(kst:kitOne K (.type "str") (.type "tuple")=some false):FnOk P w K mg base CX0 1 f fd ["pieces"] spAreTG:=by
 refine F.ok scAreT (fun vs H Q E h=>?_) (fun cdv A outer s H vs Q E hr h=>?_)
 ·refine opq fun Gq kq=>?_
  obtain⟨a,ys,M,rfl,_⟩:=h
  refine kq ?_
  clear kq
  rfl
 refine opq fun Gq kq=>?_
 obtain⟨a,ys,M,rfl,ha,hT,hl,q⟩:=h
 refine kq ?_
 clear kq
 refine⟨_,(jg (jr (@jz _ _ _ _ _ _ _ _ _ (z8 rfl) rfl mal boot_all (ja (@kU _ _ _ _ _ _ _ (["piece"]) (1) ([]) _ _ _ _ rfl (@ze _ _ _ _ (pv 0)) Za (fun _ _ _ _ _=>(jD (i:=0) Y9 rfl (Or.inl rfl))) (fun _ _ _ _ _=>(@zq _)) (fun _ _ _ _ _=>(@jz _ _ _ _ _ _ _ _ _ (qQ (K:=K) rfl) rfl mis boot_isinstance (ja (pv 0) (ja (@Jj _ _ (.ty "tuple") _ _ rfl mtu boot_tuple rfl (by decide) (by decide)) jc)) (by decide) (by decide) (by rfl) (by rfl))) (by intro _;rfl)) jc) (by decide) (by decide) (by rfl) (by rfl)))),?_⟩
 try dsimp only[cxOf,Cx.nox,Cx.wish]
 have big:=line24
 have ll:=hT.len
 refine⟨_,rfl,a,rfl,⟨_,SqL.of ha⟩,?_⟩
 refine zL (K:=K) (xs:=ys) (by omega) (fun i zs Hx=>zs=((M.take i).map Pc.isTm).map V.bl/\Same H Hx) ⟨rfl,Same.refl _⟩ (fun i zs Hx h=>?_) (fun i x zs Hx hx h=>?_) (fun zs Hx h l nl=>?_)
 ·obtain⟨rfl,sx⟩:=h
  exact⟨SqL.of (sx _ _ ha),by rw[List.length_map,List.length_map,List.length_take];omega⟩
 ·obtain⟨rfl,sx⟩:=h
  obtain⟨pc,e1,hp⟩:=hT.at i x hx
  have et:M.take (i+1)=M.take i++[pc]:=by rw[List.take_add_one,e1];rfl
  rw[et]
  cases pc with
  |sg j=>
   obtain⟨rfl,_⟩:=hp
   exact⟨_,rfl,_,_,_,_,_,rfl,rfl,TyOf.str _,kst,by rw[List.map_append,List.map_append];rfl,sx⟩
  |tm T=>
   obtain⟨b,rfl,hb⟩:=hp
   obtain⟨xs,hb2⟩:=atT (K:=K) (hb.same sx)
   exact⟨_,rfl,_,_,_,_,_,rfl,rfl,TyOf.tup hb2,ktt,by rw[List.map_append,List.map_append];rfl,sx⟩
 ·obtain⟨rfl,sx⟩:=h
  rw[ll,List.take_length]
  refine⟨l,M.map Pc.isTm,rfl,SqL.of jb,?_⟩
  have e1:(M.map Pc.isTm).all id=M.all Pc.isTm:=by rw[List.all_map];rfl
  rw[e1]
  exact q _ (sx.trans (je nl))
theorem ZZ{f:Addr}{fd:FuncData}{fT:Addr}{fdT:FuncData}(F:Fun K "op_of" "op_of" sOpOf f fd)(GT:FnOk P w K mg base CX0 1 fT fdT ["pieces"] spAreT)(bT:Binds K fdT ["pieces"] [])(kT:keepIn K (.ref fT)=true)(mT:mg "are_terms"=some (.ref fT)){sg:Addr}(mSg:mg "SIGNS"=some (.ref sg))(hS:∀H,SqT K H sg (signs.map V.str))(ml:mg "len"=none):FnOk P w K mg base CX0 2 f fd ["pieces"] spOpOfB:=by
 refine F.ok scOpOf (fun vs H Q E h=>?_) (fun cdv A outer s H vs Q E hr h=>?_)
 ·refine opq fun Gq kq=>?_
  obtain⟨a,ys,rfl,_⟩:=h
  refine kq ?_
  clear kq
  rfl
 refine opq fun Gq kq=>?_
 obtain⟨a,ys,rfl,ha,h3,q⟩:=h
 refine kq ?_
 clear kq
 refine⟨_,(jd (jx (@PW.pt _ _ _ (@zi _ _ _ _ _ _ _ (@jq _ _ _ _ _ _ _ _ jI (@jz _ _ _ _ _ _ _ _ _ jw rfl ml PySem.boot_len (ja (pv 0) jc) (by decide) (by decide) (by rfl) (by rfl)) jf (nomark _)) (@zi _ _ _ _ _ _ _ (@jq _ _ _ _ _ _ _ _ jZ (@jv _ _ _ _ _ _ _ jy (pv 0) jf (fun _ _=>rfl)) (@jX _ _ (.ref sg) _ _ rfl mSg rfl (by decide)) rfl) (@zd _ _ _ _ (@jW _ _ _ (ji GT hr.m rfl mT kT bT .nil pass0 (ja (@jF _ _ _ _ _ _ _ _ _ _ jJ (pv 0) (@jE _ _ _ jf) (@jR _)) jc)) (by intro _;rfl)))))) (jg (jr (jH (ja jk (ja (@jv _ _ _ _ _ _ _ jy (pv 0) jf (fun _ _=>rfl)) (ja (@jv _ _ _ _ _ _ _ jy (pv 0) jf (fun _ _=>rfl)) (ja (@jv _ _ _ _ _ _ _ jy (pv 0) jf (fun _ _=>rfl)) jc))))))) jp) (jg (jr (@kY _ _ _)))),?_⟩
 try dsimp only[cxOf,Cx.nox,Cx.wish]
 refine seqF fun F1 f1=>⟨_,rfl,a,_,rfl,.inl (SqL.of ha),rfl,_,rfl,ifX (decide_eq_false fun z=>h3 (by injection z with z;omega)) (f1 _ _ ?_)⟩
 exact q
theorem Yr{f:Addr}{fd:FuncData}{fO fP fT:Addr}{fdO fdP fdT:FuncData}(F:Fun K "terms_of" "terms_of" sTerms f fd)(GO:FnOk P w K mg base CX0 2 fO fdO ["pieces"] (fun vs H Q E=>spOpOf vs H Q E∨spOpOfB vs H Q E))(bO:Binds K fdO ["pieces"] [])(kO:keepIn K (.ref fO)=true)(mO:mg "op_of"=some (.ref fO))(GP:FnOk P w K mg base CX0 3 fP fdP ["word"] (fun vs H Q E=>spPiece vs H Q E∨spPieceB vs H Q E))(bP:Binds K fdP ["word"] [])(kP:keepIn K (.ref fP)=true)(mP:mg "piece_of"=some (.ref fP))(GT:FnOk P w K mg base CX0 1 fT fdT ["pieces"] spAreTG)(bT:Binds K fdT ["pieces"] [])(kT:keepIn K (.ref fT)=true)(mT:mg "are_terms"=some (.ref fT))(ml:mg "len"=none):FnOk P w K mg base CX0 4 f fd ["words"] spTermsB:=by
 refine F.ok scTerms (fun vs H Q E h=>?_) (fun cdv A outer s H vs Q E hr h=>?_)
 ·refine opq fun Gq kq=>?_
  obtain⟨a,ws,rfl,_⟩:=h
  refine kq ?_
  clear kq
  rfl
 refine opq fun Gq kq=>?_
 obtain⟨a,ws,rfl,ha,hP,hW,q⟩:=h
 refine kq ?_
 clear kq
 refine⟨_,(jd (js (i:=1) scTerms.nd rfl (Or.inl rfl) (jC (ja (jC jc) jc))) (jd (@zj _ _ _ _ _ _ _ _ PassesOwn.never rfl (@ze _ _ _ _ (pv 0)) (jD (i:=2) scTerms.nd rfl (Or.inl rfl)) (jd (jx (@jq _ _ _ _ _ _ _ _ jI (pv 2) jk (nomark _)) (jd (jN (@jS _ _ _ _ _ _ _ _ _ _ _ _ PySem.F.plainAttrs_list PySem.F.slot_list_append PySem.F.type_list_append jL (pv 1) (ja (jC jc) jc) (by rfl) (by rfl) (by rfl) (by rfl) (by rfl))) (jg (@zD _ _))) jp) (jd (js (i:=3) scTerms.nd rfl (Or.inl rfl) (@KU _ _ _ _ _ _ _ _ (@jq _ _ _ _ _ _ _ _ jI (pv 2) jk (nomark _)) (ji GO hr.m rfl mO kO bO .nil pass0 (ja (@qv _ _ _ _ _ _ _ _ _ PySem.F.plainAttrs_list PySem.F.slot_list_pop PySem.F.type_list_pop Jx (pv 1) (by rfl) (by rfl)) jc)) (ji GP hr.m rfl mP kP bP .nil pass0 (ja (pv 2) jc)))) (jd (jx (@PW.pt _ _ _ (@kL _ _ _ _ _ _ _ (@zO _ _ _ _ _ _ (@zE _ _ _ _ _ (pv 3)) (by rfl)) (@kC _ _ _ _ (@j7 _ _ _ _ (@kG _ _ _ (pv 1) (fun _=>rfl)))))) (jg (jr (@kY _ _ _))) jp) (jg (jN (@jS _ _ _ _ _ _ _ _ _ _ _ _ PySem.F.plainAttrs_list PySem.F.slot_list_append PySem.F.type_list_append jL (@jv _ _ _ _ _ _ _ jy (pv 1) (@zY _ _ _ _ _ _ zk jf) (fun _ _=>rfl)) (ja (pv 3) jc) (by rfl) (by rfl) (by rfl) (by rfl) (by rfl))))))) (by intro _;rfl)) (jd (jx (@PW.pt _ _ _ (@kL _ _ _ _ _ _ _ (@jq _ _ _ _ _ _ _ _ qo (@jz _ _ _ _ _ _ _ _ _ jw rfl ml PySem.boot_len (ja (pv 1) jc) (by decide) (by decide) (by rfl) (by rfl)) jf (nomark _)) (@kC _ _ _ _ (@j7 _ _ _ _ (@jW _ _ _ (ji GT hr.m rfl mT kT bT .nil pass0 (ja (@jv _ _ _ _ _ _ _ jy (pv 1) jf (fun _ _=>rfl)) jc)) (by intro _;rfl)))))) (jg (jr (@kY _ _ _))) jp) (jg (jr (@jv _ _ _ _ _ _ _ jy (pv 1) jf (fun _ _=>rfl))))))),?_⟩
 try dsimp only[cxOf,Cx.nox,Cx.wish]
 have big:=line24
 refine seqF fun F1 f1=>⟨sz0,fun a0 n0=>⟨sz1,fun l nl=>f1 _ _ ?_⟩⟩
 clear f1
 have na0:a0≠l:=fun e=>by rw[<- e,jb]at nl;cases nl
 have s0:Same H (upd (upd H a0 (.lst [])) l (.lst [.ref a0])):=(je n0).trans (je nl)
 have nl':H l=none:=(je n0).free nl
 refine seqF fun F1 f1=>forE fun J j=>⟨_,rfl,a,rfl,⟨_,SqL.of (s0 _ _ ha)⟩,j _ _ ?_⟩
 clear j
 refine Kl (K:=K) (a:=a) (xs:=ws.map V.str) (TN a l ws H) ⟨_,_,[[]],[a0],rfl,jb,⟨a0,[],[],rfl,by rw[jh na0];exact jb,rfl,rfl⟩,by simp;exact Ne.symm na0,fun b hb=>?_,s0,by rw[List.drop_zero];exact hP,⟨Nat.le_refl 1,fun M hM=>by rw[List.mem_singleton.mp hM];exact Nat.le_refl 0⟩⟩ (fun i σ H1 _ h=>?_) ?_ ?_
 ·rcases List.mem_cons.mp hb with rfl |hb
  ·exact nl'
  ·rw[List.mem_singleton.mp hb];exact n0
 ·obtain⟨o2,o3,L,as,rfl,e1,e2,e3,e4,e5,e6,e7⟩:=h
  exact SqL.of (e5 _ _ ha)
 ·intro E rt i x σ H1 hx fE Gq kq h
  obtain⟨o2,o3,L,as,rfl,e1,e2,e3,e4,e5,e6,e7⟩:=h
  clear f1
  rw[List.getElem?_map]at hx
  obtain⟨y,hy,rfl⟩:=Option.map_eq_some_iff.mp hx
  have hil:i < ws.length:=(List.getElem?_eq_some_iff.mp hy).1
  have ed:ws.drop i=y::ws.drop (i+1):=by
   rw[List.drop_eq_getElem_cons hil]
   have:=(List.getElem?_eq_some_iff.mp hy).2
   rw[this]
  rw[ed]at e6
  have hll:=e2.len
  have nla:l∉as:=(List.nodup_cons.mp e3).1
  have nda:as.Nodup:=(List.nodup_cons.mp e3).2
  have fin:∀(M:List Pc) (L':List (List Pc)) (c:Addr) (bs:List Addr) (vs:List V) (H3:Hp) (p:Pc) (v:V),H3 l=some (.lst ((c::bs).reverse.map V.ref))->H3 c=some (.lst vs)->PcsV H3 M vs->LevV H3 L' bs->(l::c::bs).Nodup->(∀b∈l::c::bs,H b=none)->Same H H3->PcV H3 p v->
    ParsN (ws.drop (i+1)) ((M++[p])::L')->L'.length<=i+1->M.length<=i->(∀M'∈L',M'.length<=i)->∀o2 o3:Option V,TN a l ws H (i+1) [some (.ref a),some (.ref l),o2,o3] (upd H3 c (.lst (vs++[v]))):=fun M L' c bs vs H3 p v g1 g2 g3 g4 g5 g6 g7 g8 g9 g10 g11 g12 o2 o3=>by
   have nlc:l≠c:=fun e=>(List.nodup_cons.mp g5).1 (by rw[e];exact List.mem_cons_self)
   have ncb:c∉bs:=(List.nodup_cons.mp (List.nodup_cons.mp g5).2).1
   have tm:TMono H3 (upd H3 c (.lst (vs++[v]))):=fun b xs e=>by rw[jh (jU e g2 (by intro z;cases z))];exact e
   exact⟨_,_,(M++[p])::L',c::bs,rfl,by rw[jh nlc];exact g1,⟨c,bs,_,rfl,jb,(g3.snoc g8).mono tm,g4.keep tm fun b hb=>jh fun e=>ncb (by rw[<- e];exact hb)⟩,g5,g6,fun b o e=>by rw[jh (jj e (g6 c (by simp)))];exact g7 _ _ e,g9,⟨by rw[List.length_cons];omega,fun M' hM=>by
    rcases List.mem_cons.mp hM with rfl |hM
    ·rw[List.length_append];show M.length+1<=i+1;omega
    ·have:=g12 M' hM;omega⟩⟩
  refine kq ?_
  clear kq
  show tSeq (tIfS _ _ _) _ E [some (.ref a),some (.ref l),some (.str y),o3] H1
  have out:∀(σ':L2.St) (H3:Hp),Same H H3->tRet (tC .non) E σ' H3:=fun σ' H3 s=>by
   unfold tRet
   rw[rt]
   exact q _ s
  rcases e6 with ⟨rfl,hL0,hp⟩ | ⟨rfl,M0,L0,rfl,hp⟩ | ⟨hbw,hL0⟩ | ⟨z1,z2,p,M,L',hw,rfl,hp⟩
  ·refine seqF fun F1 f1=>⟨_,rfl,rfl,_,rfl,ifY (by decide+kernel) ?_⟩
   clear f1
   refine seqF fun F2 f2=>⟨_,rfl,.inl ⟨rfl,_,SqL.of e1⟩,sz0,fun n nn=>⟨l,_,_,rfl,rfl,keepN e1 nn,by rw[List.length_map,List.length_reverse];have:=e7.1;omega,f2 _ _ ?_⟩⟩
   clear f2
   have nln:n≠l:=Ne.symm (jj e1 nn)
   have nn0:=e5.free nn
   have an:∀b∈as,b≠n:=fun b hb e=>by obtain⟨o,ho⟩:=e2.some b hb;rw[e,nn]at ho;cases ho
   have al:∀b∈as,b≠l:=fun b hb e=>nla (by rw[<- e];exact hb)
   have tm:TMono H1 (upd (upd H1 n (.lst [])) l (.lst (as.reverse.map V.ref++[.ref n]))):=fun b xs e=>by rw[jh (jU e e1 (by intro z;cases z))];exact keepN e nn
   refine(fE _ _ ⟨_,_,[]::L,n::as,rfl,by rw[jb,List.reverse_cons,List.map_append];rfl,⟨n,as,[],rfl,by rw[jh nln];exact jb,rfl,e2.keep tm fun b hb=>by rw[jh (al b hb),jh (an b hb)]⟩,?_,fun b hb=>?_,fun b o e=>?_,hp,?_⟩).2
   ·exact List.nodup_cons.mpr ⟨fun m=>by
     rcases List.mem_cons.mp m with m |m
     ·exact nln m.symm
     ·exact nla m,List.nodup_cons.mpr ⟨fun m=>an n m rfl,nda⟩⟩
   ·rcases List.mem_cons.mp hb with rfl |hb
    ·exact e4 _ List.mem_cons_self
    ·rcases List.mem_cons.mp hb with rfl |hb
     ·exact nn0
     ·exact e4 b (List.mem_cons_of_mem _ hb)
   ·rw[jh (jj e (e4 l List.mem_cons_self)),jh (jj e nn0)]
    exact e5 _ _ e
   ·refine⟨by have:=e7.1;rw[List.length_cons];omega,fun M' hM=>?_⟩
    rcases List.mem_cons.mp hM with rfl |hM
    ·exact Nat.zero_le _
    ·have:=e7.2 M' hM;omega
  ·obtain⟨b,cs,vs,rfl,h1,h2,h3l⟩:=e2
   have nlb:b≠l:=fun e=>nla (by rw[<- e];exact List.mem_cons_self)
   refine seqF fun F1 f1=>⟨_,rfl,rfl,_,rfl,ifX (by decide+kernel) (f1 _ _ ?_)⟩
   clear f1
   have tm0:∀(zs:List V),TMono H1 (upd H1 l (.lst zs)):=fun zs b xs e=>by rw[jh (jU e e1 (by intro z;cases z))];exact e
   have sH:∀(zs:List V),Same H (upd H1 l (.lst zs)):=fun zs b' o e=>by rw[jh (jj e (e4 l List.mem_cons_self))];exact e5 _ _ e
   rcases hp with hp | ⟨i',T,U,rfl,hp⟩
   ·refine seqF fun F1 f1=>⟨_,rfl,rfl,_,rfl,ifY (by decide+kernel) ⟨_,rfl,.inl ⟨rfl,_,SqL.of e1⟩,l,_,.ref b,rfl,rfl,e1,j4.1,?_⟩⟩
    rw[j4.2.1]
    refine .inr ⟨b,vs,rfl,by rw[jh nlb];exact h1,by rw[h2.len];exact hp,f1 _ _ ?_⟩
    clear f1
    refine seqF fun F1 f1=>⟨_,rfl,_,rfl,ifY (decide_eq_true rfl) (iteT (out _ _ (sH _)))⟩
   rcases hp with rfl | ⟨M,L',rfl,hp⟩
   ·have ec:cs=[]:=h3l
    subst ec
    refine seqF fun F1 f1=>⟨_,rfl,rfl,_,rfl,ifY (by decide+kernel) ⟨_,rfl,.inl ⟨rfl,_,SqL.of e1⟩,l,_,.ref b,rfl,rfl,e1,j4.1,?_⟩⟩
    rw[j4.2.1]
    refine .inl ⟨b,vs,i',T,U,rfl,by rw[jh nlb];exact h1,h2.mono (tm0 _),fun r H3 tr s3=>f1 _ _ ?_⟩
    clear f1
    have g1:H3 l=some (.lst []):=s3 _ _ jb
    exact seqF fun F1 f1=>⟨_,rfl,_,rfl,ifX (decide_eq_false (by intro z;cases z)) ⟨_,rfl,_,.inl ⟨_,SqL.of g1,rfl⟩,iteT (out _ _ ((sH _).trans s3))⟩⟩
   obtain⟨c,bs,us,rfl,h3,h4,h5⟩:=h3l
   have nlc:c≠l:=fun e=>nla (by rw[<- e];exact List.mem_cons_of_mem _ List.mem_cons_self)
   have tm:TMono H1 (upd H1 l (.lst ((c::bs).reverse.map V.ref))):=fun b xs e=>by rw[jh (jU e e1 (by intro z;cases z))];exact e
   refine seqF fun F1 f1=>⟨_,rfl,rfl,_,rfl,ifY (by decide+kernel) ⟨_,rfl,.inl ⟨rfl,_,SqL.of e1⟩,l,_,.ref b,rfl,rfl,e1,j4.1,?_⟩⟩
   rw[j4.2.1]
   refine .inl ⟨b,vs,i',T,U,rfl,by rw[jh nlb];exact h1,h2.mono tm,fun r H3 tr s3=>f1 _ _ ?_⟩
   clear f1
   have g1:H3 l=some (.lst ((c::bs).reverse.map V.ref)):=s3 _ _ jb
   have g2:H3 c=some (.lst us):=s3 _ _ (by rw[jh nlc];exact h3)
   have ne:(!((c::bs).reverse.map V.ref).isEmpty)=true:=by simp
   have hm:=(List.nodup_cons.mp nda).2
   have nb:∀b'∈bs,b'≠l:=fun b' hb e=>nla (by rw[<- e];exact List.mem_cons_of_mem _ (List.mem_cons_of_mem _ hb))
   have h5':LevV H3 L' bs:=(h5.keep tm fun b' hb=>jh (nb b' hb)).keep (Same.tm s3) fun b' hb=>by
    obtain⟨o,ho⟩:=h5.some b' hb
    have ho':upd H1 l (.lst ((c::bs).reverse.map V.ref)) b'=some o:=by rw[jh (nb b' hb)];exact ho
    rw[ho',s3 _ _ ho']
   refine seqF fun F1 f1=>⟨_,rfl,_,rfl,ifX (decide_eq_false (by intro z;cases z)) ⟨_,rfl,_,.inl ⟨_,SqL.of g1,rfl⟩,?_⟩⟩
   rw[ne]
   refine iteF (f1 _ _ ?_)
   clear f1
   have q1:=e7.1
   have q2:=e7.2
   rw[List.length_cons,List.length_cons]at q1
   have q3:=q2 M (List.mem_cons_of_mem _ List.mem_cons_self)
   have lu:=h4.len
   refine⟨_,rfl,_,rfl,l,_,_,_,rfl,rfl,SqL.of g1,j4.2.2,.inl ⟨rfl,_,SqL.of g2⟩,_,rfl,c,_,_,rfl,rfl,g2,by omega,?_⟩
   refine(fE _ _ (fin M L' c bs us H3 (.tm (.op i' T U)) (.ref r) g1 g2 ((h4.mono tm).mono (Same.tm s3)) h5' ?_ (fun b' hb=>?_) ?_ ⟨r,rfl,tr⟩ hp (by omega) q3 (fun M' hM=>q2 M' (List.mem_cons_of_mem _ (List.mem_cons_of_mem _ hM))) _ _)).1
   ·exact List.nodup_cons.mpr ⟨fun m=>nla (List.mem_cons_of_mem _ m),hm⟩
   ·rcases List.mem_cons.mp hb with rfl |hb
    ·exact e4 _ List.mem_cons_self
    ·exact e4 b' (List.mem_cons_of_mem _ (List.mem_cons_of_mem _ hb))
   ·exact fun b' o e=>s3 _ _ (by rw[jh (jj e (e4 l List.mem_cons_self))];exact e5 _ _ e)
  ·obtain⟨b1,b2,b3,b4,b5,b6⟩:=id hbw
   have n1:decide (V.str y=V.str "(")=false:=decide_eq_false fun z=>b5 (by injection z)
   have n2:decide (V.str y=V.str ")")=false:=decide_eq_false fun z=>b6 (by injection z)
   refine seqF fun F1 f1=>⟨_,rfl,rfl,_,rfl,ifX n1 (f1 _ _ ?_)⟩
   clear f1
   refine seqF fun F1 f1=>⟨_,rfl,rfl,_,rfl,ifX n2 ⟨_,rfl,.inr ⟨y,rfl,hbw,fun H3 s3=>f1 _ _ ?_⟩⟩⟩
   clear f1
   exact seqF fun F1 f1=>⟨_,rfl,_,rfl,ifY (decide_eq_true rfl) (iteT (out _ _ (e5.trans s3)))⟩
  ·obtain⟨c,bs,us,rfl,h3,h4,h5⟩:=e2
   have n1:decide (V.str y=V.str "(")=false:=decide_eq_false fun z=>z1 (by injection z)
   have n2:decide (V.str y=V.str ")")=false:=decide_eq_false fun z=>z2 (by injection z)
   refine seqF fun F1 f1=>⟨_,rfl,rfl,_,rfl,ifX n1 (f1 _ _ ?_)⟩
   clear f1
   refine seqF fun F1 f1=>⟨_,rfl,rfl,_,rfl,ifX n2 ⟨_,rfl,.inl ⟨y,p,rfl,hw,fun v H3 pv s3=>f1 _ _ ?_⟩⟩⟩
   clear f1
   have g1:H3 l=some (.lst ((c::bs).reverse.map V.ref)):=s3 _ _ e1
   have g2:H3 c=some (.lst us):=s3 _ _ h3
   have ne:(!((c::bs).reverse.map V.ref).isEmpty)=true:=by simp
   have h5':LevV H3 L' bs:=h5.keep (Same.tm s3) fun b' hb=>by
    obtain⟨o,ho⟩:=h5.some b' hb
    rw[ho,s3 _ _ ho]
   have nn:v≠ .non:=by
    cases p with
    |sg i=>rw[pv.1];intro z;cases z
    |tm T=>obtain⟨a,rfl,_⟩:=pv;intro z;cases z
   refine seqF fun F1 f1=>⟨_,rfl,_,rfl,ifX (decide_eq_false nn) ⟨_,rfl,_,.inl ⟨_,SqL.of g1,rfl⟩,?_⟩⟩
   rw[ne]
   refine iteF (f1 _ _ ?_)
   clear f1
   have q1:=e7.1
   have q2:=e7.2
   rw[List.length_cons]at q1
   have q3:=q2 M List.mem_cons_self
   have lu:=h4.len
   refine⟨_,rfl,_,rfl,l,_,_,_,rfl,rfl,SqL.of g1,j4.2.2,.inl ⟨rfl,_,SqL.of g2⟩,_,rfl,c,_,_,rfl,rfl,g2,by omega,?_⟩
   exact(fE _ _ (fin M L' c bs us H3 p v g1 g2 (h4.mono (Same.tm s3)) h5' e3 e4 (e5.trans s3) pv hp (by omega) q3 (fun M' hM=>q2 M' (List.mem_cons_of_mem _ hM)) _ _)).1
 ·intro σ H1 h
  obtain⟨o2,o3,L,as,rfl,e1,e2,e3,e4,e5,e6,e7⟩:=h
  refine f1 _ _ ?_
  clear f1
  rw[List.length_map,List.drop_length]at e6
  obtain⟨M,L',rfl,hbad⟩:=e6
  obtain⟨b,bs,vs,rfl,h1,h2,h3⟩:=e2
  have lb:=h3.len
  have q7:=e7.2 M List.mem_cons_self
  rw[List.length_map]at q7
  have lv:(((b::bs).reverse.map V.ref).length:Int)=((bs.length+1:Nat):Int):=by rw[List.length_map,List.length_reverse,List.length_cons]
  by_cases hL:L'=[]
  ·subst hL
   have eb:bs=[]:=h3
   subst eb
   have hm:M.all Pc.isTm=false:=hbad.resolve_left fun z=>z rfl
   have e1:H1 l=some (.lst [.ref b]):=e1
   refine seqF fun F1 f1=>⟨_,rfl,l,_,rfl,.inl (SqL.of e1),_,_,rfl,rfl,_,rfl,ifX (decide_eq_false (by show ¬(1:Int) < 1;decide)) ⟨_,rfl,l,_,_,_,rfl,rfl,SqL.of e1,jo (j:=0) rfl,b,vs,M,rfl,h1,h2,by omega,fun H2 s2=>⟨_,rfl,?_⟩⟩⟩
   rw[hm]
   exact iteT (q _ (e5.trans s2))
  ·have:1<=L'.length:=List.length_pos_iff.mpr hL
   exact seqF fun F1 f1=>⟨_,rfl,l,_,rfl,.inl (SqL.of e1),_,_,rfl,rfl,_,rfl,ifY (decide_eq_true (by rw[lv];omega)) (iteT (q _ e5))⟩
noncomputable def badHeads:List Str:=["defs","sets","se","foo","x","1","(","setset","set,","givewhile","i","'end'","elseend"]
def Shn(K:Frag)(sh:Addr):Prop:=∀x∈badHeads,nsIn K sh x=some none
def NoRow:List Str->Prop
 | []=>False
 |x::r=>(x="def"/\(r=[]∨r.all isName=false))∨(x≠"def"/\x∈badHeads)∨
   (x≠"def"/\∃(k:Nat) (m:V),(x,((k:Int),m))∈shp/\(ParsN (r.drop k) [[]]∨∃Ts:List Tm,Pars (r.drop k) [[]] [Ts.map Pc.tm]/\Ts.length<=1000/\(r.length < k∨(r.take k).all isName=false∨∃mm:Int,m= .int mm/\(Ts.length:Int)≠mm)))
def spAreNG:Sp:=fun vs H Q _=>∃(a:Addr) (ws:List Str),vs=[.ref a]/\H a=some (.lst (ws.map V.str))/\(∀x∈ws,x.length<=1000)/\ws.length<=100000/\∀H',Same H H'->Q (.bl (ws.all isName)) H'
def spDefRB:Sp:=fun vs H Q _=>∃(a:Addr) (r:List Str),vs=[.ref a]/\H a=some (.lst ((Str.ofString "def"::r).map V.str))/\(r=[]∨r.all isName=false)/\(∀x∈r,x.length<=1000)/\r.length<=99999/\∀H',Same H H'->Q .non H'
def spRowN:Sp:=fun vs H Q _=>∃(a:Addr) (ws:List Str),vs=[.ref a]/\H a=some (.lst (ws.map V.str))/\NoRow ws/\(∀x∈ws,x.length<=1000)/\ws.length<=99999/\∀H',Same H H'->Q .non H'
theorem cut_n1{x:V}{r:List V}{k:Nat}:cutV (x::r) (some 1) (some (1+(k:Int)))=r.take k:=by
 have e1:(1:Int)=((1:Nat):Int):=rfl
 have e2:(1:Int)+(k:Int)=((1+k:Nat):Int):=by omega
 unfold cutV
 rw[e2,e1,HT.sIx_nat,HT.sIx_nat,List.length_cons,Nat.min_eq_left (Nat.succ_le_succ (Nat.zero_le _)),List.drop_succ_cons,List.drop_zero]
 rw[show min (1+k) (r.length+1) - 1=min k r.length by omega,List.take_eq_take_iff]
 omega
theorem cut_n2{x:V}{r:List V}{k:Nat}:cutV (x::r) (some (1+(k:Int))) none=r.drop k:=by
 have e2:(1:Int)+(k:Int)=((1+k:Nat):Int):=by omega
 unfold cutV
 rw[e2,HT.sIx_nat,HT.sIx_none,List.length_cons]
 by_cases h:k<=r.length
 ·rw[Nat.min_eq_left (by omega),Nat.add_comm 1 k,List.drop_succ_cons,List.take_of_length_le]
  rw[List.length_drop]
  omega
 ·rw[Nat.min_eq_right (by omega),List.drop_succ_cons,List.drop_of_length_le (Nat.le_refl _),List.drop_of_length_le (show r.length<=k by omega),List.take_nil]
theorem Z0{f:Addr}{fd:FuncData}{fN:Addr}{fdN:FuncData}(F:Fun K "are_names" "are_names" sAreN f fd)(GN:FnOk P w K mg base CX0 2 fN fdN ["text"] (spIs isName))(bN:Binds K fdN ["text"] [])(kN:keepIn K (.ref fN)=true)(mN:mg "is_name"=some (.ref fN))(mal:mg "all"=none):FnOk P w K mg base CX0 3 f fd ["words"] spAreNG:=by
 refine F.ok scAreN (fun vs H Q E h=>?_) (fun cdv A outer s H vs Q E hr h=>?_)
 ·refine opq fun Gq kq=>?_
  obtain⟨a,ws,rfl,_⟩:=h
  refine kq ?_
  clear kq
  rfl
 refine opq fun Gq kq=>?_
 obtain⟨a,ws,rfl,ha,hW,hl,q⟩:=h
 refine kq ?_
 clear kq
 refine⟨_,(jg (jr (@jz _ _ _ _ _ _ _ _ _ (z8 rfl) rfl mal boot_all (ja (@kU _ _ _ _ _ _ _ (["word"]) (1) ([]) _ _ _ _ rfl (@ze _ _ _ _ (pv 0)) Zc (fun _ _ _ _ _=>(jD (i:=0) Zb rfl (Or.inl rfl))) (fun _ _ _ _ _=>(@zq _)) (fun _ _ _ _ _=>(ji GN hr.m rfl mN kN bN .nil pass0 (ja (pv 0) jc))) (by intro _;rfl)) jc) (by decide) (by decide) (by rfl) (by rfl)))),?_⟩
 try dsimp only[cxOf,Cx.nox,Cx.wish]
 have big:=line24
 refine⟨_,rfl,a,rfl,⟨_,SqL.of ha⟩,?_⟩
 refine zL (K:=K) (xs:=ws.map V.str) (by rw[List.length_map];omega) (fun i zs Hx=>zs=((ws.take i).map isName).map V.bl/\Same H Hx) ⟨rfl,Same.refl _⟩ (fun i zs Hx h=>?_) (fun i x zs Hx hx h=>?_) (fun zs Hx h l nl=>?_)
 ·obtain⟨rfl,sx⟩:=h
  exact⟨SqL.of (sx _ _ ha),by rw[List.length_map,List.length_map,List.length_take];omega⟩
 ·obtain⟨rfl,sx⟩:=h
  rw[List.getElem?_map]at hx
  obtain⟨y,hy,rfl⟩:=Option.map_eq_some_iff.mp hx
  refine⟨_,rfl,y,rfl,hW y (List.mem_of_getElem? hy),fun H1 s1=>?_⟩
  have et:ws.take (i+1)=ws.take i++[y]:=by rw[List.take_add_one,hy];rfl
  exact⟨by rw[et,List.map_append,List.map_append];rfl,sx.trans s1⟩
 ·obtain⟨rfl,sx⟩:=h
  rw[List.length_map,List.take_length]
  refine⟨l,ws.map isName,rfl,SqL.of jb,?_⟩
  have e1:(ws.map isName).all id=ws.all isName:=by rw[List.all_map];rfl
  rw[e1]
  exact q _ (sx.trans (je nl))
theorem Z1{f:Addr}{fd:FuncData}{fA:Addr}{fdA:FuncData}(F:Fun K "def_row" "def_row" sDefR f fd)(GA:FnOk P w K mg base CX0 3 fA fdA ["words"] spAreNG)(bA:Binds K fdA ["words"] [])(kA:keepIn K (.ref fA)=true)(mA:mg "are_names"=some (.ref fA))(ml:mg "len"=none)(mtu:mg "tuple"=none):FnOk P w K mg base CX0 4 f fd ["words"] spDefRB:=by
 refine F.ok scDefR (fun vs H Q E h=>?_) (fun cdv A outer s H vs Q E hr h=>?_)
 ·refine opq fun Gq kq=>?_
  obtain⟨a,r,rfl,_⟩:=h
  refine kq ?_
  clear kq
  rfl
 refine opq fun Gq kq=>?_
 obtain⟨a,r,rfl,ha,hb,hW,hl,q⟩:=h
 refine kq ?_
 clear kq
 refine⟨_,(jd (jx (@PW.pt _ _ _ (@kL _ _ _ _ _ _ _ (@jq _ _ _ _ _ _ _ _ qA (@jz _ _ _ _ _ _ _ _ _ jw rfl ml PySem.boot_len (ja (pv 0) jc) (by decide) (by decide) (by rfl) (by rfl)) jf (nomark _)) (@kC _ _ _ _ (@j7 _ _ _ _ (@jW _ _ _ (ji GA hr.m rfl mA kA bA .nil pass0 (ja (@jF _ _ _ _ _ _ _ _ _ _ jJ (pv 0) (@jE _ _ _ jf) (@jR _)) jc)) (by intro _;rfl)))))) (jg (jr (@kY _ _ _))) jp) (jg (jr (jH (ja jk (ja (@jv _ _ _ _ _ _ _ jy (pv 0) jf (fun _ _=>rfl)) (ja (@jG _ _ _ _ _ _ _ _ _ jA rfl mtu boot_tuple (ja (@jF _ _ _ _ _ _ _ _ _ _ jJ (pv 0) (@jE _ _ _ jf) (@jR _)) jc) (by decide) (by decide) (by rfl) (by rfl)) jc))))))),?_⟩
 try dsimp only[cxOf,Cx.nox,Cx.wish]
 have big:=line24
 have ll:(((Str.ofString "def"::r).map V.str).length:Int)=(r.length:Int)+1:=by rw[List.length_map,List.length_cons];omega
 by_cases hr0:r=[]
 ·exact seqF fun F1 f1=>⟨_,rfl,a,_,rfl,.inl (SqL.of ha),_,_,rfl,rfl,_,rfl,ifY (decide_eq_true (by rw[ll,hr0];decide)) (iteT (q _ (Same.refl _)))⟩
 ·have hm:r.all isName=false:=hb.resolve_left hr0
  have:1<=r.length:=List.length_pos_iff.mpr hr0
  have e1:cutV ((Str.ofString "def"::r).map V.str) (some 1) none=r.map V.str:=qJ (n:=1) (by simp)
  refine seqF fun F1 f1=>⟨_,rfl,a,_,rfl,.inl (SqL.of ha),_,_,rfl,rfl,_,rfl,ifX (decide_eq_false (by rw[ll];omega)) ⟨_,rfl,_,rfl,a,_,rfl,SqL.of ha,fun s1 n1=>?_⟩⟩
  rw[e1]
  refine⟨s1,r,rfl,jb,hW,by omega,fun H1 s2=>⟨_,rfl,?_⟩⟩
  rw[hm]
  exact iteT (q _ ((je n1).trans s2))
theorem ok_rowN{f:Addr}{fd:FuncData}{fD fT fA:Addr}{fdD fdT fdA:FuncData}(F:Fun K "row_of" "row_of" sRowR f fd)(GD:FnOk P w K mg base CX0 4 fD fdD ["words"] spDefRB)(bD:Binds K fdD ["words"] [])(kD:keepIn K (.ref fD)=true)(mD:mg "def_row"=some (.ref fD))(GT:FnOk P w K mg base CX0 4 fT fdT ["words"] (fun vs H Q E=>spTerms vs H Q E∨spTermsB vs H Q E))(bT:Binds K fdT ["words"] [])(kT:keepIn K (.ref fT)=true)(mT:mg "terms_of"=some (.ref fT))(GA:FnOk P w K mg base CX0 3 fA fdA ["words"] spAreNG)(bA:Binds K fdA ["words"] [])(kA:keepIn K (.ref fA)=true)(mA:mg "are_names"=some (.ref fA)){sh:Addr}(mSh:mg "SHAPES"=some (.ref sh))(hSh:TopD K w.params sh)(hK:Shp K sh)(hNo:Shn K sh)(ml:mg "len"=none)(mtu:mg "tuple"=none):FnOk P w K mg base CX0 5 f fd ["words"] spRowN:=by
 refine F.ok scRowR (fun vs H Q E h=>?_) (fun cdv A outer s H vs Q E hr h=>?_)
 ·refine opq fun Gq kq=>?_
  obtain⟨a,ws,rfl,_⟩:=h
  refine kq ?_
  clear kq
  rfl
 refine opq fun Gq kq=>?_
 obtain⟨a,ws,rfl,ha,hN,hW,hl,q⟩:=h
 refine kq ?_
 clear kq
 refine⟨_,(jd (js (i:=1) scRowR.nd rfl (Or.inl rfl) (@jv _ _ _ _ _ _ _ jy (pv 0) jf (fun _ _=>rfl))) (jd (jx (@jq _ _ _ _ _ _ _ _ jI (pv 1) jk (nomark _)) (jg (jr (ji GD hr.m rfl mD kD bD .nil pass0 (ja (pv 0) jc)))) jp) (jd (jx (@jq _ _ _ _ _ _ _ _ (Kj hSh) (pv 1) (@jX _ _ (.ref sh) _ _ rfl mSh rfl (by decide)) rfl) (jg (jr (@kY _ _ _))) jp) (jd (js (i:=2) scRowR.nd rfl (Or.inl rfl) (@jv _ _ _ _ _ _ _ jK (@jv _ _ _ _ _ _ _ (Jm hSh) (@jX _ _ (.ref sh) _ _ rfl mSh rfl (by decide)) (pv 1) (fun _ _=>rfl)) jf (fun _ _=>rfl))) (jd (js (i:=3) scRowR.nd rfl (Or.inl rfl) (@jv _ _ _ _ _ _ _ jK (@jv _ _ _ _ _ _ _ (Jm hSh) (@jX _ _ (.ref sh) _ _ rfl mSh rfl (by decide)) (pv 1) (fun _ _=>rfl)) jf (fun _ _=>rfl))) (jd (js (i:=4) scRowR.nd rfl (Or.inl rfl) (@jF _ _ _ _ _ _ _ _ _ _ jJ (pv 0) (@jE _ _ _ jf) (@jE _ _ _ (ju jQ jf (pv 2))))) (jd (js (i:=5) scRowR.nd rfl (Or.inl rfl) (ji GT hr.m rfl mT kT bT .nil pass0 (ja (@jF _ _ _ _ _ _ _ _ _ _ jJ (pv 0) (@jE _ _ _ (ju jQ jf (pv 2))) (@jR _)) jc))) (jd (jx (@PW.pt _ _ _ (@kL _ _ _ _ _ _ _ (@jq _ _ _ _ _ _ _ _ qA (@jz _ _ _ _ _ _ _ _ _ jw rfl ml PySem.boot_len (ja (pv 4) jc) (by decide) (by decide) (by rfl) (by rfl)) (pv 2) (nomark _)) (@kL _ _ _ _ _ _ _ (@j7 _ _ _ _ (@jW _ _ _ (ji GA hr.m rfl mA kA bA .nil pass0 (ja (pv 4) jc)) (by intro _;rfl))) (@kC _ _ _ _ (@zO _ _ _ _ _ _ (@zE _ _ _ _ _ (pv 5)) (by rfl)))))) (jg (jr (@kY _ _ _))) jp) (jd (jx (@zO _ _ _ _ _ _ (@zE _ _ _ _ _ (pv 3)) (by rfl)) (jg (jr (ju zf (ju zf (jH (ja (pv 1) jc)) (@jG _ _ _ _ _ _ _ _ _ jA rfl mtu boot_tuple (ja (pv 4) jc) (by decide) (by decide) (by rfl) (by rfl))) (jH (ja (@jG _ _ _ _ _ _ _ _ _ jA rfl mtu boot_tuple (ja (pv 5) jc) (by decide) (by decide) (by rfl) (by rfl)) jc))))) jp) (jd (jx (@jq _ _ _ _ _ _ _ _ qm (@jz _ _ _ _ _ _ _ _ _ jw rfl ml PySem.boot_len (ja (pv 5) jc) (by decide) (by decide) (by rfl) (by rfl)) (pv 3) (nomark _)) (jg (jr (@kY _ _ _))) jp) (jg (jr (ju zf (ju zf (jH (ja (pv 1) jc)) (@jG _ _ _ _ _ _ _ _ _ jA rfl mtu boot_tuple (ja (pv 4) jc) (by decide) (by decide) (by rfl) (by rfl))) (@jG _ _ _ _ _ _ _ _ _ jA rfl mtu boot_tuple (ja (pv 5) jc) (by decide) (by decide) (by rfl) (by rfl))))))))))))))),?_⟩
 try dsimp only[cxOf,Cx.nox,Cx.wish]
 have big:=line24
 cases ws with
 |nil=>exact absurd hN id
 |cons x r=>
  have hl':r.length+1<=99999:=hl
  have hW':∀y∈r,y.length<=1000:=fun y hy=>hW y (List.mem_cons_of_mem _ hy)
  refine seqF fun F1 f1=>⟨_,rfl,a,_,_,_,rfl,rfl,SqL.of ha,jo (j:=0) rfl,f1 _ _ ?_⟩
  clear f1
  rcases hN with ⟨rfl,hb⟩ | ⟨h2,hb⟩ | ⟨h2,k,m,h1,hb⟩
  ·refine seqF fun F1 f1=>⟨_,rfl,rfl,_,rfl,ifY (decide_eq_true rfl) ?_⟩
   exact⟨_,rfl,a,r,rfl,ha,hb,hW',by omega,q⟩
  ·refine seqF fun F1 f1=>⟨_,rfl,rfl,_,rfl,ifX (decide_eq_false fun z=>h2 (by injection z)) (f1 _ _ ?_)⟩
   clear f1
   exact seqF fun F1 f1=>⟨_,rfl,x,none,rfl,rfl,hNo x hb,_,rfl,ifY rfl (q _ (Same.refl _))⟩
  ·obtain⟨ta,hta,hT⟩:=hK _ h1
   refine seqF fun F1 f1=>⟨_,rfl,rfl,_,rfl,ifX (decide_eq_false fun z=>h2 (by injection z)) (f1 _ _ ?_)⟩
   clear f1
   refine seqF fun F1 f1=>⟨_,rfl,x,_,rfl,rfl,hta,_,rfl,ifX rfl (f1 _ _ ?_)⟩
   clear f1
   refine seqF fun F1 f1=>⟨_,rfl,x,.ref ta,_,rfl,rfl,hta,rfl,ta,_,_,_,rfl,rfl,hT H,jo (j:=0) rfl,f1 _ _ ?_⟩
   clear f1
   refine seqF fun F1 f1=>⟨_,rfl,x,.ref ta,_,rfl,rfl,hta,rfl,ta,_,_,_,rfl,rfl,hT H,jo (j:=1) rfl,f1 _ _ ?_⟩
   clear f1
   have c1:cutV ((x::r).map V.str) (some 1) (some (1+(k:Int)))=(r.take k).map V.str:=by rw[List.map_cons,cut_n1,List.map_take]
   have c2:cutV ((x::r).map V.str) (some (1+(k:Int))) none=(r.drop k).map V.str:=by rw[List.map_cons,cut_n2,List.map_drop]
   refine seqF fun F1 f1=>⟨_,rfl,_,rfl,_,rfl,_,_,rfl,rfl,_,rfl,a,_,rfl,SqL.of ha,fun s1 n1=>f1 _ _ ?_⟩
   clear f1
   rw[c1]
   have g1:Same H (upd H s1 (.lst ((r.take k).map V.str))):=je n1
   have hs1:upd H s1 (.lst ((r.take k).map V.str)) s1=some (.lst ((r.take k).map V.str)):=jb
   generalize upd H s1 (.lst ((r.take k).map V.str))=H1 at g1 hs1
   have lt:(r.take k).length=min k r.length:=List.length_take
   have ld:(r.drop k).length<=r.length:=by rw[List.length_drop];omega
   have nms:∀y∈r.take k,y.length<=1000:=fun y hy=>hW' y (List.mem_of_mem_take hy)
   refine seqF fun F1 f1=>⟨_,rfl,_,rfl,_,_,rfl,rfl,_,rfl,a,_,rfl,SqL.of (g1 _ _ ha),fun s2 n2=>?_⟩
   rw[c2]
   have ends:∀(tv:V) (H2:Hp),Same H1 H2->(tv= .non∨(r.length < k∨(r.take k).all isName=false))->F1 [some (.ref a),some (.str x),some (.int (k:Int)),some m,some (.ref s1),some tv] H2:=fun tv H2 g3 hh=>by
    refine f1 _ _ ?_
    by_cases hk:r.length < k
    ·exact seqF fun F1 f1=>⟨_,rfl,s1,_,rfl,.inl (SqL.of (g3 _ _ hs1)),_,rfl,_,_,rfl,rfl,_,rfl,ifY (decide_eq_true (by rw[List.length_map,lt];omega)) (iteT (q _ (g1.trans g3)))⟩
    ·refine seqF fun F1 f1=>⟨_,rfl,s1,_,rfl,.inl (SqL.of (g3 _ _ hs1)),_,rfl,_,_,rfl,rfl,_,rfl,ifX (decide_eq_false (by rw[List.length_map,lt];show ¬((min k r.length:Nat):Int) < (k:Int);omega)) ⟨_,rfl,s1,_,rfl,g3 _ _ hs1,nms,by omega,fun H3 g4=>⟨_,rfl,?_⟩⟩⟩
     cases hn:(r.take k).all isName with
     |false=>exact iteT (iteT (q _ ((g1.trans g3).trans g4)))
     |true=>
      have ht:tv= .non:=by
       rcases hh with h |h |h
       ·exact h
       ·exact absurd h hk
       ·rw[hn]at h;cases h
      subst ht
      exact iteF ⟨_,rfl,_,rfl,ifY (decide_eq_true rfl) (q _ ((g1.trans g3).trans g4))⟩
   rcases hb with hb | ⟨Ts,hb,hTs,hbad⟩
   ·exact .inr ⟨s2,r.drop k,rfl,jb,hb,by omega,fun H2 g2=>ends .non H2 ((je n2).trans g2) (.inl rfl)⟩
   ·refine .inl ⟨s2,r.drop k,Ts,rfl,jb,hb,by omega,by omega,fun rr ys H2 nr hr hT2 g2=>?_⟩
    have g3:Same H1 H2:=(je n2).trans g2
    by_cases hh:r.length < k∨(r.take k).all isName=false
    ·exact ends (.ref rr) H2 g3 (.inr hh)
    ·obtain⟨mm,rfl,hm⟩:∃mm:Int,m= .int mm/\(Ts.length:Int)≠mm:=by
      rcases hbad with h |h |h
      ·exact absurd (.inl h) hh
      ·exact absurd (.inr h) hh
      ·exact h
     have hk:¬r.length < k:=fun z=>hh (.inl z)
     have hn:(r.take k).all isName=true:=by cases e:(r.take k).all isName with
      |true=>rfl
      |false=>exact absurd (.inr e) hh
     have ly:=hT2.len
     refine f1 _ _ ?_
     clear f1 ends
     refine seqF fun F1 f1=>⟨_,rfl,s1,_,rfl,.inl (SqL.of (g3 _ _ hs1)),_,rfl,_,_,rfl,rfl,_,rfl,ifX (decide_eq_false (by rw[List.length_map,lt];show ¬((min k r.length:Nat):Int) < (k:Int);omega)) ⟨_,rfl,s1,_,rfl,g3 _ _ hs1,nms,by omega,fun H3 g4=>⟨_,rfl,?_⟩⟩⟩
     rw[hn]
     refine iteF ⟨_,rfl,_,rfl,ifX (decide_eq_false (by intro z;cases z)) (f1 _ _ ?_)⟩
     clear f1
     refine seqF fun F1 f1=>⟨_,rfl,_,rfl,ifX (decide_eq_false (by intro z;cases z)) (f1 _ _ ?_)⟩
     clear f1
     exact seqF fun F1 f1=>⟨_,rfl,rr,_,rfl,.inl (SqL.of (g4 _ _ hr)),_,rfl,rfl,_,rfl,ifY (by rw[ly,decide_eq_false fun z=>hm (by injection z)];rfl) (q _ ((g1.trans g3).trans g4))⟩
noncomputable def awB(c:Rw'×List Bd):Bool:=if c.1.isIf=true then decide (c.2.length=1) else false
noncomputable def fitB(w:Str):List (Rw'×List Bd)->Bool
 | []=>decide (V.str w=V.str "def")
 |c::_=>if V.str w=V.str "else" then awB c else if V.str w=V.str "end" then !awB c else !decide (V.str w=V.str "def")
def spRFitG(CR CB:Addr):Sp:=fun vs H Q _=>∃(n:Nat) (r dx dl bl:Addr) (ds:List Df) (ks:List Bk) (w:Str),vs=[.ref r,.str w]/\Rdg n CR CB H r dx dl bl ds ks/\Q (.bl (fitB w (ks.map ab))) H
def WfL:List (Rw'×List Bd)->Prop
 | []=>True
 | [c]=>∃f ps a,c=(.df f ps,[a])
 |c::d::L=>((∃T a,c=(.ifr T,[a]))∨(∃T a b,c=(.ifr T,[a,b]))∨∃T a,c=(.whr T,[a]))/\WfL (d::L)
theorem WfL.top{c:Rw'×List Bd}{L:List (Rw'×List Bd)}(h:WfL (c::L)):∃R B a,c=(R,B++[a]):=by
 cases L with
 |nil=>obtain⟨f,ps,a,rfl⟩:=h;exact⟨_,[],a,rfl⟩
 |cons d L=>
  rcases h.1 with ⟨T,a,rfl⟩ | ⟨T,a,b,rfl⟩ | ⟨T,a,rfl⟩
  ·exact⟨_,[],a,rfl⟩
  ·exact⟨_,[a],b,rfl⟩
  ·exact⟨_,[],a,rfl⟩
theorem WfL.put{R:Rw'}{B:List Bd}{a a':Bd}{L:List (Rw'×List Bd)}(h:WfL ((R,B++[a])::L)):WfL ((R,B++[a'])::L):=by
 cases L with
 |nil=>
  obtain⟨f,ps,c,e⟩:=h
  injection e with e1 e2
  subst e1
  have eb:B=[]:=by
   have:=congrArg List.length e2
   rw[List.length_append]at this
   exact List.length_eq_zero_iff.mp (by simpa using this)
  subst eb
  exact⟨f,ps,a',rfl⟩
 |cons d L=>
  refine⟨?_,h.2⟩
  rcases h.1 with ⟨T,x,e⟩ | ⟨T,x,y,e⟩ | ⟨T,x,e⟩
  ·injection e with e1 e2
   subst e1
   have eb:B=[]:=by
    have:=congrArg List.length e2
    rw[List.length_append]at this
    exact List.length_eq_zero_iff.mp (by simpa using this)
   subst eb
   exact .inl ⟨T,a',rfl⟩
  ·injection e with e1 e2
   subst e1
   obtain⟨z,rfl⟩:∃z,B=[z]:=by
    cases B with
    |nil=>have:=congrArg List.length e2;simp at this
    |cons z B=>
     cases B with
     |nil=>exact⟨z,rfl⟩
     |cons u B=>have:=congrArg List.length e2;simp at this
   exact .inr (.inl ⟨T,z,a',rfl⟩)
  ·injection e with e1 e2
   subst e1
   have eb:B=[]:=by
    have:=congrArg List.length e2
    rw[List.length_append]at this
    exact List.length_eq_zero_iff.mp (by simpa using this)
   subst eb
   exact .inr (.inr ⟨T,a',rfl⟩)
theorem Z2{f:Addr}{fd:FuncData}{CR CB fW:Addr}{fdW:FuncData}(F:Fun K "fits" "Reading.fits" sRFit f fd)(ckR:CR' K CR)(ckB:CB' K CB)(GW:FnOk P w K mg base CX0 1 fW fdW ["self"] (spBAw CB))(bW:Binds K fdW ["self"] [])(eW:Meth K CB "awaits_else" fW):FnOk P w K mg base CX0 2 f fd ["self","word"] (spRFitG CR CB):=by
 refine F.ok scRFit (fun vs H Q E h=>?_) (fun cdv A outer s H vs Q E hr h=>?_)
 ·refine opq fun Gq kq=>?_
  obtain⟨n,r,dx,dl,bl,ds,ks,wd',rfl,_⟩:=h
  refine kq ?_
  clear kq
  rfl
 refine opq fun Gq kq=>?_
 obtain⟨n,r,dx,dl,bl,ds,ks,wd',rfl,hG,q⟩:=h
 refine kq ?_
 clear kq
 refine⟨_,(jd (jx (@j7 _ _ _ _ (@kG _ _ _ (@jT _ _ _ _ _ (pv 0) rfl) (fun _=>rfl))) (jg (jr (@j5 _ _ _ _ _ _ _ _ jI (pv 1) jk (nomark _)))) jp) (jd (jx (@jq _ _ _ _ _ _ _ _ jI (pv 1) jk (nomark _)) (jg (jr (@zI _ _ _ _ _ _ _ _ _ _ _ _ _ _ _ _ _ (@jv _ _ _ _ _ _ _ jy (@jT _ _ _ _ _ (pv 0) rfl) (@zY _ _ _ _ _ _ zk jf) (fun _ _=>rfl)) ckB.cl eW GW hr.m bW .nil pass0 (by rfl)))) jp) (jd (jx (@jq _ _ _ _ _ _ _ _ jI (pv 1) jk (nomark _)) (jg (jr (@YQ _ _ _ _ (@zI _ _ _ _ _ _ _ _ _ _ _ _ _ _ _ _ _ (@jv _ _ _ _ _ _ _ jy (@jT _ _ _ _ _ (pv 0) rfl) (@zY _ _ _ _ _ _ zk jf) (fun _ _=>rfl)) ckB.cl eW GW hr.m bW .nil pass0 (by rfl))))) jp) (jg (jr (@j5 _ _ _ _ _ _ _ _ qm (pv 1) jk (nomark _))))))),?_⟩
 try dsimp only[cxOf,Cx.nox,Cx.wish]
 have hbl:=hG.bv
 have e1:(!(ks.reverse.map fun k=>V.ref k.b).isEmpty)=!ks.isEmpty:=by cases ks<;>simp
 refine seqF fun F1 f1=>⟨_,rfl,r,CR,dx,_,_,rfl,hG.ins,ckR.cl,ckR.n2,rfl,_,.inl ⟨_,SqL.of hbl,rfl⟩,?_⟩
 rw[e1]
 cases ks with
 |nil=>exact ifY rfl ⟨_,rfl,rfl,q⟩
 |cons k ks'=>
  have z2:atI (((k::ks').reverse.map fun k=>V.ref k.b)) (-1)=some (.ref k.b):=kK.2.2
  have z3:=hG.kv k List.mem_cons_self
  have eab:awB (ab k)=(if k.R.isIf=true then decide (k.bs.length=1) else false):=by unfold awB ab;rw[List.length_map]
  have q:Q (.bl (if V.str wd'=V.str "else" then awB (ab k) else if V.str wd'=V.str "end" then !awB (ab k) else !decide (V.str wd'=V.str "def"))) H:=q
  refine ifX rfl (f1 _ _ ?_)
  clear f1
  by_cases c1:V.str wd'=V.str "else"
  ·rw[if_pos c1,eab]at q
   exact seqF fun F1 f1=>⟨_,rfl,rfl,_,rfl,ifY (decide_eq_true c1) ⟨_,rfl,r,CR,dx,_,_,rfl,hG.ins,ckR.cl,ckR.n2,rfl,_,rfl,bl,_,_,_,rfl,rfl,SqL.of hbl,z2,k.b,k.dx,_,rfl,z3.ins,rfl,n,k,rfl,z3,q⟩⟩
  ·rw[if_neg c1]at q
   refine seqF fun F1 f1=>⟨_,rfl,rfl,_,rfl,ifX (decide_eq_false c1) (f1 _ _ ?_)⟩
   clear f1
   by_cases c2:V.str wd'=V.str "end"
   ·rw[if_pos c2,eab]at q
    exact seqF fun F1 f1=>⟨_,rfl,rfl,_,rfl,ifY (decide_eq_true c2) ⟨_,rfl,r,CR,dx,_,_,rfl,hG.ins,ckR.cl,ckR.n2,rfl,_,rfl,bl,_,_,_,rfl,rfl,SqL.of hbl,z2,k.b,k.dx,_,rfl,z3.ins,rfl,n,k,rfl,z3,_,rfl,q⟩⟩
   ·rw[if_neg c2]at q
    refine seqF fun F1 f1=>⟨_,rfl,rfl,_,rfl,ifX (decide_eq_false c2) (f1 _ _ ?_)⟩
    exact⟨_,rfl,rfl,q⟩
theorem fit_stp{R:Rw'}{L:List (Rw'×List Bd)}(hw:WfL L)(hf:fitB R.word L=true)(ds:List Df):∃ds' L',Stp R ds L ds' L'/\WfL L':=by
 have ne:∀{a b:Str},a≠b->V.str a≠V.str b:=fun h z=>h (by injection z)
 cases L with
 |nil=>
  have e:V.str R.word=V.str "def":=of_decide_eq_true hf
  cases R with
  |df f ps=>exact⟨_,_,.df f ps ds,f,ps,.nil,rfl⟩
  |lf l=>
   cases l with
   |rd x T=>exact absurd e (ne (show Str.ofString "read"≠"def" by decide+kernel))
   |st x T=>exact absurd e (ne (show Str.ofString "set"≠"def" by decide+kernel))
   |wr T U=>exact absurd e (ne (show Str.ofString "write"≠"def" by decide+kernel))
   |cl x f ts=>exact absurd e (ne (show Str.ofString "call"≠"def" by decide+kernel))
   |gv T=>exact absurd e (ne (show Str.ofString "give"≠"def" by decide+kernel))
  |ifr T=>exact absurd e (ne (show Str.ofString "if"≠"def" by decide+kernel))
  |whr T=>exact absurd e (ne (show Str.ofString "while"≠"def" by decide+kernel))
  |els=>exact absurd e (ne (show Str.ofString "else"≠"def" by decide+kernel))
  |fin=>exact absurd e (ne (show Str.ofString "end"≠"def" by decide+kernel))
 |cons c L=>
  obtain⟨R',B,a,rfl⟩:=hw.top
  have hf:(if V.str R.word=V.str "else" then awB (R',B++[a]) else if V.str R.word=V.str "end" then !awB (R',B++[a]) else !decide (V.str R.word=V.str "def"))=true:=hf
  cases R with
  |df f ps=>
   have hf:(if V.str (Str.ofString "def")=V.str "else" then awB (R',B++[a]) else if V.str (Str.ofString "def")=V.str "end" then !awB (R',B++[a]) else !decide (V.str (Str.ofString "def")=V.str "def"))=true:=hf
   rw[if_neg (ne (by decide+kernel)),if_neg (ne (by decide+kernel)),decide_eq_true rfl]at hf
   cases hf
  |lf l=>exact⟨_,_,.lf l ds R' B a L,hw.put⟩
  |ifr T=>exact⟨_,_,.ifr T ds (R',B++[a]) L,.inl ⟨T,.nil,rfl⟩,hw⟩
  |whr T=>exact⟨_,_,.whr T ds (R',B++[a]) L,.inr (.inr ⟨T,.nil,rfl⟩),hw⟩
  |els=>
   have hf:(if V.str (Str.ofString "else")=V.str "else" then awB (R',B++[a]) else if V.str (Str.ofString "else")=V.str "end" then !awB (R',B++[a]) else !decide (V.str (Str.ofString "else")=V.str "def"))=true:=hf
   rw[if_pos rfl]at hf
   cases L with
   |nil=>
    obtain⟨f,ps,x,e⟩:=hw
    rw[e]at hf
    cases hf
   |cons d L=>
    rcases hw.1 with ⟨T,x,e⟩ | ⟨T,x,y,e⟩ | ⟨T,x,e⟩
    ·rw[e]
     exact⟨_,_,.els T ds x (d::L),.inr (.inl ⟨T,x,.nil,rfl⟩),hw.2⟩
    ·rw[e]at hf;cases hf
    ·rw[e]at hf;cases hf
  |fin=>
   have hf:(if V.str (Str.ofString "end")=V.str "else" then awB (R',B++[a]) else if V.str (Str.ofString "end")=V.str "end" then !awB (R',B++[a]) else !decide (V.str (Str.ofString "end")=V.str "def"))=true:=hf
   rw[if_neg (ne (by decide+kernel)),if_pos rfl]at hf
   cases L with
   |nil=>
    obtain⟨f,ps,x,e⟩:=hw
    rw[e]
    exact⟨_,_,.ed f ps ds x,trivial⟩
   |cons d L=>
    obtain⟨R2,B2,a2,rfl⟩:=hw.2.top
    rcases hw.1 with ⟨T,x,e⟩ | ⟨T,x,y,e⟩ | ⟨T,x,e⟩
    ·rw[e]at hf;cases hf
    ·rw[e]
     exact⟨_,_,.ei T ds x y R2 B2 a2 L,hw.2.put⟩
    ·rw[e]
     exact⟨_,_,.ew T ds x R2 B2 a2 L,hw.2.put⟩
theorem qk{t o:Str}{post:List Str}(ho:BadW o):∀{pre:List Str} {L F:List (List Pc)},Pars (pre++t::post) L F->ParsN (pre++o::post) L
 | [],L,F,h=>by
  refine .inr (.inr (.inl ⟨ho,?_⟩))
  rcases h with ⟨_,M,L',rfl,_⟩ | ⟨_,i,T,U,M,L',rfl,_⟩ | ⟨_,_,p,M,L',_,rfl,_⟩<;>intro z<;>cases z
 |w::pre,L,F,h=>by
  rcases h with ⟨e,M,L',rfl,h⟩ | ⟨e,i,T,U,M,L',rfl,h⟩ | ⟨e1,e2,p,M,L',hp,rfl,h⟩
  ·exact .inl ⟨e,(by intro z;cases z),qk ho h⟩
  ·exact .inr (.inl ⟨e,_,_,rfl,.inr ⟨i,T,U,rfl,.inr ⟨M,L',rfl,qk ho h⟩⟩⟩)
  ·exact .inr (.inr (.inr ⟨e1,e2,p,M,L',hp,rfl,qk ho h⟩))
theorem XA{ns:List Str}{o:Str}(ho:BadW o)(h:o∈ns):ns.all isName=false:=by
 rw[List.all_eq_false]
 exact⟨o,h,by rw[ho.2.1];decide⟩
theorem Ys{R:Rw'}(hR:R.Ok){x t o:Str}{pre post:List Str}(e:R.toks=x::(pre++t::post))(ho:BadW o):NoRow (x::(pre++o::post)):=by
 have mo:o∈pre++o::post:=by simp
 cases Xy hR with
 |df f ps e'=>
  subst e'
  have e:Str.ofString "def"::f::ps=x::(pre++t::post):=e
  injection e with e1 e2
  exact .inl ⟨e1.symm,.inr (XA ho mo)⟩
 |row x' ns Ts m e' h1 h2 h3 h4 h5 h6 h7=>
  rw[e']at e
  injection e with e1 e2
  subst e1
  refine .inr (.inr ⟨h2,ns.length,m,h1,?_⟩)
  have hP:=Qg (Ts:=Ts) fun T hT=>(h4 T hT).1
  have term:∀a',pre=ns++a'->(Ts.map Tm.toks).flatten=a'++t::post->ParsN ((pre++o::post).drop ns.length) [[]]:=fun a' ep ef=>by
   rw[ep,List.append_assoc,List.drop_left]
   rw[ef]at hP
   exact qk ho hP
  rcases List.append_eq_append_iff.mp e2 with ⟨a',ep,ef⟩ | ⟨c',en,ec⟩
  ·exact .inl (term a' ep ef)
  ·cases c' with
   |nil=>exact .inl (term [] (by rw[en];simp) (by simpa using ec.symm))
   |cons u c'=>
    injection ec with e3 e4
    subst e3
    have eq1:pre++o::post=(pre++o::c')++(Ts.map Tm.toks).flatten:=by rw[e4];simp
    have el:ns.length=(pre++o::c').length:=by rw[en];simp
    refine .inr ⟨Ts,by rw[eq1,el,List.drop_left];exact hP,by omega,.inr (.inl (XA ho (by rw[eq1,el,List.take_left];simp)))⟩
noncomputable def wnB(w:Str):Bool:=w.cps.toList.all (fun c=>decide (97<=c)&&decide (c<=122))&&(decide (1<=w.length)&&(decide (w.length<=8)&&!decide (w∈resv)))
theorem wnB_ok{w:Str}(h:wnB w=true):WN w:=by
 unfold wnB at h
 simp only[Bool.and_eq_true,List.all_eq_true,decide_eq_true_eq,Bool.not_eq_true',decide_eq_false_iff_not]at h
 exact⟨⟨fun c hc=>h.1 c hc,h.2.1,h.2.2.1⟩,h.2.2.2⟩
noncomputable def sgB(w:Str):Option Nat:=(List.range 6).find? fun i=>decide (w=sgn i)
noncomputable def numB(w:Str):Nat:=w.cps.toList.foldl (fun n c=>10*n+(c - 48)) 0
noncomputable def clsB(w:Str):Option (Option Pc):=
 match sgB w with
 |some i=>some (some (.sg i))
 |none=>
  if wnB w=true then some (some (.tm (.var w)))
  else if w=Str.ofString (toString (numB w:Int))/\(numB w:Int) < 1000000000000000000 then some (some (.tm (.num (numB w:Int))))
  else if w∉signs/\isName w=false/\isNum w=false/\w.length<=1000/\w≠"("/\w≠")" then some none else none
theorem Km{w:Str}{p:Pc}(h:clsB w=some (some p)):PcW p w:=by
 unfold clsB at h
 cases hs:sgB w with
 |some i=>
  rw[hs]at h
  cases h
  have h1:=List.find?_some hs
  have h2:=List.mem_of_find?_eq_some hs
  exact⟨List.mem_range.mp h2,of_decide_eq_true h1⟩
 |none=>
  rw[hs]at h
  simp only at h
  split at h
  ·cases h;rename_i hw;exact⟨wnB_ok hw,rfl⟩
  ·split at h
   ·cases h;rename_i hw;exact⟨⟨Int.natCast_nonneg _,hw.2⟩,hw.1⟩
   ·split at h<;>cases h
theorem Qk{w:Str}(h:clsB w=some none):BadW w:=by
 unfold clsB at h
 cases hs:sgB w with
 |some i=>rw[hs]at h;cases h
 |none=>
  rw[hs]at h
  simp only at h
  split at h
  ·cases h
  ·split at h
   ·cases h
   ·split at h
    ·rename_i hw;exact hw
    ·cases h
noncomputable def refB:List Str->List (List Pc)->Bool
 | [],[]=>false
 | [],M::L'=>!L'.isEmpty||!M.all Pc.isTm
 |_::_,[]=>false
 |w::ws,M::L'=>if w="(" then refB ws ([]::M::L') else if w=")" then (if M.length≠3 then true else match M,L' with
   | [.sg _,.tm _,.tm _],[]=>true
   | [.sg i,.tm T,.tm U],N::L''=>refB ws ((N++[.tm (.op i T U)])::L'')
   |_,_=>false) else match clsB w with
  |some none=>true
  |some (some p)=>refB ws ((M++[p])::L')
  |none=>false
noncomputable def parB:List Str->List (List Pc)->Option (List (List Pc))
 | [],L=>some L
 |_::_,[]=>none
 |w::ws,M::L'=>if w="(" then parB ws ([]::M::L') else if w=")" then (match M,L' with
   | [.sg i,.tm T,.tm U],N::L''=>parB ws ((N++[.tm (.op i T U)])::L'')
   |_,_=>none) else match clsB w with
  |some (some p)=>parB ws ((M++[p])::L')
  |_=>none
theorem Js:∀{ws:List Str} {L:List (List Pc)},refB ws L=true->ParsN ws L
 | [],[],h=>by cases h
 | [],M::L',h=>by
  refine⟨M,L',rfl,?_⟩
  have h:(!L'.isEmpty||!M.all Pc.isTm)=true:=h
  rw[Bool.or_eq_true]at h
  rcases h with h |h
  ·left;intro z;rw[z]at h;cases h
  ·right;simpa using h
 |_::_,[],h=>by cases h
 |w::ws,M::L',h=>by
  unfold refB at h
  split at h
  ·rename_i e;exact .inl ⟨e,(by intro z;cases z),Js h⟩
  ·rename_i e1
   split at h
   ·rename_i e2
    refine .inr (.inl ⟨e2,M,L',rfl,?_⟩)
    split at h
    ·rename_i e3;exact .inl e3
    ·split at h
     ·exact .inr ⟨_,_,_,rfl,.inl rfl⟩
     ·exact .inr ⟨_,_,_,rfl,.inr ⟨_,_,rfl,Js h⟩⟩
     ·cases h
   ·rename_i e2
    split at h
    ·rename_i e3;exact .inr (.inr (.inl ⟨Qk e3,by intro z;cases z⟩))
    ·rename_i p e3;exact .inr (.inr (.inr ⟨e1,e2,p,M,L',Km e3,rfl,Js h⟩))
    ·cases h
theorem Jt:∀{ws:List Str} {L F:List (List Pc)},parB ws L=some F->Pars ws L F
 | [],L,F,h=>by unfold parB at h;cases h;rfl
 |_::_,[],F,h=>by unfold parB at h;cases h
 |w::ws,M::L',F,h=>by
  unfold parB at h
  split at h
  ·rename_i e;exact .inl ⟨e,M,L',rfl,Jt h⟩
  ·rename_i e1
   split at h
   ·rename_i e2
    split at h
    ·exact .inr (.inl ⟨e2,_,_,_,_,_,rfl,Jt h⟩)
    ·cases h
   ·rename_i e2
    split at h
    ·rename_i p e3;exact .inr (.inr ⟨e1,e2,p,M,L',Km e3,rfl,Jt h⟩)
    ·cases h
noncomputable def noRowC(x:Str)(r:List Str):Bool:=if x="def" then r.isEmpty||!r.all isName else if x∈badHeads then true else
  match shp.find? fun c=>decide (c.1=x) with
  |none=>false
  |some c=>decide (0<=c.2.1)&&(refB (r.drop c.2.1.toNat) [[]]||match parB (r.drop c.2.1.toNat) [[]] with
   |some [M]=>M.all Pc.isTm&&(decide (M.length<=1000)&&(decide (r.length < c.2.1.toNat)||(!(r.take c.2.1.toNat).all isName||match c.2.2 with
    | .int mm=>decide ((M.length:Int)≠mm)
    |_=>false)))
   |_=>false)
noncomputable def noRowB:List Str->Bool
 | []=>false
 |x::r=>noRowC x r
theorem Zd:∀{M:List Pc},M.all Pc.isTm=true->∃Ts:List Tm,M=Ts.map Pc.tm/\Ts.length=M.length
 | [],_=>⟨[],rfl,rfl⟩
 | .sg i::M,h=>by cases h
 | .tm T::M,h=>by
  have h:M.all Pc.isTm=true:=h
  obtain⟨Ts,e,l⟩:=Zd h
  exact⟨T::Ts,by rw[e];rfl,by rw[List.length_cons,List.length_cons,l]⟩
theorem qZ{ws:List Str}(h:noRowB ws=true):NoRow ws:=by
 cases ws with
 |nil=>cases h
 |cons x r=>
  have h:noRowC x r=true:=h
  unfold noRowC at h
  split at h
  ·rename_i e
   refine .inl ⟨e,?_⟩
   rw[Bool.or_eq_true]at h
   rcases h with h |h
   ·exact .inl (List.isEmpty_iff.mp h)
   ·exact .inr (by simpa using h)
  ·rename_i e
   split at h
   ·rename_i hb;exact .inr (.inl ⟨e,hb⟩)
   ·split at h
    ·cases h
    ·rename_i c hc
     have h1:=List.find?_some hc
     have h2:=List.mem_of_find?_eq_some hc
     have h1:c.1=x:=of_decide_eq_true h1
     rw[Bool.and_eq_true]at h
     obtain⟨h0,h⟩:=h
     have h0:0<=c.2.1:=of_decide_eq_true h0
     have ek:((c.2.1.toNat:Nat):Int)=c.2.1:=Int.toNat_of_nonneg h0
     refine .inr (.inr ⟨e,c.2.1.toNat,c.2.2,by rw[ek,<- h1];exact h2,?_⟩)
     rw[Bool.or_eq_true]at h
     rcases h with h |h
     ·exact .inl (Js h)
     ·split at h
      ·rename_i M hp
       simp only[Bool.and_eq_true,Bool.or_eq_true,decide_eq_true_eq]at h
       obtain⟨a1,a2,a3⟩:=h
       obtain⟨Ts,eM,lM⟩:=Zd a1
       rw[eM]at hp
       refine .inr ⟨Ts,Jt hp,by omega,?_⟩
       rcases a3 with a3 |a3 |a3
       ·exact .inl a3
       ·exact .inr (.inl (by simpa using a3))
       ·split at a3
        ·rename_i mm em
         refine .inr (.inr ⟨mm,em,?_⟩)
         rw[lM]
         simpa using a3
        ·cases a3
      ·cases h
noncomputable def badRows:List Str:=(["set","set x","set x 1 2","set 1 x","set x ()","set x (+ 1)","set x (+ 1 2","set x (+ 1 2 3)","set x + 1 2","set x (^ 1 2)","set x (+- 1 2)","set x (<= 1 2)","set x 01","set x -1","set x +1","set x 1_0","set x 1.0","set x 1000000000000000000","set Abc 1","set def 1","set abcdefghi 1","set x end","set x 1)","set (x) 1","set x (+ 1 2) )","set x (1)","set x (x)","set x (( + 1 2))","set x y z","read x","read x 1 2","read 1 2","read","write 1","write","write 1 2 3","write x := 2","call x","call","call x 1","call 1 f","call x f if","call x f (","give","give 1 2","give give","if","if 1 2","if if","while","while 1 2","while (+ 1 2","else 1","end 1","end end","def","def 1","def if","def f 1","def f set","defs f","sets x 1","se x 1","foo","x = 1","1","(set x 1)","setset x 1","set, x 1","givewhile 1","i 1","'end'","elseend","set x (+ 1 2)(","set x (+ 1, 2)","call x f,"]:List String).map Str.ofString
theorem Ze:∀r∈badRows,noRowB (wordsS r)=true:=by decide+kernel
theorem bad_len:∀r∈badRows,10∉r.l/\r.length<=100/\(∀x∈wordsS r,x.length<=1000)/\(wordsS r).length<=100:=by decide+kernel
noncomputable abbrev sRead:Stmt:=top 27
def Rds:List Str->List Df->List (Rw'×List Bd)->List Df->Prop
 | [],ds,L,D=>L=[]/\ds=D
 |row::rows,ds,L,D=>(wordsS row=[]/\Rds rows ds L D)∨∃R ds' L',wordsS row=Rw'.toks R/\R.Ok/\Stp R ds L ds' L'/\Rds rows ds' L' D
theorem nl_eq:Str.ofString "\n"=⟨#[10]⟩:=by decide+kernel
def spRead:Sp:=fun vs H Q _=>∃(text:Str) (D:List Df),vs=[.str text]/\text.length<=1000000/\(∀x∈Txt.split text "\n",x.length<=20000)/\(Txt.split text "\n").length<=99999/\Rds (Txt.split text "\n") [] [] D/\
 ∀(t:Addr) (xs:List V) (H':Hp),H' t=some (.tup xs)->DfsV H' D xs->Same H H'->Q (.ref t) H'
theorem XB{r:Rw'}:∃x ys,r.toks=x::ys:=by
 cases r with
 |lf l=>cases l<;>exact⟨_,_,rfl⟩
 |_=>exact⟨_,_,rfl⟩
inductive RI(text:Str)(r dx dl bl rl CR CB:Addr)(rows:List Str)(D:List Df)(H:Hp)(i:Nat)(σ:L2.St)(H':Hp):Prop
 |mk (o3 o4 o5 o6:Option V) (ds:List Df) (ks:List Bk) (e0:σ=[some (.str text),some (.ref r),some (.ref rl),o3,o4,o5,o6]) (e1:Rdg i CR CB H' r dx dl bl ds ks) (e2:H' rl=some (.lst (rows.map V.str))) (e3:Rds (rows.drop i) ds (ks.map ab) D) (e4:Same H H') (e5:∀a∈mts dl bl ks,H a=none/\a≠rl):RI text r dx dl bl rl CR CB rows D H i σ H'
theorem scRead:FnScope ["text","reading","rows","line","row","words","taken"] ["text"] (defScope sRead):=fsc
theorem ok_read{f:Addr}{fd:FuncData}{CR CB fI fW fR fF fT:Addr}{fdI fdW fdR fdF fdT:FuncData}(F:Fun K "read" "read" sRead f fd)(ckR:CR' K CR)(mkR:Mk K CR fI)(GI:FnOk P w K mg base CX0 1 fI fdI ["self"] (spRIni CR CB))(bI:Binds K fdI ["self"] [])(mRd:mg "Reading"=some (.ref CR))(GW:FnOk1 P w K mg base CX0 1 fW fdW ["row"] spWordsR)(bW:Binds K fdW ["row"] [])(kW:keepIn K (.ref fW)=true)(mW:mg "words_of_reader"=some (.ref fW))(GR:FnOk P w K mg base CX0 5 fR fdR ["words"] spRowR)(bR:Binds K fdR ["words"] [])(kR:keepIn K (.ref fR)=true)(mR:mg "row_of_reader"=some (.ref fR))(GF:FnOk P w K mg base CX0 2 fF fdF ["self","word"] (spRFit CR CB))(bF:Binds K fdF ["self","word"] [])(eF:Meth K CR "fits" fF)(GT:FnOk P w K mg base CX0 3 fT fdT ["self","row"] (spRTk CR CB))(bT:Binds K fdT ["self","row"] [])(eT:Meth K CR "take" fT)(men:mg "enumerate"=none)(mtu:mg "tuple"=none):FnOk P w K mg base CX0 6 f fd ["text"] spRead:=by
 refine F.ok scRead (fun vs H Q E h=>?_) (fun cdv A outer s H vs Q E hr h=>?_)
 ·refine opq fun Gq kq=>?_
  obtain⟨text,D,rfl,_⟩:=h
  refine kq ?_
  clear kq
  rfl
 refine opq fun Gq kq=>?_
 obtain⟨text,D,rfl,ht,hL,hM,hD,q⟩:=h
 refine kq ?_
 clear kq
 refine⟨_,(jd (js (i:=1) scRead.nd rfl (Or.inl rfl) (@K0 _ _ _ _ _ _ _ _ _ _ _ _ _ _ mkR GI hr.m rfl mRd bI .nil pass0 (by decide))) (@Kf _ _ _ _ _ (@Xp _ (2) _ _ _ _ _ scRead.nd rfl (Or.inl rfl) (@Kg _ _ _ _ _ _ _ _ (by decide+kernel) (pv 0) (by rfl) (by rfl) (by rfl)) (by rfl) (by first |exact .inl rfl |exact .inr rfl)) (@zK _ _ _ _ _ (@Xq _ _ _ _ _ _ _ _ PassesOwn.never rfl (@Qc _ _ _ _ _ _ _ _ _ _ _ rfl men (ja (pv 2) jc) (by rfl) (by rfl) (by rfl)) (@qS _ _ _ _ _ _ rfl (jY (jD (i:=3) scRead.nd rfl (Or.inl rfl)) (jY (jD (i:=4) scRead.nd rfl (Or.inl rfl)) qe)) (by rfl) (by rfl)) (@zK _ _ _ _ _ (@KC _ (5) _ _ _ _ _ scRead.nd rfl (Or.inl rfl) (@K9 _ _ _ _ _ _ _ _ _ _ _ _ _ _ _ _ GW hr.m rfl mW kW bW .nil pass0 (ja (pv 4) jc) (by decide) (by rfl) (by rfl)) (by rfl) (by first |exact .inl rfl |exact .inr rfl)) (@PSs.one _ _ _ (jd (jx (@j7 _ _ _ _ (@kG _ _ _ (pv 5) (fun _=>rfl))) (jg (@zD _ _)) jp) (jd (js (i:=6) scRead.nd rfl (Or.inl rfl) (ji GR hr.m rfl mR kR bR .nil pass0 (ja (pv 5) jc))) (jd (jx (@PW.pt _ _ _ (@kL _ _ _ _ _ _ _ (@zO _ _ _ _ _ _ (@zE _ _ _ _ _ (pv 6)) (by rfl)) (@kC _ _ _ _ (@j7 _ _ _ _ (@jW _ _ _ (@qB _ _ _ _ _ _ _ _ _ _ _ _ _ _ _ _ _ _ _ _ (pv 1) ckR.cl eF GF hr.m bF .nil pass0 (ja (@jv _ _ _ _ _ _ _ jK (pv 6) jf (fun _ _=>rfl)) jc) (by rfl) (by rfl) (by rfl)) (by intro _;rfl)))))) (@zZ _ _) jp) (jg (jN (@qB _ _ _ _ _ _ _ _ _ _ _ _ _ _ _ _ _ _ _ _ (pv 1) ckR.cl eT GT hr.m bT .nil pass0 (ja (pv 6) jc) (by rfl) (by rfl) (by rfl))))))))) (by intro _;rfl)) (@PSs.one _ _ _ (jd (jx (@kG _ _ _ (@jT _ _ _ _ _ (pv 1) rfl) (fun _=>rfl)) (@zZ _ _) jp) (jg (jr (@jG _ _ _ _ _ _ _ _ _ jA rfl mtu boot_tuple (ja (@jT _ _ _ _ _ (pv 1) rfl) jc) (by decide) (by decide) (by rfl) (by rfl))))))))),?_⟩
 try dsimp only[cxOf,Cx.nox,Cx.wish]
 have big:=line24
 refine seqF fun F1 f1=>fun r dx nr ndx ne=>⟨r,dx,rfl,jb,fun dl bl H1 nd nb hG kb=>⟨rfl,f1 _ _ ?_⟩⟩
 clear f1
 have ndx':upd H dx (.own r) r=none:=by rw[jh (Ne.symm ne)];exact nr
 have s1:Same H (upd (upd H dx (.own r)) r (.ins CR dx [])):=(je ndx).trans (je ndx')
 have s2:Same H H1:=fun b o e=>kb b o (jj e nr) (s1 _ _ e)
 refine seqF fun F1 f1=>⟨_,rfl,text,rfl,by omega,fun rl nrl=>f1 _ _ ?_⟩
 clear f1
 generalize eR:Txt.split text "\n"=rows at*
 have s3:Same H1 (upd H1 rl (.lst (rows.map V.str))):=je nrl
 have nl1:=hG.lsts
 have hG1:=hG.same s3
 refine seqF fun F1 f1=>forE fun J j=>⟨_,rfl,rl,rfl,⟨_,SqL.of jb⟩,j _ _ ?_⟩
 clear j
 refine Ki (K:=K) (a:=rl) (xs:=rows.map V.str) (RI text r dx dl bl rl CR CB rows D H) ⟨_,_,_,_,[],[],rfl,hG1,jb,by rw[List.drop_zero];exact hD,s2.trans s3,fun a ha=>?_⟩ (fun i σ H2 _ h=>?_) ?_ ?_
 ·refine⟨?_,fun e=>?_⟩
  ·rcases List.mem_cons.mp ha with rfl |ha
   ·exact s1.free nd
   ·rcases List.mem_cons.mp ha with rfl |ha
    ·exact s1.free nb
    ·exact absurd ha List.not_mem_nil
  ·obtain⟨vs,z⟩:=nl1 a ha
   rw[e,nrl]at z
   cases z
 ·obtain⟨o3,o4,o5,o6,ds,ks,rfl,e1,e2,e3,e4,e5⟩:=h
  exact SqL.of e2
 ·intro E _ i x p σ H2 hx np fE Gq kq h
  obtain⟨o3,o4,o5,o6,ds,ks,rfl,e1,e2,e3,e4,e5⟩:=h
  clear f1
  rw[List.getElem?_map]at hx
  obtain⟨row,hrow,rfl⟩:=Option.map_eq_some_iff.mp hx
  have hil:i < rows.length:=(List.getElem?_eq_some_iff.mp hrow).1
  have ed:rows.drop i=row::rows.drop (i+1):=by
   rw[List.drop_eq_getElem_cons hil]
   have:=(List.getElem?_eq_some_iff.mp hrow).2
   rw[this]
  rw[ed]at e3
  have lr:=hL row (List.mem_of_getElem? hrow)
  refine kq ?_
  clear kq
  have s4:Same H2 (upd H2 p (.tup [.int ((i+1:Nat):Int),.str row])):=je np
  refine tgE fun F6 f6=>⟨p,_,rfl,SqT.of jb,rfl,_,_,rfl,_,_,rfl,rfl,f6 _ _ ?_⟩
  clear f6
  show tSeq (tAsg _ _) _ E _ (upd H2 p (.tup [.int ((i+1:Nat):Int),.str row]))
  generalize upd H2 p (.tup [.int ((i+1:Nat):Int),.str row])=H3 at s4
  refine seqF fun F1 f1=>⟨_,rfl,row,rfl,lr,fun wl H4 nwl hwl s5=>f1 _ _ ?_⟩
  clear f1
  have s6:=s4.trans s5
  rcases e3 with ⟨ew,e3⟩ | ⟨R',ds',L',ew,eo,est,e3⟩
  ·rw[ew]at hwl
   refine seqF fun F1 f1=>⟨_,rfl,_,.inl ⟨_,SqL.of hwl,rfl⟩,ifY rfl ?_⟩
   exact(fE _ _ ⟨_,_,_,_,ds,ks,rfl,(e1.same s6).up (Nat.le_succ _),s6 _ _ e2,e3,e4.trans s6,e5⟩).2
  ·rw[ew]at hwl
   obtain⟨x0,ys0,et⟩:=XB (r:=R')
   have nem:(!(R'.toks.map V.str).isEmpty)=true:=by rw[et];rfl
   refine seqF fun F1 f1=>⟨_,rfl,_,.inl ⟨_,SqL.of hwl,rfl⟩,?_⟩
   rw[nem]
   refine ifX rfl (f1 _ _ ?_)
   clear f1
   refine seqF fun F1 f1=>⟨_,rfl,wl,R',rfl,hwl,eo,fun t xs H5 ht hR s7=>f1 _ _ ?_⟩
   clear f1
   have s8:=s6.trans s7
   have hG5:=e1.same s8
   obtain⟨zs,rfl⟩:=hR.word
   refine seqF fun F1 f1=>⟨_,rfl,_,rfl,ifX (decide_eq_false (by intro z;cases z)) ⟨_,rfl,r,dx,_,rfl,hG5.ins,rfl,_,rfl,t,_,_,_,rfl,rfl,SqT.of ht,jo (j:=0) rfl,i,r,dx,dl,bl,ds,ds',ks,L',R',rfl,hG5,est,_,rfl,iteF (f1 _ _ ?_)⟩⟩
   clear f1
   refine⟨_,rfl,r,dx,_,rfl,hG5.ins,rfl,_,rfl,i,r,dx,dl,bl,t,_,ds,ds',ks,L',R',rfl,hG5,ht,hR,est,by omega,fun ks' H6 h1 h2 h3 h4=>?_⟩
   have nrm:rl∉mts dl bl ks:=fun m=>(e5 rl m).2 rfl
   refine(fE _ _ ⟨_,_,_,_,ds',ks',rfl,h1,h3 _ _ nrm (s8 _ _ e2),by rw[h2];exact e3,fun b o e=>h3 b o (fun m=>by rw[(e5 b m).1]at e;cases e) (s8 _ _ (e4 _ _ e)),fun a ha=>?_⟩).1
   rcases h4 a ha with z |z
   ·exact e5 a z
   ·exact⟨(e4.trans s8).free z,fun e=>by rw[e,s8 _ _ e2]at z;cases z⟩
 ·intro σ H2 h
  obtain⟨o3,o4,o5,o6,ds,ks,rfl,e1,e2,e3,e4,e5⟩:=h
  refine f1 _ _ ?_
  clear f1
  rw[List.length_map,List.drop_length]at e3
  obtain⟨ek,rfl⟩:=e3
  have:=QE ek
  subst this
  refine seqF fun F1 f1=>⟨_,rfl,r,CR,dx,_,_,rfl,e1.ins,ckR.cl,ckR.n2,rfl,_,.inl ⟨_,SqL.of e1.bv,rfl⟩,ifX rfl (f1 _ _ ?_)⟩
  clear f1
  obtain⟨vs,g1,g2⟩:=e1.dv
  refine⟨_,rfl,r,CR,dx,_,_,rfl,e1.ins,ckR.cl,ckR.n1,rfl,dl,vs,rfl,.inl ⟨SqL.of g1,fun t nt=>?_⟩⟩
  exact q t vs _ jb (g2.mono (Same.tm (je nt))) (e4.trans (je nt))
noncomputable abbrev sInitT:Stmt:=inClass (top 2) 0
def NX(o:HO):Prop:=∀φ,o≠ .ext φ
def Kp(H H':Hp):Prop:=∀b o,NX o->H b=some o->H' b=some o
theorem Kp.of_same{H H':Hp}(s:Same H H'):Kp H H':=fun b o _ e=>s _ _ e
theorem Kp.trans{H H1 H2:Hp}(a:Kp H H1)(b:Kp H1 H2):Kp H H2:=fun c o n e=>b c o n (a c o n e)
theorem XD{H H':Hp}{x T T' C:Addr}{d:Option Addr}{b:Addr}{o:HO}(e:H' b=some o)(n:NX o)(hx:H' x=some (TxO C d T x))(hn:H' T'=none):upd (upd H' T' (TbO T')) x (TxO C d T' x) b=some o:=by
 have n1:b≠x:=fun z=>by
  rw[z,hx]at e
  injection e with e
  exact n _ e.symm
 rw[jh n1,jh (jj e hn)]
 exact e
structure XIn(K:Frag)(C:Addr)(f:Str):Prop where
 x:XCls K C
 no:NoAttr K C f
 cd:∃cd,clsIn K C=some cd/\cd.hasDict=true/\veTail cd.mro=true
def spInit(C:Addr)(f:Str):Sp:=fun vs H Q _=>∃x v,vs=[.ref x,v]/\H x=some (ExO C none x)/\∀dx,H dx=none->Q .non (upd (upd H x (ExO C (some dx) x)) dx (.xd [(f,v)]))
structure XC(P:Program)(w:World)(K:Frag)(mg:Str->Option Value)(base:Heap)(C fI:Addr)(fdI:FuncData)(cn:Str):Prop where
 mkr:XMk K C
 ini:findIn K (.ref C) "__init__"=some (some (.ref fI))
 fn:isFn K (.ref fI)=true
 g:FnOk P w K mg base CX0 1 fI fdI ["self","line"] (spInit C "line")
 b:Binds K fdI ["self","line"] []
 m:mg cn=some (.ref C)
 x:XCls K C
 ty:typeIn K (.ref C)=some (.type "type")
def XO(H:Hp)(C:Addr)(x:Int)(E:XK):Prop:=∀dx H',Kp H H'->H' dx=some (.xd [("line",.int x)])->E (.ref C) (some dx) H'
theorem nx_xd{x:Int}:NX (.xd [("line",.int x)]):=fun φ z=>by cases z
theorem KJ{H:Hp}{x dx C:Addr}{y:Int}{E:XK}(hx:H x=none)(hdx:upd H x (ExO C none x) dx=none)(h:XO H C y E):
  ∀T,upd (upd (upd H x (ExO C none x)) x (ExO C (some dx) x)) dx (.xd [("line",.int y)]) T=none->
   E (.ref C) (some dx) (upd (upd (upd (upd (upd H x (ExO C none x)) x (ExO C (some dx) x)) dx (.xd [("line",.int y)])) T (TbO T)) x (TxO C (some dx) T x)):=by
 intro T hT
 have xd:dx≠x:=fun e=>by rw[e,jb]at hdx;cases hdx
 have xT:T≠x:=fun e=>by rw[e,jh (Ne.symm xd),jb]at hT;cases hT
 have dT:T≠dx:=fun e=>by rw[e,jb]at hT;cases hT
 have hT0:H T=none:=by rw[jh dT,jh xT,jh xT]at hT;exact hT
 have hd0:H dx=none:=by rw[jh xd]at hdx;exact hdx
 refine h dx _ (fun b o _ e=>?_) ?_
 ·rw[jh (jj e hx),jh (jj e hT0),jh (jj e hd0),jh (jj e hx),jh (jj e hx)]
  exact e
 ·rw[jh xd,jh (Ne.symm dT),jb]
theorem QF{H:Hp}{x dx C:Addr}{o:HO}(hdx:upd H x (ExO C none x) dx=none):upd (upd (upd H x (ExO C none x)) x (ExO C (some dx) x)) dx o x=some (ExO C (some dx) x):=by
 have ne:dx≠x:=fun e=>by rw[e,jb]at hdx;cases hdx
 rw[jh (Ne.symm ne),jb]
def RdsN:List Str->Nat->List Df->List (Rw'×List Bd)->Nat->Prop
 | [],n,_,L,line=>L≠[]/\line=n+1
 |row::rows,n,ds,L,line=>(wordsS row=[]/\RdsN rows (n+1) ds L line)∨(NoRow (wordsS row)/\line=n+1)∨
   ∃R,wordsS row=Rw'.toks R/\R.Ok/\((fitB R.word L=false/\line=n+1)∨∃ds' L',Stp R ds L ds' L'/\RdsN rows (n+1) ds' L' line)
def spReadN(CT:Addr):Sp:=fun vs H _ E=>∃(text:Str) (line:Nat),vs=[.str text]/\text.length<=1000000/\(∀x∈Txt.split text "\n",x.length<=20000/\(∀y∈wordsS x,y.length<=1000)/\(wordsS x).length<=9999)/\(Txt.split text "\n").length<=99999/\RdsN (Txt.split text "\n") 0 [] [] line/\XO H CT (line:Int) E
inductive RN(text:Str)(r dx dl bl rl CR CB:Addr)(rows:List Str)(line:Nat)(H:Hp)(i:Nat)(σ:L2.St)(H':Hp):Prop
 |mk (o3 o4 o5 o6:Option V) (ds:List Df) (ks:List Bk) (e0:σ=[some (.str text),some (.ref r),some (.ref rl),o3,o4,o5,o6]) (e1:Rdg i CR CB H' r dx dl bl ds ks) (e2:H' rl=some (.lst (rows.map V.str))) (e3:RdsN (rows.drop i) i ds (ks.map ab) line) (e4:Same H H') (e5:∀a∈mts dl bl ks,H a=none/\a≠rl):RN text r dx dl bl rl CR CB rows line H i σ H'
theorem scInitT:FnScope ["self","line"] ["self","line"] (defScope sInitT):=fsc
theorem Z3{f:Addr}{fd:FuncData}(F:Fun K "__init__" "NoText.__init__" sInitT f fd){C:Addr}(xi:XIn K C "line"):FnOk P w K mg base CX0 1 f fd ["self","line"] (spInit C "line"):=by
 refine F.ok scInitT (fun vs H Q E h=>?_) (fun cdv A outer s H vs Q E hr h=>?_)
 ·refine opq fun Gq kq=>?_
  obtain⟨x,v,rfl,_⟩:=h
  refine kq ?_
  clear kq
  rfl
 refine opq fun Gq kq=>?_
 obtain⟨x,v,rfl,hx,q⟩:=h
 refine kq ?_
 clear kq
 refine⟨_,(jg (@ps_fldX _ _ _ _ _ _ _ _ (pv 0) (pv 1) (by rfl))),?_⟩
 try dsimp only[cxOf,Cx.nox,Cx.wish]
 refine opq fun Gq kq=>?_
 obtain⟨cd,h1,h2,h3⟩:=xi.cd
 refine kq ?_
 clear kq
 exact⟨_,rfl,_,rfl,x,C,cd,rfl,hx,xi.x,xi.no,h1,h2,h3,fun dx n=>q dx n⟩
theorem Z4{f:Addr}{fd:FuncData}{CR CB fI fW fR fF fT:Addr}{fdI fdW fdR fdF fdT:FuncData}(F:Fun K "read" "read" sRead f fd){CT fIT:Addr}{fdIT:FuncData}(XT:XC P w K mg base CT fIT fdIT "NoText")(ckR:CR' K CR)(mkR:Mk K CR fI)(GI:FnOk P w K mg base CX0 1 fI fdI ["self"] (spRIni CR CB))(bI:Binds K fdI ["self"] [])(mRd:mg "Reading"=some (.ref CR))(GW:FnOk1 P w K mg base CX0 1 fW fdW ["row"] spWordsR)(bW:Binds K fdW ["row"] [])(kW:keepIn K (.ref fW)=true)(mW:mg "words_of_reader"=some (.ref fW))(GR:FnOk P w K mg base CX0 5 fR fdR ["words"] (fun vs H Q E=>spRowR vs H Q E∨spRowN vs H Q E))(bR:Binds K fdR ["words"] [])(kR:keepIn K (.ref fR)=true)(mR:mg "row_of_reader"=some (.ref fR))(GF:FnOk P w K mg base CX0 2 fF fdF ["self","word"] (fun vs H Q E=>spRFit CR CB vs H Q E∨spRFitG CR CB vs H Q E))(bF:Binds K fdF ["self","word"] [])(eF:Meth K CR "fits" fF)(GT:FnOk P w K mg base CX0 3 fT fdT ["self","row"] (spRTk CR CB))(bT:Binds K fdT ["self","row"] [])(eT:Meth K CR "take" fT)(ml:mg "len"=none)(men:mg "enumerate"=none)(mtu:mg "tuple"=none):FnOk P w K mg base (CX1 P w) 6 f fd ["text"] (spReadN CT):=by
 refine F.ok1 scRead (fun vs H Q E h=>?_) (fun cdv A outer s H vs Q E hr h=>?_)
 ·refine opq fun Gq kq=>?_
  obtain⟨text,line,rfl,_⟩:=h
  refine kq ?_
  clear kq
  rfl
 refine opq fun Gq kq=>?_
 obtain⟨text,line,rfl,ht,hL,hM,hD,qn⟩:=h
 refine kq ?_
 clear kq
 refine⟨_,(jd (js (i:=1) scRead.nd rfl (Or.inl rfl) (@K0 _ _ _ _ _ _ _ _ _ _ _ _ _ _ mkR GI hr.m rfl mRd bI .nil pass0 (by decide))) (@Kf _ _ _ _ _ (@Xp _ (2) _ _ _ _ _ scRead.nd rfl (Or.inl rfl) (@Kg _ _ _ _ _ _ _ _ (by decide+kernel) (pv 0) (by rfl) (by rfl) (by rfl)) (by rfl) (by first |exact .inl rfl |exact .inr rfl)) (@zK _ _ _ _ _ (@Xq _ _ _ _ _ _ _ _ PassesOwn.leaving rfl (@Qc _ _ _ _ _ _ _ _ _ _ _ rfl men (ja (pv 2) jc) (by rfl) (by rfl) (by rfl)) (@qS _ _ _ _ _ _ rfl (jY (jD (i:=3) scRead.nd rfl (Or.inl rfl)) (jY (jD (i:=4) scRead.nd rfl (Or.inl rfl)) qe)) (by rfl) (by rfl)) (@zK _ _ _ _ _ (@KC _ (5) _ _ _ _ _ scRead.nd rfl (Or.inl rfl) (@K9 _ _ _ _ _ _ _ _ _ _ _ _ _ _ _ _ GW hr.m rfl mW kW bW .nil pass0 (ja (pv 4) jc) (by decide) (by rfl) (by rfl)) (by rfl) (by first |exact .inl rfl |exact .inr rfl)) (@PSs.one _ _ _ (jd (jx (@j7 _ _ _ _ (@kG _ _ _ (pv 5) (fun _=>rfl))) (jg (@zD _ _)) jp) (jd (js (i:=6) scRead.nd rfl (Or.inl rfl) (ji GR hr.m rfl mR kR bR .nil pass0 (ja (pv 5) jc))) (jd (jx (@PW.pt _ _ _ (@kL _ _ _ _ _ _ _ (@zO _ _ _ _ _ _ (@zE _ _ _ _ _ (pv 6)) (by rfl)) (@kC _ _ _ _ (@j7 _ _ _ _ (@jW _ _ _ (@qB _ _ _ _ _ _ _ _ _ _ _ _ _ _ _ _ _ _ _ _ (pv 1) ckR.cl eF GF hr.m bF .nil pass0 (ja (@jv _ _ _ _ _ _ _ jK (pv 6) jf (fun _ _=>rfl)) jc) (by rfl) (by rfl) (by rfl)) (by intro _;rfl)))))) (jg (@K8 _ _ _ _ _ rfl Kc (@K7 _ _ _ _ _ _ _ _ _ _ _ _ _ _ _ XT.mkr XT.ini XT.fn XT.g hr.m rfl XT.m XT.b pass0 (ja (pv 3) jc) (by decide) (by rfl) (by rfl)))) jp) (jg (jN (@qB _ _ _ _ _ _ _ _ _ _ _ _ _ _ _ _ _ _ _ _ (pv 1) ckR.cl eT GT hr.m bT .nil pass0 (ja (pv 6) jc) (by rfl) (by rfl) (by rfl))))))))) (by intro _;rfl)) (@PSs.one _ _ _ (jd (jx (@kG _ _ _ (@jT _ _ _ _ _ (pv 1) rfl) (fun _=>rfl)) (jg (@K8 _ _ _ _ _ rfl Kc (@K7 _ _ _ _ _ _ _ _ _ _ _ _ _ _ _ XT.mkr XT.ini XT.fn XT.g hr.m rfl XT.m XT.b pass0 (ja (ju jQ (@jz _ _ _ _ _ _ _ _ _ jw rfl ml PySem.boot_len (ja (pv 2) jc) (by decide) (by decide) (by rfl) (by rfl)) jf) jc) (by decide) (by rfl) (by rfl)))) jp) (jg (jr (@jG _ _ _ _ _ _ _ _ _ jA rfl mtu boot_tuple (ja (@jT _ _ _ _ _ (pv 1) rfl) jc) (by decide) (by decide) (by rfl) (by rfl))))))))),?_⟩
 try dsimp only[cxOf,Cx.nox,Cx.wish]
 have big:=line24
 refine seqF fun F1 f1=>fun r dx nr ndx ne=>⟨r,dx,rfl,jb,fun dl bl H1 nd nb hG kb=>⟨rfl,f1 _ _ ?_⟩⟩
 clear f1
 have ndx':upd H dx (.own r) r=none:=by rw[jh (Ne.symm ne)];exact nr
 have s1:Same H (upd (upd H dx (.own r)) r (.ins CR dx [])):=(je ndx).trans (je ndx')
 have s2:Same H H1:=fun b o e=>kb b o (jj e nr) (s1 _ _ e)
 refine seqF fun F1 f1=>⟨_,rfl,text,rfl,by omega,fun rl nrl=>f1 _ _ ?_⟩
 clear f1
 generalize eR:Txt.split text "\n"=rows at*
 have hLw:∀x∈rows,(∀y∈wordsS x,y.length<=1000)/\(wordsS x).length<=9999:=fun x hx=>(hL x hx).2
 have s3:Same H1 (upd H1 rl (.lst (rows.map V.str))):=je nrl
 have nl1:=hG.lsts
 have hG1:=hG.same s3
 refine seqF fun F1 f1=>forE fun J j=>⟨_,rfl,rl,rfl,⟨_,SqL.of jb⟩,j _ _ ?_⟩
 clear j
 refine Ki (K:=K) (a:=rl) (xs:=rows.map V.str) (RN text r dx dl bl rl CR CB rows line H) ⟨_,_,_,_,[],[],rfl,hG1,jb,by rw[List.drop_zero];exact hD,s2.trans s3,fun a ha=>?_⟩ (fun i σ H2 _ h=>?_) ?_ ?_
 ·refine⟨?_,fun e=>?_⟩
  ·rcases List.mem_cons.mp ha with rfl |ha
   ·exact s1.free nd
   ·rcases List.mem_cons.mp ha with rfl |ha
    ·exact s1.free nb
    ·exact absurd ha List.not_mem_nil
  ·obtain⟨vs,z⟩:=nl1 a ha
   rw[e,nrl]at z
   cases z
 ·obtain⟨o3,o4,o5,o6,ds,ks,rfl,e1,e2,e3,e4,e5⟩:=h
  exact SqL.of e2
 ·intro E _ i x p σ H2 hx np fE Gq kq h
  obtain⟨o3,o4,o5,o6,ds,ks,rfl,e1,e2,e3,e4,e5⟩:=h
  clear f1
  rw[List.getElem?_map]at hx
  obtain⟨row,hrow,rfl⟩:=Option.map_eq_some_iff.mp hx
  have hil:i < rows.length:=(List.getElem?_eq_some_iff.mp hrow).1
  have ed:rows.drop i=row::rows.drop (i+1):=by
   rw[List.drop_eq_getElem_cons hil]
   have:=(List.getElem?_eq_some_iff.mp hrow).2
   rw[this]
  rw[ed]at e3
  have lr:=(hL row (List.mem_of_getElem? hrow)).1
  refine kq ?_
  clear kq
  have s4:Same H2 (upd H2 p (.tup [.int ((i+1:Nat):Int),.str row])):=je np
  refine tgE fun F6 f6=>⟨p,_,rfl,SqT.of jb,rfl,_,_,rfl,_,_,rfl,rfl,f6 _ _ ?_⟩
  clear f6
  show tSeq (tAsg _ _) _ E _ (upd H2 p (.tup [.int ((i+1:Nat):Int),.str row]))
  generalize upd H2 p (.tup [.int ((i+1:Nat):Int),.str row])=H3 at s4
  refine seqF fun F1 f1=>⟨_,rfl,row,rfl,lr,fun wl H4 nwl hwl s5=>f1 _ _ ?_⟩
  clear f1
  have s6:=s4.trans s5
  rcases e3 with ⟨ew,e3⟩ | ⟨eN,rfl⟩ | ⟨R',ew,eo,e3⟩
  ·rw[ew]at hwl
   refine seqF fun F1 f1=>⟨_,rfl,_,.inl ⟨_,SqL.of hwl,rfl⟩,ifY rfl ?_⟩
   exact(fE _ _ ⟨_,_,_,_,ds,ks,rfl,(e1.same s6).up (Nat.le_succ _),s6 _ _ e2,e3,e4.trans s6,e5⟩).2
  ·have nem:(!((wordsS row).map V.str).isEmpty)=true:=by
    cases hw0:wordsS row with
    |nil=>rw[hw0]at eN;exact absurd eN id
    |cons x0 ys0=>rfl
   refine seqF fun F1 f1=>⟨_,rfl,_,.inl ⟨_,SqL.of hwl,rfl⟩,?_⟩
   rw[nem]
   refine ifX rfl (f1 _ _ ?_)
   clear f1
   have ww:=hLw row (List.mem_of_getElem? hrow)
   refine seqF fun F1 f1=>⟨_,rfl,.inr ⟨wl,_,rfl,hwl,eN,ww.1,by have:=ww.2;omega,fun H5 s7=>f1 _ _ ?_⟩⟩
   clear f1
   have s8:=s6.trans s7
   refine seqF fun F1 f1=>⟨_,rfl,_,rfl,ifY (decide_eq_true rfl) (iteT ?_)⟩
   refine⟨_,rfl,(by show 1<=1000;decide),fun x0 n0=>⟨x0,_,rfl,jb,fun d0 nd0=>⟨rfl,x0,CT,some d0,rfl,QF nd0,XT.x,XT.ty,KJ n0 nd0 (fun dx' H6 kp hx=>qn dx' H6 (fun b o nx e=>kp b o nx (s8 _ _ (e4 _ _ e))) hx)⟩⟩⟩
  ·rw[ew]at hwl
   obtain⟨x0,ys0,et⟩:=XB (r:=R')
   have nem:(!(R'.toks.map V.str).isEmpty)=true:=by rw[et];rfl
   refine seqF fun F1 f1=>⟨_,rfl,_,.inl ⟨_,SqL.of hwl,rfl⟩,?_⟩
   rw[nem]
   refine ifX rfl (f1 _ _ ?_)
   clear f1
   refine seqF fun F1 f1=>⟨_,rfl,.inl ⟨wl,R',rfl,hwl,eo,fun t xs H5 ht hR s7=>f1 _ _ ?_⟩⟩
   clear f1
   have s8:=s6.trans s7
   have hG5:=e1.same s8
   obtain⟨zs,rfl⟩:=hR.word
   rcases e3 with ⟨hfit,rfl⟩ | ⟨ds',L',est,e3⟩
   ·refine seqF fun F1 f1=>⟨_,rfl,_,rfl,ifX (decide_eq_false (by intro z;cases z)) ⟨_,rfl,r,dx,_,rfl,hG5.ins,rfl,_,rfl,t,_,_,_,rfl,rfl,SqT.of ht,jo (j:=0) rfl,.inr ⟨i,r,dx,dl,bl,ds,ks,R'.word,rfl,hG5,?_⟩⟩⟩
    rw[hfit]
    refine⟨_,rfl,iteT ?_⟩
    refine⟨_,rfl,(by show 1<=1000;decide),fun x0 n0=>⟨x0,_,rfl,jb,fun d0 nd0=>⟨rfl,x0,CT,some d0,rfl,QF nd0,XT.x,XT.ty,KJ n0 nd0 (fun dx' H6 kp hx=>qn dx' H6 (fun b o nx e=>kp b o nx (s8 _ _ (e4 _ _ e))) hx)⟩⟩⟩
   ·refine seqF fun F1 f1=>⟨_,rfl,_,rfl,ifX (decide_eq_false (by intro z;cases z)) ⟨_,rfl,r,dx,_,rfl,hG5.ins,rfl,_,rfl,t,_,_,_,rfl,rfl,SqT.of ht,jo (j:=0) rfl,.inl ⟨i,r,dx,dl,bl,ds,ds',ks,L',R',rfl,hG5,est,_,rfl,iteF (f1 _ _ ?_)⟩⟩⟩
    clear f1
    refine⟨_,rfl,r,dx,_,rfl,hG5.ins,rfl,_,rfl,i,r,dx,dl,bl,t,_,ds,ds',ks,L',R',rfl,hG5,ht,hR,est,by omega,fun ks' H6 h1 h2 h3 h4=>?_⟩
    have nrm:rl∉mts dl bl ks:=fun m=>(e5 rl m).2 rfl
    refine(fE _ _ ⟨_,_,_,_,ds',ks',rfl,h1,h3 _ _ nrm (s8 _ _ e2),by rw[h2];exact e3,fun b o e=>h3 b o (fun m=>by rw[(e5 b m).1]at e;cases e) (s8 _ _ (e4 _ _ e)),fun a ha=>?_⟩).1
    rcases h4 a ha with z |z
    ·exact e5 a z
    ·exact⟨(e4.trans s8).free z,fun e=>by rw[e,s8 _ _ e2]at z;cases z⟩
 ·intro σ H2 h
  obtain⟨o3,o4,o5,o6,ds,ks,rfl,e1,e2,e3,e4,e5⟩:=h
  refine f1 _ _ ?_
  clear f1
  rw[List.length_map,List.drop_length]at e3
  obtain⟨ek,rfl⟩:=e3
  have nek:(!(ks.reverse.map fun k=>V.ref k.b).isEmpty)=true:=by
   cases ks with
   |nil=>exact absurd rfl ek
   |cons k ks=>simp
  refine seqF fun F1 f1=>⟨_,rfl,r,CR,dx,_,_,rfl,e1.ins,ckR.cl,ckR.n2,rfl,_,.inl ⟨_,SqL.of e1.bv,rfl⟩,?_⟩
  rw[nek]
  refine ifY rfl ?_
  refine⟨_,rfl,rl,_,rfl,.inl (SqL.of e2),_,_,rfl,rfl,(by show 1<=1000;decide),fun x0 n0=>⟨x0,_,rfl,jb,fun d0 nd0=>⟨rfl,x0,CT,some d0,rfl,QF nd0,XT.x,XT.ty,KJ n0 nd0 (fun dx' H6 kp hx=>qn dx' H6 (fun b o nx e=>kp b o nx (e4 _ _ e)) (by rw[hx,List.length_map];rfl))⟩⟩⟩
noncomputable abbrev sTold:Stmt:=top 55
theorem bootVE:bootBuiltins "ValueError"=some (.type "ValueError"):=by decide+kernel
theorem qr{X:Cx}{K:Frag}(hK:X.K=K):CallR X (.builtin "isinstance") (fun xs H Q=>∃a C fs y c b,xs=[.ref a,y]/\clsV y=some c/\ExcC H a C fs/\XCls K C/\kitOne K (.ref C) c=some b/\Q (.bl b) H):=by
 subst hK
 exact KP
theorem Ql{X:Cx}{K:Frag}{g:Str}{pos:Pos}{e:Expr}{ta:TE}(hK:X.K=K)(he:PE X e ta)(hb:attributeBase e g X.env (eval e X.env)=eval e X.env):PE X (.Attribute e g pos) (tFldC K ta g):=by
 subst hK
 exact pe_fldC he hb
structure Nt(K:Frag)(CT CB:Addr):Prop where
 x:XCls K CT
 kT:kitOne K (.ref CT) (.ref CT)=some true
 kV:kitOne K (.ref CT) (.type "ValueError")=some true
 kb:kitOne K (.type "int") (.type "bool")=some false
 mb:mroIn K CT (.ref CB)=some true
 no:NoAttr K CT "line"
def TxtOk(text:Str):Prop:=text.length<=1000000/\(∀x∈Txt.split text "\n",x.length<=20000/\(∀y∈wordsS x,y.length<=1000)/\(wordsS x).length<=9999)/\(Txt.split text "\n").length<=99999
def spTold:Sp:=fun vs H Q _=>∃text:Str,vs=[.str text]/\TxtOk text/\(((∃D,Rds (Txt.split text "\n") [] [] D)/\∀H',Kp H H'->Q .non H')∨∃line:Nat,RdsN (Txt.split text "\n") 0 [] [] line/\∀H',Kp H H'->Q (.int (line:Int)) H')
theorem scTold:FnScope ["_law_text","_law_refused","e"] ["_law_text"] (defScope sTold):=fsc
theorem ok_told{f:Addr}{fd:FuncData}{CT CB fP:Addr}{fdP:FuncData}(F:Fun K "_law_told" "_law_told" sTold f fd)(GP:FnOk P w K mg base (CX1 P w) 6 fP fdP ["text"] (fun vs H Q E=>spRead vs H Q E∨(spReadN CT) vs H Q E))(bP:Binds K fdP ["text"] [])(kP:keepIn K (.ref fP)=true)(mP:mg "read"=some (.ref fP))(nx:Nt K CT CB)(gT:mg "NoText"=some (.ref CT))(gB:mg "BookError"=some (.ref CB))(hB:clsIn K CB≠none)(tB:typeIn K (.ref CB)=some (.type "type"))(mB:mroIn K CB (.type "BaseException")=some true)(mis:mg "isinstance"=none)(mbo:mg "bool"=none)(mve:mg "ValueError"=none):FnOk P w K mg base CX0 7 f fd ["_law_text"] spTold:=by
 refine F.ok scTold (fun vs H Q E h=>?_) (fun cdv A outer s H vs Q E hr h=>?_)
 ·refine opq fun Gq kq=>?_
  obtain⟨text,rfl,_⟩:=h
  refine kq ?_
  clear kq
  rfl
 refine opq fun Gq kq=>?_
 obtain⟨text,rfl,hT,hq⟩:=h
 refine kq ?_
 clear kq
 refine⟨_,(jd (js (i:=1) scTold.nd rfl (Or.inl rfl) (@kY _ _ _)) (jd (@ps_try _ _ _ _ _ _ _ _ _ _ _ _ (2) rfl rfl (@ZB _ _ _ _ (@ZA _ _ _ _ _ _ _ _ _ _ _ _ _ _ GP hr.m rfl mP kP bP .nil (ja (pv 0) jc) (by decide) (by rfl) (by rfl)) (by rfl)) rfl gB hB tB mB scTold.nd rfl rfl (fun _=>(jg (js (i:=1) scTold.nd rfl (Or.inl rfl) (pv 2)))) (by decide)) (jd (jx (@zO _ _ _ _ _ _ (@zE _ _ _ _ _ (pv 1)) (by rfl)) (jg (jr (@kY _ _ _))) jp) (jd (jx (@PW.pt _ _ _ (@kL _ _ _ _ _ _ _ (@j7 _ _ _ _ (@jW _ _ _ (@jz _ _ _ _ _ _ _ _ _ (qr (K:=K) (by rfl)) rfl mis boot_isinstance (ja (pv 1) (ja (@jX _ _ (.ref CT) _ _ rfl gT rfl (by decide)) jc)) (by decide) (by decide) (by rfl) (by rfl)) (by intro _;rfl))) (@kL _ _ _ _ _ _ _ (@j7 _ _ _ _ (@jW _ _ _ (@jz _ _ _ _ _ _ _ _ _ (qr (K:=K) (by rfl)) rfl mis boot_isinstance (ja (pv 1) (ja (@Jj _ _ (.ty "ValueError") _ _ rfl mve bootVE rfl (by decide) (by decide)) jc)) (by decide) (by decide) (by rfl) (by rfl)) (by intro _;rfl))) (@kC _ _ _ _ (@jW _ _ _ (@jz _ _ _ _ _ _ _ _ _ Jd rfl mis boot_isinstance (ja (Ql (K:=K) (by rfl) (pv 1) (by rfl)) (ja (@Jj _ _ (.ty "bool") _ _ rfl mbo boot_bool rfl (by decide) (by decide)) jc)) (by decide) (by decide) (by rfl) (by rfl)) (by intro _;rfl)))))) (jg (jr jf)) jp) (jg (jr (Ql (K:=K) (by rfl) (pv 1) (by rfl)))))))),?_⟩
 try dsimp only[cxOf,Cx.nox,Cx.wish]
 refine seqF fun F1 f1=>f1 _ _ ?_
 clear f1
 obtain⟨t1,t2,t3⟩:=hT
 rcases hq with ⟨⟨D,hD⟩,q⟩ | ⟨line,hD,q⟩
 ·refine seqF fun F1 f1=>⟨_,rfl,.inl ⟨text,D,rfl,t1,fun x hx=>(t2 x hx).1,t3,hD,fun t xs H' _ _ s=>f1 _ _ ?_⟩⟩
  clear f1
  exact seqF fun F1 f1=>⟨_,rfl,_,rfl,ifY (decide_eq_true rfl) (q _ (Kp.of_same s))⟩
 ·refine seqF fun F1 f1=>⟨_,rfl,.inr ⟨text,line,rfl,t1,t2,t3,hD,fun dx H' kp hdx x C T eC hx hT hTx=>?_⟩⟩
  cases eC
  refine⟨nx.mb,fun T' nT'=>?_⟩
  have c3:Kp H (upd (upd H' T' (TbO T')) x (TxO CT (some dx) T' x)):=fun b o n e=>XD (H:=H) (kp _ _ n e) n hx nT'
  have c4:ExcC (upd (upd H' T' (TbO T')) x (TxO CT (some dx) T' x)) x CT [("line",.int (line:Int))]:=.inr ⟨dx,T',jb,XD (H:=H) hdx nx_xd hx nT'⟩
  generalize upd (upd H' T' (TbO T')) x (TxO CT (some dx) T' x)=H3 at c3 c4
  refine⟨_,rfl,f1 _ _ ?_⟩
  clear f1
  refine seqF fun F1 f1=>⟨_,rfl,_,rfl,ifX (decide_eq_false (by intro z;cases z)) (f1 _ _ ?_)⟩
  clear f1
  refine seqF fun F1 f1=>⟨_,rfl,x,CT,_,_,_,_,rfl,rfl,c4,nx.x,nx.kT,_,rfl,iteF ⟨_,rfl,x,CT,_,_,_,_,rfl,rfl,c4,nx.x,nx.kV,_,rfl,iteF ⟨_,rfl,x,CT,[("line",.int (line:Int))],.int (line:Int),rfl,c4,nx.x,nx.no,rfl,_,_,_,_,_,rfl,rfl,TyOf.int _,nx.kb,_,rfl,ifX rfl (f1 _ _ ?_)⟩⟩⟩
  clear f1
  exact⟨_,rfl,x,CT,[("line",.int (line:Int))],.int (line:Int),rfl,c4,nx.x,nx.no,rfl,q _ c3⟩
noncomputable abbrev sWord:Stmt:=top 51
noncomputable abbrev sSpoilt:Stmt:=top 53
noncomputable abbrev sSpread:Stmt:=top 54
noncomputable def fstW(row:Str):Str:=(Txt.split row " ").headD ""
def spWord:Sp:=fun vs H Q _=>∃row:Str,vs=[.str row]/\row.length<=100000/\∀H',Same H H'->Q (.str (fstW row)) H'
theorem Z5(row c:Str):Txt.split row c≠[]:=fun z=>by
 have h:=split_pos row c
 rw[z]at h
 exact absurd h (by decide)
def spSpoilt:Sp:=fun vs H Q _=>∃(p a:Addr) (ws:List Str) (bad:Str),vs=[.ref p,.ref a,.str bad]/\BoxAt H p/\H a=some (.lst (ws.map V.str))/\1<=ws.length/\ws.length<=5000/\
 ∀(r:Addr) (ws':List Str) (H':Hp),H' r=some (.lst (ws'.map V.str))->(∀y∈ws',y∈ws∨y=bad)->ws'.length<=ws.length+1->BoxAt H' p->But p H H'->Q (.ref r) H'
theorem Ju(ws:List Str){x y:Int}(h0:0<=x)(h:x<=y):(cutS ws none (some x)).length+(cutS ws (some y) none).length<=ws.length:=by
 have ex:x=((x.toNat:Nat):Int):=by omega
 have ey:y=((y.toNat:Nat):Int):=by omega
 unfold cutS
 rw[ex,ey,HT.sIx_nat,HT.sIx_nat,HT.sIx_none,HT.sIx_none,List.length_take,List.length_take,List.length_drop,List.length_drop]
 omega
theorem scWord:FnScope ["_law_row"] ["_law_row"] (defScope sWord):=fsc
theorem ok_word{f:Addr}{fd:FuncData}(F:Fun K "_law_word" "_law_word" sWord f fd):FnOk P w K mg base CX0 1 f fd ["_law_row"] spWord:=by
 refine F.ok scWord (fun vs H Q E h=>?_) (fun cdv A outer s H vs Q E hr h=>?_)
 ·refine opq fun Gq kq=>?_
  obtain⟨row,rfl,_⟩:=h
  refine kq ?_
  clear kq
  rfl
 refine opq fun Gq kq=>?_
 obtain⟨row,rfl,hl,q⟩:=h
 refine kq ?_
 clear kq
 refine⟨_,(jg (jr (@jv _ _ _ _ _ _ _ jy (@jF _ _ _ _ _ _ _ _ _ _ jJ (ju j8 (@jS _ _ _ _ _ _ _ _ _ _ _ _ PySem.F.plainAttrs_str PySem.F.slot_str_split PySem.F.type_str_split zo (pv 0) (ja jk jc) (by rfl) (by rfl) (by rfl) (by rfl) (by rfl)) (jC (ja jk jc))) (@jR _) (@jE _ _ _ jf)) jf (fun _ _=>rfl)))),?_⟩
 try dsimp only[cxOf,Cx.nox,Cx.wish]
 have big:=line24
 have hsl:=split_le row " "
 refine⟨_,rfl,rfl,row,_,rfl,rfl,by decide+kernel,by omega,fun l1 n1=>⟨sz1,fun l2 n2=>⟨l1,l2,_,_,rfl,rfl,keepN jb n2,jb,by rw[List.length_map];show _+1<=_;omega,fun l3 n3=>⟨_,rfl,l3,_,rfl,SqL.of jb,fun l4 n4=>?_⟩⟩⟩⟩
 have e:cutV ((Txt.split row " ").map V.str++[.str ""]) none (some 1)=[.str (fstW row)]:=by
  unfold fstW
  cases hs:Txt.split row " " with
  |nil=>exact absurd hs (Z5 _ _)
  |cons x r=>exact cutN (k:=1) (by simp)
 refine⟨l4,_,_,_,rfl,rfl,SqL.of jb,?_,q _ ((((je n1).trans (je n2)).trans (je n3)).trans (je n4))⟩
 rw[e]
 rfl
theorem scSpoilt:FnScope ["_law_box_here","_law_rows","_law_bad","_law_way","_law_at","_law_other","_law_one"] ["_law_box_here","_law_rows","_law_bad"] (defScope sSpoilt):=fsc
theorem Yt{f:Addr}{fd:FuncData}{fT:Addr}{fdT:FuncData}(F:Fun K "_law_spoilt" "_law_spoilt" sSpoilt f fd)(GT:FnOk P w K mg base CX0 1 fT fdT ["_law_box_here","_law_wide"] spTake)(bT:Binds K fdT ["_law_box_here","_law_wide"] [])(kT:keepIn K (.ref fT)=true)(mT:mg "_law_take"=some (.ref fT))(ml:mg "len"=none)(mmi:mg "min"=none):FnOk P w K mg base CX0 2 f fd ["_law_box_here","_law_rows","_law_bad"] spSpoilt:=by
 refine F.ok scSpoilt (fun vs H Q E h=>?_) (fun cdv A outer s H vs Q E hr h=>?_)
 ·refine opq fun Gq kq=>?_
  obtain⟨p,a,ws,bad,rfl,_⟩:=h
  refine kq ?_
  clear kq
  rfl
 refine opq fun Gq kq=>?_
 obtain⟨p,a,ws,bad,rfl,hB,ha,h1,h5,q⟩:=h
 refine kq ?_
 clear kq
 refine⟨_,(jd (js (i:=3) scSpoilt.nd rfl (Or.inl rfl) (ji GT hr.m rfl mT kT bT .nil pass0 (ja (pv 0) (ja jf jc)))) (jd (js (i:=4) scSpoilt.nd rfl (Or.inl rfl) (ji GT hr.m rfl mT kT bT .nil pass0 (ja (pv 0) (ja (ju jQ (@jz _ _ _ _ _ _ _ _ _ jw rfl ml PySem.boot_len (ja (pv 1) jc) (by decide) (by decide) (by rfl) (by rfl)) jf) jc)))) (jd (js (i:=5) scSpoilt.nd rfl (Or.inl rfl) (ji GT hr.m rfl mT kT bT .nil pass0 (ja (pv 0) (ja (@jz _ _ _ _ _ _ _ _ _ jw rfl ml PySem.boot_len (ja (pv 1) jc) (by decide) (by decide) (by rfl) (by rfl)) jc)))) (jd (js (i:=6) scSpoilt.nd rfl (Or.inl rfl) (@jz _ _ _ _ _ _ _ _ _ (XV rfl) rfl mmi boot_min (ja (pv 4) (ja (ju zP (@jz _ _ _ _ _ _ _ _ _ jw rfl ml PySem.boot_len (ja (pv 1) jc) (by decide) (by decide) (by rfl) (by rfl)) jf) jc)) (by decide) (by decide) (by rfl) (by rfl))) (jd (jx (@jq _ _ _ _ _ _ _ _ jI (pv 3) jf (nomark _)) (jg (jr (ju j8 (@jF _ _ _ _ _ _ _ _ _ _ jJ (pv 1) (@jR _) (@jE _ _ _ (pv 6))) (@jF _ _ _ _ _ _ _ _ _ _ jJ (pv 1) (@jE _ _ _ (ju jQ (pv 6) jf)) (@jR _))))) jp) (jd (jx (@jq _ _ _ _ _ _ _ _ jI (pv 3) jf (nomark _)) (jg (jr (ju j8 (ju j8 (@jF _ _ _ _ _ _ _ _ _ _ jJ (pv 1) (@jR _) (@jE _ _ _ (pv 4))) (jC (ja (@jv _ _ _ _ _ _ _ jy (pv 1) (pv 5) (fun _ _=>rfl)) jc))) (@jF _ _ _ _ _ _ _ _ _ _ jJ (pv 1) (@jE _ _ _ (pv 4)) (@jR _))))) jp) (jd (jx (@jq _ _ _ _ _ _ _ _ jI (pv 3) jf (nomark _)) (jg (jr (ju j8 (ju j8 (@jF _ _ _ _ _ _ _ _ _ _ jJ (pv 1) (@jR _) (@jE _ _ _ (pv 6))) (jC (ja (@jv _ _ _ _ _ _ _ jy (pv 1) (pv 5) (fun _ _=>rfl)) jc))) (@jF _ _ _ _ _ _ _ _ _ _ jJ (pv 1) (@jE _ _ _ (ju jQ (pv 6) jf)) (@jR _))))) jp) (jd (jx (@jq _ _ _ _ _ _ _ _ jI (pv 3) jf (nomark _)) (jg (jr (@jF _ _ _ _ _ _ _ _ _ _ jJ (pv 1) (@jR _) (@jE _ _ _ (pv 4))))) jp) (jg (jr (ju j8 (ju j8 (@jF _ _ _ _ _ _ _ _ _ _ jJ (pv 1) (@jR _) (@jE _ _ _ (pv 4))) (jC (ja (pv 2) jc))) (@jF _ _ _ _ _ _ _ _ _ _ jJ (pv 1) (@jE _ _ _ (pv 4)) (@jR _))))))))))))),?_⟩
 try dsimp only[cxOf,Cx.nox,Cx.wish]
 have big:=line24
 have hln:(((ws.map V.str).length:Nat):Int)=(ws.length:Int):=by rw[List.length_map]
 have cl:∀lo hi,(cutS ws lo hi).length<=ws.length:=fun lo hi=>zJ ws lo hi
 refine seqF fun F1 f1=>⟨_,rfl,p,5,rfl,hB,by omega,by omega,fun d1 H1 d10 d11 B1 q1=>f1 _ _ ?_⟩
 clear f1
 have ap:=zr hB ha
 have k1:But p H H1:=But.of_eq q1
 have ha1:=k1 _ _ ap ha
 refine seqF fun F1 f1=>⟨_,rfl,_,rfl,a,_,rfl,.inl (SqL.of ha1),_,_,rfl,rfl,p,_,rfl,B1,by omega,by omega,fun d2 H2 d20 d21 B2 q2=>f1 _ _ ?_⟩
 clear f1
 have k2:But p H1 H2:=But.of_eq q2
 have ha2:=k2 _ _ ap ha1
 refine seqF fun F1 f1=>⟨_,rfl,_,rfl,a,_,rfl,.inl (SqL.of ha2),p,_,rfl,B2,by omega,by omega,fun d3 H3 d30 d31 B3 q3=>f1 _ _ ?_⟩
 clear f1
 have k3:But p H2 H3:=But.of_eq q3
 have ha3:=k3 _ _ ap ha2
 have K:=(k1.trans k2).trans k3
 refine seqF fun F1 f1=>⟨_,rfl,_,rfl,a,_,rfl,.inl (SqL.of ha3),_,_,rfl,rfl,_,_,rfl,f1 _ _ ?_⟩
 clear f1
 obtain⟨o,eo⟩:∃o:Int,(if ((ws.map V.str).length:Int) - 1 < d2 then ((ws.map V.str).length:Int) - 1 else d2)=o:=⟨_,rfl⟩
 have o0:0<=o:=by rw[<- eo,hln];split<;>omega
 rw[eo]
 rw[hln]at d31
 obtain⟨m3,rfl⟩:∃m:Nat,d3=(m:Int):=⟨d3.toNat,by omega⟩
 have h3:(ws.map V.str)[m3]?=some (.str (ws[m3]'(by omega))):=by rw[List.getElem?_map,List.getElem?_eq_getElem (by omega)];rfl
 have m3m:ws[m3]'(by omega)∈ws:=List.getElem_mem _
 generalize ws[m3]'(by omega)=y3 at h3 m3m
 have fin:∀(zs:List Str) (r:Addr) (H':Hp),(∀y∈zs,y∈ws∨y=bad)->zs.length<=ws.length+1->H' r=some (.lst (zs.map V.str))->Same H3 H'->Q (.ref r) H':=fun zs r H' hz hl hr s=>q r zs H' hr hz hl (B3.same s) (K.trans (But.of_same s))
 have cm:∀lo hi y,y∈cutS ws lo hi->y∈ws∨y=bad:=fun lo hi y hy=>.inl (j9 hy)
 by_cases w0:d1=0
 ·refine seqF fun F1 f1=>⟨_,rfl,rfl,_,rfl,ifY (decide_eq_true (by rw[w0])) ?_⟩
  refine⟨_,rfl,_,rfl,_,rfl,a,_,rfl,SqL.of ha3,fun s1 n1=>⟨_,rfl,_,rfl,_,_,rfl,rfl,_,rfl,a,_,rfl,SqL.of (keepN ha3 n1),fun s2 n2=>⟨s1,s2,_,_,rfl,rfl,keepN jb n2,jb,?_,fun r nr=>?_⟩⟩⟩
  ·simp only[jM,List.length_append,List.length_map,List.length_cons,List.length_nil]
   have:=cl none (some o)
   have:=cl (some (o+1)) none
   omega
  ·refine fin (cutS ws none (some o)++cutS ws (some (o+1)) none) r _ (fun y hy=>(List.mem_append.mp hy).elim (cm _ _ y) (cm _ _ y)) ?_ (by rw[jb,List.map_append,<- jM,<- jM]) (((je n1).trans (je n2)).trans (je nr))
   rw[List.length_append]
   have:=Ju ws o0 (y:=o+1) (by omega)
   omega
 refine seqF fun F1 f1=>⟨_,rfl,rfl,_,rfl,ifX (decide_eq_false fun z=>w0 (by injection z)) (f1 _ _ ?_)⟩
 clear f1
 by_cases w1:d1=1
 ·refine seqF fun F1 f1=>⟨_,rfl,rfl,_,rfl,ifY (decide_eq_true (by rw[w1])) ?_⟩
  refine⟨_,rfl,_,rfl,_,rfl,a,_,rfl,SqL.of ha3,fun s1 n1=>⟨_,rfl,_,rfl,a,_,_,_,rfl,rfl,SqL.of (keepN ha3 n1),jo h3,sz1,fun s5 n5=>⟨s1,s5,_,_,rfl,rfl,keepN jb n5,jb,?_,fun s6 n6=>⟨_,rfl,_,rfl,_,rfl,a,_,rfl,SqL.of (keepN (keepN (keepN ha3 n1) n5) n6),fun s2 n2=>⟨s6,s2,_,_,rfl,rfl,keepN jb n2,jb,?_,fun r nr=>?_⟩⟩⟩⟩⟩
  ·simp only[jM,List.length_append,List.length_map,List.length_cons,List.length_nil]
   have:=cl none (some d2)
   omega
  ·simp only[jM,List.length_append,List.length_map,List.length_cons,List.length_nil]
   have:=cl none (some d2)
   have:=cl (some d2) none
   omega
  ·refine fin ((cutS ws none (some d2)++[y3])++cutS ws (some d2) none) r _ (fun y hy=>(List.mem_append.mp hy).elim (fun h=>(List.mem_append.mp h).elim (cm _ _ y) fun h=>by rw[List.mem_singleton.mp h];exact .inl m3m) (cm _ _ y)) ?_ (by rw[jb,List.map_append,List.map_append,<- jM,<- jM];rfl) (((((je n1).trans (je n5)).trans (je n6)).trans (je n2)).trans (je nr))
   simp only[List.length_append,List.length_cons,List.length_nil]
   have:=Ju ws (x:=d2) (y:=d2) (by omega) (by omega)
   omega
 refine seqF fun F1 f1=>⟨_,rfl,rfl,_,rfl,ifX (decide_eq_false fun z=>w1 (by injection z)) (f1 _ _ ?_)⟩
 clear f1
 by_cases w2:d1=2
 ·refine seqF fun F1 f1=>⟨_,rfl,rfl,_,rfl,ifY (decide_eq_true (by rw[w2])) ?_⟩
  refine⟨_,rfl,_,rfl,_,rfl,a,_,rfl,SqL.of ha3,fun s1 n1=>⟨_,rfl,_,rfl,a,_,_,_,rfl,rfl,SqL.of (keepN ha3 n1),jo h3,sz1,fun s5 n5=>⟨s1,s5,_,_,rfl,rfl,keepN jb n5,jb,?_,fun s6 n6=>⟨_,rfl,_,rfl,_,_,rfl,rfl,_,rfl,a,_,rfl,SqL.of (keepN (keepN (keepN ha3 n1) n5) n6),fun s2 n2=>⟨s6,s2,_,_,rfl,rfl,keepN jb n2,jb,?_,fun r nr=>?_⟩⟩⟩⟩⟩
  ·simp only[jM,List.length_append,List.length_map,List.length_cons,List.length_nil]
   have:=cl none (some o)
   omega
  ·simp only[jM,List.length_append,List.length_map,List.length_cons,List.length_nil]
   have:=cl none (some o)
   have:=cl (some (o+1)) none
   omega
  ·refine fin ((cutS ws none (some o)++[y3])++cutS ws (some (o+1)) none) r _ (fun y hy=>(List.mem_append.mp hy).elim (fun h=>(List.mem_append.mp h).elim (cm _ _ y) fun h=>by rw[List.mem_singleton.mp h];exact .inl m3m) (cm _ _ y)) ?_ (by rw[jb,List.map_append,List.map_append,<- jM,<- jM];rfl) (((((je n1).trans (je n5)).trans (je n6)).trans (je n2)).trans (je nr))
   simp only[List.length_append,List.length_cons,List.length_nil]
   have:=Ju ws (x:=o) (y:=(o+1)) (by omega) (by omega)
   omega
 refine seqF fun F1 f1=>⟨_,rfl,rfl,_,rfl,ifX (decide_eq_false fun z=>w2 (by injection z)) (f1 _ _ ?_)⟩
 clear f1
 by_cases w3:d1=3
 ·refine seqF fun F1 f1=>⟨_,rfl,rfl,_,rfl,ifY (decide_eq_true (by rw[w3])) ?_⟩
  refine⟨_,rfl,_,rfl,_,rfl,a,_,rfl,SqL.of ha3,fun s1 n1=>?_⟩
  refine fin (cutS ws none (some d2)) s1 _ (fun y hy=>cm _ _ y hy) ?_ (by rw[jb,jM]) (je n1)
  have:=cl none (some d2)
  omega
 refine seqF fun F1 f1=>⟨_,rfl,rfl,_,rfl,ifX (decide_eq_false fun z=>w3 (by injection z)) (f1 _ _ ?_)⟩
 clear f1
 ·refine⟨_,rfl,_,rfl,_,rfl,a,_,rfl,SqL.of ha3,fun s1 n1=>⟨_,rfl,sz1,fun s5 n5=>⟨s1,s5,_,_,rfl,rfl,keepN jb n5,jb,?_,fun s6 n6=>⟨_,rfl,_,rfl,_,rfl,a,_,rfl,SqL.of (keepN (keepN (keepN ha3 n1) n5) n6),fun s2 n2=>⟨s6,s2,_,_,rfl,rfl,keepN jb n2,jb,?_,fun r nr=>?_⟩⟩⟩⟩⟩
  ·simp only[jM,List.length_append,List.length_map,List.length_cons,List.length_nil]
   have:=cl none (some d2)
   omega
  ·simp only[jM,List.length_append,List.length_map,List.length_cons,List.length_nil]
   have:=cl none (some d2)
   have:=cl (some d2) none
   omega
  ·refine fin ((cutS ws none (some d2)++[bad])++cutS ws (some d2) none) r _ (fun y hy=>(List.mem_append.mp hy).elim (fun h=>(List.mem_append.mp h).elim (cm _ _ y) fun h=>by rw[List.mem_singleton.mp h];exact .inr rfl) (cm _ _ y)) ?_ (by rw[jb,List.map_append,List.map_append,<- jM,<- jM];rfl) (((((je n1).trans (je n5)).trans (je n6)).trans (je n2)).trans (je nr))
   simp only[List.length_append,List.length_cons,List.length_nil]
   have:=Ju ws (x:=d2) (y:=d2) (by omega) (by omega)
   omega
noncomputable abbrev sBadR:Stmt:=top 49
theorem bl_mul{k:Nat}(h:k < 9):(Txt.mul " " (k:Int)).l=List.replicate k 32:=by
 have key:∀m:Fin 9,(Txt.mul (Str.ofString " ") (m.val:Int)).l=List.replicate m.val 32:=by decide+kernel
 exact key ⟨k,h⟩
theorem mul_ok1{d:Nat}(h:d < 9):MulOk " " (d:Int):=by
 have l2:(Str.ofString " ").length=1:=by decide+kernel
 refine⟨?_,fun h1 _=>?_,fun h1 _=>?_⟩
 ·rw[Bool.or_eq_false_iff]
  exact⟨decide_eq_false (by omega),decide_eq_false (by omega)⟩
 ·rw[l2]
  have h0:(0:Int) < (d:Int):=by omega
  have:(1:Int)<=(2 ^ 63 - 1) / (d:Int):=(Int.le_ediv_iff_mul_le h0).mpr (by omega)
  show ¬((1:Nat):Int) > (2 ^ 63 - 1) / (d:Int)
  omega
 ·rw[l2]
  show decide _=false
  refine decide_eq_false ?_
  rw[sizeLine_eq]
  omega
theorem bl10{k:Nat}:10∉List.replicate k 32:=fun h=>absurd (List.mem_replicate.mp h).2 (by decide)
def Blk(y:Str):Prop:=∃k:Nat,k < 9/\y=Txt.mul " " (k:Int)
theorem Blk.facts{y:Str}(h:Blk y):wordsS y=[]/\10∉y.l/\y.length<=9/\y.l=List.replicate y.length 32:=by
 obtain⟨k,hk,rfl⟩:=h
 have b:=bl_mul hk
 have l:(Txt.mul " " (k:Int)).length=k:=by rw[<- zz,b,List.length_replicate]
 refine⟨?_,by rw[b];exact bl10,by omega,by rw[l,b]⟩
 unfold wordsS
 rw[b,<- List.append_nil (List.replicate k 32),Kt]
 rfl
def spSpread:Sp:=fun vs H Q _=>∃(p a:Addr) (ws:List Str),vs=[.ref p,.ref a]/\BoxAt H p/\H a=some (.lst (ws.map V.str))/\ws.length<=1000/\
 ∀(r:Addr) (ws':List Str) (H':Hp),H' r=some (.lst (ws'.map V.str))->(∀y∈ws',y∈ws∨Blk y)->ws'.length<=2*ws.length->BoxAt H' p->But p H H'->Q (.ref r) H'
inductive SJ(p a rl:Addr)(ws:List Str)(H:Hp)(i:Nat)(σ:L2.St)(H':Hp):Prop
 |mk (o3:Option V) (acc:List Str) (e0:σ=[some (.ref p),some (.ref a),some (.ref rl),o3]) (e1:H' rl=some (.lst (acc.map V.str))) (e2:∀y∈acc,y∈ws∨Blk y) (e3:acc.length<=2*i) (e4:BoxAt H' p) (e5:But p H H'):SJ p a rl ws H i σ H'
def spBadR:Sp:=fun vs H Q _=>vs=[]/\∀(r:Addr) (H':Hp),H r=none->H' r=some (.lst (badRows.map V.str))->Same H H'->Q (.ref r) H'
theorem scSpread:FnScope ["_law_box_here","_law_rows","_law_found","_law_row"] ["_law_box_here","_law_rows"] (defScope sSpread):=fsc
theorem Yu{f:Addr}{fd:FuncData}{fT:Addr}{fdT:FuncData}(F:Fun K "_law_spread" "_law_spread" sSpread f fd)(GT:FnOk P w K mg base CX0 1 fT fdT ["_law_box_here","_law_wide"] spTake)(bT:Binds K fdT ["_law_box_here","_law_wide"] [])(kT:keepIn K (.ref fT)=true)(mT:mg "_law_take"=some (.ref fT)):FnOk P w K mg base CX0 2 f fd ["_law_box_here","_law_rows"] spSpread:=by
 refine F.ok scSpread (fun vs H Q E h=>?_) (fun cdv A outer s H vs Q E hr h=>?_)
 ·refine opq fun Gq kq=>?_
  obtain⟨p,a,ws,rfl,_⟩:=h
  refine kq ?_
  clear kq
  rfl
 refine opq fun Gq kq=>?_
 obtain⟨p,a,ws,rfl,hB,ha,hl,q⟩:=h
 refine kq ?_
 clear kq
 refine⟨_,(jd (js (i:=2) scSpread.nd rfl (Or.inl rfl) (jC jc)) (jd (@zj _ _ _ _ _ _ _ _ PassesOwn.never rfl (@ze _ _ _ _ (pv 1)) (jD (i:=3) scSpread.nd rfl (Or.inl rfl)) (jd (jx (@jq _ _ _ _ _ _ _ _ jI (ji GT hr.m rfl mT kT bT .nil pass0 (ja (pv 0) (ja jf jc))) jf (nomark _)) (jg (jN (@jS _ _ _ _ _ _ _ _ _ _ _ _ PySem.F.plainAttrs_list PySem.F.slot_list_append PySem.F.type_list_append jL (pv 2) (ja (ju Kz jk (ji GT hr.m rfl mT kT bT .nil pass0 (ja (pv 0) (ja jf jc)))) jc) (by rfl) (by rfl) (by rfl) (by rfl) (by rfl)))) jp) (jg (jN (@jS _ _ _ _ _ _ _ _ _ _ _ _ PySem.F.plainAttrs_list PySem.F.slot_list_append PySem.F.type_list_append jL (pv 2) (ja (pv 3) jc) (by rfl) (by rfl) (by rfl) (by rfl) (by rfl))))) (by intro _;rfl)) (jg (jr (pv 2))))),?_⟩
 try dsimp only[cxOf,Cx.nox,Cx.wish]
 have big:=line24
 have ap:=zr hB ha
 refine seqF fun F1 f1=>⟨sz0,fun rl nrl=>f1 _ _ ?_⟩
 clear f1
 have rp:=hB.ne nrl
 have s1:Same H (upd H rl (.lst [])):=je nrl
 refine seqF fun F1 f1=>forE fun J j=>⟨_,rfl,a,rfl,⟨_,SqL.of (s1 _ _ ha)⟩,j _ _ ?_⟩
 clear j
 refine Ke (K:=K) (a:=a) (xs:=ws.map V.str) (SJ p a rl ws H) ⟨none,[],rfl,jb,(fun y hy=>nomatch hy),Nat.le_refl 0,hB.same s1,But.of_same s1⟩ (fun i σ H' _ h=>?_) ?_ (fun σ H' h=>f1 _ _ ?_)
 ·obtain⟨_,_,_,_,_,_,_,h⟩:=h
  exact SqL.of (h _ _ ap ha)
 ·clear s1
  intro E _ i v σ H3 hv fE Gq kq h
  clear f1
  obtain⟨o3,acc,rfl,e1,e2,e3,e4,e5⟩:=h
  rw[List.getElem?_map]at hv
  obtain⟨row,hrow,rfl⟩:=Option.map_eq_some_iff.mp hv
  have hi:i < ws.length:=(List.getElem?_eq_some_iff.mp hrow).1
  have hm:=List.mem_of_getElem? hrow
  refine kq ?_
  clear kq
  show tSeq (tIfS _ _ _) _ E [some (.ref p),some (.ref a),some (.ref rl),some (.str row)] H3
  refine seqF fun F1 f1=>?_
  suffices m1:∀(acc:List Str) (H4:Hp),H4 rl=some (.lst (acc.map V.str))->(∀y∈acc,y∈ws∨Blk y)->acc.length<=2*i+1->BoxAt H4 p->But p H H4->F1 [some (.ref p),some (.ref a),some (.ref rl),some (.str row)] H4 by
   clear f1
   refine⟨_,rfl,p,4,rfl,e4,by decide,by decide,fun d4 H4 d40 d41 B4 q4=>⟨rfl,_,rfl,?_⟩⟩
   have k4:But p H3 H4:=But.of_eq q4
   have e4':=k4 _ _ rp e1
   by_cases c:d4=0
   ·refine ifY (decide_eq_true (by rw[c])) ⟨_,rfl,.inl ⟨rfl,_,SqL.of e4'⟩,_,rfl,p,3,rfl,B4,by decide,by decide,fun d5 H5 d50 d51 B5 q5=>?_⟩
    obtain⟨m5,rfl⟩:∃m:Nat,d5=(m:Int):=⟨d5.toNat,by omega⟩
    have k5:But p H4 H5:=But.of_eq q5
    refine⟨_,_,rfl,rfl,mul_ok1 (by omega),rl,_,_,rfl,rfl,k5 _ _ rp e4',by rw[List.length_map];omega,m1 (acc++[Txt.mul " " (m5:Int)]) _ (by rw[jb,List.map_append];rfl) (fun y hy=>?_) (by rw[List.length_append];show _+1<=_;omega) (B5.eq (jh (Ne.symm rp))) (((e5.trans k4).trans k5).upd_own nrl)⟩
    rcases List.mem_append.mp hy with h |h
    ·exact e2 y h
    ·rw[List.mem_singleton.mp h];exact .inr ⟨m5,by omega,rfl⟩
   ·exact ifX (decide_eq_false fun z=>c (by injection z)) (m1 acc H4 e4' e2 (by omega) B4 (e5.trans k4))
  intro acc H4 g1 g2 g3 g4 g5
  refine f1 _ _ ⟨_,rfl,.inl ⟨rfl,_,SqL.of g1⟩,_,rfl,rl,_,_,rfl,rfl,g1,by rw[List.length_map];omega,fE _ _ ⟨_,acc++[row],rfl,by rw[jb,List.map_append];rfl,fun y hy=>?_,by rw[List.length_append];show _+1<=_;omega,g4.eq (jh (Ne.symm rp)),g5.upd_own nrl⟩⟩
  rcases List.mem_append.mp hy with h |h
  ·exact g2 y h
  ·rw[List.mem_singleton.mp h];exact .inl hm
 ·obtain⟨o3,acc,rfl,e1,e2,e3,e4,e5⟩:=h
  rw[List.length_map]at e3
  exact⟨_,rfl,q rl acc H' e1 e2 e3 e4 e5⟩
noncomputable abbrev sDue:Stmt:=top 52
theorem op_neE{X:Cx}(hu:X.A.units < cLine):OpR X (compareOp .NotEq) (fun x y H Q=>∃a b xs,x= .ref a/\y= .ref b/\H a=some (.lst xs)/\H b=some (.lst [])/\Q (.bl (!xs.isEmpty)) H):=by
 intro pins s σ H x y v u Q I rx ry h
 refine opq fun Gq kq=>?_
 obtain⟨a,b,xs,rfl,rfl,ha,hb,q⟩:=h
 refine kq ?_
 clear kq
 cases rx
 cases ry
 refine opq fun Gq kq=>?_
 obtain⟨ia,ra,pa,_⟩:=I.list (SqL.of ha)
 refine kq ?_
 clear kq
 refine opq fun Gq kq=>?_
 obtain⟨ib,rb,pb,_⟩:=I.list (SqL.of hb)
 refine kq ?_
 clear kq
 have eb:ib=[]:=rb.nil_iff.mpr rfl
 subst eb
 cases hx:xs with
 |nil=>
  subst hx
  have ea:ia=[]:=ra.nil_iff.mpr rfl
  subst ea
  refine PySem.SeqAt.RcNeAt.lists (e:=fun _=>true) pa.isList pb.isList rfl hu (fun j h1 h2=>absurd h1 (by simp)) X.prog X.w _ _ ?_
  exact⟨.bl false,H,I,rfl,q⟩
 |cons z r=>
  subst hx
  have la:=ra.length
  refine PySem.SeqAt.RcNeAt.lists_lengths pa.isList pb.isList (by simp [<- la]) hu X.prog X.w _ _ ?_
  exact⟨.bl true,H,I,rfl,q⟩
theorem Yv{K:Frag}{a:Addr}{xs:List V}{g:TG}{tb:TS}{D:Ends}{σ:L2.St}{H:Hp}(Pv:Nat->L2.St->Hp->Prop)(h0:Pv 0 σ H)(hl:∀i σ H,i<=xs.length->Pv i σ H->SqL K H a xs)
  (hs:∀E:Ends,E.rt=D.rt->∀i x p σ H,xs[i]?=some x->H p=none->(∀σ' H',Pv (i+1) σ' H'->E.nx σ' H')->∀G:Prop,((g (.ref p) σ (upd H p (.tup [.int (i:Int),x])) fun σ2 H2=>tb E σ2 H2)->G)->Pv i σ H->G) (hd:∀σ H,Pv xs.length σ H->D.nx σ H):ForW (Ite K a) g tb D σ H:=by
 refine⟨fun i m σ H=>m=xs.length - i/\i<=xs.length/\Pv i σ H,⟨xs.length,by simp,Nat.zero_le _,h0⟩,?_⟩
 rintro i m σ H ⟨rfl,hi,p⟩
 have q1:=hl i σ H hi p
 by_cases hlt:i < xs.length
 ·refine .inr ⟨⟨xs,xs[i],q1,List.getElem?_eq_getElem hlt⟩,Pv (i+1),fun σ' H' p'=>⟨xs.length - (i+1),by omega,rfl,hlt,p'⟩,fun x H' y=>?_⟩
  obtain⟨r,v,rfl,hr,rfl,w1⟩:=y
  exact hs { D with nx:=Pv (i+1),ct:=Pv (i+1),bk:=D.nx } rfl i v r σ H (w1 xs q1) hr (fun _ _ h=>h) _ (fun z=>z) p
 ·exact .inl ⟨⟨xs,q1,by omega⟩,hd _ _ (by rw[show xs.length=i by omega];exact p)⟩
noncomputable def stp(row:Str):Str:=Txt.stripChars row " "
noncomputable def t2B(w last:Str):Bool:=if (!decide (V.str w=V.str ""))=true then !decide (V.bl (decide (V.str last=V.str "top"))=V.bl (decide (V.str w=V.str "def"))) else false
noncomputable def t3B(w last:Str):Bool:=if (if decide (V.str w=V.str "else")=true then !decide (V.str last=V.str "if") else false)=true then true else (if decide (V.str w=V.str "end")=true then decide (V.str last=V.str "if") else false)
noncomputable def popB(w:Str):Bool:=inV (.str w) [.str "else",.str "end"]
noncomputable def pushB(w:Str):Bool:=inV (.str w) [.str "def",.str "if",.str "while",.str "else"]
noncomputable def goW(w:Str)(W:List Str):List Str:=let W1:=if popB w=true then W.tail else W;if pushB w=true then w::W1 else W1
noncomputable def dueF(bad:List Str):List Str->Nat->List Str->Option Nat
 | [],n,W=>if W.isEmpty=true then none else some (n+1)
 |row::rows,n,W=>if inV (.str (stp row)) (bad.map V.str)=true then some (n+1) else if t2B (fstW (stp row)) (W.headD "top")=true then some (n+1) else if t3B (fstW (stp row)) (W.headD "top")=true then some (n+1) else dueF bad rows (n+1) (goW (fstW (stp row)) W)
noncomputable def dueV:Option Nat->V
 |none=>.non
 |some n=>.int (n:Int)
def spDue:Sp:=fun vs H Q _=>∃(a b:Addr) (rows bad:List Str),vs=[.ref a,.ref b]/\H a=some (.lst (rows.map V.str))/\H b=some (.lst (bad.map V.str))/\rows.length<=9999/\bad.length<=9999/\(∀y∈rows,y.length<=10000)/\∀H',Same H H'->Q (dueV (dueF bad rows 0 [])) H'
inductive DJ(a b wl:Addr)(rows bad:List Str)(H:Hp)(i:Nat)(σ:L2.St)(H':Hp):Prop
 |mk (o3 o4 o5 o6:Option V) (W:List Str) (e0:σ=[some (.ref a),some (.ref b),some (.ref wl),o3,o4,o5,o6]) (e1:H' wl=some (.lst (W.reverse.map V.str))) (e2:dueF bad (rows.drop i) i W=dueF bad rows 0 []) (e3:W.length<=i) (e4:Same H H'):DJ a b wl rows bad H i σ H'
theorem last_w{W:List Str}:atI (V.str "top"::W.reverse.map V.str) (-1)=some (.str (W.headD "top")):=by
 unfold atI ixN
 rw[List.length_cons,List.length_map,List.length_reverse,if_neg (by omega),if_pos (by omega)]
 have e2:(-1+((W.length+1:Nat):Int)).toNat=W.length:=by omega
 show(V.str "top"::W.reverse.map V.str)[(-1+((W.length+1:Nat):Int)).toNat]?=_
 rw[e2]
 cases W with
 |nil=>rfl
 |cons w W=>simp
theorem inV_two{w x y:Str}(h:inV (.str w) [.str x,.str y]=true):w=x∨w=y:=by
 unfold inV at h
 simp only[List.any_cons,List.any_nil,Bool.or_false,Bool.or_eq_true]at h
 rcases h with h |h
 ·left;first |exact(by simpa [eqV] using h) |exact(by simpa [eqV] using h:x=w).symm
 ·right;first |exact(by simpa [eqV] using h) |exact(by simpa [eqV] using h:y=w).symm
theorem pop_ne{w:Str}{W:List Str}(h:popB w=true)(h2:t2B w (W.headD "top")=false):W≠[]:=fun z=>by
 rw[z]at h2
 rcases inV_two h with rfl |rfl
 ·exact absurd h2 (by decide+kernel)
 ·exact absurd h2 (by decide+kernel)
theorem XE(row:Str):(stp row).length<=row.length:=by
 obtain⟨j,k,e⟩:=Jn row
 have:=congrArg List.length e
 rw[List.length_append,List.length_append]at this
 unfold stp
 rw[<- zz,<- zz]
 omega
theorem scDue:FnScope ["_law_rows","_law_bad","_law_within","_law_k","_law_row","_law_word_here","_law_last"] ["_law_rows","_law_bad"] (defScope sDue):=fsc
theorem ok_due{f:Addr}{fd:FuncData}{fW:Addr}{fdW:FuncData}(F:Fun K "_law_due" "_law_due" sDue f fd)(GW:FnOk P w K mg base CX0 1 fW fdW ["_law_row"] spWord)(bW:Binds K fdW ["_law_row"] [])(kW:keepIn K (.ref fW)=true)(mW:mg "_law_word"=some (.ref fW))(ml:mg "len"=none)(men:mg "enumerate"=none):FnOk P w K mg base CX0 2 f fd ["_law_rows","_law_bad"] spDue:=by
 refine F.ok scDue (fun vs H Q E h=>?_) (fun cdv A outer s H vs Q E hr h=>?_)
 ·refine opq fun Gq kq=>?_
  obtain⟨a,b,rows,bad,rfl,_⟩:=h
  refine kq ?_
  clear kq
  rfl
 refine opq fun Gq kq=>?_
 obtain⟨a,b,rows,bad,rfl,ha,hb,hl,hbl,hy,q⟩:=h
 refine kq ?_
 clear kq
 refine⟨_,(jd (js (i:=2) scDue.nd rfl (Or.inl rfl) (jC jc)) (jd (@zj _ _ _ _ _ _ _ _ PassesOwn.never rfl (@pi_enum _ _ _ _ _ _ _ _ rfl men (ja (pv 0) jc) (by rfl)) (@qS _ _ _ _ _ (2) rfl (jY (jD (i:=3) scDue.nd rfl (Or.inl rfl)) (jY (jD (i:=4) scDue.nd rfl (Or.inl rfl)) qe)) (by rfl) (by rfl)) (jd (js (i:=5) scDue.nd rfl (Or.inl rfl) (ji GW hr.m rfl mW kW bW .nil pass0 (ja (@jS _ _ _ _ _ _ _ _ _ _ _ _ PySem.F.plainAttrs_str PySem.F.slot_str_strip PySem.F.type_str_strip JB (pv 4) (ja jk jc) (by rfl) (by rfl) (by rfl) (by rfl) (by rfl)) jc))) (jd (js (i:=6) scDue.nd rfl (Or.inl rfl) (@jv _ _ _ _ _ _ _ jy (ju j8 (jC (ja jk jc)) (pv 2)) (@zY _ _ _ _ _ _ zk jf) (fun _ _=>rfl))) (jd (jx (@jq _ _ _ _ _ _ _ _ jZ (@jS _ _ _ _ _ _ _ _ _ _ _ _ PySem.F.plainAttrs_str PySem.F.slot_str_strip PySem.F.type_str_strip JB (pv 4) (ja jk jc) (by rfl) (by rfl) (by rfl) (by rfl) (by rfl)) (pv 1) rfl) (jg (jr (ju jQ (pv 3) jf))) jp) (jd (jx (@PW.pt _ _ _ (@zi _ _ _ _ _ _ _ (@jq _ _ _ _ _ _ _ _ qm (pv 5) jk (nomark _)) (@zd _ _ _ _ (@jq _ _ _ _ _ _ _ _ qm (@j5 _ _ _ _ _ _ _ _ jI (pv 6) jk (nomark _)) (@j5 _ _ _ _ _ _ _ _ jI (pv 5) jk (nomark _)) (nomark _))))) (jg (jr (ju jQ (pv 3) jf))) jp) (jd (jx (@PW.pt _ _ _ (@kL _ _ _ _ _ _ _ (@PW.pt _ _ _ (@zi _ _ _ _ _ _ _ (@jq _ _ _ _ _ _ _ _ jI (pv 5) jk (nomark _)) (@zd _ _ _ _ (@jq _ _ _ _ _ _ _ _ qm (pv 6) jk (nomark _))))) (@kC _ _ _ _ (@PW.pt _ _ _ (@zi _ _ _ _ _ _ _ (@jq _ _ _ _ _ _ _ _ jI (pv 5) jk (nomark _)) (@zd _ _ _ _ (@jq _ _ _ _ _ _ _ _ jI (pv 6) jk (nomark _)))))))) (jg (jr (ju jQ (pv 3) jf))) jp) (jd (jx (@jq _ _ _ _ _ _ _ _ jZ (pv 5) (jH (ja jk (ja jk jc))) rfl) (jg (jN (@qv _ _ _ _ _ _ _ _ _ PySem.F.plainAttrs_list PySem.F.slot_list_pop PySem.F.type_list_pop Jx (pv 2) (by rfl) (by rfl)))) jp) (jg (jx (@jq _ _ _ _ _ _ _ _ jZ (pv 5) (jH (ja jk (ja jk (ja jk (ja jk jc))))) rfl) (jg (jN (@jS _ _ _ _ _ _ _ _ _ _ _ _ PySem.F.plainAttrs_list PySem.F.slot_list_append PySem.F.type_list_append jL (pv 2) (ja (pv 5) jc) (by rfl) (by rfl) (by rfl) (by rfl) (by rfl)))) jp)))))))) (by intro _;rfl)) (jd (jx (@jq _ _ _ _ _ _ _ _ (op_neE (Nat.lt_of_succ_lt (hu_of hr))) (pv 2) (jC jc) (nomark _)) (jg (jr (ju jQ (@jz _ _ _ _ _ _ _ _ _ jw rfl ml PySem.boot_len (ja (pv 0) jc) (by decide) (by decide) (by rfl) (by rfl)) jf))) jp) (jg (jr (@kY _ _ _)))))),?_⟩
 try dsimp only[cxOf,Cx.nox,Cx.wish]
 have big:=line24
 refine seqF fun F1 f1=>⟨sz0,fun wl nwl=>f1 _ _ ?_⟩
 clear f1
 have s1:Same H (upd H wl (.lst [])):=je nwl
 refine seqF fun F1 f1=>forE fun J j=>⟨_,rfl,a,rfl,⟨_,SqL.of (s1 _ _ ha)⟩,j _ _ ?_⟩
 clear j
 refine Yv (K:=K) (a:=a) (xs:=rows.map V.str) (DJ a b wl rows bad H) ⟨none,none,none,none,[],rfl,jb,rfl,Nat.le_refl 0,s1⟩ (fun i σ H' _ h=>?_) ?_ (fun σ H' h=>f1 _ _ ?_)
 ·obtain⟨_,_,_,_,_,_,_,_,_,h⟩:=h
  exact SqL.of (h _ _ ha)
 ·clear s1
  intro E rt i v pp σ H3 hv np fE Gq kq h
  clear f1
  obtain⟨o3,o4,o5,o6,W,rfl,e1,e2,e3,e4⟩:=h
  rw[List.getElem?_map]at hv
  obtain⟨row,hrow,rfl⟩:=Option.map_eq_some_iff.mp hv
  have hil:i < rows.length:=(List.getElem?_eq_some_iff.mp hrow).1
  have ed:rows.drop i=row::rows.drop (i+1):=by
   rw[List.drop_eq_getElem_cons hil]
   have:=(List.getElem?_eq_some_iff.mp hrow).2
   rw[this]
  have lr:=hy row (List.mem_of_getElem? hrow)
  have ls:=XE row
  rw[ed]at e2
  refine kq ?_
  clear kq
  refine tgE fun F6 f6=>⟨pp,_,rfl,SqT.of jb,rfl,_,_,rfl,_,_,rfl,rfl,f6 _ _ ?_⟩
  clear f6
  have e1:=keepN (o:=.tup [.int (i:Int),.str row]) e1 np
  have e4:=e4.trans (je (o:=.tup [.int (i:Int),.str row]) np)
  show tSeq (tAsg _ _) _ E [some (.ref a),some (.ref b),some (.ref wl),some (.int (i:Int)),some (.str row),o5,o6] (upd H3 pp (.tup [.int (i:Int),.str row]))
  generalize upd H3 pp (.tup [.int (i:Int),.str row])=H4 at e1 e4
  refine seqF fun F1 f1=>⟨_,rfl,rfl,row,_,rfl,rfl,by omega,stp row,rfl,by omega,fun H5 s5=>f1 _ _ ?_⟩
  clear f1
  have e1:=s5 _ _ e1
  have e4:=e4.trans s5
  refine seqF fun F1 f1=>⟨sz1,fun l1 n1=>⟨_,rfl,l1,wl,_,_,rfl,rfl,jb,keepN e1 n1,by rw[List.length_map,List.length_reverse];show 1+_<=_;omega,fun l2 n2=>⟨_,rfl,l2,_,_,_,rfl,rfl,SqL.of jb,last_w,f1 _ _ ?_⟩⟩⟩
  clear f1
  have s6:Same H5 (upd (upd H5 l1 (.lst [.str "top"])) l2 (.lst ([.str "top"]++W.reverse.map V.str))):=(je n1).trans (je n2)
  have e1:=s6 _ _ e1
  have e4:=e4.trans s6
  show tSeq (tIfS _ _ _) _ E [some (.ref a),some (.ref b),some (.ref wl),some (.int (i:Int)),some (.str row),some (.str (fstW (stp row))),some (.str (W.headD "top"))] (upd (upd H5 l1 (.lst [.str "top"])) l2 (.lst ([.str "top"]++W.reverse.map V.str)))
  generalize upd (upd H5 l1 (.lst [.str "top"])) l2 (.lst ([.str "top"]++W.reverse.map V.str))=H6 at e1 e4
  clear s6 s5 n1 n2
  have out:∀(H':Hp),Same H H'->dueF bad rows 0 []=some (i+1)->tRet (tOp (rI0 fun i j=>V.int (i+j)) (tVar 3) (tC (V.int 1))) E [some (.ref a),some (.ref b),some (.ref wl),some (.int (i:Int)),some (.str row),some (.str (fstW (stp row))),some (.str (W.headD "top"))] H':=fun H' s ee=>by
   have q:=q _ s
   rw[ee]at q
   unfold tRet
   rw[rt]
   exact⟨_,rfl,_,_,rfl,rfl,q⟩
  have e2:(if inV (.str (stp row)) (bad.map V.str)=true then some (i+1) else if t2B (fstW (stp row)) (W.headD "top")=true then some (i+1) else if t3B (fstW (stp row)) (W.headD "top")=true then some (i+1) else dueF bad (rows.drop (i+1)) (i+1) (goW (fstW (stp row)) W))=dueF bad rows 0 []:=e2
  refine seqF fun F1 f1=>⟨_,rfl,rfl,row,_,rfl,rfl,by omega,_,rfl,b,_,rfl,.inl (SqL.of (e4 _ _ hb)),rfl,kJ _,_,rfl,?_⟩
  rcases Bool.eq_false_or_eq_true (inV (.str (stp row)) (bad.map V.str)) with c1 |c1
  ·rw[if_pos c1]at e2
   exact ifY c1 (out _ e4 e2.symm)
  refine ifX c1 (f1 _ _ ?_)
  clear f1
  rw[if_neg (by rw[c1];decide)]at e2
  generalize fstW (stp row)=w at*
  generalize eh:W.headD "top"=h0 at*
  refine seqF fun F1 f1=>?_
  suffices m2:t2B w h0=false->F1 [some (.ref a),some (.ref b),some (.ref wl),some (.int (i:Int)),some (.str row),some (.str w),some (.str h0)] H6 by
   clear f1
   refine⟨_,rfl,rfl,_,rfl,?_⟩
   rcases Bool.eq_false_or_eq_true (!decide (V.str w=V.str "")) with h1 |h1
   ·refine ifY h1 ⟨_,rfl,rfl,_,rfl,rfl,rfl,_,rfl,?_⟩
    rcases Bool.eq_false_or_eq_true (!decide (V.bl (decide (V.str h0=V.str "top"))=V.bl (decide (V.str w=V.str "def")))) with h2 |h2
    ·have t:t2B w h0=true:=by unfold t2B;rw[if_pos h1];exact h2
     rw[if_pos t]at e2
     exact ifY h2 (out _ e4 e2.symm)
    ·exact ifX h2 (m2 (by unfold t2B;rw[if_pos h1];exact h2))
   ·exact ifX h1 (m2 (by unfold t2B;rw[if_neg (by rw[h1];decide)]))
  intro t2
  refine f1 _ _ ?_
  clear f1
  rw[if_neg (by rw[t2];decide)]at e2
  refine seqF fun F1 f1=>?_
  suffices m3:t3B w h0=false->F1 [some (.ref a),some (.ref b),some (.ref wl),some (.int (i:Int)),some (.str row),some (.str w),some (.str h0)] H6 by
   clear f1
   have sec:(if decide (V.str w=V.str "else")=true then !decide (V.str h0=V.str "if") else false)=false->t3B w h0=(if decide (V.str w=V.str "end")=true then decide (V.str h0=V.str "if") else false):=fun z=>by unfold t3B;rw[if_neg (by rw[z];decide)]
   refine⟨_,rfl,rfl,_,rfl,?_⟩
   rcases Bool.eq_false_or_eq_true (decide (V.str w=V.str "else")) with h1 |h1
   ·refine ifY h1 ⟨_,rfl,rfl,_,rfl,?_⟩
    rcases Bool.eq_false_or_eq_true (!decide (V.str h0=V.str "if")) with h2 |h2
    ·have t:t3B w h0=true:=by unfold t3B;rw[if_pos];rw[if_pos h1];exact h2
     rw[if_pos t]at e2
     exact ifY h2 (iteT (out _ e4 e2.symm))
    ·have z:=sec (by rw[if_pos h1];exact h2)
     refine ifX h2 ⟨_,rfl,rfl,_,rfl,?_⟩
     rcases Bool.eq_false_or_eq_true (decide (V.str w=V.str "end")) with h3 |h3
     ·rw[if_pos h3]at z
      refine ifY h3 ⟨_,rfl,rfl,_,rfl,?_⟩
      rcases Bool.eq_false_or_eq_true (decide (V.str h0=V.str "if")) with h4 |h4
      ·rw[if_pos (z.trans h4)]at e2
       exact ifY h4 (out _ e4 e2.symm)
      ·exact ifX h4 (m3 (z.trans h4))
     ·rw[if_neg (by rw[h3];decide)]at z
      exact ifX h3 (iteF (m3 z))
   ·have z:=sec (by rw[if_neg (by rw[h1];decide)])
    refine ifX h1 (iteF ⟨_,rfl,rfl,_,rfl,?_⟩)
    rcases Bool.eq_false_or_eq_true (decide (V.str w=V.str "end")) with h3 |h3
    ·rw[if_pos h3]at z
     refine ifY h3 ⟨_,rfl,rfl,_,rfl,?_⟩
     rcases Bool.eq_false_or_eq_true (decide (V.str h0=V.str "if")) with h4 |h4
     ·rw[if_pos (z.trans h4)]at e2
      exact ifY h4 (out _ e4 e2.symm)
     ·exact ifX h4 (m3 (z.trans h4))
    ·rw[if_neg (by rw[h3];decide)]at z
     exact ifX h3 (iteF (m3 z))
  intro t3
  refine f1 _ _ ?_
  clear f1
  rw[if_neg (by rw[t3];decide)]at e2
  refine seqF fun F1 f1=>?_
  suffices m4:∀H7,H7 wl=some (.lst ((if popB w=true then W.tail else W).reverse.map V.str))->Same H H7->F1 [some (.ref a),some (.ref b),some (.ref wl),some (.int (i:Int)),some (.str row),some (.str w),some (.str h0)] H7 by
   clear f1
   refine⟨_,rfl,sz2,fun t n=>⟨t,_,rfl,.inr (SqT.of jb),rfl,rfl,_,rfl,?_⟩⟩
   have e1:=keepN (o:=.tup [.str "else",.str "end"]) e1 n
   have e4:=e4.trans (je (o:=.tup [.str "else",.str "end"]) n)
   rcases Bool.eq_false_or_eq_true (popB w) with hp |hp
   ·rw[if_pos hp]at m4
    have wn:W≠[]:=pop_ne hp (by rw[eh];exact t2)
    cases W with
    |nil=>exact absurd rfl wn
    |cons x W'=>
     rw[List.reverse_cons,List.map_append]at e1
     refine ifY hp ⟨_,rfl,.inl ⟨rfl,_,SqL.of e1⟩,wl,_,.str x,rfl,rfl,e1,by simp,m4 _ ?_ fun c ob e=>by rw[jh (jj e nwl)];exact e4 _ _ e⟩
     rw[jb]
     exact congrArg (fun z=>some (HO.lst z)) List.dropLast_concat
   ·rw[if_neg (by rw[hp];decide)]at m4
    exact ifX hp (m4 _ e1 e4)
  intro H7 e1 e4
  refine f1 _ _ ?_
  clear f1
  have lW:(if popB w=true then W.tail else W).length<=i:=by
   split
   ·rw[List.length_tail];omega
   ·exact e3
  have eg:goW w W=(if pushB w=true then w::(if popB w=true then W.tail else W) else (if popB w=true then W.tail else W)):=rfl
  rw[eg]at e2
  generalize (if popB w=true then W.tail else W)=W1 at*
  refine⟨_,rfl,sz4,fun t n=>⟨t,_,rfl,.inr (SqT.of jb),rfl,rfl,_,rfl,?_⟩⟩
  have e1:=keepN (o:=.tup [.str "def",.str "if",.str "while",.str "else"]) e1 n
  have e4:=e4.trans (je (o:=.tup [.str "def",.str "if",.str "while",.str "else"]) n)
  rcases Bool.eq_false_or_eq_true (pushB w) with hp |hp
  ·rw[if_pos hp]at e2
   exact ifY hp ⟨_,rfl,.inl ⟨rfl,_,SqL.of e1⟩,_,rfl,wl,_,_,rfl,rfl,e1,by rw[List.length_map,List.length_reverse];omega,fE _ _ ⟨_,_,_,_,w::W1,rfl,by rw[jb,List.reverse_cons,List.map_append];rfl,e2,by rw[List.length_cons];omega,fun c ob e=>by rw[jh (jj e nwl)];exact e4 _ _ e⟩⟩
  ·rw[if_neg (by rw[hp];decide)]at e2
   exact ifX hp (fE _ _ ⟨_,_,_,_,W1,rfl,e1,e2,by omega,e4⟩)
 ·obtain⟨o3,o4,o5,o6,W,rfl,e1,e2,e3,e4⟩:=h
  rw[List.length_map,List.drop_length]at e2
  have e2:(if W.isEmpty=true then none else some (rows.length+1))=dueF bad rows 0 []:=e2
  refine seqF fun F1 f1=>⟨_,rfl,sz0,fun l nl=>⟨wl,l,_,rfl,rfl,keepN e1 nl,jb,_,rfl,?_⟩⟩
  have s5:=e4.trans (je (o:=.lst []) nl)
  cases W with
  |nil=>
   refine ifX rfl (f1 _ _ ?_)
   have q:=q _ s5
   rw[<- e2]at q
   exact q
  |cons w W=>
   have q:=q _ s5
   rw[<- e2]at q
   have q:Q (.int ((rows.length+1:Nat):Int)) _:=q
   refine ifY (by simp) ⟨_,rfl,a,_,rfl,.inl (SqL.of (s5 _ _ ha)),_,_,rfl,rfl,?_⟩
   show Q (.int (((rows.map V.str).length:Int)+1)) _
   rw[List.length_map]
   exact q
noncomputable def wOf:Rw'×List Bd->Str
 | (.df _ _,_)=>"def"
 | (.ifr _,bs)=>if bs.length=1 then "if" else "else"
 | (.whr _,_)=>"while"
 |_=>""
noncomputable def stB(w last:Str):Bool:=!(t2B w last)&&!(t3B w last)
noncomputable def heads:List Str:=["def","set","read","write","call","if","else","while","give","end"]
theorem qg(R:Rw'):R.word∈heads:=by
 cases R with
 |lf l=>cases l<;>(show Str.ofString _∈heads;decide+kernel)
 |df f ps=>show Str.ofString "def"∈heads;decide+kernel
 |ifr T=>show Str.ofString "if"∈heads;decide+kernel
 |whr T=>show Str.ofString "while"∈heads;decide+kernel
 |els=>show Str.ofString "else"∈heads;decide+kernel
 |fin=>show Str.ofString "end"∈heads;decide+kernel
theorem st_top:∀w∈heads,stB w "top"=decide (V.str w=V.str "def"):=by decide+kernel
theorem st_in:∀w∈heads,∀l∈(["def","if","else","while"]:List Str),stB w l=(if V.str w=V.str "else" then decide (l="if") else if V.str w=V.str "end" then !decide (l="if") else !decide (V.str w=V.str "def")):=by decide+kernel
theorem fit_st{R:Rw'}{L:List (Rw'×List Bd)}(hw:WfL L):stB R.word ((L.map wOf).headD "top")=fitB R.word L:=by
 cases L with
 |nil=>exact st_top _ (qg R)
 |cons c L=>
  have key:∀l:Str,wOf c=l->l∈(["def","if","else","while"]:List Str)->awB c=decide (l="if")->stB R.word ((((c::L).map wOf)).headD "top")=fitB R.word (c::L):=fun l e hl ha=>by
   show stB R.word (wOf c)=(if V.str R.word=V.str "else" then awB c else if V.str R.word=V.str "end" then !awB c else !decide (V.str R.word=V.str "def"))
   rw[e,ha]
   exact st_in _ (qg R) l hl
  cases L with
  |nil=>obtain⟨f,ps,a,rfl⟩:=hw;exact key "def" rfl (by decide+kernel) (by show false=_;decide+kernel)
  |cons d L=>
   rcases hw.1 with ⟨T,a,rfl⟩ | ⟨T,a,b,rfl⟩ | ⟨T,a,rfl⟩
   ·exact key "if" rfl (by decide+kernel) (by show true=_;decide+kernel)
   ·exact key "else" rfl (by decide+kernel) (by show false=_;decide+kernel)
   ·exact key "while" rfl (by decide+kernel) (by show false=_;decide+kernel)
theorem go_stp{R:Rw'}{ds ds':List Df}{L L':List (Rw'×List Bd)}(h:Stp R ds L ds' L'):goW R.word (L.map wOf)=L'.map wOf:=by
 have k:∀w:Str,popB w=false->pushB w=false->∀W,goW w W=W:=fun w h1 h2 W=>by
  unfold goW
  rw[h1,h2]
  rfl
 have k2:∀w:Str,popB w=false->pushB w=true->∀W,goW w W=w::W:=fun w h1 h2 W=>by
  unfold goW
  rw[h1,h2]
  rfl
 have put:∀(R:Rw') (B:List Bd) (a a':Bd),wOf (R,B++[a])=wOf (R,B++[a']):=fun R B a a'=>by
  cases R<;>simp [wOf]
 have fin:∀c W,goW "end" (c::W)=W:=fun c W=>by
  unfold goW
  rw[show popB "end"=true by decide+kernel,show pushB "end"=false by decide+kernel]
  rfl
 cases h with
 |df f ps ds=>exact k2 "def" (by decide+kernel) (by decide+kernel) _
 |ifr T ds Y L=>exact k2 "if" (by decide+kernel) (by decide+kernel) _
 |whr T ds Y L=>exact k2 "while" (by decide+kernel) (by decide+kernel) _
 |els T ds a L=>
  show goW "else" (_::L.map wOf)=_
  unfold goW
  rw[show popB "else"=true by decide+kernel,show pushB "else"=true by decide+kernel]
  rfl
 |lf l ds R' B a L=>
  have e:goW (Rw'.lf l).word (((R',B++[a])::L).map wOf)=((R',B++[a])::L).map wOf:=by
   cases l with
   |rd x T=>exact k "read" (by decide+kernel) (by decide+kernel) _
   |st x T=>exact k "set" (by decide+kernel) (by decide+kernel) _
   |wr T U=>exact k "write" (by decide+kernel) (by decide+kernel) _
   |cl x f ts=>exact k "call" (by decide+kernel) (by decide+kernel) _
   |gv T=>exact k "give" (by decide+kernel) (by decide+kernel) _
  rw[e,List.map_cons,List.map_cons,put R' B a]
 |ed f ps ds a=>exact fin _ _
 |ei T ds a b R' B c L=>
  show goW "end" (_::wOf (R',B++[c])::L.map wOf)=wOf (R',B++[_])::L.map wOf
  rw[fin,put R' B c]
 |ew T ds a R' B c L=>
  show goW "end" (_::wOf (R',B++[c])::L.map wOf)=wOf (R',B++[_])::L.map wOf
  rw[fin,put R' B c]
def Kind(bad:List Str)(y:Str):Prop:=inV (.str (stp y)) (bad.map V.str)=true∨(wordsS y=[]/\fstW (stp y)="")∨∃R,R.Ok/\wordsS y=Rw'.toks R/\fstW (stp y)=R.word
theorem Zf{bad:List Str}(hB:∀y,inV (.str (stp y)) (bad.map V.str)=true->NoRow (wordsS y)):∀{rows:List Str},(∀y∈rows,Kind bad y)->∀{n:Nat} {ds:List Df} {L:List (Rw'×List Bd)},WfL L->
  (dueF bad rows n (L.map wOf)=none/\∃D,Rds rows ds L D)∨∃line,dueF bad rows n (L.map wOf)=some line/\RdsN rows n ds L line
 | [],_,n,ds,L,hw=>by
  cases L with
  |nil=>exact .inl ⟨rfl,ds,rfl,rfl⟩
  |cons c L=>exact .inr ⟨n+1,rfl,(by intro z;cases z),rfl⟩
 |row::rows,hk,n,ds,L,hw=>by
  have ih:=fun {n ds L} (h:WfL L)=>Zf hB (rows:=rows) (fun y hy=>hk y (List.mem_cons_of_mem _ hy)) (n:=n) (ds:=ds) h
  show((if inV (.str (stp row)) (bad.map V.str)=true then some (n+1) else if t2B (fstW (stp row)) ((L.map wOf).headD "top")=true then some (n+1) else if t3B (fstW (stp row)) ((L.map wOf).headD "top")=true then some (n+1) else dueF bad rows (n+1) (goW (fstW (stp row)) (L.map wOf)))=none/\_)∨∃line,(if inV (.str (stp row)) (bad.map V.str)=true then some (n+1) else if t2B (fstW (stp row)) ((L.map wOf).headD "top")=true then some (n+1) else if t3B (fstW (stp row)) ((L.map wOf).headD "top")=true then some (n+1) else dueF bad rows (n+1) (goW (fstW (stp row)) (L.map wOf)))=some line/\_
  by_cases c:inV (.str (stp row)) (bad.map V.str)=true
  ·rw[if_pos c]
   exact .inr ⟨n+1,rfl,.inr (.inl ⟨hB row c,rfl⟩)⟩
  rw[if_neg c]
  rcases hk row List.mem_cons_self with h | ⟨h1,h2⟩ | ⟨R,hR,h1,h2⟩
  ·exact absurd h c
  ·have e2:∀l,t2B "" l=false:=fun l=>rfl
   have e3:∀l,t3B "" l=false:=fun l=>by
    unfold t3B
    rw[show decide (V.str (Str.ofString "")=V.str "else")=false by decide+kernel,show decide (V.str (Str.ofString "")=V.str "end")=false by decide+kernel]
    rfl
   have eg:∀W,goW "" W=W:=fun W=>by
    unfold goW
    rw[show popB ""=false by decide+kernel,show pushB ""=false by decide+kernel]
    rfl
   rw[h2,e2,e3,eg,if_neg (by decide),if_neg (by decide)]
   rcases ih (n:=n+1) (ds:=ds) hw with ⟨a,D,b⟩ | ⟨line,a,b⟩
   ·exact .inl ⟨a,D,.inl ⟨h1,b⟩⟩
   ·exact .inr ⟨line,a,.inl ⟨h1,b⟩⟩
  ·rw[h2]
   have fs:=fit_st (R:=R) hw
   cases hf:fitB R.word L with
   |false=>
    rw[hf]at fs
    unfold stB at fs
    have ee:(if t2B R.word ((L.map wOf).headD "top")=true then some (n+1) else if t3B R.word ((L.map wOf).headD "top")=true then some (n+1) else dueF bad rows (n+1) (goW R.word (L.map wOf)))=some (n+1):=by
     cases x2:t2B R.word ((L.map wOf).headD "top") with
     |true=>rfl
     |false=>
      cases x3:t3B R.word ((L.map wOf).headD "top") with
      |true=>rfl
      |false=>rw[x2,x3]at fs;cases fs
    rw[ee]
    exact .inr ⟨n+1,rfl,.inr (.inr ⟨R,h1,hR,.inl ⟨hf,rfl⟩⟩)⟩
   |true=>
    rw[hf]at fs
    unfold stB at fs
    rw[Bool.and_eq_true]at fs
    have x2:t2B R.word ((L.map wOf).headD "top")=false:=by simpa using fs.1
    have x3:t3B R.word ((L.map wOf).headD "top")=false:=by simpa using fs.2
    obtain⟨ds',L',st,hw'⟩:=fit_stp hw hf ds
    rw[x2,x3,if_neg (by decide),if_neg (by decide),go_stp st]
    rcases ih (n:=n+1) (ds:=ds') hw' with ⟨a,D,b⟩ | ⟨line,a,b⟩
    ·exact .inl ⟨a,D,.inr ⟨R,ds',L',h1,hR,st,b⟩⟩
    ·exact .inr ⟨line,a,.inr (.inr ⟨R,h1,hR,.inr ⟨ds',L',st,b⟩⟩)⟩
noncomputable def Bd.rows:Nat->Bd->List (Nat×Rw')
 |_,.nil=>[]
 |d,.lf l r=>(d,.lf l)::r.rows d
 |d,.ite T a b r=>(d,.ifr T)::(a.rows (d+1)++(d,.els)::(b.rows (d+1)++(d,.fin)::r.rows d))
 |d,.loop T a r=>(d,.whr T)::(a.rows (d+1)++(d,.fin)::r.rows d)
noncomputable def rowX(c:Nat×Rw'):Str:=rowT c.1 c.2.words
noncomputable def Df.rows(d:Df):List (Nat×Rw'):=(0,.df d.f d.ps)::(d.b.rows 1++[(0,.fin)])
noncomputable def prows(ds:List Df):List Str:=(ds.map fun d=>d.rows.map rowX).flatten
theorem zB{d:Nat}{R:Rw'}{rows:List Str}{ds ds' D:List Df}{L L':List (Rw'×List Bd)}(ho:R.Ok)(hs:Stp R ds L ds' L')(h:Rds rows ds' L' D):Rds (rowX (d,R)::rows) ds L D:=
 .inr ⟨R,ds',L',zM d ho,ho,hs,h⟩
theorem run_bd{b:Bd}:b.Ok->∀{d:Nat} {rest:List Str} {ds D:List Df} {R:Rw'} {B:List Bd} {a:Bd} {L:List (Rw'×List Bd)},Rds rest ds ((R,B++[a.app b])::L) D->Rds ((b.rows d).map rowX++rest) ds ((R,B++[a])::L) D:=by
 induction b with
 |nil=>intro _ d rest ds D R B a L h;rw[Jo]at h;exact h
 |lf l r ih=>
  intro ho d rest ds D R B a L h
  refine zB (R:=.lf l) ho.1 (.lf l ds R B a L) (ih ho.2 ?_)
  rw[zp]
  exact h
 |ite T x y r ix iy ir=>
  intro ho d rest ds D R B a L h
  show Rds (rowX (d,.ifr T)::((x.rows (d+1)++(d,.els)::(y.rows (d+1)++(d,.fin)::r.rows d)).map rowX++rest)) ds ((R,B++[a])::L) D
  refine zB ho.1 (.ifr T ds (R,B++[a]) L) ?_
  rw[List.map_append,List.append_assoc]
  refine ix ho.2.1 (B:=[]) (a:=.nil) ?_
  show Rds (rowX (d,.els)::((y.rows (d+1)++(d,.fin)::r.rows d).map rowX++rest)) ds ((.ifr T,[x])::(R,B++[a])::L) D
  refine zB (R:=.els) trivial (.els T ds x _) ?_
  rw[List.map_append,List.append_assoc]
  refine iy ho.2.2.1 (B:=[x]) (a:=.nil) ?_
  show Rds (rowX (d,.fin)::((r.rows d).map rowX++rest)) ds ((.ifr T,[x,y])::(R,B++[a])::L) D
  refine zB (R:=.fin) trivial (.ei T ds x y R B a L) (ir ho.2.2.2 ?_)
  rw[zp]
  exact h
 |loop T x r ix ir=>
  intro ho d rest ds D R B a L h
  show Rds (rowX (d,.whr T)::((x.rows (d+1)++(d,.fin)::r.rows d).map rowX++rest)) ds ((R,B++[a])::L) D
  refine zB ho.1 (.whr T ds (R,B++[a]) L) ?_
  rw[List.map_append,List.append_assoc]
  refine ix ho.2.1 (B:=[]) (a:=.nil) ?_
  show Rds (rowX (d,.fin)::((r.rows d).map rowX++rest)) ds ((.whr T,[x])::(R,B++[a])::L) D
  refine zB (R:=.fin) trivial (.ew T ds x R B a L) (ir ho.2.2 ?_)
  rw[zp]
  exact h
theorem run_df{d:Df}(h:DfOk d){rest:List Str}{ds D:List Df}(hr:Rds rest (ds++[d]) [] D):Rds (d.rows.map rowX++rest) ds [] D:=by
 show Rds (rowX (0,.df d.f d.ps)::((d.b.rows 1++[(0,Rw'.fin)]).map rowX++rest)) ds [] D
 refine zB (R:=.df d.f d.ps) ⟨h.1,h.2.1,h.2.2.1⟩ (.df d.f d.ps ds) ?_
 rw[List.map_append,List.append_assoc]
 refine run_bd h.2.2.2.1 (B:=[]) (a:=.nil) ?_
 exact zB (R:=.fin) trivial (.ed d.f d.ps ds d.b) hr
theorem Z6{ps:List Df}(h:∀d∈ps,DfOk d){rest:List Str}{D:List Df}:∀{ds:List Df},Rds rest (ds++ps) [] D->Rds (prows ps++rest) ds [] D:=by
 induction ps with
 |nil=>intro ds hr;rw[List.append_nil]at hr;exact hr
 |cons d r ih=>
  intro ds hr
  show Rds ((d.rows.map rowX++(r.map fun d=>d.rows.map rowX).flatten)++rest) ds [] D
  rw[List.append_assoc]
  refine run_df (h d List.mem_cons_self) (ih (fun e he=>h e (List.mem_cons_of_mem _ he)) ?_)
  rw[List.append_assoc]
  exact hr
theorem run_all{ps:List Df}(h:∀d∈ps,DfOk d):Rds (prows ps) [] [] ps:=by
 have:=Z6 h (rest:=[]) (ds:=[]) (D:=ps) ⟨rfl,rfl⟩
 rw[List.append_nil]at this
 exact this
noncomputable def wt(ys:List Str):Nat:=(ys.map (·.length)).sum+ys.length
theorem qw(a b:List Str):wt (a++b)=wt a+wt b:=by
 unfold wt
 rw[List.map_append,List.sum_append,List.length_append]
 omega
theorem jB(a:Str)(b:List Str):wt (a::b)=a.length+1+wt b:=by
 unfold wt
 rw[List.map_cons,List.sum_cons,List.length_cons]
 omega
theorem wt_tms{ts:List Tm}(h:∀T∈ts,TmOk T):wt (ts.map Tm.txt)<=763*ts.length:=by
 induction ts with
 |nil=>exact Nat.le_refl 0
 |cons T r ih=>
  have h1:=zA (h T List.mem_cons_self)
  have h2:=ih fun U hU=>h U (List.mem_cons_of_mem _ hU)
  rw[List.map_cons,jB,List.length_cons]
  omega
theorem wt_wn{ps:List Str}(h:∀p∈ps,WN p):wt ps<=9*ps.length:=by
 induction ps with
 |nil=>exact Nat.le_refl 0
 |cons p r ih=>
  have h1:=(h p List.mem_cons_self).1.2.2
  have h2:=ih fun U hU=>h U (List.mem_cons_of_mem _ hU)
  rw[jB,List.length_cons]
  omega
theorem zm:∀k∈resv,k.length<=5:=by decide+kernel
theorem JE{r:Rw'}(h:r.Ok):wt r.words<=4610:=by
 have kd:=zm "def" (by decide+kernel)
 have ks:=zm "set" (by decide+kernel)
 have kr:=zm "read" (by decide+kernel)
 have kw:=zm "write" (by decide+kernel)
 have kc:=zm "call" (by decide+kernel)
 have ki:=zm "if" (by decide+kernel)
 have ke:=zm "else" (by decide+kernel)
 have kh:=zm "while" (by decide+kernel)
 have kg:=zm "give" (by decide+kernel)
 have kn:=zm "end" (by decide+kernel)
 have w0:wt []=0:=rfl
 cases r with
 |df f ps=>
  have h1:=h.1.1.2.2
  have h2:=wt_wn h.2.1
  have h3:=h.2.2
  show wt ("def"::f::ps)<=_
  rw[jB,jB]
  omega
 |ifr T=>have:=zA h;show wt ["if",T.txt]<=_;rw[jB,jB];omega
 |whr T=>have:=zA h;show wt ["while",T.txt]<=_;rw[jB,jB];omega
 |els=>show wt ["else"]<=_;rw[jB];omega
 |fin=>show wt ["end"]<=_;rw[jB];omega
 |lf l=>
  cases l with
  |rd x T=>have h1:=h.1.1.2.2;have:=zA h.2;show wt ["read",x,T.txt]<=_;rw[jB,jB,jB];omega
  |st x T=>have h1:=h.1.1.2.2;have:=zA h.2;show wt ["set",x,T.txt]<=_;rw[jB,jB,jB];omega
  |wr T U=>have h1:=zA h.1;have:=zA h.2;show wt ["write",T.txt,U.txt]<=_;rw[jB,jB,jB];omega
  |cl x f ts=>
   have h1:=h.1.1.2.2
   have h2:=h.2.1.1.2.2
   have h3:=wt_tms h.2.2.2
   have h4:=h.2.2.1
   show wt ("call"::x::f::ts.map Tm.txt)<=_
   rw[jB,jB,jB]
   omega
  |gv T=>have:=zA h;show wt ["give",T.txt]<=_;rw[jB,jB];omega
theorem qh(z:Str)(hz:z.length=1)(ys:List Str):(Txt.join z ys).length<=wt ys:=by
 show(Builtin.Str.glued z ys).length<=_
 rw[size_glued,hz]
 unfold wt
 omega
theorem zC{d:Nat}{r:Rw'}(h:r.Ok):(rowX (d,r)).length<=4610+2*d:=by
 have h1:=JE h
 have h2:=qh " " zl r.words
 show(Txt.mul "  " (d:Int)++Txt.join " " r.words).length<=_
 rw[slen,KG]
 omega
theorem Qm{d:Nat}{r:Rw'}(h:r.Ok):10∉(rowX (d,r)).l:=by
 intro m
 have m:10∈(Txt.mul "  " (d:Int)++Txt.join " " r.words).l:=m
 rw[j3,Xf,kQ,JQ]at m
 have jm:∀{ws:List (List Nat)},10∈jn [32] ws->∃w∈ws,10∈w:=by
  intro ws
  induction ws with
  |nil=>exact fun h=>nomatch h
  |cons x r ih=>
   intro h
   cases r with
   |nil=>exact⟨x,List.mem_cons_self,h⟩
   |cons y r=>
    have h:10∈x++[32]++jn [32] (y::r):=h
    simp only[List.mem_append,List.mem_singleton]at h
    rcases h with (h |h) |h
    ·exact⟨x,List.mem_cons_self,h⟩
    ·exact absurd h (by decide)
    ·obtain⟨w,hw,h⟩:=ih h
     exact⟨w,List.mem_cons_of_mem _ hw,h⟩
 rcases List.mem_append.mp m with m |m
 ·exact absurd (List.mem_replicate.mp m).2 (by decide)
 ·obtain⟨w,hw,m2⟩:=jm m
  clear m
  obtain⟨y,hy,rfl⟩:=List.mem_map.mp hw
  have nk:∀k∈resv,10∉k.l:=fun k hk z=>((QD k hk).2 _ z).2.2.2 rfl
  have nw:∀{x:Str},WN x->10∉x.l:=fun hx z=>((WN.wrd hx).2 _ z).2.2.2 rfl
  have nt:∀{T:Tm},TmOk T->10∉T.txt.l:=fun hT=>JC hT.1
  have kk:∀(k:Str),k∈resv->y=k->False:=fun k hk e=>nk k hk (by rw[<- e];exact m2)
  cases r with
  |df f ps=>
   rcases List.mem_cons.mp hy with e |hy
   ·exact kk "def" (by decide+kernel) e
   ·rcases List.mem_cons.mp hy with e |hy
    ·exact nw h.1 (by rw[<- e];exact m2)
    ·exact nw (h.2.1 y hy) m2
  |ifr T=>
   rcases List.mem_cons.mp hy with e |hy
   ·exact kk "if" (by decide+kernel) e
   ·exact nt h (by rw[<- List.mem_singleton.mp hy];exact m2)
  |whr T=>
   rcases List.mem_cons.mp hy with e |hy
   ·exact kk "while" (by decide+kernel) e
   ·exact nt h (by rw[<- List.mem_singleton.mp hy];exact m2)
  |els=>exact kk "else" (by decide+kernel) (List.mem_singleton.mp hy)
  |fin=>exact kk "end" (by decide+kernel) (List.mem_singleton.mp hy)
  |lf l=>
   cases l with
   |rd x T=>
    rcases List.mem_cons.mp hy with e |hy
    ·exact kk "read" (by decide+kernel) e
    ·rcases List.mem_cons.mp hy with e |hy
     ·exact nw h.1 (by rw[<- e];exact m2)
     ·exact nt h.2 (by rw[<- List.mem_singleton.mp hy];exact m2)
   |st x T=>
    rcases List.mem_cons.mp hy with e |hy
    ·exact kk "set" (by decide+kernel) e
    ·rcases List.mem_cons.mp hy with e |hy
     ·exact nw h.1 (by rw[<- e];exact m2)
     ·exact nt h.2 (by rw[<- List.mem_singleton.mp hy];exact m2)
   |wr T U=>
    rcases List.mem_cons.mp hy with e |hy
    ·exact kk "write" (by decide+kernel) e
    ·rcases List.mem_cons.mp hy with e |hy
     ·exact nt h.1 (by rw[<- e];exact m2)
     ·exact nt h.2 (by rw[<- List.mem_singleton.mp hy];exact m2)
   |cl x f ts=>
    rcases List.mem_cons.mp hy with e |hy
    ·exact kk "call" (by decide+kernel) e
    ·rcases List.mem_cons.mp hy with e |hy
     ·exact nw h.1 (by rw[<- e];exact m2)
     ·rcases List.mem_cons.mp hy with e |hy
      ·exact nw h.2.1 (by rw[<- e];exact m2)
      ·obtain⟨T,hT,rfl⟩:=List.mem_map.mp hy
       exact nt (h.2.2.2 T hT) m2
   |gv T=>
    rcases List.mem_cons.mp hy with e |hy
    ·exact kk "give" (by decide+kernel) e
    ·exact nt h (by rw[<- List.mem_singleton.mp hy];exact m2)
def RsOk(n:Nat)(rs:List (Nat×Rw')):Prop:=∀c∈rs,c.2.Ok/\c.1<=n
theorem rows_ok{b:Bd}:b.Ok->∀{d:Nat},RsOk (d+b.dep) (b.rows d):=by
 have up:∀{n m:Nat} {rs:List (Nat×Rw')},n<=m->RsOk n rs->RsOk m rs:=fun h k c hc=>⟨(k c hc).1,Nat.le_trans (k c hc).2 h⟩
 have co:∀{n:Nat} {c:Nat×Rw'} {rs:List (Nat×Rw')},(c.2.Ok/\c.1<=n)->RsOk n rs->RsOk n (c::rs):=fun h k c hc=>by
  rcases List.mem_cons.mp hc with rfl |hc
  ·exact h
  ·exact k c hc
 have ap:∀{n:Nat} {r1 r2:List (Nat×Rw')},RsOk n r1->RsOk n r2->RsOk n (r1++r2):=fun h k c hc=>(List.mem_append.mp hc).elim (h c) (k c)
 induction b with
 |nil=>intro _ d c hc;exact nomatch hc
 |lf l r ih=>intro ho d;exact co ⟨ho.1,Nat.le_add_right _ _⟩ (ih ho.2)
 |ite T x y r ix iy ir=>
  intro ho d
  have e:Bd.dep (.ite T x y r)=max (max x.dep y.dep+1) r.dep:=rfl
  rw[e]
  refine co ⟨ho.1,Nat.le_add_right _ _⟩ (ap (up (by omega) (ix ho.2.1)) (co ⟨trivial,Nat.le_add_right _ _⟩ (ap (up (by omega) (iy ho.2.2.1)) (co ⟨trivial,Nat.le_add_right _ _⟩ (up (by omega) (ir ho.2.2.2))))))
 |loop T x r ix ir=>
  intro ho d
  have e:Bd.dep (.loop T x r)=max (x.dep+1) r.dep:=rfl
  rw[e]
  refine co ⟨ho.1,Nat.le_add_right _ _⟩ (ap (up (by omega) (ix ho.2.1)) (co ⟨trivial,Nat.le_add_right _ _⟩ (up (by omega) (ir ho.2.2))))
theorem JF(b:Bd):∀{d:Nat},(b.rows d).length<=3*b.size:=by
 induction b with
 |nil=>intro d;exact Nat.le_refl 0
 |lf l r ih=>intro d;have:=ih (d:=d);show(r.rows d).length+1<=3*(r.size+1);omega
 |ite T x y r ix iy ir=>
  intro d
  have h1:=ix (d:=d+1)
  have h2:=iy (d:=d+1)
  have h3:=ir (d:=d)
  show((d,Rw'.ifr T)::(x.rows (d+1)++(d,Rw'.els)::(y.rows (d+1)++(d,Rw'.fin)::r.rows d))).length<=3*(x.size+y.size+r.size+1)
  rw[List.length_cons,List.length_append,List.length_cons,List.length_append,List.length_cons]
  omega
 |loop T x r ix ir=>
  intro d
  have h1:=ix (d:=d+1)
  have h3:=ir (d:=d)
  show((d,Rw'.whr T)::(x.rows (d+1)++(d,Rw'.fin)::r.rows d)).length<=3*(x.size+r.size+1)
  rw[List.length_cons,List.length_append,List.length_cons]
  omega
theorem XF{b:Bd}:b.Ok->∀{d:Nat},d+b.dep<=9->wt ((b.rows d).map rowX)<=4700*b.size:=by
 have kl:∀(d:Nat) (k:Str),k.length<=5->(rowT d [k]).length<=6+2*d:=fun d k hk=>by
  have h2:=qh " " zl [k]
  have:wt [k]=k.length+1:=by rw[jB];rfl
  show(Txt.mul "  " (d:Int)++Txt.join " " [k]).length<=_
  rw[slen,KG]
  omega
 have ke:=zm "else" (by decide+kernel)
 have kn:=zm "end" (by decide+kernel)
 induction b with
 |nil=>intro _ d _;exact Nat.le_refl 0
 |lf l r ih=>
  intro ho d hd
  have h1:=ih ho.2 (d:=d) hd
  have h2:=zC (d:=d) (r:=.lf l) ho.1
  have hd:d+r.dep<=9:=hd
  show wt (rowX (d,.lf l)::(r.rows d).map rowX)<=4700*(r.size+1)
  rw[jB]
  omega
 |ite T x y r ix iy ir=>
  intro ho d hd
  have hd:d+max (max x.dep y.dep+1) r.dep<=9:=hd
  have h1:=ix ho.2.1 (d:=d+1) (by omega)
  have h2:=iy ho.2.2.1 (d:=d+1) (by omega)
  have h3:=ir ho.2.2.2 (d:=d) (by omega)
  have h4:=zC (d:=d) (r:=.ifr T) ho.1
  have h5:=kl d "else" ke
  have h6:=kl d "end" kn
  show wt (rowX (d,.ifr T)::(x.rows (d+1)++(d,Rw'.els)::(y.rows (d+1)++(d,Rw'.fin)::r.rows d)).map rowX)<=4700*(x.size+y.size+r.size+1)
  rw[jB,List.map_append,List.map_cons,List.map_append,List.map_cons,qw,jB,qw,jB]
  have e1:(rowX (d,Rw'.els)).length<=6+2*d:=h5
  have e2:(rowX (d,Rw'.fin)).length<=6+2*d:=h6
  omega
 |loop T x r ix ir=>
  intro ho d hd
  have hd:d+max (x.dep+1) r.dep<=9:=hd
  have h1:=ix ho.2.1 (d:=d+1) (by omega)
  have h3:=ir ho.2.2 (d:=d) (by omega)
  have h4:=zC (d:=d) (r:=.whr T) ho.1
  have h6:=kl d "end" kn
  show wt (rowX (d,.whr T)::(x.rows (d+1)++(d,Rw'.fin)::r.rows d).map rowX)<=4700*(x.size+r.size+1)
  rw[jB,List.map_append,List.map_cons,qw,jB]
  have e2:(rowX (d,Rw'.fin)).length<=6+2*d:=h6
  omega
noncomputable abbrev sText:Stmt:=top 29
theorem Qn{t:Tm}(g:t.Good){n:Nat}(hn:n<=7)(d:t.depth < n):t.txt.length<=2000:=by
 have h1:=Jr g
 have h2:2 ^ t.depth<=2 ^ 6:=Nat.pow_le_pow_right (by decide) (by omega)
 have h3:(2:Nat) ^ 6=64:=by decide
 omega
theorem kz(x:Str):Str.empty++x=x:=by
 obtain⟨c⟩:=x
 show Str.mk (#[]++c)=⟨c⟩
 rw[Array.empty_append]
section
variable {X:Cx}
theorem KR:CallR X (.type "str") (fun xs H Q=>(∃i,xs=[.int i]/\i.natAbs.log2 < 1920/\Q (.str (toString i)) H)∨∃x,xs=[.str x]/\Q (.str x) H):=by
 refine CallR.or KM ?_
 intro pins s σ H xs us Q I r h
 obtain⟨x,rfl,q⟩:=h
 obtain⟨u,rfl,rx⟩:=vals1 r
 obtain⟨t,rfl⟩:=(show ∃t,u=Value.str x t from rx)
 exact PySem.P.str_of_str ⟨.str x,H,I,⟨t,rfl⟩,q⟩
end
def spTxt(n:Nat):Sp:=fun vs H Q _=>∃(a:Addr) (T:Tm),vs=[.ref a]/\TmAt H T a/\T.depth < n/\n<=7/\T.Good/\Q (.str T.txt) H
theorem scTxt:FnScope ["term","sign","left","right"] ["term"] (defScope sText):=fsc
theorem Yw{d:Int}(h0:0<=d)(h1:d < 1000000000000000000):d.natAbs.log2 < 1920:=by
 have z:d.natAbs < 2 ^ 60:=by
  have e:(2:Nat) ^ 60=1152921504606846976:=by decide
  omega
 by_cases hz:d.natAbs=0
 ·rw[hz];decide
 ·have:=(Nat.log2_lt hz).mpr z
  omega
theorem ok_txt{f:Addr}{fd:FuncData}(F:Fun K "term_text" "term_text" sText f fd){n:Nat}(G:FnOk P w K mg base CX0 (n+1) f fd ["term"] (spTxt n))(bF:Binds K fd ["term"] [])(kF:keepIn K (.ref f)=true)(mF:mg "term_text"=some (.ref f))(mst:mg "str"=none):FnOk P w K mg base CX0 (n+2) f fd ["term"] (spTxt (n+1)):=by
 refine F.ok scTxt (fun vs H Q E h=>?_) (fun cdv A outer s H vs Q E hr h=>?_)
 ·obtain⟨a,T,rfl,_⟩:=h
  rfl
 obtain⟨a,T,rfl,ta,dp,hn,gd,q⟩:=h
 refine⟨_,(jd (jx (@jq _ _ _ _ _ _ _ _ jI (@jv _ _ _ _ _ _ _ jK (pv 0) jf (fun _ _=>rfl)) jk (nomark _)) (jg (jr (@jG _ _ _ _ _ _ _ _ _ KR rfl mst boot_str (ja (@jv _ _ _ _ _ _ _ jK (pv 0) jf (fun _ _=>rfl)) jc) (by decide) (by decide) (by rfl) (by rfl)))) jp) (jd (jx (@jq _ _ _ _ _ _ _ _ jI (@jv _ _ _ _ _ _ _ jK (pv 0) jf (fun _ _=>rfl)) jk (nomark _)) (jg (jr (@jv _ _ _ _ _ _ _ jK (pv 0) jf (fun _ _=>rfl)))) jp) (jd (js (i:=1) scTxt.nd rfl (Or.inl rfl) (@jv _ _ _ _ _ _ _ jK (pv 0) jf (fun _ _=>rfl))) (jd (js (i:=2) scTxt.nd rfl (Or.inl rfl) (ji G hr rfl mF kF bF .nil pass0 (ja (@jv _ _ _ _ _ _ _ jK (pv 0) jf (fun _ _=>rfl)) jc))) (jd (js (i:=3) scTxt.nd rfl (Or.inl rfl) (ji G hr rfl mF kF bF .nil pass0 (ja (@jv _ _ _ _ _ _ _ jK (pv 0) jf (fun _ _=>rfl)) jc))) (jg (jr (@pe_fstr _ _ _ _ _ _ (@zT _ _ _ _ _ jk (@zT _ _ _ _ _ (@QA _ _ _ _ (pv 1)) (@zT _ _ _ _ _ jk (@zT _ _ _ _ _ (@QA _ _ _ _ (pv 2)) (@zT _ _ _ _ _ jk (@zT _ _ _ _ _ (@QA _ _ _ _ (pv 3)) (@zT _ _ _ _ _ jk (@pj_nil _) (by rfl)) (by rfl)) (by rfl)) (by rfl)) (by rfl)) (by rfl)) (by rfl)))))))))),?_⟩
 have big:=zv
 cases T with
 |num m=>
  have ha:H a=some (.tup [.str "num",.int m]):=ta
  refine⟨_,rfl,a,_,_,_,rfl,rfl,SqT.of ha,rfl,rfl,_,rfl,ifY (by decide+kernel) ?_⟩
  exact⟨_,rfl,a,_,_,_,rfl,rfl,SqT.of ha,rfl,.inl ⟨m,rfl,Yw gd.1 gd.2,q⟩⟩
 |var x=>
  have ha:H a=some (.tup [.str "var",.str x]):=ta
  refine⟨_,rfl,a,_,_,_,rfl,rfl,SqT.of ha,rfl,rfl,_,rfl,ifX (by decide+kernel) ?_⟩
  refine⟨_,rfl,a,_,_,_,rfl,rfl,SqT.of ha,rfl,rfl,_,rfl,ifY (by decide+kernel) ?_⟩
  exact⟨_,rfl,a,_,_,_,rfl,rfl,SqT.of ha,rfl,q⟩
 |op i t1 t2=>
  obtain⟨p1,p2,ha,h1,h2⟩:=ta
  have dp':max t1.depth t2.depth+1 < n+1:=dp
  have f1:=Qn gd.2.1 (n:=n+1) hn (by omega)
  have f2:=Qn gd.2.2 (n:=n+1) hn (by omega)
  have ls:(sgn i).length=1:=rfl
  refine⟨_,rfl,a,_,_,_,rfl,rfl,SqT.of ha,rfl,rfl,_,rfl,ifX (by decide+kernel) ?_⟩
  refine⟨_,rfl,a,_,_,_,rfl,rfl,SqT.of ha,rfl,rfl,_,rfl,ifX (by decide+kernel) ?_⟩
  refine⟨_,rfl,a,_,_,_,rfl,rfl,SqT.of ha,rfl,?_⟩
  refine⟨_,rfl,a,_,_,_,rfl,rfl,SqT.of ha,rfl,p1,t1,rfl,h1,by omega,by omega,gd.2.1,?_⟩
  refine⟨_,rfl,a,_,_,_,rfl,rfl,SqT.of ha,rfl,p2,t2,rfl,h2,by omega,by omega,gd.2.2,?_⟩
  refine⟨_,rfl,(by rw[kz,zg];omega),_,rfl,.inl ⟨_,rfl,by omega,_,rfl,(by rw[kz,slen,zg];omega),?_⟩⟩
  refine⟨_,rfl,(by rw[kz,slen,slen,zg,zl];omega),_,rfl,.inl ⟨_,rfl,by omega,_,rfl,(by rw[kz,slen,slen,slen,zg,zl];omega),?_⟩⟩
  refine⟨_,rfl,(by rw[kz,slen,slen,slen,slen,zg,zl];omega),_,rfl,.inl ⟨_,rfl,by omega,_,rfl,(by rw[kz,slen,slen,slen,slen,slen,zg,zl];omega),?_⟩⟩
  refine⟨_,rfl,(by rw[kz,slen,slen,slen,slen,slen,slen,zg,zl,Jq];omega),(by rw[kz,slen,slen,slen,slen,slen,slen,zg,zl,Jq];omega),?_⟩
  rw[kz]
  exact q
theorem no_txt{f:Addr}{fd:FuncData}:FnOk P w K mg base CX0 1 f fd ["term"] (spTxt 0):=by
 have no:∀vs H Q E,¬spTxt 0 vs H Q E:=fun vs H Q E h=>by
  obtain⟨a,T,_,_,h1,_⟩:=h
  exact absurd h1 (Nat.not_lt_zero _)
 exact⟨fun vs H Q E h=>absurd h (no vs H Q E),fun A outer s H args us vs Q E _ _ _ _ h=>absurd h (no vs H Q E)⟩
theorem txts{f:Addr}{fd:FuncData}(F:Fun K "term_text" "term_text" sText f fd)(bF:Binds K fd ["term"] [])(mF:mg "term_text"=some (.ref f))(mst:mg "str"=none):
  ∀n:Nat,FnOk P w K mg base CX0 (n+1) f fd ["term"] (spTxt n)
 |0=>no_txt
 |n+1=>ok_txt F (txts F bF mF mst n) bF F.kp mF mst
noncomputable abbrev sWw:Stmt:=top 31
noncomputable abbrev sRowW:Stmt:=top 33
noncomputable abbrev sPlaced:Stmt:=top 35
noncomputable abbrev sBehind:Stmt:=top 36
noncomputable abbrev sBRows:Stmt:=top 37
noncomputable abbrev sShown:Stmt:=top 38
inductive Sm where
 |lf (l:Lf) |ite (T:Tm) (a b:Bd) |loop (T:Tm) (a:Bd) |els |fin
def SmV(H:Hp):Sm->V->Prop
 | .lf l,v=>∃p vs,v= .ref p/\H p=some (.tup vs)/\LfV H l vs
 | .ite T a b,v=>∃p t qa qb as bs,v= .ref p/\H p=some (.tup [.str "if",.ref t,.ref qa,.ref qb])/\TmAt H T t/\H qa=some (.tup as)/\H qb=some (.tup bs)/\BdV H a as/\BdV H b bs
 | .loop T a,v=>∃p t qa as,v= .ref p/\H p=some (.tup [.str "while",.ref t,.ref qa])/\TmAt H T t/\H qa=some (.tup as)/\BdV H a as
 | .els,v=>∃p,v= .ref p/\H p=some (.tup [.str "else"])
 | .fin,v=>∃p,v= .ref p/\H p=some (.tup [.str "end"])
theorem SmV.mono{H H':Hp}(k:TMono H H'){s:Sm}{v:V}(h:SmV H s v):SmV H' s v:=by
 cases s with
 |lf l=>obtain⟨p,vs,e,h1,h2⟩:=h;exact⟨p,vs,e,k _ _ h1,h2.mono k⟩
 |ite T a b=>obtain⟨p,t,qa,qb,as,bs,e,h1,h2,h3,h4,h5,h6⟩:=h;exact⟨p,t,qa,qb,as,bs,e,k _ _ h1,h2.mono k,k _ _ h3,k _ _ h4,h5.mono k,h6.mono k⟩
 |loop T a=>obtain⟨p,t,qa,as,e,h1,h2,h3,h5⟩:=h;exact⟨p,t,qa,as,e,k _ _ h1,h2.mono k,k _ _ h3,h5.mono k⟩
 |els=>obtain⟨p,e,h1⟩:=h;exact⟨p,e,k _ _ h1⟩
 |fin=>obtain⟨p,e,h1⟩:=h;exact⟨p,e,k _ _ h1⟩
noncomputable def Bd.sms:Bd->List Sm
 | .nil=>[]
 | .lf l r=>.lf l::r.sms
 | .ite T a b r=>.ite T a b::r.sms
 | .loop T a r=>.loop T a::r.sms
theorem BdV.sm{H:Hp}{b:Bd}:∀{xs:List V},BdV H b xs->xs.length=b.sms.length/\∀(i:Nat) (v:V),xs[i]?=some v->∃s,b.sms[i]?=some s/\SmV H s v:=by
 have nx:∀{s:Sm} {v0:V} {r:List Sm} {ys:List V},SmV H s v0->(ys.length=r.length/\∀(i:Nat) (v:V),ys[i]?=some v->∃s,r[i]?=some s/\SmV H s v)->((v0::ys).length=(s::r).length/\∀(i:Nat) (v:V),(v0::ys)[i]?=some v->∃s',(s::r)[i]?=some s'/\SmV H s' v):=fun h0 h=>⟨by rw[List.length_cons,List.length_cons,h.1],fun i v hv=>by
  cases i with
  |zero=>cases hv;exact⟨_,rfl,h0⟩
  |succ i=>simpa using h.2 i v (by simpa using hv)⟩
 induction b with
 |nil=>intro xs h;have e:xs=[]:=h;rw[e];exact⟨rfl,fun i v hv=>by simp at hv⟩
 |lf l r ih=>rintro xs ⟨p,vs,ys,rfl,h1,h2,h3⟩;exact nx (s:=.lf l) ⟨p,vs,rfl,h1,h2⟩ (ih h3)
 |ite T a b r _ _ ih=>rintro xs ⟨p,t,qa,qb,as,bs,ys,rfl,h1,h0,h2,h3,h4,h5,h6⟩;exact nx (s:=.ite T a b) ⟨p,t,qa,qb,as,bs,rfl,h1,h0,h2,h3,h4,h5⟩ (ih h6)
 |loop T a r _ ih=>rintro xs ⟨p,t,qa,as,ys,rfl,h1,h0,h2,h3,h4⟩;exact nx (s:=.loop T a) ⟨p,t,qa,as,rfl,h1,h0,h2,h3⟩ (ih h4)
noncomputable def Sm.head:Sm->Rw'
 | .lf l=>.lf l
 | .ite T _ _=>.ifr T
 | .loop T _=>.whr T
 | .els=>.els
 | .fin=>.fin
def Sm.Ok:Sm->Prop
 | .lf l=>l.Ok
 | .ite T a b=>TmOk T/\a.Ok/\b.Ok
 | .loop T a=>TmOk T/\a.Ok
 |_=>True
noncomputable def Sm.dep:Sm->Nat
 | .ite _ a b=>max a.dep b.dep+1
 | .loop _ a=>a.dep+1
 |_=>0
theorem Sm.Ok.head{s:Sm}(h:s.Ok):s.head.Ok:=by
 cases s with
 |lf l=>exact h
 |ite T a b=>exact h.1
 |loop T a=>exact h.1
 |els=>trivial
 |fin=>trivial
theorem Zg{b:Bd}:b.Ok->∀s∈b.sms,s.Ok/\s.dep<=b.dep:=by
 induction b with
 |nil=>exact fun _ s hs=>nomatch hs
 |lf l r ih=>
  intro ho s hs
  rcases List.mem_cons.mp hs with rfl |hs
  ·exact⟨ho.1,Nat.zero_le _⟩
  ·exact ih ho.2 s hs
 |ite T a b r _ _ ih=>
  intro ho s hs
  rcases List.mem_cons.mp hs with rfl |hs
  ·exact⟨⟨ho.1,ho.2.1,ho.2.2.1⟩,Nat.le_max_left _ _⟩
  ·have:=ih ho.2.2.2 s hs;exact⟨this.1,Nat.le_trans this.2 (Nat.le_max_right _ _)⟩
 |loop T a r _ ih=>
  intro ho s hs
  rcases List.mem_cons.mp hs with rfl |hs
  ·exact⟨⟨ho.1,ho.2.1⟩,Nat.le_max_left _ _⟩
  ·have:=ih ho.2.2 s hs;exact⟨this.1,Nat.le_trans this.2 (Nat.le_max_right _ _)⟩
noncomputable def Sm.rows(d:Nat):Sm->List (Nat×Rw')
 | .lf l=>[(d,.lf l)]
 | .ite T a b=>(d,.ifr T)::(a.rows (d+1)++(d,.els)::(b.rows (d+1)++[(d,.fin)]))
 | .loop T a=>(d,.whr T)::(a.rows (d+1)++[(d,.fin)])
 | .els=>[(d,.els)]
 | .fin=>[(d,.fin)]
noncomputable def rowsOf(W:List (Sm×Nat)):List (Nat×Rw'):=(W.map fun c=>c.1.rows c.2).flatten
theorem zy(a b:List (Sm×Nat)):rowsOf (a++b)=rowsOf a++rowsOf b:=by unfold rowsOf;rw[List.map_append,List.flatten_append]
theorem qK(b:Bd):∀{d:Nat},b.rows d=rowsOf (b.sms.map fun s=>(s,d)):=by
 induction b with
 |nil=>intro d;rfl
 |lf l r ih=>intro d;show(d,Rw'.lf l)::r.rows d=[(d,.lf l)]++rowsOf (r.sms.map fun s=>(s,d));rw[ih];rfl
 |ite T a b r _ _ ih=>intro d;show(d,Rw'.ifr T)::(a.rows (d+1)++(d,.els)::(b.rows (d+1)++(d,.fin)::r.rows d))=((d,Rw'.ifr T)::(a.rows (d+1)++(d,.els)::(b.rows (d+1)++[(d,.fin)])))++rowsOf (r.sms.map fun s=>(s,d));rw[ih];simp
 |loop T a r _ ih=>intro d;show(d,Rw'.whr T)::(a.rows (d+1)++(d,.fin)::r.rows d)=((d,Rw'.whr T)::(a.rows (d+1)++[(d,.fin)]))++rowsOf (r.sms.map fun s=>(s,d));rw[ih];simp
noncomputable def Sm.behind(d:Nat):Sm->List (Sm×Nat)
 | .ite _ a b=>(a.sms.map fun s=>(s,d+1))++(.els,d)::((b.sms.map fun s=>(s,d+1))++[(.fin,d)])
 | .loop _ a=>(a.sms.map fun s=>(s,d+1))++[(.fin,d)]
 |_=>[]
theorem Jh(s:Sm)(d:Nat):s.rows d=(d,s.head)::rowsOf (s.behind d):=by
 have one:∀(s:Sm) (d:Nat) (r:List (Sm×Nat)),rowsOf ((s,d)::r)=s.rows d++rowsOf r:=fun _ _ _=>rfl
 cases s with
 |lf l=>rfl
 |els=>rfl
 |fin=>rfl
 |ite T a b=>
  show _=(d,Rw'.ifr T)::rowsOf ((a.sms.map fun s=>(s,d+1))++(.els,d)::((b.sms.map fun s=>(s,d+1))++[(.fin,d)]))
  rw[zy,one,zy,<- qK,<- qK,one]
  show _=(d,Rw'.ifr T)::(a.rows (d+1)++([(d,.els)]++(b.rows (d+1)++([(d,.fin)]++rowsOf []))))
  simp [Sm.rows,rowsOf]
 |loop T a=>
  show _=(d,Rw'.whr T)::rowsOf ((a.sms.map fun s=>(s,d+1))++[(.fin,d)])
  rw[zy,one,<- qK]
  show _=(d,Rw'.whr T)::(a.rows (d+1)++([(d,.fin)]++rowsOf []))
  simp [Sm.rows,rowsOf]
def WOk(W:List (Sm×Nat)):Prop:=∀c∈W,c.1.Ok/\c.2+c.1.dep<=9
theorem Yx{s:Sm}{d:Nat}(h:s.Ok)(hd:d+s.dep<=9):WOk (s.behind d):=by
 have pl:∀{b:Bd},b.Ok->(d+1)+b.dep<=9->WOk (b.sms.map fun s=>(s,d+1)):=fun hb he c hc=>by
  obtain⟨s,hs,rfl⟩:=List.mem_map.mp hc
  have:=Zg hb s hs
  exact⟨this.1,by show d+1+s.dep<=9;omega⟩
 have ap:∀{a b:List (Sm×Nat)},WOk a->WOk b->WOk (a++b):=fun ha hb c hc=>(List.mem_append.mp hc).elim (ha c) (hb c)
 have co:∀{c:Sm×Nat} {b:List (Sm×Nat)},(c.1.Ok/\c.2+c.1.dep<=9)->WOk b->WOk (c::b):=fun ha hb c hc=>by
  rcases List.mem_cons.mp hc with rfl |hc
  ·exact ha
  ·exact hb c hc
 cases s with
 |lf l=>exact fun c hc=>nomatch hc
 |els=>exact fun c hc=>nomatch hc
 |fin=>exact fun c hc=>nomatch hc
 |ite T a b=>
  have hd:d+(max a.dep b.dep+1)<=9:=hd
  exact ap (pl h.2.1 (by omega)) (co ⟨trivial,by show d+0<=9;omega⟩ (ap (pl h.2.2 (by omega)) (co ⟨trivial,by show d+0<=9;omega⟩ fun c hc=>nomatch hc)))
 |loop T a=>
  have hd:d+(a.dep+1)<=9:=hd
  exact ap (pl h.2 (by omega)) (co ⟨trivial,by show d+0<=9;omega⟩ fun c hc=>nomatch hc)
def spWw:Sp:=fun vs H Q _=>∃(v:V) (s:Sm),vs=[v]/\SmV H s v/\s.Ok/\∀(r:Addr) (H':Hp),H r=none->H' r=some (.lst (s.head.words.map V.str))->Same H H'->Q (.ref r) H'
def spRowW:Sp:=fun vs H Q _=>∃(a:Addr) (ws:List Str) (d:Nat),vs=[.ref a,.int (d:Int)]/\H a=some (.lst (ws.map V.str))/\wt ws<=10000/\d<=100/\Q (.str (rowT d ws)) H
theorem mul_ok{d:Nat}(h:d<=100):MulOk "  " (d:Int):=by
 have l2:(Str.ofString "  ").length=2:=by decide+kernel
 refine⟨?_,fun h1 _=>?_,fun h1 _=>?_⟩
 ·rw[Bool.or_eq_false_iff]
  exact⟨decide_eq_false (by omega),decide_eq_false (by omega)⟩
 ·rw[l2]
  have h0:(0:Int) < (d:Int):=by omega
  have:(2:Int)<=(2 ^ 63 - 1) / (d:Int):=(Int.le_ediv_iff_mul_le h0).mpr (by omega)
  show ¬((2:Nat):Int) > (2 ^ 63 - 1) / (d:Int)
  omega
 ·rw[l2]
  show decide _=false
  refine decide_eq_false ?_
  rw[sizeLine_eq]
  omega
theorem Yy{K:Frag}{a:Addr}{ts:List V}{Ts:List Tm}{te:TE}{Qf:List V->Hp->Prop}{σt:L2.St}{H:Hp}(ha:H a=some (.tup ts))(hT:TmsV H Ts ts)(hl:Ts.length<=6)
  (he:∀(b:Addr) (T:Tm) (Q:VK),T∈Ts->TmAt H T b->Q (.str T.txt) H->te (some (.ref b)::σt) H Q) (hd:Qf ((Ts.map Tm.txt).map V.str) H):CompR (Itt K a) 1 σt (gName 0) tAll te Qf H:=by
 have big:=line24
 have ll:=hT.len
 refine qY (K:=K) (xs:=ts) (by omega) (fun i zs Hx=>zs=((Ts.take i).map Tm.txt).map V.str/\Hx=H) ⟨rfl,rfl⟩ (fun i zs Hx h=>?_) (fun i x zs Hx hx h=>?_) (fun zs Hx h=>?_)
 ·obtain⟨rfl,rfl⟩:=h
  exact⟨SqT.of ha,by rw[List.length_map,List.length_map,List.length_take];omega⟩
 ·obtain⟨rfl,rfl⟩:=h
  obtain⟨T,b,h1,rfl,h2⟩:=hT.at i x hx
  refine he b T _ (List.mem_of_getElem? h1) h2 ⟨?_,rfl⟩
  rw[List.take_add_one,h1,List.map_append,List.map_append]
  rfl
 ·obtain⟨rfl,rfl⟩:=h
  rw[ll,List.take_length]
  exact hd
theorem scWw:FnScope ["statement","word"] ["statement"] (defScope sWw):=fsc
noncomputable def Yz:Scope:=⟨.function,[(".0",.local),("term",.local),("term_text",.globalImplicit)],false,false,[]⟩
theorem nd_ww1:(["term"]:List Str).Nodup:=by decide+kernel
theorem cs_ww1:CompSc ["statement","word"] (defScope sWw) Yz ["term"] 1 []:=csc
theorem ok_ww{f:Addr}{fd:FuncData}{fX:Addr}{fdX:FuncData}(F:Fun K "words_of" "words_of" sWw f fd)(GX:FnOk P w K mg base CX0 7 fX fdX ["term"] (spTxt 6))(bX:Binds K fdX ["term"] [])(kX:keepIn K (.ref fX)=true)(mX:mg "term_text"=some (.ref fX)):FnOk P w K mg base CX0 8 f fd ["statement"] spWw:=by
 refine F.ok scWw (fun vs H Q E h=>?_) (fun cdv A outer s H vs Q E hr h=>?_)
 ·refine opq fun Gq kq=>?_
  obtain⟨v,s,rfl,_⟩:=h
  refine kq ?_
  clear kq
  rfl
 refine opq fun Gq kq=>?_
 obtain⟨v,s,rfl,hv,ho,q⟩:=h
 refine kq ?_
 clear kq
 refine⟨_,(jd (js (i:=1) scWw.nd rfl (Or.inl rfl) (@jv _ _ _ _ _ _ _ jK (pv 0) jf (fun _ _=>rfl))) (jd (jx (@jq _ _ _ _ _ _ _ _ jZ (pv 1) (jH (ja jk (ja jk jc))) rfl) (jg (jr (jC (ja (pv 1) (ja (@jv _ _ _ _ _ _ _ jK (pv 0) jf (fun _ _=>rfl)) (ja (ji GX hr.m rfl mX kX bX .nil pass0 (ja (@jv _ _ _ _ _ _ _ jK (pv 0) jf (fun _ _=>rfl)) jc)) jc)))))) jp) (jd (jx (@jq _ _ _ _ _ _ _ _ jI (pv 1) jk (nomark _)) (jg (jr (jC (ja (pv 1) (ja (ji GX hr.m rfl mX kX bX .nil pass0 (ja (@jv _ _ _ _ _ _ _ jK (pv 0) jf (fun _ _=>rfl)) jc)) (ja (ji GX hr.m rfl mX kX bX .nil pass0 (ja (@jv _ _ _ _ _ _ _ jK (pv 0) jf (fun _ _=>rfl)) jc)) jc)))))) jp) (jd (jx (@jq _ _ _ _ _ _ _ _ jI (pv 1) jk (nomark _)) (jg (jr (ju j8 (jC (ja (pv 1) (ja (@jv _ _ _ _ _ _ _ jK (pv 0) jf (fun _ _=>rfl)) (ja (@jv _ _ _ _ _ _ _ jK (pv 0) jf (fun _ _=>rfl)) jc)))) (@kU _ _ _ _ _ _ _ (["term"]) (1) ([]) _ _ _ _ rfl (@Kn _ _ _ _ (@jv _ _ _ _ _ _ _ jK (pv 0) jf (fun _ _=>rfl))) cs_ww1 (fun _ _ _ _ _=>(jD (i:=0) nd_ww1 rfl (Or.inl rfl))) (fun _ _ _ _ _=>(@zq _)) (fun _ _ _ _ _=>(ji GX hr.m rfl mX kX bX .nil pass0 (ja (pv 0) jc))) (by intro _;rfl))))) jp) (jd (jx (@jq _ _ _ _ _ _ _ _ jZ (pv 1) (jH (ja jk (ja jk (ja jk jc)))) rfl) (jg (jr (jC (ja (pv 1) (ja (ji GX hr.m rfl mX kX bX .nil pass0 (ja (@jv _ _ _ _ _ _ _ jK (pv 0) jf (fun _ _=>rfl)) jc)) jc))))) jp) (jg (jr (jC (ja (pv 1) jc))))))))),?_⟩
 try dsimp only[cxOf,Cx.nox,Cx.wish]
 have big:=line24
 cases s with
 |els=>
  obtain⟨p,rfl,h1⟩:=hv
  refine seqF fun F1 f1=>⟨_,rfl,p,_,_,_,rfl,rfl,SqT.of h1,jo (j:=0) rfl,f1 _ _ ?_⟩
  clear f1
  refine seqF fun F1 f1=>⟨_,rfl,sz2,fun t2 n2=>⟨t2,_,rfl,.inr (SqT.of jb),rfl,rfl,_,rfl,ifX (by decide+kernel) (f1 _ _ ?_)⟩⟩
  clear f1
  have s2:Same H (upd H t2 (.tup [.str "set",.str "read"])):=je n2
  refine seqF fun F1 f1=>⟨_,rfl,rfl,_,rfl,ifX (by decide+kernel) (f1 _ _ ?_)⟩
  clear f1
  refine seqF fun F1 f1=>⟨_,rfl,rfl,_,rfl,ifX (by decide+kernel) (f1 _ _ ?_)⟩
  clear f1
  refine seqF fun F1 f1=>⟨_,rfl,sz3,fun t3 n3=>⟨t3,_,rfl,.inr (SqT.of jb),rfl,rfl,_,rfl,ifX (by decide+kernel) (f1 _ _ ?_)⟩⟩
  clear f1
  have s3:Same H (upd (upd H t2 (.tup [.str "set",.str "read"])) t3 (.tup [.str "if",.str "while",.str "give"])):=s2.trans (je n3)
  refine⟨_,rfl,sz1,fun r nr=>?_⟩
  exact q r _ (s3.free nr) jb (s3.trans (je nr))
 |fin=>
  obtain⟨p,rfl,h1⟩:=hv
  refine seqF fun F1 f1=>⟨_,rfl,p,_,_,_,rfl,rfl,SqT.of h1,jo (j:=0) rfl,f1 _ _ ?_⟩
  clear f1
  refine seqF fun F1 f1=>⟨_,rfl,sz2,fun t2 n2=>⟨t2,_,rfl,.inr (SqT.of jb),rfl,rfl,_,rfl,ifX (by decide+kernel) (f1 _ _ ?_)⟩⟩
  clear f1
  have s2:Same H (upd H t2 (.tup [.str "set",.str "read"])):=je n2
  refine seqF fun F1 f1=>⟨_,rfl,rfl,_,rfl,ifX (by decide+kernel) (f1 _ _ ?_)⟩
  clear f1
  refine seqF fun F1 f1=>⟨_,rfl,rfl,_,rfl,ifX (by decide+kernel) (f1 _ _ ?_)⟩
  clear f1
  refine seqF fun F1 f1=>⟨_,rfl,sz3,fun t3 n3=>⟨t3,_,rfl,.inr (SqT.of jb),rfl,rfl,_,rfl,ifX (by decide+kernel) (f1 _ _ ?_)⟩⟩
  clear f1
  have s3:Same H (upd (upd H t2 (.tup [.str "set",.str "read"])) t3 (.tup [.str "if",.str "while",.str "give"])):=s2.trans (je n3)
  refine⟨_,rfl,sz1,fun r nr=>?_⟩
  exact q r _ (s3.free nr) jb (s3.trans (je nr))
 |ite T a b=>
  obtain⟨p,t,qa,qb,as,bs,rfl,h1,hT,_⟩:=hv
  refine seqF fun F1 f1=>⟨_,rfl,p,_,_,_,rfl,rfl,SqT.of h1,jo (j:=0) rfl,f1 _ _ ?_⟩
  clear f1
  refine seqF fun F1 f1=>⟨_,rfl,sz2,fun t2 n2=>⟨t2,_,rfl,.inr (SqT.of jb),rfl,rfl,_,rfl,ifX (by decide+kernel) (f1 _ _ ?_)⟩⟩
  clear f1
  have s2:Same H (upd H t2 (.tup [.str "set",.str "read"])):=je n2
  refine seqF fun F1 f1=>⟨_,rfl,rfl,_,rfl,ifX (by decide+kernel) (f1 _ _ ?_)⟩
  clear f1
  refine seqF fun F1 f1=>⟨_,rfl,rfl,_,rfl,ifX (by decide+kernel) (f1 _ _ ?_)⟩
  clear f1
  refine seqF fun F1 f1=>⟨_,rfl,sz3,fun t3 n3=>⟨t3,_,rfl,.inr (SqT.of jb),rfl,rfl,_,rfl,ifY (by decide+kernel) ?_⟩⟩
  have s3:Same H (upd (upd H t2 (.tup [.str "set",.str "read"])) t3 (.tup [.str "if",.str "while",.str "give"])):=s2.trans (je n3)
  refine⟨_,rfl,_,rfl,p,_,_,_,rfl,rfl,SqT.of (s3 _ _ h1),jo (j:=1) rfl,t,T,rfl,hT.same s3,ho.1.2,by decide,ho.1.1,sz2,fun r nr=>?_⟩
  exact q r _ (s3.free nr) jb (s3.trans (je nr))
 |loop T a=>
  obtain⟨p,t,qa,as,rfl,h1,hT,_⟩:=hv
  refine seqF fun F1 f1=>⟨_,rfl,p,_,_,_,rfl,rfl,SqT.of h1,jo (j:=0) rfl,f1 _ _ ?_⟩
  clear f1
  refine seqF fun F1 f1=>⟨_,rfl,sz2,fun t2 n2=>⟨t2,_,rfl,.inr (SqT.of jb),rfl,rfl,_,rfl,ifX (by decide+kernel) (f1 _ _ ?_)⟩⟩
  clear f1
  have s2:Same H (upd H t2 (.tup [.str "set",.str "read"])):=je n2
  refine seqF fun F1 f1=>⟨_,rfl,rfl,_,rfl,ifX (by decide+kernel) (f1 _ _ ?_)⟩
  clear f1
  refine seqF fun F1 f1=>⟨_,rfl,rfl,_,rfl,ifX (by decide+kernel) (f1 _ _ ?_)⟩
  clear f1
  refine seqF fun F1 f1=>⟨_,rfl,sz3,fun t3 n3=>⟨t3,_,rfl,.inr (SqT.of jb),rfl,rfl,_,rfl,ifY (by decide+kernel) ?_⟩⟩
  have s3:Same H (upd (upd H t2 (.tup [.str "set",.str "read"])) t3 (.tup [.str "if",.str "while",.str "give"])):=s2.trans (je n3)
  refine⟨_,rfl,_,rfl,p,_,_,_,rfl,rfl,SqT.of (s3 _ _ h1),jo (j:=1) rfl,t,T,rfl,hT.same s3,ho.1.2,by decide,ho.1.1,sz2,fun r nr=>?_⟩
  exact q r _ (s3.free nr) jb (s3.trans (je nr))
 |lf l=>
  obtain⟨p,vs,rfl,h1,h2⟩:=hv
  cases l with
  |rd x T=>
   obtain⟨t,rfl,hT⟩:=h2
   refine seqF fun F1 f1=>⟨_,rfl,p,_,_,_,rfl,rfl,SqT.of h1,jo (j:=0) rfl,f1 _ _ ?_⟩
   clear f1
   refine seqF fun F1 f1=>⟨_,rfl,sz2,fun t2 n2=>⟨t2,_,rfl,.inr (SqT.of jb),rfl,rfl,_,rfl,ifY (by decide+kernel) ?_⟩⟩
   have s2:Same H (upd H t2 (.tup [.str "set",.str "read"])):=je n2
   have h1':=s2 _ _ h1
   refine⟨_,rfl,_,rfl,p,_,_,_,rfl,rfl,SqT.of h1',jo (j:=1) rfl,_,rfl,p,_,_,_,rfl,rfl,SqT.of h1',jo (j:=2) rfl,t,T,rfl,hT.same s2,ho.2.2,by decide,ho.2.1,sz3,fun r nr=>?_⟩
   exact q r _ (s2.free nr) jb (s2.trans (je nr))
  |st x T=>
   obtain⟨t,rfl,hT⟩:=h2
   refine seqF fun F1 f1=>⟨_,rfl,p,_,_,_,rfl,rfl,SqT.of h1,jo (j:=0) rfl,f1 _ _ ?_⟩
   clear f1
   refine seqF fun F1 f1=>⟨_,rfl,sz2,fun t2 n2=>⟨t2,_,rfl,.inr (SqT.of jb),rfl,rfl,_,rfl,ifY (by decide+kernel) ?_⟩⟩
   have s2:Same H (upd H t2 (.tup [.str "set",.str "read"])):=je n2
   have h1':=s2 _ _ h1
   refine⟨_,rfl,_,rfl,p,_,_,_,rfl,rfl,SqT.of h1',jo (j:=1) rfl,_,rfl,p,_,_,_,rfl,rfl,SqT.of h1',jo (j:=2) rfl,t,T,rfl,hT.same s2,ho.2.2,by decide,ho.2.1,sz3,fun r nr=>?_⟩
   exact q r _ (s2.free nr) jb (s2.trans (je nr))
  |gv T=>
   obtain⟨t,rfl,hT⟩:=h2
   refine seqF fun F1 f1=>⟨_,rfl,p,_,_,_,rfl,rfl,SqT.of h1,jo (j:=0) rfl,f1 _ _ ?_⟩
   clear f1
   refine seqF fun F1 f1=>⟨_,rfl,sz2,fun t2 n2=>⟨t2,_,rfl,.inr (SqT.of jb),rfl,rfl,_,rfl,ifX (by decide+kernel) (f1 _ _ ?_)⟩⟩
   clear f1
   have s2:Same H (upd H t2 (.tup [.str "set",.str "read"])):=je n2
   refine seqF fun F1 f1=>⟨_,rfl,rfl,_,rfl,ifX (by decide+kernel) (f1 _ _ ?_)⟩
   clear f1
   refine seqF fun F1 f1=>⟨_,rfl,rfl,_,rfl,ifX (by decide+kernel) (f1 _ _ ?_)⟩
   clear f1
   refine seqF fun F1 f1=>⟨_,rfl,sz3,fun t3 n3=>⟨t3,_,rfl,.inr (SqT.of jb),rfl,rfl,_,rfl,ifY (by decide+kernel) ?_⟩⟩
   have s3:Same H (upd (upd H t2 (.tup [.str "set",.str "read"])) t3 (.tup [.str "if",.str "while",.str "give"])):=s2.trans (je n3)
   refine⟨_,rfl,_,rfl,p,_,_,_,rfl,rfl,SqT.of (s3 _ _ h1),jo (j:=1) rfl,t,T,rfl,hT.same s3,ho.2,by decide,ho.1,sz2,fun r nr=>?_⟩
   exact q r _ (s3.free nr) jb (s3.trans (je nr))
  |wr T U=>
   obtain⟨t,u,rfl,hT,hU⟩:=h2
   refine seqF fun F1 f1=>⟨_,rfl,p,_,_,_,rfl,rfl,SqT.of h1,jo (j:=0) rfl,f1 _ _ ?_⟩
   clear f1
   refine seqF fun F1 f1=>⟨_,rfl,sz2,fun t2 n2=>⟨t2,_,rfl,.inr (SqT.of jb),rfl,rfl,_,rfl,ifX (by decide+kernel) (f1 _ _ ?_)⟩⟩
   clear f1
   have s2:Same H (upd H t2 (.tup [.str "set",.str "read"])):=je n2
   have h1':=s2 _ _ h1
   refine seqF fun F1 f1=>⟨_,rfl,rfl,_,rfl,ifY (by decide+kernel) ?_⟩
   refine⟨_,rfl,_,rfl,p,_,_,_,rfl,rfl,SqT.of h1',jo (j:=1) rfl,t,T,rfl,hT.same s2,ho.1.2,by decide,ho.1.1,_,rfl,p,_,_,_,rfl,rfl,SqT.of h1',jo (j:=2) rfl,u,U,rfl,hU.same s2,ho.2.2,by decide,ho.2.1,sz3,fun r nr=>?_⟩
   exact q r _ (s2.free nr) jb (s2.trans (je nr))
  |cl x f' ts=>
   obtain⟨qt,vs',rfl,hq,hT⟩:=h2
   refine seqF fun F1 f1=>⟨_,rfl,p,_,_,_,rfl,rfl,SqT.of h1,jo (j:=0) rfl,f1 _ _ ?_⟩
   clear f1
   refine seqF fun F1 f1=>⟨_,rfl,sz2,fun t2 n2=>⟨t2,_,rfl,.inr (SqT.of jb),rfl,rfl,_,rfl,ifX (by decide+kernel) (f1 _ _ ?_)⟩⟩
   clear f1
   have s2:Same H (upd H t2 (.tup [.str "set",.str "read"])):=je n2
   refine seqF fun F1 f1=>⟨_,rfl,rfl,_,rfl,ifX (by decide+kernel) (f1 _ _ ?_)⟩
   clear f1
   refine seqF fun F1 f1=>⟨_,rfl,rfl,_,rfl,ifY (by decide+kernel) ?_⟩
   have h1':=s2 _ _ h1
   refine⟨_,rfl,_,rfl,p,_,_,_,rfl,rfl,SqT.of h1',jo (j:=1) rfl,_,rfl,p,_,_,_,rfl,rfl,SqT.of h1',jo (j:=2) rfl,sz3,fun l1 nl1=>?_⟩
   have s3:Same H (upd (upd H t2 (.tup [.str "set",.str "read"])) l1 (.lst [.str "call",.str x,.str f'])):=s2.trans (je nl1)
   refine⟨_,rfl,p,_,_,_,rfl,rfl,SqT.of (s3 _ _ h1),jo (j:=3) rfl,qt,rfl,⟨_,SqT.of (s3 _ _ hq)⟩,?_⟩
   refine Yy (s3 _ _ hq) (hT.mono (Same.tm s3)) ho.2.2.1 (fun b U Q' hU hb k=>⟨_,rfl,b,U,rfl,hb,(ho.2.2.2 U hU).2,by decide,(ho.2.2.2 U hU).1,k⟩) fun l2 nl2=>?_
   refine⟨l1,l2,_,_,rfl,rfl,keepN jb nl2,jb,by rw[List.length_map,List.length_map];show 3+_<=_;have:=ho.2.2.1;omega,fun r nr=>?_⟩
   exact q r _ ((s3.trans (je nl2)).free nr) jb ((s3.trans (je nl2)).trans (je nr))
theorem scRowW:FnScope ["words","depth"] ["words","depth"] (defScope sRowW):=fsc
theorem ok_rowW{f:Addr}{fd:FuncData}(F:Fun K "row_of" "row_of" sRowW f fd):FnOk P w K mg base CX0 1 f fd ["words","depth"] spRowW:=by
 refine F.ok scRowW (fun vs H Q E h=>?_) (fun cdv A outer s H vs Q E hr h=>?_)
 ·refine opq fun Gq kq=>?_
  obtain⟨a,ws,d,rfl,_⟩:=h
  refine kq ?_
  clear kq
  rfl
 refine opq fun Gq kq=>?_
 obtain⟨a,ws,d,rfl,ha,hw,hd,q⟩:=h
 refine kq ?_
 clear kq
 refine⟨_,(jg (jr (ju jP (ju Kz jk (pv 1)) (@jS _ _ _ _ _ _ _ _ _ _ _ _ PySem.F.plainAttrs_str PySem.F.slot_str_join PySem.F.type_str_join zS jk (ja (pv 0) jc) (by rfl) (by rfl) (by rfl) (by rfl) (by rfl))))),?_⟩
 try dsimp only[cxOf,Cx.nox,Cx.wish]
 have big:=line24
 have h1:=qh " " zl ws
 have h2:=KG d
 have hw':(ws.map (·.length)).sum+ws.length<=10000:=hw
 refine⟨_,rfl,_,_,rfl,rfl,mul_ok hd,rfl,_,rfl,_,a,ws,rfl,rfl,SqL.of ha,by decide+kernel,by omega,_,_,rfl,rfl,by rw[h2];omega,q⟩
def PlV(H:Hp):List (Sm×Nat)->List V->Prop
 | [],ps=>ps=[]
 |c::W,ps=>∃p v qs,ps= .ref p::qs/\H p=some (.tup [v,.int (c.2:Int)])/\SmV H c.1 v/\PlV H W qs
theorem PlV.mono{H H':Hp}(k:TMono H H'):∀{W:List (Sm×Nat)} {ps:List V},PlV H W ps->PlV H' W ps
 | [],_,h=>h
 |_::_,_,⟨p,v,qs,e,h1,h2,h3⟩=>⟨p,v,qs,e,k _ _ h1,h2.mono k,PlV.mono k h3⟩
theorem PlV.app{H:Hp}{B:List (Sm×Nat)}{bs:List V}(hb:PlV H B bs):∀{W:List (Sm×Nat)} {ps:List V},PlV H W ps->PlV H (W++B) (ps++bs)
 | [],_,h=>by have e:_=[]:=h;rw[e];exact hb
 |_::_,_,⟨p,v,qs,e,h1,h2,h3⟩=>⟨p,v,qs++bs,by rw[e];rfl,h1,h2,PlV.app hb h3⟩
theorem PlV.len{H:Hp}:∀{W:List (Sm×Nat)} {ps:List V},PlV H W ps->ps.length=W.length
 | [],_,h=>by have e:_=[]:=h;rw[e];rfl
 |_::_,_,⟨p,v,qs,e,h1,h2,h3⟩=>by rw[e,List.length_cons,List.length_cons,PlV.len h3]
theorem PlV.one{H:Hp}{p:Addr}{v:V}{s:Sm}{d:Nat}(h:H p=some (.tup [v,.int (d:Int)]))(hs:SmV H s v):PlV H [(s,d)] [.ref p]:=⟨p,v,[],rfl,h,hs,rfl⟩
theorem qy:∀(W:List (Sm×Nat)),W.length<=(rowsOf W).length
 | []=>Nat.le_refl 0
 |c::W=>by
  have h:=qy W
  have e:rowsOf (c::W)=c.1.rows c.2++rowsOf W:=rfl
  rw[e,Jh,List.length_cons,List.length_append,List.length_cons]
  omega
def spPlaced:Sp:=fun vs H Q _=>∃(q:Addr) (xs:List V) (b:Bd) (d:Nat),vs=[.ref q,.int (d:Int)]/\H q=some (.tup xs)/\BdV H b xs/\xs.length<=10000/\
 ∀(r:Addr) (ps:List V) (H':Hp),H r=none->H' r=some (.lst ps)->PlV H' (b.sms.map fun s=>(s,d)) ps->Same H H'->Q (.ref r) H'
def spBehind:Sp:=fun vs H Q _=>∃(v:V) (s:Sm) (d:Nat),vs=[v,.int (d:Int)]/\SmV H s v/\(s.behind d).length<=10000/\
 ∀(r:Addr) (ps:List V) (H':Hp),H r=none->H' r=some (.lst ps)->PlV H' (s.behind d) ps->Same H H'->Q (.ref r) H'
def spBRows:Sp:=fun vs H Q _=>∃(q:Addr) (xs:List V) (b:Bd),vs=[.ref q]/\H q=some (.tup xs)/\BdV H b xs/\b.Ok/\b.dep < 8/\b.size<=50/\
 ∀(r:Addr) (H':Hp),H r=none->H' r=some (.lst (((b.rows 1).map rowX).map V.str))->Same H H'->Q (.ref r) H'
inductive WB(q rl tl:Addr)(b:Bd)(H:Hp)(m:Nat)(σ:L2.St)(H':Hp):Prop
 |mk (o3:Option V) (W:List (Sm×Nat)) (ps:List V) (acc:List Str) (e0:σ=[some (.ref q),some (.ref rl),some (.ref tl),o3]) (e1:m=(rowsOf W).length) (e2:H' rl=some (.lst (acc.map V.str))) (e3:H' tl=some (.lst ps.reverse)) (e4:PlV H' W ps) (e5:acc++(rowsOf W).map rowX=(b.rows 1).map rowX) (e6:WOk W) (e7:Same H H'):WB q rl tl b H m σ H'
theorem XG(ps:List V):(ps.reverse).length=ps.length:=List.length_reverse
theorem rl_any{acc ys:List Str}{R:List Str}{n:Nat}(h:acc++ys=R)(hn:R.length<=n):acc.length+ys.length<=n:=by rw[<- h,List.length_append]at hn;exact hn
theorem scPlaced:FnScope ["body","depth"] ["body","depth"] (defScope sPlaced):=fsc
noncomputable def YA:Scope:=⟨.function,[(".0",.local),("statement",.local),("depth",.free)],false,false,[]⟩
theorem nd_pl1:(["statement","depth"]:List Str).Nodup:=by decide+kernel
theorem cs_pl1:CompSc ["body","depth"] (defScope sPlaced) YA ["statement","depth"] 1 [1]:=csc
theorem YB{f:Addr}{fd:FuncData}(F:Fun K "placed" "placed" sPlaced f fd):FnOk P w K mg base CX0 1 f fd ["body","depth"] spPlaced:=by
 refine F.ok scPlaced (fun vs H Q E h=>?_) (fun cdv A outer s H vs Q E hr h=>?_)
 ·refine opq fun Gq kq=>?_
  obtain⟨q,xs,b,d,rfl,_⟩:=h
  refine kq ?_
  clear kq
  rfl
 refine opq fun Gq kq=>?_
 obtain⟨q,xs,b,d,rfl,hq,hb,hl,k⟩:=h
 refine kq ?_
 clear kq
 refine⟨_,(jg (jr (@kU _ _ _ _ _ _ _ (["statement","depth"]) (1) ([1]) _ _ _ _ rfl (@Kn _ _ _ _ (pv 0)) cs_pl1 (fun _ _ _ _ _=>(jD (i:=0) nd_pl1 rfl (Or.inl rfl))) (fun _ _ _ _ _=>(@zq _)) (fun _ _ _ _ _=>(jH (ja (pv 0) (ja (pv 1) jc)))) (by intro _;rfl)))),?_⟩
 try dsimp only[cxOf,Cx.nox,Cx.wish]
 have big:=line24
 obtain⟨ll,hat⟩:=hb.sm
 refine⟨_,rfl,q,rfl,⟨_,SqT.of hq⟩,?_⟩
 refine qY (K:=K) (xs:=xs) (by omega) (fun i zs Hx=>PlV Hx ((b.sms.take i).map fun s=>(s,d)) zs/\Same H Hx) ⟨rfl,Same.refl _⟩ (fun i zs Hx h=>?_) (fun i x zs Hx hx h=>?_) (fun zs Hx h l nl=>?_)
 ·refine⟨SqT.of (h.2 _ _ hq),?_⟩
  rw[h.1.len,List.length_map,List.length_take]
  omega
 ·obtain⟨h1,h2⟩:=h
  obtain⟨s,e1,e2⟩:=hat i x hx
  refine⟨_,rfl,_,rfl,sz2,fun t nt=>⟨?_,h2.trans (je nt)⟩⟩
  have k:=je (o:=.tup [x,.int (d:Int)]) nt
  rw[List.take_add_one,e1,List.map_append]
  exact PlV.app (PlV.one jb (e2.mono (Same.tm (h2.trans k)))) (h1.mono (Same.tm k))
 ·obtain⟨h1,h2⟩:=h
  rw[ll,List.take_length]at h1
  exact k l zs _ (h2.free nl) jb (h1.mono (Same.tm (je nl))) (h2.trans (je nl))
theorem scBehind:FnScope ["statement","depth","first"] ["statement","depth"] (defScope sBehind):=fsc
theorem YC{f:Addr}{fd:FuncData}{fP:Addr}{fdP:FuncData}(F:Fun K "behind_first" "behind_first" sBehind f fd)(GP:FnOk P w K mg base CX0 1 fP fdP ["body","depth"] spPlaced)(bP:Binds K fdP ["body","depth"] [])(kP:keepIn K (.ref fP)=true)(mP:mg "placed"=some (.ref fP)):FnOk P w K mg base CX0 2 f fd ["statement","depth"] spBehind:=by
 refine F.ok scBehind (fun vs H Q E h=>?_) (fun cdv A outer s H vs Q E hr h=>?_)
 ·refine opq fun Gq kq=>?_
  obtain⟨v,s,d,rfl,_⟩:=h
  refine kq ?_
  clear kq
  rfl
 refine opq fun Gq kq=>?_
 obtain⟨v,s,d,rfl,hv,hl,q⟩:=h
 refine kq ?_
 clear kq
 refine⟨_,(jd (jx (@jq _ _ _ _ _ _ _ _ jI (@jv _ _ _ _ _ _ _ jK (pv 0) jf (fun _ _=>rfl)) jk (nomark _)) (jd (js (i:=2) scBehind.nd rfl (Or.inl rfl) (ju j8 (ji GP hr.m rfl mP kP bP .nil pass0 (ja (@jv _ _ _ _ _ _ _ jK (pv 0) jf (fun _ _=>rfl)) (ja (ju jQ (pv 1) jf) jc))) (jC (ja (jH (ja (jH (ja jk jc)) (ja (pv 1) jc))) jc)))) (jg (jr (ju j8 (ju j8 (pv 2) (ji GP hr.m rfl mP kP bP .nil pass0 (ja (@jv _ _ _ _ _ _ _ jK (pv 0) jf (fun _ _=>rfl)) (ja (ju jQ (pv 1) jf) jc)))) (jC (ja (jH (ja (jH (ja jk jc)) (ja (pv 1) jc))) jc)))))) jp) (jd (jx (@jq _ _ _ _ _ _ _ _ jI (@jv _ _ _ _ _ _ _ jK (pv 0) jf (fun _ _=>rfl)) jk (nomark _)) (jg (jr (ju j8 (ji GP hr.m rfl mP kP bP .nil pass0 (ja (@jv _ _ _ _ _ _ _ jK (pv 0) jf (fun _ _=>rfl)) (ja (ju jQ (pv 1) jf) jc))) (jC (ja (jH (ja (jH (ja jk jc)) (ja (pv 1) jc))) jc))))) jp) (jg (jr (jC jc))))),?_⟩
 try dsimp only[cxOf,Cx.nox,Cx.wish]
 have big:=line24
 cases s with
 |els=>
  obtain⟨p,rfl,h1⟩:=hv
  refine seqF fun F1 f1=>⟨_,rfl,p,_,_,_,rfl,rfl,SqT.of h1,jo (j:=0) rfl,rfl,_,rfl,ifX (by decide+kernel) (f1 _ _ ?_)⟩
  clear f1
  refine seqF fun F1 f1=>⟨_,rfl,p,_,_,_,rfl,rfl,SqT.of h1,jo (j:=0) rfl,rfl,_,rfl,ifX (by decide+kernel) (f1 _ _ ?_)⟩
  clear f1
  refine⟨sz0,fun r nr=>q r [] _ nr jb rfl (je nr)⟩
 |fin=>
  obtain⟨p,rfl,h1⟩:=hv
  refine seqF fun F1 f1=>⟨_,rfl,p,_,_,_,rfl,rfl,SqT.of h1,jo (j:=0) rfl,rfl,_,rfl,ifX (by decide+kernel) (f1 _ _ ?_)⟩
  clear f1
  refine seqF fun F1 f1=>⟨_,rfl,p,_,_,_,rfl,rfl,SqT.of h1,jo (j:=0) rfl,rfl,_,rfl,ifX (by decide+kernel) (f1 _ _ ?_)⟩
  clear f1
  refine⟨sz0,fun r nr=>q r [] _ nr jb rfl (je nr)⟩
 |lf l=>
  obtain⟨p,vs,rfl,h1,h2⟩:=hv
  cases l with
  |rd x T=>
   obtain⟨t,rfl,hT⟩:=h2
   refine seqF fun F1 f1=>⟨_,rfl,p,_,_,_,rfl,rfl,SqT.of h1,jo (j:=0) rfl,rfl,_,rfl,ifX (by decide+kernel) (f1 _ _ ?_)⟩
   clear f1
   refine seqF fun F1 f1=>⟨_,rfl,p,_,_,_,rfl,rfl,SqT.of h1,jo (j:=0) rfl,rfl,_,rfl,ifX (by decide+kernel) (f1 _ _ ?_)⟩
   clear f1
   refine⟨sz0,fun r nr=>q r [] _ nr jb rfl (je nr)⟩
  |st x T=>
   obtain⟨t,rfl,hT⟩:=h2
   refine seqF fun F1 f1=>⟨_,rfl,p,_,_,_,rfl,rfl,SqT.of h1,jo (j:=0) rfl,rfl,_,rfl,ifX (by decide+kernel) (f1 _ _ ?_)⟩
   clear f1
   refine seqF fun F1 f1=>⟨_,rfl,p,_,_,_,rfl,rfl,SqT.of h1,jo (j:=0) rfl,rfl,_,rfl,ifX (by decide+kernel) (f1 _ _ ?_)⟩
   clear f1
   refine⟨sz0,fun r nr=>q r [] _ nr jb rfl (je nr)⟩
  |wr T U=>
   obtain⟨t,u,rfl,hT,hU⟩:=h2
   refine seqF fun F1 f1=>⟨_,rfl,p,_,_,_,rfl,rfl,SqT.of h1,jo (j:=0) rfl,rfl,_,rfl,ifX (by decide+kernel) (f1 _ _ ?_)⟩
   clear f1
   refine seqF fun F1 f1=>⟨_,rfl,p,_,_,_,rfl,rfl,SqT.of h1,jo (j:=0) rfl,rfl,_,rfl,ifX (by decide+kernel) (f1 _ _ ?_)⟩
   clear f1
   refine⟨sz0,fun r nr=>q r [] _ nr jb rfl (je nr)⟩
  |cl x f' ts=>
   obtain⟨qt,vs',rfl,hq,hT⟩:=h2
   refine seqF fun F1 f1=>⟨_,rfl,p,_,_,_,rfl,rfl,SqT.of h1,jo (j:=0) rfl,rfl,_,rfl,ifX (by decide+kernel) (f1 _ _ ?_)⟩
   clear f1
   refine seqF fun F1 f1=>⟨_,rfl,p,_,_,_,rfl,rfl,SqT.of h1,jo (j:=0) rfl,rfl,_,rfl,ifX (by decide+kernel) (f1 _ _ ?_)⟩
   clear f1
   refine⟨sz0,fun r nr=>q r [] _ nr jb rfl (je nr)⟩
  |gv T=>
   obtain⟨t,rfl,hT⟩:=h2
   refine seqF fun F1 f1=>⟨_,rfl,p,_,_,_,rfl,rfl,SqT.of h1,jo (j:=0) rfl,rfl,_,rfl,ifX (by decide+kernel) (f1 _ _ ?_)⟩
   clear f1
   refine seqF fun F1 f1=>⟨_,rfl,p,_,_,_,rfl,rfl,SqT.of h1,jo (j:=0) rfl,rfl,_,rfl,ifX (by decide+kernel) (f1 _ _ ?_)⟩
   clear f1
   refine⟨sz0,fun r nr=>q r [] _ nr jb rfl (je nr)⟩
 |loop T a=>
  obtain⟨p,t,qa,as,rfl,h1,hT,h2,h3⟩:=hv
  have la:=h3.sm.1
  have hl':(a.sms.map fun s=>(s,d+1)).length+1<=10000:=by have hl:((a.sms.map fun s=>(s,d+1))++[(Sm.fin,d)]).length<=10000:=hl;rw[List.length_append]at hl;exact hl
  rw[List.length_map]at hl'
  refine seqF fun F1 f1=>⟨_,rfl,p,_,_,_,rfl,rfl,SqT.of h1,jo (j:=0) rfl,rfl,_,rfl,ifX (by decide+kernel) (f1 _ _ ?_)⟩
  clear f1
  refine seqF fun F1 f1=>⟨_,rfl,p,_,_,_,rfl,rfl,SqT.of h1,jo (j:=0) rfl,rfl,_,rfl,ifY (by decide+kernel) ?_⟩
  clear f1
  refine⟨_,rfl,p,_,_,_,rfl,rfl,SqT.of h1,jo (j:=2) rfl,_,rfl,_,_,rfl,rfl,qa,as,a,d+1,rfl,h2,h3,by omega,fun r1 ps1 H1 n1 e1 g1 s1=>⟨sz1,fun ta nta=>⟨_,rfl,sz2,fun ua nua=>⟨sz1,fun la nla=>?_⟩⟩⟩⟩
  have ka:Same H1 (upd H1 ta (.tup [.str "end"])):=je nta
  have ma:Same H1 (upd (upd H1 ta (.tup [.str "end"])) ua (.tup [.ref ta,.int (d:Int)])):=ka.trans (je nua)
  have za:PlV (upd (upd H1 ta (.tup [.str "end"])) ua (.tup [.ref ta,.int (d:Int)])) [(.fin,d)] [.ref ua]:=PlV.one jb ⟨ta,rfl,(je (o:=.tup [.ref ta,.int (d:Int)]) nua) _ _ jb⟩
  have na:Same H1 (upd (upd (upd H1 ta (.tup [.str "end"])) ua (.tup [.ref ta,.int (d:Int)])) la (.lst [.ref ua])):=ma.trans (je nla)
  have ya:=za.mono (Same.tm (je (o:=.lst [.ref ua]) nla))
  have xa:upd (upd (upd H1 ta (.tup [.str "end"])) ua (.tup [.ref ta,.int (d:Int)])) la (.lst [.ref ua]) la=some (.lst [.ref ua]):=jb
  generalize upd (upd (upd H1 ta (.tup [.str "end"])) ua (.tup [.ref ta,.int (d:Int)])) la (.lst [.ref ua])=Ga at na ya xa ⊢
  clear za ma ka
  have lp:=g1.len
  rw[List.length_map]at lp
  refine⟨r1,la,_,_,rfl,rfl,na _ _ e1,xa,by show _+1<=_;omega,fun r nr=>?_⟩
  have s2:=s1.trans na
  exact q r _ _ (s2.free nr) jb ((PlV.app ya (g1.mono (Same.tm na))).mono (Same.tm (je nr))) (s2.trans (je nr))
 |ite T a b=>
  obtain⟨p,t,qa,qb,as,bs,rfl,h1,hT,h2,h2b,h3,h3b⟩:=hv
  have la':=h3.sm.1
  have lb':=h3b.sm.1
  have hl':a.sms.length+(b.sms.length+1+1)<=10000:=by have hl:((a.sms.map fun s=>(s,d+1))++(Sm.els,d)::((b.sms.map fun s=>(s,d+1))++[(Sm.fin,d)])).length<=10000:=hl;rw[List.length_append,List.length_cons,List.length_append,List.length_map,List.length_map]at hl;exact hl
  refine seqF fun F1 f1=>⟨_,rfl,p,_,_,_,rfl,rfl,SqT.of h1,jo (j:=0) rfl,rfl,_,rfl,ifY (by decide+kernel) ?_⟩
  clear f1
  refine seqF fun F1 f1=>⟨_,rfl,p,_,_,_,rfl,rfl,SqT.of h1,jo (j:=2) rfl,_,rfl,_,_,rfl,rfl,qa,as,a,d+1,rfl,h2,h3,by omega,fun r1 ps1 H1 n1 e1 g1 s1=>⟨sz1,fun ta nta=>⟨_,rfl,sz2,fun ua nua=>⟨sz1,fun la nla=>?_⟩⟩⟩⟩
  have ka:Same H1 (upd H1 ta (.tup [.str "else"])):=je nta
  have ma:Same H1 (upd (upd H1 ta (.tup [.str "else"])) ua (.tup [.ref ta,.int (d:Int)])):=ka.trans (je nua)
  have za:PlV (upd (upd H1 ta (.tup [.str "else"])) ua (.tup [.ref ta,.int (d:Int)])) [(.els,d)] [.ref ua]:=PlV.one jb ⟨ta,rfl,(je (o:=.tup [.ref ta,.int (d:Int)]) nua) _ _ jb⟩
  have na:Same H1 (upd (upd (upd H1 ta (.tup [.str "else"])) ua (.tup [.ref ta,.int (d:Int)])) la (.lst [.ref ua])):=ma.trans (je nla)
  have ya:=za.mono (Same.tm (je (o:=.lst [.ref ua]) nla))
  have xa:upd (upd (upd H1 ta (.tup [.str "else"])) ua (.tup [.ref ta,.int (d:Int)])) la (.lst [.ref ua]) la=some (.lst [.ref ua]):=jb
  generalize upd (upd (upd H1 ta (.tup [.str "else"])) ua (.tup [.ref ta,.int (d:Int)])) la (.lst [.ref ua])=Ga at na ya xa ⊢
  clear za ma ka
  have lp:=g1.len
  rw[List.length_map]at lp
  refine⟨r1,la,_,_,rfl,rfl,na _ _ e1,xa,by show _+1<=_;omega,fun r2 nr2=>f1 _ _ ?_⟩
  clear f1
  have s2:=s1.trans na
  have s3:=s2.trans (je (o:=.lst (ps1++[.ref ua])) nr2)
  have g2:=(PlV.app ya (g1.mono (Same.tm na))).mono (Same.tm (je (o:=.lst (ps1++[.ref ua])) nr2))
  have e2:upd Ga r2 (.lst (ps1++[.ref ua])) r2=some (.lst (ps1++[.ref ua])):=jb
  show tRet _ _ _ (upd Ga r2 (.lst (ps1++[.ref ua])))
  generalize upd Ga r2 (.lst (ps1++[.ref ua]))=H2 at s3 g2 e2
  refine⟨_,rfl,_,rfl,p,_,_,_,rfl,rfl,SqT.of (s3 _ _ h1),jo (j:=3) rfl,_,rfl,_,_,rfl,rfl,qb,bs,b,d+1,rfl,s3 _ _ h2b,h3b.mono (Same.tm s3),by omega,fun r3 ps3 H3 n3 e3 g3 s4=>⟨r2,r3,_,_,rfl,rfl,s4 _ _ e2,e3,?_,fun r4 nr4=>⟨sz1,fun tb ntb=>⟨_,rfl,sz2,fun ub nub=>⟨sz1,fun lb nlb=>?_⟩⟩⟩⟩⟩
  ·have:=g2.len
   have:=g3.len
   simp only[List.length_append,List.length_map,List.length_cons,List.length_nil]at*
   omega
  have s5:=s4.trans (je (o:=.lst (ps1++[.ref ua]++ps3)) nr4)
  have g4:=(PlV.app g3 (g2.mono (Same.tm s4))).mono (Same.tm (je (o:=.lst (ps1++[.ref ua]++ps3)) nr4))
  have e4:upd H3 r4 (.lst (ps1++[.ref ua]++ps3)) r4=some (.lst (ps1++[.ref ua]++ps3)):=jb
  generalize upd H3 r4 (.lst (ps1++[.ref ua]++ps3))=H4 at s5 g4 e4 ntb nub nlb ⊢
  have kb:Same H4 (upd H4 tb (.tup [.str "end"])):=je ntb
  have mb:Same H4 (upd (upd H4 tb (.tup [.str "end"])) ub (.tup [.ref tb,.int (d:Int)])):=kb.trans (je nub)
  have zb:PlV (upd (upd H4 tb (.tup [.str "end"])) ub (.tup [.ref tb,.int (d:Int)])) [(.fin,d)] [.ref ub]:=PlV.one jb ⟨tb,rfl,(je (o:=.tup [.ref tb,.int (d:Int)]) nub) _ _ jb⟩
  have nb:Same H4 (upd (upd (upd H4 tb (.tup [.str "end"])) ub (.tup [.ref tb,.int (d:Int)])) lb (.lst [.ref ub])):=mb.trans (je nlb)
  have yb:=zb.mono (Same.tm (je (o:=.lst [.ref ub]) nlb))
  have xb:upd (upd (upd H4 tb (.tup [.str "end"])) ub (.tup [.ref tb,.int (d:Int)])) lb (.lst [.ref ub]) lb=some (.lst [.ref ub]):=jb
  generalize upd (upd (upd H4 tb (.tup [.str "end"])) ub (.tup [.ref tb,.int (d:Int)])) lb (.lst [.ref ub])=Gb at nb yb xb ⊢
  clear zb mb kb
  refine⟨r4,lb,_,_,rfl,rfl,nb _ _ e4,xb,?_,fun r nr=>?_⟩
  ·have:=g4.len
   simp only[List.length_append,List.length_map,List.length_cons,List.length_nil]at*
   omega
  have s6:=(s3.trans s5).trans nb
  refine q r _ _ (s6.free nr) jb ?_ (s6.trans (je nr))
  have:=(PlV.app yb (g4.mono (Same.tm nb))).mono (Same.tm (je (o:=.lst (ps1++[.ref ua]++ps3++[.ref ub])) nr))
  simpa [Sm.behind] using this
theorem WOk.tail{c:Sm×Nat}{W:List (Sm×Nat)}(h:WOk (c::W)):WOk W:=fun x hx=>h x (List.mem_cons_of_mem _ hx)
theorem WOk.app{a b:List (Sm×Nat)}(ha:WOk a)(hb:WOk b):WOk (a++b):=fun c hc=>(List.mem_append.mp hc).elim (ha c) (hb c)
theorem end_row:rowX (0,.fin)="end":=by decide+kernel
def spShown:Sp:=fun vs H Q _=>∃(p:Addr) (xs:List V) (ds:List Df),vs=[.ref p]/\H p=some (.tup xs)/\DfsV H ds xs/\(∀d∈ds,DfOk d)/\ds.length<=12/\wt (prows ds)<=1000000/\
 ∀H',Same H H'->Q (.str (Txt.join "\n" (prows ds))) H'
theorem JP(ds:List Df)(d:Df):prows (ds++[d])=prows ds++d.rows.map rowX:=by unfold prows;simp
theorem df_wt{d:Df}(h:DfOk d):wt (d.rows.map rowX)<=250000/\(d.rows.map rowX).length<=152:=by
 have h1:=XF h.2.2.2.1 (d:=1) (by have:=h.2.2.2.2.1;omega)
 have h2:=JF d.b (d:=1)
 have h3:=h.2.2.2.2.2
 have h4:=zC (d:=0) (r:=.df d.f d.ps) ⟨h.1,h.2.1,h.2.2.1⟩
 have h5:=zC (d:=0) (r:=.fin) trivial
 have e:d.rows.map rowX=rowX (0,.df d.f d.ps)::((d.b.rows 1).map rowX++[rowX (0,.fin)]):=by unfold Df.rows;rw[List.map_cons,List.map_append];rfl
 rw[e]
 refine⟨?_,?_⟩
 ·rw[jB,qw,jB]
  have:wt []=0:=rfl
  omega
 ·rw[List.length_cons,List.length_append,List.length_map]
  show _+1+1<=_
  omega
theorem JG:∀{ds:List Df},(∀d∈ds,DfOk d)->wt (prows ds)<=250000*ds.length/\(prows ds).length<=152*ds.length
 | [],_=>⟨Nat.le_refl 0,Nat.le_refl 0⟩
 |d::ds,h=>by
  have h1:=df_wt (h d List.mem_cons_self)
  have h2:=JG fun e he=>h e (List.mem_cons_of_mem _ he)
  have e:prows (d::ds)=d.rows.map rowX++prows ds:=rfl
  rw[e,qw,List.length_append,List.length_cons]
  exact⟨by omega,by omega⟩
theorem scBRows:FnScope ["body","rows","todo","pair"] ["body"] (defScope sBRows):=fsc
theorem Z7{f:Addr}{fd:FuncData}{fP fW fR fB:Addr}{fdP fdW fdR fdB:FuncData}(F:Fun K "body_rows" "body_rows" sBRows f fd)(GP:FnOk P w K mg base CX0 1 fP fdP ["body","depth"] spPlaced)(bP:Binds K fdP ["body","depth"] [])(kP:keepIn K (.ref fP)=true)(mP:mg "placed"=some (.ref fP))(GW:FnOk P w K mg base CX0 8 fW fdW ["statement"] spWw)(bW:Binds K fdW ["statement"] [])(kW:keepIn K (.ref fW)=true)(mW:mg "words_of_writer"=some (.ref fW))(GR:FnOk P w K mg base CX0 1 fR fdR ["words","depth"] spRowW)(bR:Binds K fdR ["words","depth"] [])(kR:keepIn K (.ref fR)=true)(mR:mg "row_of_writer"=some (.ref fR))(GB:FnOk P w K mg base CX0 2 fB fdB ["statement","depth"] spBehind)(bB:Binds K fdB ["statement","depth"] [])(kB:keepIn K (.ref fB)=true)(mB:mg "behind_first"=some (.ref fB))(mli:mg "list"=none)(mre:mg "reversed"=none):FnOk P w K mg base CX0 9 f fd ["body"] spBRows:=by
 refine F.ok scBRows (fun vs H Q E h=>?_) (fun cdv A outer s H vs Q E hr h=>?_)
 ·refine opq fun Gq kq=>?_
  obtain⟨q,xs,b,rfl,_⟩:=h
  refine kq ?_
  clear kq
  rfl
 refine opq fun Gq kq=>?_
 obtain⟨q,xs,b,rfl,hq,hb,ho,hd,hz,k⟩:=h
 refine kq ?_
 clear kq
 refine⟨_,(jd (js (i:=1) scBRows.nd rfl (Or.inl rfl) (jC jc)) (jd (js (i:=2) scBRows.nd rfl (Or.inl rfl) (@Jf _ _ _ _ _ _ _ _ _ rfl rfl mli boot_list rfl mre boot_reversed (ji GP hr.m rfl mP kP bP .nil pass0 (ja (pv 0) (ja jf jc))) (by decide) (by decide) (by decide) (by decide) (by rfl) (by rfl) (by rfl) (by rfl))) (jd (@Zm _ _ _ _ _ _ PassesOwn.never (@kG _ _ _ (pv 2) (fun _=>rfl)) (jd (js (i:=3) scBRows.nd rfl (Or.inl rfl) (@qv _ _ _ _ _ _ _ _ _ PySem.F.plainAttrs_list PySem.F.slot_list_pop PySem.F.type_list_pop Jx (pv 2) (by rfl) (by rfl))) (jd (jN (@jS _ _ _ _ _ _ _ _ _ _ _ _ PySem.F.plainAttrs_list PySem.F.slot_list_append PySem.F.type_list_append jL (pv 1) (ja (ji GR hr.m rfl mR kR bR .nil pass0 (ja (ji GW hr.m rfl mW kW bW .nil pass0 (ja (@jv _ _ _ _ _ _ _ jK (pv 3) jf (fun _ _=>rfl)) jc)) (ja (@jv _ _ _ _ _ _ _ jK (pv 3) jf (fun _ _=>rfl)) jc))) jc) (by rfl) (by rfl) (by rfl) (by rfl) (by rfl))) (jg (jN (@jS _ _ _ _ _ _ _ _ _ _ _ _ PySem.F.plainAttrs_list PySem.F.slot_list_extend PySem.F.type_list_extend J8 (pv 2) (ja (@Jf _ _ _ _ _ _ _ _ _ rfl rfl mli boot_list rfl mre boot_reversed (ji GB hr.m rfl mB kB bB .nil pass0 (ja (@jv _ _ _ _ _ _ _ jK (pv 3) jf (fun _ _=>rfl)) (ja (@jv _ _ _ _ _ _ _ jK (pv 3) jf (fun _ _=>rfl)) jc))) (by decide) (by decide) (by decide) (by decide) (by rfl) (by rfl) (by rfl) (by rfl)) jc) (by rfl) (by rfl) (by rfl) (by rfl) (by rfl))))))) (jg (jr (pv 1)))))),?_⟩
 try dsimp only[cxOf,Cx.nox,Cx.wish]
 have big:=line24
 have lx:=hb.len
 have tot:((b.rows 1).map rowX).length<=150:=by rw[List.length_map];have:=JF b (d:=1);omega
 have hok:WOk (b.sms.map fun s=>(s,1)):=fun c hc=>by
  obtain⟨s,hs,rfl⟩:=List.mem_map.mp hc
  have:=Zg ho s hs
  exact⟨this.1,by show 1+s.dep<=9;omega⟩
 refine seqF fun F1 f1=>⟨sz0,fun rl nrl=>f1 _ _ ?_⟩
 clear f1
 have s1:Same H (upd H rl (.lst [])):=je nrl
 have er:upd H rl (.lst []) rl=some (.lst []):=jb
 generalize upd H rl (.lst [])=H1 at s1 er ⊢
 refine seqF fun F1 f1=>⟨_,rfl,q,xs,b,1,rfl,s1 _ _ hq,hb.mono (Same.tm s1),by omega,fun r0 ps0 H2 n0 e0 g0 s2=>⟨r0,_,rfl,SqL.of e0,fun tl ntl=>f1 _ _ ?_⟩⟩
 clear f1
 have s3:=s2.trans (je (o:=.lst ps0.reverse) ntl)
 have et:upd H2 tl (.lst ps0.reverse) tl=some (.lst ps0.reverse):=jb
 have g1:=g0.mono (Same.tm (je (o:=.lst ps0.reverse) ntl))
 have ntr:tl≠rl:=fun z=>by rw[z,s2 _ _ er]at ntl;cases ntl
 generalize upd H2 tl (.lst ps0.reverse)=H3 at s3 et g1
 have ftl:H tl=none:=(s1.trans s2).free ntl
 refine seqF fun F1 f1=>?_
 refine whileE (WB q rl tl b H) ((rowsOf (b.sms.map fun s=>(s,1))).length) ⟨none,_,ps0,[],rfl,rfl,s3 _ _ er,et,g1,by rw[qK];rfl,hok,s1.trans s3⟩ ?_
 intro m σ H4 E rt fE F kT kF Gq kq hW
 obtain⟨o3,W,ps,acc,rfl,rfl,w2,w3,w4,w5,w6,w7⟩:=hW
 refine kq ⟨_,rfl,!ps.reverse.isEmpty,.inl ⟨_,SqL.of w3,rfl⟩,?_⟩
 clear kq
 have lw:=rl_any w5 tot
 rw[List.length_map]at lw
 cases W with
 |nil=>
  have ev:ps=[]:=w4
  subst ev
  refine kF _ (f1 _ _ ⟨_,rfl,?_⟩)
  have e5:acc=(b.rows 1).map rowX:=by rw[<- w5];exact(List.append_nil _).symm
  exact k rl H4 nrl (by rw[w2,e5]) w7
 |cons c W=>
  obtain⟨p,v,qs,rfl,v1,v2,v3⟩:=w4
  obtain⟨s,d⟩:=c
  have ok1:=w6 (s,d) List.mem_cons_self
  have ok1a:s.Ok:=ok1.1
  have ok1b:d+s.dep<=9:=ok1.2
  have ne:(!(V.ref p::qs).reverse.isEmpty)=true:=by simp
  rw[ne]
  refine kT _ ?_
  clear kT kF f1
  rw[List.reverse_cons]at w3
  refine seqF fun F1 f1=>⟨_,rfl,.inl ⟨rfl,_,SqL.of w3⟩,tl,_,.ref p,rfl,rfl,w3,by simp,f1 _ _ ?_⟩
  clear f1
  rw[List.dropLast_concat]
  have t5:upd H4 tl (.lst qs.reverse) tl=some (.lst qs.reverse):=jb
  have r5:upd H4 tl (.lst qs.reverse) rl=some (.lst (acc.map V.str)):=by rw[jh (Ne.symm ntr)];exact w2
  have m5:TMono H4 (upd H4 tl (.lst qs.reverse)):=z5 w3
  have k5:Same H (upd H4 tl (.lst qs.reverse)):=fun b o e=>by rw[jh (jj e ftl)];exact w7 _ _ e
  generalize upd H4 tl (.lst qs.reverse)=H5 at t5 r5 m5 k5
  have er1:rowsOf ((s,d)::W)=(d,s.head)::(rowsOf (s.behind d)++rowsOf W):=by show s.rows d++rowsOf W=_;rw[Jh];rfl
  rw[er1]at w5 lw
  rw[List.length_cons,List.length_append]at lw
  have lb:=qy (s.behind d)
  have v1':=m5 _ _ v1
  refine seqF fun F1 f1=>⟨_,rfl,.inl ⟨rfl,_,SqL.of r5⟩,_,rfl,p,_,_,_,rfl,rfl,SqT.of v1',jo (j:=0) rfl,v,s,rfl,v2.mono m5,ok1a,fun r6 H6 n6 e6 s6=>⟨_,rfl,p,_,_,_,rfl,rfl,SqT.of (s6 _ _ v1'),jo (j:=1) rfl,r6,_,d,rfl,e6,by have:=JE ok1a.head;omega,by omega,rl,_,_,rfl,rfl,s6 _ _ r5,by rw[List.length_map];omega,f1 _ _ ?_⟩⟩
  clear f1
  have k6:Same H (upd H6 rl (.lst (acc.map V.str++[.str (rowT d s.head.words)]))):=fun b o e=>by rw[jh (jj e nrl)];exact s6 _ _ (k5 _ _ e)
  have m6:TMono H5 (upd H6 rl (.lst (acc.map V.str++[.str (rowT d s.head.words)]))):=fun b zs e=>z5 (s6 _ _ r5) _ _ (s6 _ _ e)
  have t6:upd H6 rl (.lst (acc.map V.str++[.str (rowT d s.head.words)])) tl=some (.lst qs.reverse):=by rw[jh ntr];exact s6 _ _ t5
  have r6':upd H6 rl (.lst (acc.map V.str++[.str (rowT d s.head.words)])) rl=some (.lst (acc.map V.str++[.str (rowT d s.head.words)])):=jb
  generalize upd H6 rl (.lst (acc.map V.str++[.str (rowT d s.head.words)]))=H7 at k6 m6 t6 r6' ⊢
  have v1'':=m6 _ _ v1'
  refine⟨_,rfl,.inl ⟨rfl,_,SqL.of t6⟩,_,rfl,p,_,_,_,rfl,rfl,SqT.of v1'',jo (j:=0) rfl,_,rfl,p,_,_,_,rfl,rfl,SqT.of v1'',jo (j:=1) rfl,v,s,d,rfl,(v2.mono m5).mono m6,by omega,fun r8 ps8 H8 n8 e8 g8 s8=>⟨r8,_,rfl,SqL.of e8,fun r9 n9=>⟨tl,r9,_,_,rfl,rfl,keepN (s8 _ _ t6) n9,jb,?_,?_⟩⟩⟩
  ·have a1:=g8.len
   have a2:=v3.len
   have a3:=qy W
   rw[XG,XG]
   omega
  ·have s9:Same H8 (upd H8 r9 (.lst ps8.reverse)):=je n9
   have t9:=s9 _ _ (s8 _ _ t6)
   have r9':=s9 _ _ (s8 _ _ r6')
   have g9:=g8.mono (Same.tm s9)
   have k9:Same H (upd H8 r9 (.lst ps8.reverse)):=(k6.trans s8).trans s9
   have v9:=((v3.mono m5).mono m6).mono (Same.tm (s8.trans s9))
   generalize upd H8 r9 (.lst ps8.reverse)=H9 at t9 r9' g9 k9 v9 ⊢
   have mt:=z5 (zs:=qs.reverse++ps8.reverse) t9
   refine fE (rowsOf (s.behind d++W)).length _ _ ?_ ⟨_,s.behind d++W,ps8++qs,acc++[rowX (d,s.head)],rfl,rfl,?_,by rw[List.reverse_append];exact jb,PlV.app (v9.mono mt) (g9.mono mt),?_,(Yx ok1a ok1b).app w6.tail,fun b o e=>by rw[jh (jj e ftl)];exact k9 _ _ e⟩
   ·rw[er1,zy,List.length_cons]
    exact Nat.lt_succ_self _
   ·rw[jh (Ne.symm ntr),r9',List.map_append]
    rfl
   ·rw[<- w5,zy]
    simp
theorem scShown:FnScope ["program","rows","name","params","body"] ["program"] (defScope sShown):=fsc
theorem Z8{f:Addr}{fd:FuncData}{fR fB:Addr}{fdR fdB:FuncData}(F:Fun K "shown" "shown" sShown f fd)(GR:FnOk P w K mg base CX0 1 fR fdR ["words","depth"] spRowW)(bR:Binds K fdR ["words","depth"] [])(kR:keepIn K (.ref fR)=true)(mR:mg "row_of_writer"=some (.ref fR))(GB:FnOk P w K mg base CX0 9 fB fdB ["body"] spBRows)(bB:Binds K fdB ["body"] [])(kB:keepIn K (.ref fB)=true)(mB:mg "body_rows"=some (.ref fB))(mli:mg "list"=none):FnOk P w K mg base CX0 10 f fd ["program"] spShown:=by
 refine F.ok scShown (fun vs H Q E h=>?_) (fun cdv A outer s H vs Q E hr h=>?_)
 ·refine opq fun Gq kq=>?_
  obtain⟨p,xs,ds,rfl,_⟩:=h
  refine kq ?_
  clear kq
  rfl
 refine opq fun Gq kq=>?_
 obtain⟨p,xs,ds,rfl,hp,hD,hO,hl,hW,k⟩:=h
 refine kq ?_
 clear kq
 refine⟨_,(jd (js (i:=1) scShown.nd rfl (Or.inl rfl) (jC jc)) (jd (@zj _ _ _ _ _ _ _ _ PassesOwn.never rfl (@Kn _ _ _ _ (pv 0)) (@qS _ _ _ _ _ (3) rfl (jY (jD (i:=2) scShown.nd rfl (Or.inl rfl)) (jY (jD (i:=3) scShown.nd rfl (Or.inl rfl)) (jY (jD (i:=4) scShown.nd rfl (Or.inl rfl)) qe))) (by rfl) (by rfl)) (jd (jN (@jS _ _ _ _ _ _ _ _ _ _ _ _ PySem.F.plainAttrs_list PySem.F.slot_list_append PySem.F.type_list_append jL (pv 1) (ja (ji GR hr.m rfl mR kR bR .nil pass0 (ja (ju j8 (jC (ja jk (ja (pv 2) jc))) (@jG _ _ _ _ _ _ _ _ _ KO rfl mli boot_list (ja (pv 3) jc) (by decide) (by decide) (by rfl) (by rfl))) (ja jf jc))) jc) (by rfl) (by rfl) (by rfl) (by rfl) (by rfl))) (jd (jN (@jS _ _ _ _ _ _ _ _ _ _ _ _ PySem.F.plainAttrs_list PySem.F.slot_list_extend PySem.F.type_list_extend J8 (pv 1) (ja (ji GB hr.m rfl mB kB bB .nil pass0 (ja (pv 4) jc)) jc) (by rfl) (by rfl) (by rfl) (by rfl) (by rfl))) (jg (jN (@jS _ _ _ _ _ _ _ _ _ _ _ _ PySem.F.plainAttrs_list PySem.F.slot_list_append PySem.F.type_list_append jL (pv 1) (ja jk jc) (by rfl) (by rfl) (by rfl) (by rfl) (by rfl)))))) (by intro _;rfl)) (jg (jr (@jS _ _ _ _ _ _ _ _ _ _ _ _ PySem.F.plainAttrs_str PySem.F.slot_str_join PySem.F.type_str_join zS jk (ja (pv 1) jc) (by rfl) (by rfl) (by rfl) (by rfl) (by rfl)))))),?_⟩
 try dsimp only[cxOf,Cx.nox,Cx.wish]
 have big:=line24
 have lx:=hD.len
 refine seqF fun F1 f1=>⟨sz0,fun rl nrl=>f1 _ _ ?_⟩
 clear f1
 have s1:Same H (upd H rl (.lst [])):=je nrl
 have er:upd H rl (.lst []) rl=some (.lst []):=jb
 generalize upd H rl (.lst [])=H1 at s1 er ⊢
 refine seqF fun F1 f1=>forE fun J j=>⟨_,rfl,p,rfl,⟨_,SqT.of (s1 _ _ hp)⟩,j _ _ ?_⟩
 clear j
 refine ZD (K:=K) (a:=p) (xs:=xs) (fun i σ H'=>∃o2 o3 o4,σ=[some (.ref p),some (.ref rl),o2,o3,o4]/\H' rl=some (.lst ((prows (ds.take i)).map V.str))/\Same H H') ⟨none,none,none,rfl,er,s1⟩ ?_ ?_ ?_
 ·intro i σ H' _ h
  obtain⟨_,_,_,_,_,h⟩:=h
  exact SqT.of (h _ _ hp)
 ·intro E _ i x σ H2 hx fE Gq kq h
  obtain⟨o2,o3,o4,rfl,e2,e3⟩:=h
  obtain⟨d,hd,hv⟩:=hD.at i x hx
  refine kq ?_
  clear kq f1
  have dok:=hO d (List.mem_of_getElem? hd)
  have eT:ds.take (i+1)=ds.take i++[d]:=by rw[List.take_add_one,hd];rfl
  have wT:=JG (ds:=ds.take (i+1)) fun e he=>hO e (List.mem_of_mem_take he)
  rw[eT,JP]at wT
  have lT:(ds.take i++[d]).length<=12:=by rw[<- eT,List.length_take];omega
  have lr:d.rows.map rowX=rowX (0,.df d.f d.ps)::((d.b.rows 1).map rowX++[rowX (0,.fin)]):=by unfold Df.rows;rw[List.map_cons,List.map_append];rfl
  rw[lr]at wT
  have wl:=wT.2
  rw[List.length_append,List.length_cons,List.length_append]at wl
  have wl:(prows (ds.take i)).length+(((d.b.rows 1).map rowX).length+1+1)<=2000:=by show _+(_+1+1)<=_;have:([rowX (0,Rw'.fin)]:List Str).length=1:=rfl;omega
  obtain⟨pd,pa,pb,bs,rfl,h1,h2,h3,h4⟩:=hv
  refine tgE fun F6 f6=>⟨pd,_,rfl,SqT.of (e3 _ _ h1),rfl,_,_,rfl,_,_,rfl,_,_,rfl,rfl,f6 _ _ ?_⟩
  clear f6
  refine seqF fun F1 f1=>⟨_,rfl,.inl ⟨rfl,_,SqL.of e2⟩,_,rfl,sz2,fun l0 nl0=>?_⟩
  have s3:=e3.trans (je (o:=.lst [.str "def",.str d.f]) nl0)
  refine⟨_,rfl,pa,_,rfl,.inr (SqT.of (s3 _ _ h2)),fun l1 nl1=>?_⟩
  have s4:=s3.trans (je (o:=.lst (d.ps.map V.str)) nl1)
  have hps:=dok.2.2.1
  refine⟨l0,l1,_,_,rfl,rfl,keepN jb nl1,jb,by rw[List.length_map];show 2+_<=_;omega,fun l2 nl2=>?_⟩
  have s5:Same H2 (upd (upd (upd H2 l0 (.lst [.str "def",.str d.f])) l1 (.lst (d.ps.map V.str))) l2 (.lst ([.str "def",.str d.f]++d.ps.map V.str))):=((je nl0).trans (je nl1)).trans (je nl2)
  have e5:upd (upd (upd H2 l0 (.lst [.str "def",.str d.f])) l1 (.lst (d.ps.map V.str))) l2 (.lst ([.str "def",.str d.f]++d.ps.map V.str)) l2=some (.lst ((Rw'.df d.f d.ps).words.map V.str)):=jb
  generalize upd (upd (upd H2 l0 (.lst [.str "def",.str d.f])) l1 (.lst (d.ps.map V.str))) l2 (.lst ([.str "def",.str d.f]++d.ps.map V.str))=H3 at s5 e5 ⊢
  refine⟨l2,_,0,rfl,e5,by have:=JE (r:=.df d.f d.ps) ⟨dok.1,dok.2.1,dok.2.2.1⟩;omega,by omega,rl,_,_,rfl,rfl,s5 _ _ e2,by rw[List.length_map];omega,f1 _ _ ?_⟩
  clear f1 s3 s4
  have k6:Same H (upd H3 rl (.lst ((prows (ds.take i)).map V.str++[.str (rowX (0,.df d.f d.ps))]))):=fun b o e=>by rw[jh (jj e nrl)];exact s5 _ _ (e3 _ _ e)
  have e6:upd H3 rl (.lst ((prows (ds.take i)).map V.str++[.str (rowX (0,.df d.f d.ps))])) rl=some (.lst ((prows (ds.take i)).map V.str++[.str (rowX (0,.df d.f d.ps))])):=jb
  show tSeq _ _ E _ (upd H3 rl (.lst ((prows (ds.take i)).map V.str++[.str (rowX (0,.df d.f d.ps))])))
  generalize upd H3 rl (.lst ((prows (ds.take i)).map V.str++[.str (rowX (0,.df d.f d.ps))]))=H4 at k6 e6
  refine seqF fun F1 f1=>⟨_,rfl,.inl ⟨rfl,_,SqL.of e6⟩,_,rfl,pb,bs,d.b,rfl,k6 _ _ h3,h4.mono (Same.tm k6),dok.2.2.2.1,dok.2.2.2.2.1,dok.2.2.2.2.2,fun r7 H5 n7 e7 s7=>⟨rl,r7,_,_,rfl,rfl,s7 _ _ e6,e7,by rw[List.length_append,List.length_map,List.length_map];show _+1+_<=_;omega,f1 _ _ ?_⟩⟩
  clear f1
  refine⟨_,rfl,.inl ⟨rfl,_,SqL.of jb⟩,rl,_,_,rfl,rfl,jb,by rw[List.length_append,List.length_append,List.length_map,List.length_map];show _+1+_ < _;omega,fE _ _ ⟨_,_,_,rfl,?_,fun b o e=>?_⟩⟩
  ·rw[jb,eT,JP,lr,end_row]
   simp
  ·rw[jh (jj e nrl),jh (jj e nrl)]
   exact s7 _ _ (k6 _ _ e)
 ·intro σ H2 h
  obtain⟨o2,o3,o4,rfl,e2,e3⟩:=h
  refine f1 _ _ ?_
  rw[lx,List.take_length]at e2
  have w1:=JG hO
  have w2:=qh "\n" (by decide+kernel) (prows ds)
  exact⟨rfl,_,rfl,_,rl,prows ds,rfl,rfl,SqL.of e2,by decide+kernel,by have e:wt (prows ds)=((prows ds).map (·.length)).sum+(prows ds).length:=rfl;omega,k H2 e3⟩
theorem YD{g:Nat->Bool}(x:Str):∃k,(Txt.stripBy g true true x).l=(x.l.drop (x.l.takeWhile g).length).take k:=by
 have hl:x.length=x.l.length:=(zz x).symm
 have hlo:stripLo g true x=(x.l.takeWhile g).length:=rfl
 have hhi:stripHi g true x (stripLo g true x)=x.l.length - ((x.l.drop (stripLo g true x)).reverse.takeWhile g).length:=by unfold stripHi;rw[hl];rfl
 unfold Txt.stripBy
 by_cases hs:stripSame g true true x=true
 ·rw[if_pos hs]
  unfold stripSame at hs
  rw[Bool.and_eq_true,beq_iff_eq]at hs
  have h1:(x.l.takeWhile g).length=0:=hs.1
  exact⟨x.l.length,by rw[h1,List.drop_zero,List.take_length]⟩
 ·rw[if_neg hs]
  refine⟨stripHi g true x (stripLo g true x) - stripLo g true x,?_⟩
  unfold stripped Builtin.Str.strSub
  show(x.cps.extract _ _).toList=_
  simp only[Array.toList_extract,List.extract_eq_drop_take']
  rw[List.drop_take,hlo]
noncomputable def nb(l:List Nat):Nat:=(l.filter fun c=>decide (c≠32)).length
theorem Jy(a b:List Nat):nb (a++b)=nb a+nb b:=by unfold nb;rw[List.filter_append,List.length_append]
theorem YO(k:Nat):nb (List.replicate k 32)=0:=by
 unfold nb
 rw[List.length_eq_zero_iff,List.filter_eq_nil_iff]
 intro c hc
 rw[(List.mem_replicate.mp hc).2]
 decide
theorem nb_le(l:List Nat):nb l<=l.length:=List.length_filter_le _ _
theorem nb_word{l:List Nat}(h:32∉l):nb l=l.length:=by
 unfold nb
 rw[List.filter_eq_self.mpr]
 intro c hc
 exact decide_eq_true fun z=>h (by rw[<- z];exact hc)
theorem tw_bl{c:Nat}{r:List Nat}(hc:c≠32):∀k,(List.replicate k 32++c::r).takeWhile (Str.ofString " ").cps.contains=List.replicate k 32
 |0=>by
  have e:(Str.ofString " ").cps=#[32]:=by decide+kernel
  rw[e]
  show List.takeWhile _ (c::r)=[]
  rw[List.takeWhile_cons_of_neg]
  simpa using hc
 |k+1=>by
  have e:(Str.ofString " ").cps.contains 32=true:=by decide+kernel
  show List.takeWhile _ (32::(List.replicate k 32++c::r))=32::List.replicate k 32
  rw[List.takeWhile_cons_of_pos e,tw_bl hc k]
theorem KK{d:Nat}{kw:Str}{ws:List Str}(hk:kw.l≠[])(h32:32∉kw.l):fstW (stp (rowT d (kw::ws)))=kw:=by
 have er:(rowT d (kw::ws)).l=List.replicate (2*d) 32++jn [32] (kw.l::ws.map Str.l):=by
  show(Txt.mul "  " (d:Int)++Txt.join " " (kw::ws)).l=_
  rw[j3,Xf,kQ,JQ]
  rfl
 obtain⟨rest,ej,hr⟩:∃rest,jn [32] (kw.l::ws.map Str.l)=kw.l++rest/\(rest=[]∨∃r',rest=32::r'):=by
  cases ws with
  |nil=>exact⟨[],(List.append_nil _).symm,.inl rfl⟩
  |cons y r=>exact⟨32::jn [32] ((y::r).map Str.l),by show kw.l++[32]++_=_;rw[List.append_assoc];rfl,.inr ⟨_,rfl⟩⟩
 rw[ej]at er
 obtain⟨c,kr,ek⟩:∃c kr,kw.l=c::kr:=by
  cases e:kw.l with
  |nil=>exact absurd e hk
  |cons c kr=>exact⟨c,kr,rfl⟩
 have hc:c≠32:=fun z=>h32 (by rw[ek,z];exact List.mem_cons_self)
 obtain⟨k,es⟩:=YD (g:=(Str.ofString " ").cps.contains) (rowT d (kw::ws))
 have es:(stp (rowT d (kw::ws))).l=((rowT d (kw::ws)).l.drop ((rowT d (kw::ws)).l.takeWhile (Str.ofString " ").cps.contains).length).take k:=es
 have et:(rowT d (kw::ws)).l.takeWhile (Str.ofString " ").cps.contains=List.replicate (2*d) 32:=by rw[er,ek];exact tw_bl hc _
 rw[et,List.length_replicate,er]at es
 have edr:(List.replicate (2*d) 32++(kw.l++rest)).drop (2*d)=kw.l++rest:=by
  have h:=List.drop_left (l₁:=List.replicate (2*d) 32) (l₂:=kw.l++rest)
  rw[List.length_replicate]at h
  exact h
 rw[edr]at es
 obtain⟨j0,k0,e0⟩:=Jn (rowT d (kw::ws))
 have e0:(rowT d (kw::ws)).l=List.replicate j0 32++(stp (rowT d (kw::ws))).l++List.replicate k0 32:=e0
 have n1:=congrArg nb e0
 rw[er,Jy,Jy,YO,Jy,Jy,YO,YO,nb_word h32]at n1
 have n2:=nb_le (stp (rowT d (kw::ws))).l
 have n3:(stp (rowT d (kw::ws))).l.length<=k:=by rw[es,List.length_take];omega
 have es2:(stp (rowT d (kw::ws))).l=kw.l++rest.take (k - kw.l.length):=by rw[es,List.take_append,List.take_of_length_le (by omega)]
 have eb:Str.ofString " "=⟨#[32]⟩:=by decide+kernel
 have sp':=zu (stp (rowT d (kw::ws))) 32
 have hd:∃t,sp 32 (stp (rowT d (kw::ws))).l=kw.l::t:=by
  rw[es2]
  rcases hr with rfl | ⟨r',rfl⟩
  ·rw[List.take_nil,List.append_nil,zV h32];exact⟨[],rfl⟩
  ·cases hm:k - kw.l.length with
   |zero=>rw[List.take_zero,List.append_nil,zV h32];exact⟨[],rfl⟩
   |succ m=>rw[List.take_succ_cons,qT,zV h32];exact⟨_,rfl⟩
 obtain⟨t,hd⟩:=hd
 rw[hd]at sp'
 unfold fstW
 rw[eb]
 generalize Txt.split (stp (rowT d (kw::ws))) ⟨#[32]⟩=S at sp'
 cases S with
 |nil=>cases sp'
 |cons x S=>
  injection sp' with e1 e2
  exact zU e1
theorem q9{R:Rw'}:∃ws,R.words=R.word::ws:=by
 cases R with
 |lf l=>cases l<;>exact⟨_,rfl⟩
 |_=>exact⟨_,rfl⟩
theorem Z9{bad:List Str}{d:Nat}{R:Rw'}(h:R.Ok):Kind bad (rowX (d,R)):=by
 refine .inr (.inr ⟨R,h,zM d h,?_⟩)
 obtain⟨ws,e⟩:=q9 (R:=R)
 show fstW (stp (rowT d R.words))=_
 rw[e]
 have hw:∀w∈heads,w.l≠[]/\32∉w.l:=by decide+kernel
 have:=hw _ (qg R)
 exact KK this.1 this.2
theorem wd_tail:∀(k:Nat) (x:List Nat),wd (x++List.replicate k 32)=wd x
 |0,x=>by rw[show List.replicate 0 32=([]:List Nat) from rfl,List.append_nil]
 |k+1,x=>by
  show wd (x++32::List.replicate k 32)=_
  rw[z9,<- List.append_nil (List.replicate k 32),Kt,Y0,List.append_nil]
theorem Ja(y:Str):wordsS (stp y)=wordsS y:=by
 obtain⟨j,k,e⟩:=Jn y
 unfold wordsS
 rw[e,wd_tail,Kt]
 rfl
theorem qL(c:Nat):∀l:List Nat,exL c [c] l=l
 | []=>rfl
 |a::l=>by
  show(if a=c then [c] else [a])++exL c [c] l=_
  rw[qL c l]
  by_cases h:a=c
  ·rw[if_pos h,h];rfl
  ·rw[if_neg h];rfl
noncomputable def mkS(l:List Nat):Str:=⟨l.toArray⟩
theorem mkS_l(x:Str):mkS x.l=x:=zU rfl
theorem qz(ps:List Str):wordsS (Txt.join " " ps)=((ps.map fun p=>wd p.l).flatten).map mkS:=by
 unfold wordsS
 rw[kQ,JQ,YK,List.map_map]
 rfl
structure NoR(o:Str):Prop where
 h:NoRow (wordsS o)
theorem odd_no{d:Nat}{R:Rw'}(hR:R.Ok){k:Nat}{part o:Str}(hk:1<=k)(hpk:(Txt.split (stp (rowX (d,R))) " ")[k]?=some part)(hw:wd part.l=[part.l])(ho:BadW o)(how:wd o.l=[o.l]):
  NoR (Txt.join " " ((Txt.split (stp (rowX (d,R))) " ").set k o)):=by
 refine⟨?_⟩
 have eb:Str.ofString " "=⟨#[32]⟩:=by decide+kernel
 have ep:=zu (stp (rowX (d,R))) 32
 rw[<- eb]at ep
 have ej:jn [32] ((Txt.split (stp (rowX (d,R))) " ").map Str.l)=(stp (rowX (d,R))).l:=by rw[ep,KT,qL]
 have ef:fstW (stp (rowX (d,R)))=R.word:=by
  obtain⟨ws,e⟩:=q9 (R:=R)
  show fstW (stp (rowT d R.words))=_
  rw[e]
  have hw:∀w∈heads,w.l≠[]/\32∉w.l:=by decide+kernel
  have:=hw _ (qg R)
  exact KK this.1 this.2
 have et:wordsS (Txt.join " " (Txt.split (stp (rowX (d,R))) " "))=R.toks:=by
  have e1:Txt.join " " (Txt.split (stp (rowX (d,R))) " ")=stp (rowX (d,R)):=zU (by rw[kQ,JQ];exact ej)
  rw[e1,Ja]
  exact zM d hR
 unfold fstW at ef
 generalize Txt.split (stp (rowX (d,R))) " "=parts at*
 cases parts with
 |nil=>cases hpk
 |cons p0 rest=>
  have ef:p0=R.word:=ef
  have h0:wd p0.l=[p0.l]:=by
   rw[ef]
   exact(QD _ (qg R)).wd
  obtain⟨m,rfl⟩:∃m,k=m+1:=⟨k - 1,by omega⟩
  have hpk:rest[m]?=some part:=by simpa using hpk
  have hm:m < rest.length:=(List.getElem?_eq_some_iff.mp hpk).1
  have er:rest=rest.take m++part::rest.drop (m+1):=by
   rw[<- (List.getElem?_eq_some_iff.mp hpk).2,<- List.drop_eq_getElem_cons hm,List.take_append_drop]
  have es:(p0::rest).set (m+1) o=p0::(rest.take m++o::rest.drop (m+1)):=by
   rw[List.set_cons_succ,List.set_eq_take_append_cons_drop,if_pos hm]
  rw[es,qz]
  have key:∀z:Str,wd z.l=[z.l]->(((p0::(rest.take m++z::rest.drop (m+1))).map fun p=>wd p.l).flatten).map mkS=p0::((((rest.take m).map fun p=>wd p.l).flatten).map mkS++z::((((rest.drop (m+1)).map fun p=>wd p.l).flatten).map mkS)):=fun z hz=>by
   simp only[List.map_cons,List.map_append,List.flatten_cons,List.flatten_append,h0,hz,List.singleton_append,List.map_cons,List.map_append,mkS_l]
  rw[key o how]
  rw[qz,er,key part hw]at et
  exact Ys hR et.symm ho
noncomputable def oddA:List Str:=["x1","1x","a_b","Abc","abcdefghi","end","if","x.","call","0x1","X","x,"]
noncomputable def oddD:List Str:=["1_0","01","+1","-0","1000000000000000000","1,","00","1e3","0x1","-1","1.0","000"]
noncomputable def badB(o:Str):Bool:=match clsB o with
 |some none=>true
 |_=>false
theorem badB_ok{o:Str}(h:badB o=true):BadW o:=by
 unfold badB at h
 split at h
 ·rename_i e;exact Qk e
 ·cases h
theorem odd_bad:∀o∈oddA++oddD,badB o=true/\wd o.l=[o.l]/\o.length<=20/\10∉o.l/\32∉o.l:=by decide+kernel
theorem op_eqE{X:Cx}(hu:X.A.units < cLine):OpR X (compareOp .Eq) (fun x y H Q=>∃a b xs,x= .ref a/\y= .ref b/\H a=some (.lst xs)/\H b=some (.lst [])/\Q (.bl xs.isEmpty) H):=by
 intro pins s σ H x y v u Q I rx ry h
 refine opq fun Gq kq=>?_
 obtain⟨a,b,xs,rfl,rfl,ha,hb,q⟩:=h
 refine kq ?_
 clear kq
 cases rx
 cases ry
 refine opq fun Gq kq=>?_
 obtain⟨ia,ra,pa,_⟩:=I.list (SqL.of ha)
 refine kq ?_
 clear kq
 refine opq fun Gq kq=>?_
 obtain⟨ib,rb,pb,_⟩:=I.list (SqL.of hb)
 refine kq ?_
 clear kq
 have eb:ib=[]:=rb.nil_iff.mpr rfl
 subst eb
 cases hx:xs with
 |nil=>
  subst hx
  have ea:ia=[]:=ra.nil_iff.mpr rfl
  subst ea
  refine PySem.SeqAt.RcAt.lists (e:=fun _=>true) pa.isList pb.isList rfl hu (fun j h1 h2=>absurd h1 (by simp)) X.prog X.w _ _ ?_
  exact⟨.bl true,H,I,rfl,q⟩
 |cons z r=>
  subst hx
  have la:=ra.length
  refine PySem.SeqAt.RcAt.lists_lengths pa.isList pb.isList (by simp [<- la]) hu X.prog X.w _ _ ?_
  exact⟨.bl false,H,I,rfl,q⟩
theorem KS{lo:Int}{n:Nat}{tt:TT}{te:TE}{Qf:List V->Hp->Prop}{σt:L2.St}{H:Hp}(Pv:Nat->List V->Hp->Prop)(h0:Pv 0 [] H)(hz:n<=sizeLine)(hlen:∀i ys H',Pv i ys H'->ys.length<=i)
  (hs:∀i ys H',i < n->Pv i ys H'->tt (some (.int (lo+i))::σt) H' fun b H2=>if b=true then te (some (.int (lo+i))::σt) H2 fun y H3=>Pv (i+1) (ys++[y]) H3 else Pv (i+1) ys H2) (hd:∀ys H',Pv n ys H'->Qf ys H'):
  CompR (Itr lo n) 1 σt (gName 0) tt te Qf H:=by
 refine⟨fun i m ys H'=>m=n - i/\i<=n/\Pv i ys H',⟨n,by simp,Nat.zero_le _,h0⟩,?_⟩
 rintro i m ys H' ⟨rfl,hi,p⟩
 by_cases hlt:i < n
 ·refine .inr ⟨hlt,Nat.lt_of_le_of_lt (hlen i ys H' p) (Nat.lt_of_lt_of_le hlt hz),Pv (i+1),fun ys' H2 p'=>⟨n - (i+1),by omega,rfl,hlt,p'⟩,fun x H2 ts hts y=>?_⟩
  obtain⟨e,y⟩:=y
  subst e y
  obtain⟨v,rfl⟩:=len1 hts
  exact⟨⟨[some _],rfl,rfl⟩,hs i ys _ hlt p⟩
 ·have e:i=n:=by omega
  subst e
  exact .inl ⟨Nat.le_refl _,hd ys H' p⟩
theorem XH(o:Str):∀(S:List Str) (k:Nat),((S.set k o).map (·.length)).sum<=(S.map (·.length)).sum+o.length
 | [],k=>Nat.zero_le _
 |x::r,0=>by rw[List.set_cons_zero,List.map_cons,List.map_cons,List.sum_cons,List.sum_cons];omega
 |x::r,k+1=>by have:=XH o r k;rw[List.set_cons_succ,List.map_cons,List.map_cons,List.sum_cons,List.sum_cons];omega
theorem sign_wd{z:Str}(h:Txt.isdigit z=true∨Txt.isalpha z=true):wd z.l=[z.l]:=by
 have key:∀f:Nat->Bool,f 32=false->f 40=false->f 41=false->(decide (z.length > 0)&&z.cps.all f)=true->wd z.l=[z.l]:=fun f h1 h2 h3 e=>by
  rw[Bool.and_eq_true]at e
  have e0:=of_decide_eq_true e.1
  have ea:∀c∈z.l,f c=true:=fun c hc=>by
   have e2:=e.2
   rw[Array.all_eq_true_iff_forall_mem]at e2
   exact e2 c (Array.mem_toList_iff.mp hc)
  refine Xo (fun z0=>?_) (fun m=>?_) (fun m=>?_) (fun m=>?_)
  ·rw[<- zz,z0]at e0;exact absurd e0 (by decide)
  ·have:=ea _ m;rw[h1]at this;cases this
  ·have:=ea _ m;rw[h2]at this;cases this
  ·have:=ea _ m;rw[h3]at this;cases this
 rcases h with h |h
 ·exact key Unicode.isDigit (by decide+kernel) (by decide+kernel) (by decide+kernel) h
 ·exact key Unicode.isAlpha (by decide+kernel) (by decide+kernel) (by decide+kernel) h
def NoT(l:List Nat):Prop:=∀r c,l=r++[c]->c≠32
theorem XI(f:Nat->Bool):∀(l:List Nat) {c:Nat} {r:List Nat},l.dropWhile f=c::r->f c=false
 | [],_,_,h=>by cases h
 |a::l,c,r,h=>by
  cases e:f a with
  |true=>rw[List.dropWhile_cons_of_pos e]at h;exact XI f l h
  |false=>rw[List.dropWhile_cons_of_neg (by rw[e];decide)]at h;injection h with h1 h2;rw[<- h1];exact e
theorem XJ(f:Nat->Bool):∀l:List Nat,l.dropWhile f=l.drop (l.takeWhile f).length
 | []=>rfl
 |a::l=>by
  cases e:f a with
  |true=>rw[List.dropWhile_cons_of_pos e,List.takeWhile_cons_of_pos e,XJ f l];rfl
  |false=>rw[List.dropWhile_cons_of_neg (by rw[e];decide),List.takeWhile_cons_of_neg (by rw[e];decide)];rfl
theorem stp_end(x:Str):NoT (stp x).l:=by
 have hl:x.length=x.l.length:=(zz x).symm
 have eb:(Str.ofString " ").cps=#[32]:=by decide+kernel
 have key:∀g:Nat->Bool,g 32=true->NoT (Txt.stripBy g true true x).l:=fun g hg=>by
  have hlo:stripLo g true x=(x.l.takeWhile g).length:=rfl
  have hhi:stripHi g true x (stripLo g true x)=x.l.length - ((x.l.drop (stripLo g true x)).reverse.takeWhile g).length:=by unfold stripHi;rw[hl];rfl
  unfold Txt.stripBy
  by_cases hs:stripSame g true true x=true
  ·rw[if_pos hs]
   unfold stripSame at hs
   rw[Bool.and_eq_true,beq_iff_eq,beq_iff_eq]at hs
   have h1:stripLo g true x=0:=hs.1
   have h2:=hs.2
   intro r c e
   rw[h1]at hhi
   rw[h1,hhi,List.drop_zero,hl]at h2
   have h3:(x.l.reverse.takeWhile g).length=0:=by
    have:(x.l.reverse.takeWhile g).length<=x.l.length:=by have:=(List.takeWhile_prefix g (l:=x.l.reverse)).length_le;rwa [List.length_reverse]at this
    have:x.l.length=x.l.length - (x.l.reverse.takeWhile g).length:=h2.symm
    rw[e]at this ⊢
    rw[List.length_append]at this
    simp only[List.length_singleton]at this
    omega
   rw[e,List.reverse_append]at h3
   rintro rfl
   have h3:(List.takeWhile g (32::r.reverse)).length=0:=h3
   rw[List.takeWhile_cons_of_pos hg]at h3
   cases h3
  ·rw[if_neg hs]
   intro r c e
   unfold stripped Builtin.Str.strSub at e
   have e:(x.cps.extract (stripLo g true x) (stripHi g true x (stripLo g true x))).toList=r++[c]:=e
   simp only[Array.toList_extract,List.extract_eq_drop_take']at e
   rw[List.drop_take,hhi]at e
   generalize stripLo g true x=lo at*
   have hd:(x.l.drop lo).length=x.l.length - lo:=List.length_drop
   generalize hD:x.l.drop lo=D at*
   have e:D.take (x.l.length - (D.reverse.takeWhile g).length - lo)=r++[c]:=by rw[<- e]
   have hk:x.l.length - (D.reverse.takeWhile g).length - lo=D.length - (D.reverse.takeWhile g).length:=by rw[hd];omega
   rw[hk]at e
   have e2:D.reverse.dropWhile g=c::r.reverse:=by
    rw[XJ,List.drop_reverse,e,List.reverse_append]
    rfl
   have:=XI g _ e2
   rintro rfl
   rw[hg]at this
   cases this
 exact key _ (by show(Str.ofString " ").cps.contains 32=true;decide+kernel)
theorem stp_same{x:Str}{c:Nat}{r:List Nat}(h0:x.l=c::r)(hc:c≠32)(hT:NoT x.l):stp x=x:=by
 have hl:x.length=x.l.length:=(zz x).symm
 have eb:(Str.ofString " ").cps=#[32]:=by decide+kernel
 have key:∀g:Nat->Bool,g=(Str.ofString " ").cps.contains->Txt.stripBy g true true x=x:=fun g eg=>by
  have hg:∀a,a≠32->g a=false:=fun a ha=>by
   rw[eg,eb]
   simpa using ha
  have hlo:stripLo g true x=(x.l.takeWhile g).length:=rfl
  have hhi:stripHi g true x (stripLo g true x)=x.l.length - ((x.l.drop (stripLo g true x)).reverse.takeWhile g).length:=by unfold stripHi;rw[hl];rfl
  have h1:stripLo g true x=0:=by rw[hlo,h0,List.takeWhile_cons_of_neg (by rw[hg c hc];decide)];rfl
  unfold Txt.stripBy
  rw[if_pos]
  unfold stripSame
  rw[Bool.and_eq_true,beq_iff_eq,beq_iff_eq]
  refine⟨h1,?_⟩
  rw[h1]at hhi ⊢
  rw[hhi,List.drop_zero,hl]
  have h3:(x.l.reverse.takeWhile g).length=0:=by
   cases e:x.l.reverse with
   |nil=>rfl
   |cons b t=>
    have e2:x.l=t.reverse++[b]:=by rw[<- List.reverse_reverse x.l,e,List.reverse_cons]
    rw[List.takeWhile_cons_of_neg (by rw[hg b (hT _ _ e2)];decide)]
    rfl
  rw[h3]
  rfl
 exact key _ rfl
theorem QG{ps:List (List Nat)}{p:List Nat}(h:ps≠[]):jn [32] (ps++[p])=jn [32] ps++32::p:=by
 rw[YY [32] h (by simp),List.append_assoc]
 rfl
theorem odd_end{S:List (List Nat)}{k:Nat}{o:List Nat}(h1:1<=k)(h2:k < S.length)(h:NoT (jn [32] S))(ho:32∉o)(ho0:o≠[]):NoT (jn [32] (S.set k o)):=by
 rcases List.eq_nil_or_concat S with rfl | ⟨init,p,rfl⟩
 ·exact absurd h2 (by simp)
 rw[List.concat_eq_append]at h h2 ⊢
 rw[List.length_append]at h2
 have h2:k < init.length+1:=h2
 have hi:init≠[]:=fun z=>by rw[z]at h2;have h2:k < 0+1:=h2;omega
 have tail:∀(I:List (List Nat)) (q:List Nat),I≠[]->q≠[]->NoT q->NoT (jn [32] (I++[q])):=fun I q hI hq hT r c e=>by
  rw[QG hI]at e
  rcases List.eq_nil_or_concat q with rfl | ⟨q',b,rfl⟩
  ·exact absurd rfl hq
  rw[List.concat_eq_append]at e hT
  have e:(jn [32] I++32::q')++[b]=r++[c]:=by rw[<- e];simp
  have:=(List.append_inj' e rfl).2
  injection this with this
  rw[<- this]
  exact hT _ _ rfl
 rw[List.set_append]
 by_cases hk:k < init.length
 ·rw[if_pos hk]
  have hp:p≠[]:=fun z=>h (jn [32] init) 32 (by rw[z];exact QG hi) rfl
  refine tail _ p (fun z=>hi (by have:=congrArg List.length z;rw[List.length_set]at this;exact List.length_eq_zero_iff.mp this)) hp fun r c e=>?_
  refine h (jn [32] init++32::r) c ?_
  rw[QG hi,e]
  simp
 ·have e:k - init.length=0:=by omega
  rw[if_neg hk,e]
  exact tail _ o hi ho0 fun r c e z=>ho (by rw[e,z];simp)
theorem Zh{c:Nat}:∀{ps:List (List Nat)},c∈jn [32] ps->c=32∨∃p∈ps,c∈p
 | [],h=>nomatch h
 | [x],h=>.inr ⟨x,List.mem_cons_self,h⟩
 |x::y::r,h=>by
  have h:c∈x++[32]++jn [32] (y::r):=h
  rcases List.mem_append.mp h with h |h
  ·rcases List.mem_append.mp h with h |h
   ·exact .inr ⟨x,List.mem_cons_self,h⟩
   ·exact .inl (List.mem_singleton.mp h)
  ·rcases Zh h with h | ⟨p,hp,h⟩
   ·exact .inl h
   ·exact .inr ⟨p,List.mem_cons_of_mem _ hp,h⟩
theorem Zi{c:Nat}:∀{ps:List (List Nat)} {p:List Nat},p∈ps->c∈p->c∈jn [32] ps
 | [x],p,h,hc=>by rw[List.mem_singleton.mp h]at hc;exact hc
 |x::y::r,p,h,hc=>by
  show c∈x++[32]++jn [32] (y::r)
  rcases List.mem_cons.mp h with rfl |h
  ·exact List.mem_append_left _ (List.mem_append_left _ hc)
  ·exact List.mem_append_right _ (Zi h hc)
theorem QH:∀{T:Tm},T.Good->∀y∈T.toks,y.length<=20
 | .num n,g,y,h=>by
  have:=qE g.1 g.2
  rw[List.mem_singleton.mp h]
  omega
 | .var x,g,y,h=>by
  have:x.length<=8:=g.1.2.2
  rw[List.mem_singleton.mp h]
  omega
 | .op i a b,g,y,h=>by
  have l1:=zg
  have l2:=Jq
  have ls:(sgn i).length=1:=rfl
  rcases List.mem_cons.mp h with rfl |h
  ·omega
  rcases List.mem_cons.mp h with rfl |h
  ·omega
  rcases List.mem_append.mp h with h |h
  ·exact QH g.2.1 y h
  rcases List.mem_append.mp h with h |h
  ·exact QH g.2.2 y h
  ·rw[List.mem_singleton.mp h];omega
theorem XL{R:Rw'}(h:R.Ok):∀y∈R.toks,y.length<=1000:=by
 have hk:∀w∈heads,w.length<=1000:=by decide+kernel
 have kw:∀w:Str,w∈heads->∀ys:List Str,(∀y∈ys,y.length<=1000)->∀y∈w::ys,y.length<=1000:=fun w hw ys hy y m=>by
  rcases List.mem_cons.mp m with rfl |m
  ·exact hk _ hw
  ·exact hy y m
 have nm:∀x:Str,WN x->x.length<=1000:=fun x hx=>Nat.le_trans hx.1.2.2 (by decide)
 have nms:∀(x:Str) (ys:List Str),WN x->(∀y∈ys,y.length<=1000)->∀y∈x::ys,y.length<=1000:=fun x ys hx hy y m=>by
  rcases List.mem_cons.mp m with rfl |m
  ·exact nm _ hx
  ·exact hy y m
 have tm:∀T:Tm,TmOk T->∀y∈T.toks,y.length<=1000:=fun T hT y m=>Nat.le_trans (QH hT.1 y m) (by decide)
 cases R with
 |df f ps=>exact kw "def" (by decide+kernel) _ (nms _ _ h.1 fun y m=>nm y (h.2.1 y m))
 |ifr T=>exact kw "if" (by decide+kernel) _ (tm T h)
 |whr T=>exact kw "while" (by decide+kernel) _ (tm T h)
 |els=>exact kw "else" (by decide+kernel) [] (fun y m=>nomatch m)
 |fin=>exact kw "end" (by decide+kernel) [] (fun y m=>nomatch m)
 |lf l=>
  cases l with
  |rd x T=>exact kw "read" (by decide+kernel) _ (nms _ _ h.1 (tm T h.2))
  |st x T=>exact kw "set" (by decide+kernel) _ (nms _ _ h.1 (tm T h.2))
  |wr T U=>exact kw "write" (by decide+kernel) _ (fun y m=>(List.mem_append.mp m).elim (tm T h.1 y) (tm U h.2 y))
  |gv T=>exact kw "give" (by decide+kernel) _ (tm T h)
  |cl x f ts=>
   refine kw "call" (by decide+kernel) _ (nms _ _ h.1 (nms _ _ h.2.1 fun y m=>?_))
   obtain⟨l,hl,m⟩:=List.mem_flatten.mp m
   obtain⟨T,hT,rfl⟩:=List.mem_map.mp hl
   exact tm T (h.2.2.2 T hT) y m
theorem qi(a:Nat)(l:List Nat):nb (a::l)=(if a=32 then 0 else 1)+nb l:=by
 unfold nb
 by_cases h:a=32
 ·rw[if_pos h,List.filter_cons_of_neg (by rw[h];decide),Nat.zero_add]
 ·rw[if_neg h,List.filter_cons_of_pos (p:=fun c=>decide (c≠32)) (decide_eq_true h),List.length_cons,Nat.add_comm]
theorem QI{c:Nat}(hc:c≠32):∀l,nb (exL c [32,c,32] l)=nb l
 | []=>rfl
 |a::l=>by
  show nb ((if a=c then [32,c,32] else [a])++exL c [32,c,32] l)=_
  rw[Jy,QI hc l,qi a l]
  by_cases h:a=c
  ·rw[if_pos h,h,if_neg hc,qi,qi,qi,if_pos rfl,if_neg hc]
   have:nb []=0:=rfl
   omega
  ·rw[if_neg h,qi]
   rfl
theorem sp_nb:∀l,((sp 32 l).filter fun w=>!w.isEmpty).length<=nb l
 | []=>Nat.le_refl 0
 |a::l=>by
  have ih:=sp_nb l
  rw[qi]
  show((if a=32 then []::sp 32 l else ((a::(sp 32 l).headD [])::(sp 32 l).tail)).filter fun w=>!w.isEmpty).length<=_
  by_cases h:a=32
  ·rw[if_pos h,if_pos h,List.filter_cons_of_neg (by decide)]
   omega
  ·rw[if_neg h,if_neg h]
   rw[<- sp_ht 32 l]at ih
   rw[List.filter_cons_of_pos (by rfl),List.length_cons]
   have:((sp 32 l).tail.filter fun w=>!w.isEmpty).length<=(((sp 32 l).headD []::(sp 32 l).tail).filter fun w=>!w.isEmpty).length:=by
    by_cases e:(!((sp 32 l).headD []).isEmpty)=true
    ·rw[List.filter_cons_of_pos (p:=fun w:List Nat=>!w.isEmpty) e,List.length_cons];omega
    ·rw[List.filter_cons_of_neg (p:=fun w:List Nat=>!w.isEmpty) e];exact Nat.le_refl _
   omega
theorem YE(x:Str):(wordsS x).length<=x.length:=by
 unfold wordsS
 rw[List.length_map,<- zz x]
 unfold wd
 refine Nat.le_trans (sp_nb _) ?_
 rw[QI (by decide),QI (by decide)]
 exact nb_le _
theorem odd_text{d:Nat}{R:Rw'}(hR:R.Ok){k:Nat}{part o:Str}(hk:1<=k)(hpk:(Txt.split (stp (rowX (d,R))) " ")[k]?=some part)(hz:Txt.isdigit part=true∨Txt.isalpha part=true)(ho:badB o=true)(how:wd o.l=[o.l])(o32:32∉o.l)(o10:10∉o.l)(ol:o.length<=20):
  NoR (Txt.join " " ((Txt.split (stp (rowX (d,R))) " ").set k o))/\stp (Txt.join " " ((Txt.split (stp (rowX (d,R))) " ").set k o))=Txt.join " " ((Txt.split (stp (rowX (d,R))) " ").set k o)/\10∉(Txt.join " " ((Txt.split (stp (rowX (d,R))) " ").set k o)).l/\∀y∈wordsS (Txt.join " " ((Txt.split (stp (rowX (d,R))) " ").set k o)),y.length<=1000:=by
 have hw0:wd part.l=[part.l]:=sign_wd hz
 have hb0:BadW o:=badB_ok ho
 have h0:=odd_no (d:=d) (R:=R) (k:=k) (part:=part) (o:=o) hR hk hpk hw0 hb0 how
 refine And.intro h0 ?_
 clear h0 hw0 hb0
 have eb:Str.ofString " "=⟨#[32]⟩:=by decide+kernel
 have ep:=zu (stp (rowX (d,R))) 32
 rw[<- eb]at ep
 have ej:jn [32] ((Txt.split (stp (rowX (d,R))) " ").map Str.l)=(stp (rowX (d,R))).l:=by rw[ep,KT,qL]
 have hwh:∀w∈heads,w.l≠[]/\32∉w.l:=by decide+kernel
 have hw:=hwh _ (qg R)
 have ef:fstW (stp (rowX (d,R)))=R.word:=by
  obtain⟨ws,e⟩:=q9 (R:=R)
  show fstW (stp (rowT d R.words))=_
  rw[e]
  exact KK hw.1 hw.2
 have et:wordsS (Txt.join " " (Txt.split (stp (rowX (d,R))) " "))=R.toks:=by
  have e1:Txt.join " " (Txt.split (stp (rowX (d,R))) " ")=stp (rowX (d,R)):=zU (by rw[kQ,JQ];exact ej)
  rw[e1,Ja]
  exact zM d hR
 have en:=stp_end (rowX (d,R))
 have n10:10∉(stp (rowX (d,R))).l:=fun m=>by
  obtain⟨j,k,e⟩:=Jn (rowX (d,R))
  have e:(rowX (d,R)).l=List.replicate j 32++(stp (rowX (d,R))).l++List.replicate k 32:=e
  exact Qm (d:=d) (r:=R) hR (by rw[e];exact List.mem_append_left _ (List.mem_append_right _ m))
 rw[<- ej]at en n10
 unfold fstW at ef
 have jl:(Txt.join " " ((Txt.split (stp (rowX (d,R))) " ").set k o)).l=jn [32] (((Txt.split (stp (rowX (d,R))) " ").map Str.l).set k o.l):=by rw[kQ,JQ,List.map_set]
 have hkl:k < (Txt.split (stp (rowX (d,R))) " ").length:=(List.getElem?_eq_some_iff.mp hpk).1
 generalize Txt.split (stp (rowX (d,R))) " "=parts at*
 have oe:o.l≠[]:=fun z=>by rw[z]at how;cases how
 refine⟨?_,?_,?_⟩
 ·have nt:NoT (Txt.join " " (parts.set k o)).l:=by
   rw[jl]
   exact odd_end hk (by rw[List.length_map];exact hkl) en o32 oe
  cases parts with
  |nil=>cases hkl
  |cons p0 rest=>
   have ef:p0=R.word:=ef
   obtain⟨m,rfl⟩:∃m,k=m+1:=⟨k - 1,by omega⟩
   have hh:∃t,(Txt.join " " ((p0::rest).set (m+1) o)).l=p0.l++t:=by
    rw[jl,List.map_cons,List.set_cons_succ]
    cases (rest.map Str.l).set m o.l with
    |nil=>exact⟨[],(List.append_nil _).symm⟩
    |cons y r=>exact⟨_,List.append_assoc _ _ _⟩
   obtain⟨t,ht⟩:=hh
   have ep0:p0.l=R.word.l:=by rw[ef]
   cases e:R.word.l with
   |nil=>exact absurd e hw.1
   |cons c cs=>
    rw[ep0,e]at ht
    refine stp_same ht (fun z=>hw.2 (by rw[e,z];exact List.mem_cons_self)) nt
 ·rw[jl]
  intro m
  rcases Zh m with h | ⟨p,hp,h⟩
  ·exact absurd h (by decide)
  ·rcases List.mem_or_eq_of_mem_set hp with hp |rfl
   ·exact n10 (Zi hp h)
   ·exact o10 h
 ·intro y hy
  rw[qz]at et hy
  obtain⟨l,hl,rfl⟩:=List.mem_map.mp hy
  obtain⟨ws,hws,hl2⟩:=List.mem_flatten.mp hl
  obtain⟨p,hp,rfl⟩:=List.mem_map.mp hws
  rcases List.mem_or_eq_of_mem_set hp with hp |rfl
  ·refine XL hR _ ?_
   rw[<- et]
   exact List.mem_map.mpr ⟨l,List.mem_flatten.mpr ⟨_,List.mem_map.mpr ⟨p,hp,rfl⟩,hl2⟩,rfl⟩
  ·rw[how]at hl2
   rw[List.mem_singleton.mp hl2,mkS_l]
   omega
end K06
namespace L2
open PySem PySem.Spec PyProof.Rows
theorem XM{X:Cx}{K:Frag}{o:Expr}{to:TE}{name:Str}{apos cpos:Pos}{T:String}{id:String}{r:V->List V->Hp->VK->Prop}(hK:X.K=K)(pa:PlainAttrs T)(slot:Slot T name id)(hty:typeOf (.builtin id)=pure (.type "method_descriptor"))(hm:MtR X id r)(ho:PE X o to)(hbase:attributeBase o name X.env (eval o X.env)=eval o X.env:=by rfl)(hline:(apos.endLine==cpos.line)=true:=by rfl):PE X (.Call (.Attribute o name apos) [] [] cpos) (tBM0 K T r to):=by
 subst hK
 exact qv pa slot hty hm ho hbase hline
theorem Qo{X:Cx}{K:Frag}(hK:X.K=K):IxR X (rIxL K):=by
 subst hK
 exact jy
end L2
namespace K06
open PySem PySem.Spec PyProof.Rows L2
variable {P:Program}{w:World}{K:Frag}{mg:Str->Option Value}{base:Heap}
noncomputable abbrev sOdd:Stmt:=top 50
def OddR(o:Str):Prop:=NoR o/\stp o=o/\o.length<=4700/\10∉o.l/\∀y∈wordsS o,y.length<=1000
def spOdd:Sp:=fun vs H Q _=>∃(p a:Addr) (ws:List Str),vs=[.ref p,.ref a]/\BoxAt H p/\H a=some (.lst (ws.map V.str))/\1<=ws.length/\ws.length<=5000/\(∀y∈ws,∃d R,Rw'.Ok R/\y=rowX (d,R)/\y.length<=4650)/\
 ∀(o:Str) (H':Hp),OddR o->BoxAt H' p->But p H H'->Q (.str o) H'
theorem scOdd:FnScope ["_law_box_here","_law_rows","_law_words","_law_spots","_law_at","_law_odd"] ["_law_box_here","_law_rows"] (defScope sOdd):=fsc
noncomputable def YF:Scope:=⟨.function,[(".0",.local),("_law_k",.local),("_law_words",.free)],false,false,[]⟩
theorem nd_od1:(["_law_k","_law_words"]:List Str).Nodup:=by decide+kernel
theorem cs_od1:CompSc ["_law_box_here","_law_rows","_law_words","_law_spots","_law_at","_law_odd"] (defScope sOdd) YF ["_law_k","_law_words"] 1 [2]:=csc
theorem ok_odd{f:Addr}{fd:FuncData}{fT:Addr}{fdT:FuncData}(F:Fun K "_law_odd_row" "_law_odd_row" sOdd f fd)(GT:FnOk P w K mg base CX0 1 fT fdT ["_law_box_here","_law_wide"] spTake)(bT:Binds K fdT ["_law_box_here","_law_wide"] [])(kT:keepIn K (.ref fT)=true)(mT:mg "_law_take"=some (.ref fT))(ml:mg "len"=none)(mr:mg "range"=none):FnOk P w K mg base CX0 2 f fd ["_law_box_here","_law_rows"] spOdd:=by
 refine F.ok scOdd (fun vs H Q E h=>?_) (fun cdv A outer s H vs Q E hr h=>?_)
 ·refine opq fun Gq kq=>?_
  obtain⟨p,a,ws,rfl,_⟩:=h
  refine kq ?_
  clear kq
  rfl
 refine opq fun Gq kq=>?_
 obtain⟨p,a,ws,rfl,hB,ha,h1,h5,hg,q⟩:=h
 refine kq ?_
 clear kq
 refine⟨_,(@jd _ _ _ _ _ (@js _ _ (2) _ _ _ _ scOdd.nd rfl (Or.inr rfl) (@jS _ _ _ _ _ _ _ _ _ _ _ _ PySem.F.plainAttrs_str PySem.F.slot_str_split PySem.F.type_str_split zo (@jS _ _ _ _ _ _ _ _ _ _ _ _ PySem.F.plainAttrs_str PySem.F.slot_str_strip PySem.F.type_str_strip JB (@jv _ _ _ _ _ _ _ jy (pv 1) (ji GT hr.m rfl mT kT bT .nil pass0 (@ja _ _ _ _ _ (pv 0) (@ja _ _ _ _ _ (@jz _ _ _ _ _ _ _ _ _ jw rfl ml PySem.boot_len (@ja _ _ _ _ _ (pv 1) (@jc _) (by rfl)) (by decide) (by decide) (by rfl) (by rfl)) (@jc _) (by rfl)) (by rfl))) (fun _ _=>rfl)) (@ja _ _ _ _ _ jk (@jc _) (by rfl)) (by rfl) (by rfl) (by rfl) (by rfl) (by rfl)) (@ja _ _ _ _ _ jk (@jc _) (by rfl)) (by rfl) (by rfl) (by rfl) (by rfl) (by rfl)) (by rfl) (by first |exact .inl rfl |exact .inr rfl)) (@jd _ _ _ _ _ (@Xm _ _ _ _ _ _ _ _ _ _ (3) (["_law_k","_law_words"]) (1) ([2]) _ _ _ _ scOdd.nd rfl (Or.inl rfl) rfl (@JX _ _ _ _ _ _ _ rfl mr (@ja _ _ _ _ _ jf (@ja _ _ _ _ _ (@jz _ _ _ _ _ _ _ _ _ jw rfl ml PySem.boot_len (@ja _ _ _ _ _ (pv 2) (@jc _) (by rfl)) (by decide) (by decide) (by rfl) (by rfl)) (@jc _) (by rfl)) (by rfl)) (by rfl) (by rfl)) cs_od1 (fun _ _ _ _ _=>(jD (i:=0) nd_od1 rfl (Or.inl rfl))) (fun _ _ _ _ _=>(@YU _ _ _ (@PW.pt _ _ _ (@kL _ _ _ _ _ _ _ (@jW _ _ _ (@XM _ (K) _ _ _ _ _ _ _ _ rfl PySem.F.plainAttrs_str PySem.F.slot_str_isdigit PySem.F.type_str_isdigit JO (@jv _ _ _ _ _ _ (rIxL K) (Qo rfl) (pv 1) (pv 0) (fun _ _=>rfl)) (by rfl) (by rfl)) (by intro _;rfl)) (@kC _ _ _ _ (@jW _ _ _ (@XM _ (K) _ _ _ _ _ _ _ _ rfl PySem.F.plainAttrs_str PySem.F.slot_str_isalpha PySem.F.type_str_isalpha Q1 (@jv _ _ _ _ _ _ (rIxL K) (Qo rfl) (pv 1) (pv 0) (fun _ _=>rfl)) (by rfl) (by rfl)) (by intro _;rfl))))))) (fun _ _ _ _ _=>(pv 0)) (by rfl) (by first |exact .inl rfl |exact .inr rfl) (by intro _;rfl)) (@jd _ _ _ _ _ (@jx _ _ _ _ _ _ _ _ (@jq _ _ _ _ _ _ _ _ (op_eqE (Nat.lt_of_succ_lt (hu_of hr))) (pv 3) (@jC _ _ _ _ (@jc _)) (nomark _)) (@jg _ _ _ (@jr _ _ _ _ jk)) (@jp _)) (@jd _ _ _ _ _ (@js _ _ (4) _ _ _ _ scOdd.nd rfl (Or.inl rfl) (@jv _ _ _ _ _ _ _ jy (pv 3) (ji GT hr.m rfl mT kT bT .nil pass0 (@ja _ _ _ _ _ (pv 0) (@ja _ _ _ _ _ (@jz _ _ _ _ _ _ _ _ _ jw rfl ml PySem.boot_len (@ja _ _ _ _ _ (pv 3) (@jc _) (by rfl)) (by decide) (by decide) (by rfl) (by rfl)) (@jc _) (by rfl)) (by rfl))) (fun _ _=>rfl)) (by rfl) (by first |exact .inl rfl |exact .inr rfl)) (@jd _ _ _ _ _ (@js _ _ (5) _ _ _ _ scOdd.nd rfl (Or.inl rfl) (@jC _ _ _ _ (@ja _ _ _ _ _ jk (@ja _ _ _ _ _ jk (@ja _ _ _ _ _ jk (@ja _ _ _ _ _ jk (@ja _ _ _ _ _ jk (@ja _ _ _ _ _ jk (@ja _ _ _ _ _ jk (@ja _ _ _ _ _ jk (@ja _ _ _ _ _ jk (@ja _ _ _ _ _ jk (@ja _ _ _ _ _ jk (@ja _ _ _ _ _ jk (@jc _) (by rfl)) (by rfl)) (by rfl)) (by rfl)) (by rfl)) (by rfl)) (by rfl)) (by rfl)) (by rfl)) (by rfl)) (by rfl)) (by rfl))) (by rfl) (by first |exact .inl rfl |exact .inr rfl)) (@jd _ _ _ _ _ (@jx _ _ _ _ _ _ _ _ (@jW _ _ _ (@qv _ _ _ _ _ _ _ _ _ PySem.F.plainAttrs_str PySem.F.slot_str_isdigit PySem.F.type_str_isdigit JO (@jv _ _ _ _ _ _ _ jy (pv 2) (pv 4) (fun _ _=>rfl)) (by rfl) (by rfl)) (by intro _;rfl)) (@jg _ _ _ (@js _ _ (5) _ _ _ _ scOdd.nd rfl (Or.inl rfl) (@jC _ _ _ _ (@ja _ _ _ _ _ jk (@ja _ _ _ _ _ jk (@ja _ _ _ _ _ jk (@ja _ _ _ _ _ jk (@ja _ _ _ _ _ (ju jP jk (ju Kz jk jf)) (@ja _ _ _ _ _ jk (@ja _ _ _ _ _ jk (@ja _ _ _ _ _ jk (@ja _ _ _ _ _ jk (@ja _ _ _ _ _ jk (@ja _ _ _ _ _ jk (@ja _ _ _ _ _ jk (@jc _) (by rfl)) (by rfl)) (by rfl)) (by rfl)) (by rfl)) (by rfl)) (by rfl)) (by rfl)) (by rfl)) (by rfl)) (by rfl)) (by rfl))) (by rfl) (by first |exact .inl rfl |exact .inr rfl))) (@jp _)) (@jd _ _ _ _ _ (@qu _ _ _ _ _ _ (@jv _ _ _ _ _ _ _ jy (pv 5) (ji GT hr.m rfl mT kT bT .nil pass0 (@ja _ _ _ _ _ (pv 0) (@ja _ _ _ _ _ jf (@jc _) (by rfl)) (by rfl))) (fun _ _=>rfl)) (@Jv _ _ _ _ _ _ _ (pv 2) (pv 4) z6 (by intro _;rfl)) (by rfl) (by rfl) (by rfl)) (@jg _ _ _ (@jr _ _ _ _ (@jS _ _ _ _ _ _ _ _ _ _ _ _ PySem.F.plainAttrs_str PySem.F.slot_str_join PySem.F.type_str_join zS jk (@ja _ _ _ _ _ (pv 2) (@jc _) (by rfl)) (by rfl) (by rfl) (by rfl) (by rfl) (by rfl))))))))))),?_⟩
 try dsimp only[cxOf,Cx.nox,Cx.wish]
 have big:=line24
 have ap:=zr hB ha
 have hln:(((ws.map V.str).length:Nat):Int)=(ws.length:Int):=by rw[List.length_map]
 refine seqF fun F1 f1=>⟨_,rfl,_,rfl,_,rfl,a,_,rfl,.inl (SqL.of ha),p,_,rfl,hB,by omega,by omega,fun d1 H1 d10 d11 B1 q1=>?_⟩
 rw[hln]at d11
 obtain⟨m1,rfl⟩:∃m:Nat,d1=(m:Int):=⟨d1.toNat,by omega⟩
 have k1:But p H H1:=But.of_eq q1
 have ha1:=k1 _ _ ap ha
 have hm1:ws[m1]?=some (ws[m1]'(by omega)):=List.getElem?_eq_getElem (by omega)
 have hy:=hg _ (List.mem_of_getElem? hm1)
 generalize ws[m1]'(by omega)=y at hm1 hy
 obtain⟨dd,R,hR,ey,ly⟩:=hy
 have ls:=XE y
 refine⟨a,_,_,V.str y,rfl,rfl,SqL.of ha1,jo (j:=m1) (v:=V.str y) (by rw[List.getElem?_map,hm1];rfl),rfl,y,_,rfl,rfl,by omega,rfl,stp y,_,rfl,rfl,by decide+kernel,by omega,fun wl nwl=>f1 _ _ ?_⟩
 clear f1
 have wp:=B1.ne nwl
 have B2:=B1.upd_new (o:=.lst ((Txt.split (stp y) " ").map V.str)) nwl
 have k2:=k1.upd_new (o:=.lst ((Txt.split (stp y) " ").map V.str)) nwl
 have hw2:upd H1 wl (.lst ((Txt.split (stp y) " ").map V.str)) wl=some (.lst ((Txt.split (stp y) " ").map V.str)):=jb
 have hnw:H wl=none:=by
  cases z:H wl with
  |none=>rfl
  |some ob=>have:=k1 _ _ wp z;rw[nwl]at this;cases this
 have lsp:=split_le (stp y) " "
 generalize upd H1 wl (.lst ((Txt.split (stp y) " ").map V.str))=H2 at B2 k2 hw2 ⊢
 refine seqF fun F1 f1=>⟨_,rfl,wl,_,rfl,.inl (SqL.of hw2),_,_,rfl,⟨by decide,by decide,by omega,by rw[List.length_map];omega⟩,?_⟩
 generalize eS:Txt.split (stp y) " "=S at*
 have hSl:(S.map V.str).length=S.length:=List.length_map _
 refine KS (lo:=1) (n:=(((S.map V.str).length:Int) - 1).toNat) (fun i zs Hx=>Hx=H2/\zs.length<=i/\∃ks:List Nat,zs=ks.map (fun(k:Nat)=>V.int (k:Int))/\∀k∈ks,1<=k/\∃z,S[k]?=some z/\(Txt.isdigit z=true∨Txt.isalpha z=true)) ⟨rfl,Nat.le_refl 0,[],rfl,fun k hk=>nomatch hk⟩ (by omega) (fun i zs Hx h=>h.2.1) ?_ ?_
 ·intro i zs Hx hi h
  obtain⟨rfl,hz,ks,rfl,hks⟩:=h
  have hi2:i+1 < S.length:=by omega
  have hz1:S[i+1]?=some (S[i+1]'hi2):=List.getElem?_eq_getElem hi2
  generalize S[i+1]'hi2=z at hz1
  have ei:(1:Int)+(i:Int)=((i+1:Nat):Int):=by omega
  have hat:atI (S.map V.str) (1+(i:Int))=some (.str z):=by rw[ei];exact jo (by rw[List.getElem?_map,hz1];rfl)
  have add:(Txt.isdigit z=true∨Txt.isalpha z=true)->(Hx=Hx/\(ks.map (fun(k:Nat)=>V.int (k:Int))++[V.int (1+(i:Int))]).length<=i+1/\∃ks':List Nat,ks.map (fun(k:Nat)=>V.int (k:Int))++[V.int (1+(i:Int))]=ks'.map (fun(k:Nat)=>V.int (k:Int))/\∀k∈ks',1<=k/\∃z,S[k]?=some z/\(Txt.isdigit z=true∨Txt.isalpha z=true)):=fun hh=>by
   refine⟨rfl,by rw[List.length_append];show _+1<=_;omega,ks++[i+1],by rw[ei,List.map_append];rfl,fun k hk=>?_⟩
   rcases List.mem_append.mp hk with h |h
   ·exact hks k h
   ·rw[List.mem_singleton.mp h];exact⟨by omega,z,hz1,hh⟩
  refine⟨_,rfl,_,rfl,wl,_,_,_,rfl,rfl,SqL.of hw2,hat,rfl,z,rfl,rfl,_,rfl,?_⟩
  rcases Bool.eq_false_or_eq_true (Txt.isdigit z) with h1 |h1
  ·exact ifY h1 (iteT ⟨_,rfl,add (.inl h1)⟩)
  refine ifX h1 ⟨_,rfl,_,rfl,wl,_,_,_,rfl,rfl,SqL.of hw2,hat,rfl,z,rfl,rfl,_,rfl,?_⟩
  rcases Bool.eq_false_or_eq_true (Txt.isalpha z) with h2 |h2
  ·exact ifY h2 ⟨_,rfl,add (.inr h2)⟩
  ·exact ifX h2 ⟨rfl,by omega,ks,rfl,hks⟩
 ·intro zs Hx h sl nsl
  obtain⟨rfl,hz,ks,rfl,hks⟩:=h
  refine f1 _ _ ?_
  clear f1
  have sp:=B2.ne nsl
  have B3:=B2.upd_new (o:=.lst (ks.map (fun(k:Nat)=>V.int (k:Int)))) nsl
  have k3:=k2.upd_new (o:=.lst (ks.map (fun(k:Nat)=>V.int (k:Int)))) nsl
  have hs3:upd Hx sl (.lst (ks.map (fun(k:Nat)=>V.int (k:Int)))) sl=some (.lst (ks.map (fun(k:Nat)=>V.int (k:Int)))):=jb
  have hw3:=keepN (o:=.lst (ks.map (fun(k:Nat)=>V.int (k:Int)))) hw2 nsl
  show tSeq (tIfS _ _ _) _ _ [some (.ref p),some (.ref a),some (.ref wl),some (.ref sl),none,none] (upd Hx sl (.lst (ks.map (fun(k:Nat)=>V.int (k:Int)))))
  generalize upd Hx sl (.lst (ks.map (fun(k:Nat)=>V.int (k:Int))))=H3 at B3 k3 hs3 hw3
  refine seqF fun F1 f1=>⟨_,rfl,sz0,fun e ne=>⟨sl,e,_,rfl,rfl,keepN hs3 ne,jb,_,rfl,?_⟩⟩
  cases ks with
  |nil=>exact ifY rfl (q _ _ ⟨⟨qZ (by decide+kernel)⟩,by decide+kernel,by decide+kernel,by decide+kernel,by decide+kernel⟩ (B3.upd_new ne) (k3.upd_new ne))
  |cons kk0 ksr=>
   generalize hK:kk0::ksr=ks at*
   have hkn:1<=ks.length:=by rw[<- hK];exact Nat.succ_le_succ (Nat.zero_le _)
   refine ifX (by rw[<- hK];rfl) (f1 _ _ ?_)
   clear f1
   have B4:=B3.upd_new (o:=.lst []) ne
   have k4:=k3.upd_new (o:=.lst []) ne
   have hs4:=keepN (o:=.lst []) hs3 ne
   have hw4:=keepN (o:=.lst []) hw3 ne
   generalize upd H3 e (.lst [])=H4 at B4 k4 hs4 hw4 ⊢
   have hkl:(((ks.map (fun(k:Nat)=>V.int (k:Int))).length:Nat):Int)=(ks.length:Int):=by rw[List.length_map]
   have hkz:ks.length<=6000:=by rw[List.length_map]at hz;omega
   refine seqF fun F1 f1=>⟨_,rfl,_,rfl,_,rfl,sl,_,rfl,.inl (SqL.of hs4),p,_,rfl,B4,by omega,by omega,fun d5 H5 d50 d51 B5 q5=>?_⟩
   rw[hkl]at d51
   obtain⟨m5,rfl⟩:∃m:Nat,d5=(m:Int):=⟨d5.toNat,by omega⟩
   have k5:But p H4 H5:=But.of_eq q5
   have hs5:=k5 _ _ sp hs4
   have hw5:=k5 _ _ wp hw4
   have hk5:ks[m5]?=some (ks[m5]'(by omega)):=List.getElem?_eq_getElem (by omega)
   have hkk:=hks _ (List.mem_of_getElem? hk5)
   generalize ks[m5]'(by omega)=kk at hk5 hkk
   obtain⟨hkk1,z,hz1,hza⟩:=hkk
   have hkl2:kk < S.length:=(List.getElem?_eq_some_iff.mp hz1).1
   have hzat:atI (S.map V.str) (kk:Int)=some (.str z):=jo (by rw[List.getElem?_map,hz1];rfl)
   refine⟨sl,_,_,V.int (kk:Int),rfl,rfl,SqL.of hs5,jo (j:=m5) (by rw[List.getElem?_map,hk5];rfl),f1 _ _ ?_⟩
   clear f1
   refine seqF fun F1 f1=>⟨(by show 12<=sizeLine;decide),fun ol nol=>f1 _ _ ?_⟩
   clear f1
   have B6:=B5.upd_new (o:=.lst (oddA.map V.str)) nol
   have k6:=(k4.trans k5).upd_new (o:=.lst (oddA.map V.str)) nol
   have ho6:upd H5 ol (.lst (oddA.map V.str)) ol=some (.lst (oddA.map V.str)):=jb
   have hw6:=keepN (o:=.lst (oddA.map V.str)) hw5 nol
   show tSeq (tIfS _ _ _) _ _ [some (.ref p),some (.ref a),some (.ref wl),some (.ref sl),some (.int (kk:Int)),some (.ref ol)] (upd H5 ol (.lst (oddA.map V.str)))
   generalize upd H5 ol (.lst (oddA.map V.str))=H6 at B6 k6 ho6 hw6
   refine seqF fun F1 f1=>?_
   suffices m6:∀(ol:Addr) (L:List Str) (H7:Hp),H7 ol=some (.lst (L.map V.str))->(∀o∈L,o∈oddA++oddD)->L.length=12->H7 wl=some (.lst (S.map V.str))->BoxAt H7 p->But p H H7->F1 [some (.ref p),some (.ref a),some (.ref wl),some (.ref sl),some (.int (kk:Int)),some (.ref ol)] H7 by
    clear f1
    refine⟨_,rfl,_,rfl,wl,_,_,V.str z,rfl,rfl,SqL.of hw6,hzat,rfl,z,rfl,rfl,_,rfl,?_⟩
    rcases Bool.eq_false_or_eq_true (Txt.isdigit z) with h1 |h1
    ·refine ifY h1 ⟨_,_,rfl,rfl,⟨by decide,fun _ _=>by decide+kernel,fun _ _=>by decide+kernel⟩,_,_,rfl,rfl,by rw[sizeLine_eq];decide+kernel,(by show 12<=sizeLine;decide),fun l2 n2=>?_⟩
     have e5:Str.ofString "1"++Txt.mul (Str.ofString "0") 18=Str.ofString "1000000000000000000":=by decide+kernel
     refine m6 l2 oddD _ (by rw[jb,e5];rfl) (fun o h=>List.mem_append_right _ h) rfl (keepN hw6 n2) (B6.upd_new n2) (k6.upd_new n2)
    ·exact ifX h1 (m6 ol oddA _ ho6 (fun o h=>List.mem_append_left _ h) rfl hw6 B6 k6)
   intro ol L H7 ho7 hL hL12 hw7 B7 k7
   refine f1 _ _ ?_
   clear f1
   have op:=zr B7 ho7
   refine seqF fun F1 f1=>⟨_,rfl,_,rfl,p,12,rfl,B7,by decide,by decide,fun d8 H8 d80 d81 B8 q8=>?_⟩
   obtain⟨m8,rfl⟩:∃m:Nat,d8=(m:Int):=⟨d8.toNat,by omega⟩
   have k8:But p H7 H8:=But.of_eq q8
   have ho8:=k8 _ _ op ho7
   have hw8:=k8 _ _ wp hw7
   have hL8:L[m8]?=some (L[m8]'(by omega)):=List.getElem?_eq_getElem (by omega)
   have hoL:=hL _ (List.mem_of_getElem? hL8)
   generalize L[m8]'(by omega)=o at hL8 hoL
   refine⟨ol,_,_,V.str o,rfl,rfl,SqL.of ho8,jo (j:=m8) (by rw[List.getElem?_map,hL8];rfl),_,rfl,_,rfl,wl,_,(kk:Int),kk,rfl,rfl,hw8,?_,f1 _ _ ?_⟩
   ·unfold ixN
    rw[if_pos (by omega),Int.toNat_natCast,if_pos (by rw[List.length_map];omega)]
   clear f1
   obtain⟨ob1,ob2,ob3,ob4,ob5⟩:=odd_bad o hoL
   have tx:=odd_text hR (k:=kk) (part:=z) (o:=o) hkk1 (by rw[<- ey,eS];exact hz1) hza ob1 ob2 ob5 ob4 ob3
   rw[<- ey,eS]at tx
   have jle:(S.map (·.length)).sum+(S.length - 1)<=4650:=by
    have e1:Txt.join " " S=stp y:=by
     have eb:Str.ofString " "=⟨#[32]⟩:=by decide+kernel
     have ep:=zu (stp y) 32
     rw[<- eb,eS]at ep
     exact zU (by rw[kQ,JQ,ep,KT,qL])
    have h2:(Builtin.Str.glued (Str.ofString " ") S).length=(stp y).length:=congrArg Str.length e1
    rw[size_glued,zl]at h2
    omega
   have su:=XH o S kk
   have em:(S.map V.str).set kk (.str o)=(S.set kk o).map V.str:=by rw[List.map_set]
   have lw:wt (S.set kk o)<=4700:=by unfold wt;rw[List.length_set];omega
   have hT:OddR (Txt.join " " (S.set kk o)):=⟨tx.1,tx.2.1,Nat.le_trans (qh " " zl _) lw,tx.2.2.1,tx.2.2.2⟩
   have B9:BoxAt (upd H8 wl (.lst ((S.map V.str).set kk (.str o)))) p:=B8.eq (jh (Ne.symm wp))
   have k9:But p H (upd H8 wl (.lst ((S.map V.str).set kk (.str o)))):=(k7.trans k8).upd_own hnw
   have h9:upd H8 wl (.lst ((S.map V.str).set kk (.str o))) wl=some (.lst ((S.set kk o).map V.str)):=by rw[jb,em]
   generalize upd H8 wl (.lst ((S.map V.str).set kk (.str o)))=H9 at B9 k9 h9 ⊢
   have hQ:=q _ _ hT B9 k9
   generalize hJ:S.set kk o=S' at hQ h9 lw
   exact⟨rfl,_,rfl,_,wl,S',rfl,rfl,SqL.of h9,by decide+kernel,Nat.le_trans lw (by decide),hQ⟩
def Few(ds:List Df):Prop:=(∀d∈ds,DfOk d/\d.b.size<=8)/\ds.length<=3/\ds≠[]
theorem Few.ok{ds:List Df}(h:Few ds):∀d∈ds,DfOk d:=fun d hd=>(h.1 d hd).1
theorem df_wt13{d:Df}(h:DfOk d)(h3:d.b.size<=8):wt (d.rows.map rowX)<=70400:=by
 have h1:=XF h.2.2.2.1 (d:=1) (by have:=h.2.2.2.2.1;omega)
 have h4:=zC (d:=0) (r:=.df d.f d.ps) ⟨h.1,h.2.1,h.2.2.1⟩
 have h5:=zC (d:=0) (r:=.fin) trivial
 have e:d.rows.map rowX=rowX (0,.df d.f d.ps)::((d.b.rows 1).map rowX++[rowX (0,.fin)]):=by unfold Df.rows;rw[List.map_cons,List.map_append];rfl
 rw[e,jB,qw,jB]
 have:wt []=0:=rfl
 omega
theorem Zj:∀{ds:List Df},(∀d∈ds,DfOk d/\d.b.size<=8)->wt (prows ds)<=70400*ds.length
 | [],_=>Nat.le_refl 0
 |d::ds,h=>by
  have h1:=df_wt13 (h d List.mem_cons_self).1 (h d List.mem_cons_self).2
  have h2:=Zj fun e he=>h e (List.mem_cons_of_mem _ he)
  have e:prows (d::ds)=d.rows.map rowX++prows ds:=rfl
  rw[e,qw,List.length_cons]
  omega
theorem Qp:∀{ds:List Df},(∀d∈ds,DfOk d/\d.b.size<=8)->(prows ds).length<=26*ds.length
 | [],_=>Nat.le_refl 0
 |d::ds,h=>by
  have h1:=(h d List.mem_cons_self).2
  have h2:=JF d.b (d:=1)
  have h3:=Qp fun e he=>h e (List.mem_cons_of_mem _ he)
  have e:prows (d::ds)=d.rows.map rowX++prows ds:=rfl
  have e2:(d.rows.map rowX).length=(d.b.rows 1).length+2:=by unfold Df.rows;rw[List.length_map,List.length_cons,List.length_append];rfl
  rw[e,List.length_append,e2,List.length_cons]
  omega
def GRow(y:Str):Prop:=∃d R,Rw'.Ok R/\y=rowX (d,R)/\y.length<=4650
theorem YG{ds:List Df}(h:∀d∈ds,DfOk d):∀y∈prows ds,GRow y:=fun y hy=>by
 unfold prows at hy
 obtain⟨l,hl,hy⟩:=List.mem_flatten.mp hy
 obtain⟨d,hd,rfl⟩:=List.mem_map.mp hl
 obtain⟨c,hc,rfl⟩:=List.mem_map.mp hy
 have dok:=h d hd
 have key:c.2.Ok/\c.1<=9:=by
  rcases List.mem_cons.mp hc with rfl |hc
  ·exact⟨⟨dok.1,dok.2.1,dok.2.2.1⟩,Nat.zero_le _⟩
  ·rcases List.mem_append.mp hc with hc |hc
   ·have k1:=rows_ok dok.2.2.2.1 (d:=1) c hc
    have k2:=dok.2.2.2.2.1
    exact⟨k1.1,by have:=k1.2;omega⟩
   ·rw[List.mem_singleton.mp hc];exact⟨trivial,Nat.zero_le _⟩
 refine⟨c.1,c.2,key.1,rfl,?_⟩
 have:=zC (d:=c.1) (r:=c.2) key.1
 have:=key.2
 show(rowX (c.1,c.2)).length<=_
 omega
def RowT(y:Str):Prop:=10∉y.l/\y.length<=4700/\∀z∈wordsS y,z.length<=1000
theorem GRow.t{y:Str}(h:GRow y):RowT y:=by
 obtain⟨d,R,hR,rfl,l⟩:=h
 exact⟨Qm (d:=d) (r:=R) hR,by omega,fun z hz=>XL hR z (by rw[<- zM d hR];exact hz)⟩
theorem Blk.t{y:Str}(h:Blk y):RowT y:=by
 obtain⟨h1,h2,h3,_⟩:=h.facts
 exact⟨h2,by omega,fun z hz=>by rw[h1]at hz;exact nomatch hz⟩
theorem OddR.t{y:Str}(h:OddR y):RowT y:=⟨h.2.2.2.1,h.2.2.1,h.2.2.2.2⟩
theorem bad_t{y:Str}(h:y∈badRows):RowT y:=by
 obtain⟨h1,h2,h3,_⟩:=bad_len y h
 exact⟨h1,by omega,h3⟩
theorem QJ:∀{ys:List Str},(∀y∈ys,RowT y)->wt ys<=4701*ys.length
 | [],_=>Nat.le_refl 0
 |y::ys,h=>by
  have h1:=QJ fun z hz=>h z (List.mem_cons_of_mem _ hz)
  have h2:=(h y List.mem_cons_self).2.1
  rw[jB,List.length_cons]
  omega
noncomputable def txtR(ys:List Str):Str:=Txt.join "\n" ys
theorem ql{ys:List Str}(h:∀y∈ys,RowT y)(h0:ys≠[]):Txt.split (txtR ys) "\n"=ys:=by
 have e:Str.ofString "\n"=⟨#[10]⟩:=nl_eq
 unfold txtR
 rw[e]
 exact QY h0 fun y hy=>(h y hy).1
theorem Zk{ys:List Str}(h:∀y∈ys,RowT y)(hl:ys.length<=200):TxtOk (txtR ys):=by
 have l1:(txtR ys).length<=1000000:=by
  have:=qh "\n" (by decide+kernel) ys
  have:=QJ h
  unfold txtR
  omega
 by_cases h0:ys=[]
 ·subst h0
  have e:Txt.split (txtR []) "\n"=[Str.ofString ""]:=by decide+kernel
  have e2:wordsS ""=[]:=by decide+kernel
  have e3:(Str.ofString "").length=0:=by decide+kernel
  refine⟨l1,?_,?_⟩
  ·rw[e]
   intro x hx
   rw[List.mem_singleton.mp hx,e2,e3]
   exact⟨Nat.zero_le _,(fun y hy=>nomatch hy),Nat.zero_le _⟩
  ·rw[e]
   decide
 ·refine⟨l1,?_,?_⟩
  ·rw[ql h h0]
   intro x hx
   obtain⟨_,h2,h3⟩:=h x hx
   have:=YE x
   exact⟨by omega,h3,by omega⟩
  ·rw[ql h h0]
   omega
theorem KL{x:Str}{ys:List Str}:inV (.str x) (ys.map V.str)=decide (x∈ys):=by
 by_cases h:x∈ys
 ·rw[decide_eq_true h]
  unfold inV
  rw[List.any_eq_true]
  exact⟨.str x,List.mem_map.mpr ⟨x,h,rfl⟩,by show decide (x=x)=true;exact decide_eq_true rfl⟩
 ·rw[decide_eq_false h]
  exact qG h
theorem bad_stp:∀r∈badRows,stp r=r:=by decide+kernel
theorem blk_fst:∀k:Fin 9,fstW (stp (Txt.mul " " (k.val:Int)))="":=by decide+kernel
def SRow(b o y:Str):Prop:=GRow y∨Blk y∨y=b∨y=o
theorem SRow.t{b o y:Str}(hb:b∈badRows)(ho:OddR o)(h:SRow b o y):RowT y:=by
 rcases h with h |h |rfl |rfl
 ·exact h.t
 ·exact h.t
 ·exact bad_t hb
 ·exact ho.t
theorem some_due{ys:List Str}{b o:Str}(hb:b∈badRows)(ho:OddR o)(h:∀y∈ys,SRow b o y):
  (dueF (badRows++[b,o]) ys 0 []=none/\∃D,Rds (Txt.split (txtR ys) "\n") [] [] D)∨∃line,dueF (badRows++[b,o]) ys 0 []=some line/\RdsN (Txt.split (txtR ys) "\n") 0 [] [] line:=by
 by_cases h0:ys=[]
 ·subst h0
  have e:Txt.split (txtR []) "\n"=[Str.ofString ""]:=by decide+kernel
  have e2:wordsS ""=[]:=by decide+kernel
  rw[e]
  exact .inl ⟨rfl,[],.inl ⟨e2,rfl,rfl⟩⟩
 rw[ql (fun y hy=>(h y hy).t hb ho) h0]
 refine Zf (bad:=badRows++[b,o]) (fun y hy=>?_) (fun y hy=>?_) (n:=0) (ds:=[]) (L:=[]) trivial
 ·rw[KL]at hy
  have hy:=of_decide_eq_true hy
  rw[<- Ja]
  rcases List.mem_append.mp hy with hy |hy
  ·exact qZ (Ze _ hy)
  ·rcases List.mem_cons.mp hy with e |hy
   ·rw[e];exact qZ (Ze _ hb)
   ·rw[List.mem_singleton.mp hy];exact ho.1.h
 ·rcases h y hy with h |h |rfl |rfl
  ·obtain⟨d,R,hR,rfl,l⟩:=h
   exact Z9 hR
  ·obtain⟨h1,_⟩:=h.facts
   obtain⟨k,hk,rfl⟩:=h
   exact .inr (.inl ⟨h1,blk_fst ⟨k,hk⟩⟩)
  ·refine .inl ?_
   rw[KL,bad_stp _ hb]
   exact decide_eq_true (List.mem_append_left _ hb)
  ·refine .inl ?_
   rw[KL,ho.2.1]
   exact decide_eq_true (List.mem_append_right _ (List.mem_cons_of_mem _ List.mem_cons_self))
def spLaw(K:Frag):Sp:=fun vs H Q _=>∃(a:Addr) (ns:List Int),vs=[.ref a]/\SqL K H a (ns.map V.int)/\ns.length<=63/\∀H',Q (.bl true) H'
theorem l_inj:∀{a b:List Str},a.map Str.l=b.map Str.l->a=b
 | [],[],_=>rfl
 | [],_::_,e=>by cases e
 |_::_,[],e=>by cases e
 |x::r,y::t,e=>by
  rw[List.map_cons,List.map_cons]at e
  injection e with e1 e2
  rw[zU e1,l_inj e2]
theorem bp0:(Str.ofString "set;set x;set x 1 2;set 1 x;set x ();set x (+ 1);set x (+ 1 2;set x (+ 1 2 3)").length=77:=by decide+kernel
theorem bp1:(Str.ofString ";set x + 1 2;set x (^ 1 2);set x (+- 1 2);set x (<= 1 2);set x 01;set x -1;set x +1").length=83:=by decide+kernel
theorem bp2:(Str.ofString ";set x 1_0;set x 1.0;set x 1000000000000000000;set Abc 1;set def 1;set abcdefghi 1").length=82:=by decide+kernel
theorem bp3:(Str.ofString ";set x end;set x 1);set (x) 1;set x (+ 1 2) );set x (1);set x (x);set x (( + 1 2))").length=82:=by decide+kernel
theorem bp4:(Str.ofString ";set x y z;read x;read x 1 2;read 1 2;read;write 1;write;write 1 2 3;write x := 2").length=81:=by decide+kernel
theorem bp5:(Str.ofString ";call x;call;call x 1;call 1 f;call x f if;call x f (;give;give 1 2;give give;if").length=80:=by decide+kernel
theorem bp6:(Str.ofString ";if 1 2;if if;while;while 1 2;while (+ 1 2;else 1;end 1;end end;def;def 1;def if").length=80:=by decide+kernel
theorem bp7:(Str.ofString ";def f 1;def f set;defs f;sets x 1;se x 1;foo;x = 1;1;(set x 1);setset x 1;set, x 1").length=83:=by decide+kernel
theorem bp8:(Str.ofString ";givewhile 1;i 1;'end';elseend;set x (+ 1 2)(;set x (+ 1, 2);call x f,").length=70:=by decide+kernel
theorem bad_sp:sp 59 ((Str.ofString "set;set x;set x 1 2;set 1 x;set x ();set x (+ 1);set x (+ 1 2;set x (+ 1 2 3)").l++(Str.ofString ";set x + 1 2;set x (^ 1 2);set x (+- 1 2);set x (<= 1 2);set x 01;set x -1;set x +1").l++(Str.ofString ";set x 1_0;set x 1.0;set x 1000000000000000000;set Abc 1;set def 1;set abcdefghi 1").l++(Str.ofString ";set x end;set x 1);set (x) 1;set x (+ 1 2) );set x (1);set x (x);set x (( + 1 2))").l++(Str.ofString ";set x y z;read x;read x 1 2;read 1 2;read;write 1;write;write 1 2 3;write x := 2").l++(Str.ofString ";call x;call;call x 1;call 1 f;call x f if;call x f (;give;give 1 2;give give;if").l++(Str.ofString ";if 1 2;if if;while;while 1 2;while (+ 1 2;else 1;end 1;end end;def;def 1;def if").l++(Str.ofString ";def f 1;def f set;defs f;sets x 1;se x 1;foo;x = 1;1;(set x 1);setset x 1;set, x 1").l++(Str.ofString ";givewhile 1;i 1;'end';elseend;set x (+ 1 2)(;set x (+ 1, 2);call x f,").l)=badRows.map Str.l:=by decide+kernel
theorem scBadR:FnScope ["_law_text"] [] (defScope sBadR):=fsc
theorem ok_badR{f:Addr}{fd:FuncData}(F:Fun K "_law_bad_rows" "_law_bad_rows" sBadR f fd):FnOk P w K mg base CX0 1 f fd [] spBadR:=by
 refine F.ok scBadR (fun vs H Q E h=>?_) (fun cdv A outer s H vs Q E hr h=>?_)
 ·refine opq fun Gq kq=>?_
  obtain⟨rfl,_⟩:=h
  refine kq ?_
  clear kq
  rfl
 refine opq fun Gq kq=>?_
 obtain⟨rfl,q⟩:=h
 refine kq ?_
 clear kq
 refine⟨_,(jd (js (i:=0) scBadR.nd rfl (Or.inl rfl) jk) (jd (js (i:=0) scBadR.nd rfl (Or.inl rfl) (ju jP (pv 0) jk)) (jd (js (i:=0) scBadR.nd rfl (Or.inl rfl) (ju jP (pv 0) jk)) (jd (js (i:=0) scBadR.nd rfl (Or.inl rfl) (ju jP (pv 0) jk)) (jd (js (i:=0) scBadR.nd rfl (Or.inl rfl) (ju jP (pv 0) jk)) (jd (js (i:=0) scBadR.nd rfl (Or.inl rfl) (ju jP (pv 0) jk)) (jd (js (i:=0) scBadR.nd rfl (Or.inl rfl) (ju jP (pv 0) jk)) (jd (js (i:=0) scBadR.nd rfl (Or.inl rfl) (ju jP (pv 0) jk)) (jd (js (i:=0) scBadR.nd rfl (Or.inl rfl) (ju jP (pv 0) jk)) (jg (jr (@jS _ _ _ _ _ _ _ _ _ _ _ _ PySem.F.plainAttrs_str PySem.F.slot_str_split PySem.F.type_str_split zo (pv 0) (ja jk jc) (by rfl) (by rfl) (by rfl) (by rfl) (by rfl))))))))))))),?_⟩
 try dsimp only[cxOf,Cx.nox,Cx.wish]
 have big:=line24
 refine seqF fun F1 f1=>f1 _ _ ?_
 clear f1
 refine seqF fun F1 f1=>⟨_,rfl,_,_,rfl,rfl,?_,f1 _ _ ?_⟩
 ·rw[sizeLine_eq,bp0,bp1];decide
 clear f1
 refine seqF fun F1 f1=>⟨_,rfl,_,_,rfl,rfl,?_,f1 _ _ ?_⟩
 ·rw[sizeLine_eq,slen,bp0,bp1,bp2];decide
 clear f1
 refine seqF fun F1 f1=>⟨_,rfl,_,_,rfl,rfl,?_,f1 _ _ ?_⟩
 ·rw[sizeLine_eq,slen,slen,bp0,bp1,bp2,bp3];decide
 clear f1
 refine seqF fun F1 f1=>⟨_,rfl,_,_,rfl,rfl,?_,f1 _ _ ?_⟩
 ·rw[sizeLine_eq,slen,slen,slen,bp0,bp1,bp2,bp3,bp4];decide
 clear f1
 refine seqF fun F1 f1=>⟨_,rfl,_,_,rfl,rfl,?_,f1 _ _ ?_⟩
 ·rw[sizeLine_eq,slen,slen,slen,slen,bp0,bp1,bp2,bp3,bp4,bp5];decide
 clear f1
 refine seqF fun F1 f1=>⟨_,rfl,_,_,rfl,rfl,?_,f1 _ _ ?_⟩
 ·rw[sizeLine_eq,slen,slen,slen,slen,slen,bp0,bp1,bp2,bp3,bp4,bp5,bp6];decide
 clear f1
 refine seqF fun F1 f1=>⟨_,rfl,_,_,rfl,rfl,?_,f1 _ _ ?_⟩
 ·rw[sizeLine_eq,slen,slen,slen,slen,slen,slen,bp0,bp1,bp2,bp3,bp4,bp5,bp6,bp7];decide
 clear f1
 refine seqF fun F1 f1=>⟨_,rfl,_,_,rfl,rfl,?_,f1 _ _ ?_⟩
 ·rw[sizeLine_eq,slen,slen,slen,slen,slen,slen,slen,bp0,bp1,bp2,bp3,bp4,bp5,bp6,bp7,bp8];decide
 clear f1
 refine⟨_,rfl,rfl,_,_,rfl,rfl,by decide+kernel,by rw[slen,slen,slen,slen,slen,slen,slen,slen,bp0,bp1,bp2,bp3,bp4,bp5,bp6,bp7,bp8];decide,fun r nr=>?_⟩
 refine q r _ nr ?_ (je nr)
 rw[jb]
 refine congrArg (fun z:List Str=>some (HO.lst (z.map V.str))) ?_
 have sc:Str.ofString ";"=⟨#[59]⟩:=by decide+kernel
 rw[sc]
 refine l_inj ?_
 rw[zu,j3,j3,j3,j3,j3,j3,j3,j3]
 exact bad_sp
noncomputable abbrev sLaw:Stmt:=top 56
theorem zR{xs:List V}:NX (.lst xs):=fun φ z=>by cases z
theorem Kp.seq{K:Frag}{H H':Hp}{a:Addr}{xs:List V}(e:Kp H H')(h:SqL K H a xs):SqL K H' a xs:=by
 rcases h with (h | ⟨o,h⟩) |h
 ·exact .inl (.inl (e _ _ zR h))
 ·exact .inl (.inr ⟨o,e _ _ (by intro φ z;cases z) h⟩)
 ·exact .inr h
theorem YH{x:Option Nat}(h:x=none):(!decide (V.non=dueV x))=false:=by rw[h];rfl
theorem YI{x:Option Nat}{n:Nat}(h:x=some n):(!decide (V.int (n:Int)=dueV x))=false:=by rw[h];show(!decide (V.int (n:Int)=V.int (n:Int)))=false;rw[decide_eq_true rfl];rfl
theorem scLaw:FnScope ["_law_script","_law_box_here","_law_program","_law_text","_law_rows","_law_bad","_law_k","_law_some","_law_odd","_law_turn"] ["_law_script"] (defScope sLaw):=fsc
theorem ok_law{f:Addr}{fd:FuncData}{fB fT fN fS fP fR fO fI fD fE:Addr}{fdB fdT fdN fdS fdP fdR fdO fdI fdD fdE:FuncData}(F:Fun K "law" "law" sLaw f fd)(GB:FnOk P w K mg base CX0 1 fB fdB ["_law_script","_law_k"] (spBox K))(bB:Binds K fdB ["_law_script","_law_k"] [])(kB:keepIn K (.ref fB)=true)(mB:mg "_law_box"=some (.ref fB))(GT:FnOk P w K mg base CX0 1 fT fdT ["_law_box_here","_law_wide"] spTake)(bT:Binds K fdT ["_law_box_here","_law_wide"] [])(kT:keepIn K (.ref fT)=true)(mT:mg "_law_take"=some (.ref fT))(GN:FnOk P w K mg base CX0 22 fN fdN ["_law_box_here","_law_total","_law_room"] spAny)(bN:Binds K fdN ["_law_box_here","_law_total","_law_room"] [])(kN:keepIn K (.ref fN)=true)(mN:mg "_law_any"=some (.ref fN))(GS:FnOk P w K mg base CX0 10 fS fdS ["program"] spShown)(bS:Binds K fdS ["program"] [])(kS:keepIn K (.ref fS)=true)(mS:mg "shown"=some (.ref fS))(GP:FnOk P w K mg base CX0 2 fP fdP ["_law_box_here","_law_rows"] spSpread)(bP:Binds K fdP ["_law_box_here","_law_rows"] [])(kP:keepIn K (.ref fP)=true)(mP:mg "_law_spread"=some (.ref fP))(GR:FnOk P w K mg base CX0 1 fR fdR [] spBadR)(bR:Binds K fdR [] [])(kR:keepIn K (.ref fR)=true)(mR:mg "_law_bad_rows"=some (.ref fR))(GO:FnOk P w K mg base CX0 2 fO fdO ["_law_box_here","_law_rows"] spOdd)(bO:Binds K fdO ["_law_box_here","_law_rows"] [])(kO:keepIn K (.ref fO)=true)(mO:mg "_law_odd_row"=some (.ref fO))(GI:FnOk P w K mg base CX0 2 fI fdI ["_law_box_here","_law_rows","_law_bad"] spSpoilt)(bI:Binds K fdI ["_law_box_here","_law_rows","_law_bad"] [])(kI:keepIn K (.ref fI)=true)(mI:mg "_law_spoilt"=some (.ref fI))(GD:FnOk P w K mg base CX0 7 fD fdD ["_law_text"] spTold)(bD:Binds K fdD ["_law_text"] [])(kD:keepIn K (.ref fD)=true)(mD:mg "_law_told"=some (.ref fD))(GE:FnOk P w K mg base CX0 2 fE fdE ["_law_rows","_law_bad"] spDue)(bE:Binds K fdE ["_law_rows","_law_bad"] [])(kE:keepIn K (.ref fE)=true)(mE:mg "_law_due"=some (.ref fE))(ml:mg "len"=none)(mr:mg "range"=none):FnOk P w K mg base CX0 23 f fd ["_law_script"] (spLaw K):=by
 refine F.ok scLaw (fun vs H Q E h=>?_) (fun cdv A outer s H vs Q E hr h=>?_)
 ·refine opq fun Gq kq=>?_
  obtain⟨a,ns,rfl,_⟩:=h
  refine kq ?_
  clear kq
  rfl
 refine opq fun Gq kq=>?_
 obtain⟨a,ns,rfl,hS,h63,q⟩:=h
 refine kq ?_
 clear kq
 refine⟨_,(jd (js (i:=1) scLaw.nd rfl (Or.inl rfl) (ji GB hr.m rfl mB kB bB .nil pass0 (ja (pv 0) (ja jf jc)))) (jd (js (i:=2) scLaw.nd rfl (Or.inl rfl) (ji GN hr.m rfl mN kN bN .nil pass0 (ja (pv 1) (ja (ju jQ jf (ji GT hr.m rfl mT kT bT .nil pass0 (ja (pv 1) (ja jf jc)))) (ja jf jc))))) (jd (js (i:=3) scLaw.nd rfl (Or.inl rfl) (ji GS hr.m rfl mS kS bS .nil pass0 (ja (pv 2) jc))) (jd (js (i:=4) scLaw.nd rfl (Or.inl rfl) (@jS _ _ _ _ _ _ _ _ _ _ _ _ PySem.F.plainAttrs_str PySem.F.slot_str_split PySem.F.type_str_split zo (pv 3) (ja jk jc) (by rfl) (by rfl) (by rfl) (by rfl) (by rfl))) (jd (jx (@jq _ _ _ _ _ _ _ _ jI (ji GT hr.m rfl mT kT bT .nil pass0 (ja (pv 1) (ja jf jc))) jf (nomark _)) (jg (js (i:=4) scLaw.nd rfl (Or.inl rfl) (ji GP hr.m rfl mP kP bP .nil pass0 (ja (pv 1) (ja (pv 4) jc))))) jp) (jd (js (i:=5) scLaw.nd rfl (Or.inl rfl) (@Zr _ _ _ _ _ _ _ _ _ _ _ _ _ GR hr.m rfl mR kR bR .nil pass0 (by decide))) (jd (@zj _ _ _ _ _ _ _ _ PassesOwn.never rfl (@JX _ _ _ _ _ _ _ rfl mr (ja jf (ja (ju jQ jf (@jz _ _ _ _ _ _ _ _ _ jw rfl ml PySem.boot_len (ja (@jF _ _ _ _ _ _ _ _ _ _ jJ (pv 0) (@jE _ _ _ jf) (@jE _ _ _ jf)) jc) (by decide) (by decide) (by rfl) (by rfl))) jc)) (by rfl) (by rfl)) (jD (i:=6) scLaw.nd rfl (Or.inl rfl)) (jd (js (i:=1) scLaw.nd rfl (Or.inl rfl) (ji GB hr.m rfl mB kB bB .nil pass0 (ja (pv 0) (ja (pv 6) jc)))) (jd (js (i:=7) scLaw.nd rfl (Or.inl rfl) (pv 4)) (jd (js (i:=8) scLaw.nd rfl (Or.inl rfl) (jC (ja (@jv _ _ _ _ _ _ _ jy (pv 5) (ji GT hr.m rfl mT kT bT .nil pass0 (ja (pv 1) (ja (@jz _ _ _ _ _ _ _ _ _ jw rfl ml PySem.boot_len (ja (pv 5) jc) (by decide) (by decide) (by rfl) (by rfl)) jc))) (fun _ _=>rfl)) (ja (ji GO hr.m rfl mO kO bO .nil pass0 (ja (pv 1) (ja (@jS _ _ _ _ _ _ _ _ _ _ _ _ PySem.F.plainAttrs_str PySem.F.slot_str_split PySem.F.type_str_split zo (pv 3) (ja jk jc) (by rfl) (by rfl) (by rfl) (by rfl) (by rfl)) jc))) jc)))) (jd (@zj _ _ _ _ _ _ _ _ PassesOwn.never rfl (@zc _ _ _ _ _ _ rfl mr (ja (ju jQ jf (ji GT hr.m rfl mT kT bT .nil pass0 (ja (pv 1) (ja jf jc)))) jc) (by rfl)) (jD (i:=9) scLaw.nd rfl (Or.inl rfl)) (jg (jx (@jq _ _ _ _ _ _ _ _ qo (@jz _ _ _ _ _ _ _ _ _ jw rfl ml PySem.boot_len (ja (pv 7) jc) (by decide) (by decide) (by rfl) (by rfl)) jf (nomark _)) (jg (js (i:=7) scLaw.nd rfl (Or.inl rfl) (ji GI hr.m rfl mI kI bI .nil pass0 (ja (pv 1) (ja (pv 7) (ja (@jv _ _ _ _ _ _ _ jy (pv 8) (ji GT hr.m rfl mT kT bT .nil pass0 (ja (pv 1) (ja jf jc))) (fun _ _=>rfl)) jc)))))) jp)) (by intro _;rfl)) (jg (jx (@jq _ _ _ _ _ _ _ _ qm (ji GD hr.m rfl mD kD bD .nil pass0 (ja (@jS _ _ _ _ _ _ _ _ _ _ _ _ PySem.F.plainAttrs_str PySem.F.slot_str_join PySem.F.type_str_join zS jk (ja (pv 7) jc) (by rfl) (by rfl) (by rfl) (by rfl) (by rfl)) jc)) (ji GE hr.m rfl mE kE bE .nil pass0 (ja (pv 7) (ja (ju j8 (pv 5) (pv 8)) jc))) (nomark _)) (jg (jr (@pe_bl _ _ _ _))) jp)))))) (by intro _;rfl)) (jg (jr (@pe_cmp _ _ _ _ _ _ (@zE _ _ _ _ _ (ji GD hr.m rfl mD kD bD .nil pass0 (ja (pv 3) jc))) (by rfl))))))))))),?_⟩
 try dsimp only[cxOf,Cx.nox,Cx.wish]
 have big:=line24
 refine seqF fun F1 f1=>⟨_,rfl,a,ns,0,rfl,hS,by decide,by decide,fun p H1 np B1 e1=>f1 _ _ ?_⟩
 clear f1
 have sS1:Same H H1:=fun b o e=>by rw[e1 b (jj e np)];exact e
 refine seqF fun F1 f1=>⟨_,rfl,_,rfl,p,3,rfl,B1,by decide,by decide,fun d2 H2 d20 d21 B2 q2=>⟨_,_,rfl,rfl,p,1+d2,8,rfl,B2,by omega,by omega,by decide,by decide,fun r ds xs H3 hp hD hT hO B3 k3=>f1 _ _ ?_⟩⟩
 clear f1
 have sS3:Same H H3:=fun b o e=>k3 b o (jj e np) (by rw[q2 b (jj e np)];exact sS1 _ _ e)
 have hF:Few ds:=⟨fun d hd=>⟨(hO d hd).1,by have:=(hO d hd).2;omega⟩,by omega,fun z=>by rw[z]at hT;simp at hT;omega⟩
 have few:=hF.2.1
 have fwt:=Zj hF.1
 have frw:=Qp hF.1
 have prw:=YG hF.ok
 have p0:prows ds≠[]:=by
  have:=hF.2.2
  cases ds with
  |nil=>exact absurd rfl this
  |cons d r=>intro z;cases z
 have hsp:=ql (ys:=prows ds) (fun y hy=>(prw y hy).t) p0
 have htx:=Zk (ys:=prows ds) (fun y hy=>(prw y hy).t) (by omega)
 have lp1:1<=(prows ds).length:=List.length_pos_iff.mpr p0
 refine seqF fun F1 f1=>⟨_,rfl,r,xs,ds,rfl,hp,hD,hF.ok,by omega,by omega,fun H5 s5=>f1 _ _ ?_⟩
 clear f1
 have S5:=sS3.trans s5
 have B5:=B3.same s5
 have tl:=htx.1
 show tSeq (tAsg _ _) _ _ [some (.ref a),some (.ref p),some (.ref r),some (.str (txtR (prows ds))),none,none,none,none,none,none] H5
 refine seqF fun F1 f1=>⟨_,rfl,rfl,txtR (prows ds),_,rfl,rfl,by decide+kernel,by omega,fun rl nrl=>f1 _ _ ?_⟩
 clear f1
 rw[hsp]
 have rp:=B5.ne nrl
 have B6:=B5.upd_new (o:=.lst ((prows ds).map V.str)) nrl
 have S6:=S5.trans (je (o:=.lst ((prows ds).map V.str)) nrl)
 have hr6:upd H5 rl (.lst ((prows ds).map V.str)) rl=some (.lst ((prows ds).map V.str)):=jb
 show tSeq (tIfS _ _ _) _ _ [some (.ref a),some (.ref p),some (.ref r),some (.str (txtR (prows ds))),some (.ref rl),none,none,none,none,none] (upd H5 rl (.lst ((prows ds).map V.str)))
 generalize upd H5 rl (.lst ((prows ds).map V.str))=H6 at B6 S6 hr6
 refine seqF fun F1 f1=>?_
 suffices m1:∀(rl:Addr) (R0:List Str) (H7:Hp),H7 rl=some (.lst (R0.map V.str))->(∀y∈R0,GRow y∨Blk y)->R0.length<=156->Same H H7->F1 [some (.ref a),some (.ref p),some (.ref r),some (.str (txtR (prows ds))),some (.ref rl),none,none,none,none,none] H7 by
  clear f1
  refine⟨_,rfl,p,2,rfl,B6,by decide,by decide,fun d7 H7 d70 d71 B7 q7=>⟨rfl,_,rfl,?_⟩⟩
  have k7:But p H6 H7:=But.of_eq q7
  have S7:Same H H7:=fun b o e=>k7 b o (jj e np) (S6 _ _ e)
  by_cases c:d7=0
  ·refine ifY (decide_eq_true (by rw[c])) ⟨_,rfl,_,rfl,p,rl,prows ds,rfl,B7,k7 _ _ rp hr6,by omega,fun r2 ws H8 hr8 hw8 hl8 B8 k8=>m1 r2 ws H8 hr8 (fun y hy=>(hw8 y hy).imp_left (prw y)) (by omega) fun b o e=>k8 b o (jj e np) (S7 _ _ e)⟩
  ·exact ifX (decide_eq_false fun z=>c (by injection z)) (m1 rl (prows ds) H7 (k7 _ _ rp hr6) (fun y hy=>.inl (prw y hy)) (by omega) S7)
 clear rp B6 S6 hr6 nrl S5 B5 H6
 intro rl R0 H7 hr7 hR0 lR0 S7
 refine f1 _ _ ?_
 clear f1
 refine seqF fun F1 f1=>⟨rfl,fun bl H8 nbl hb8 s8=>f1 _ _ ?_⟩
 clear f1
 have S8:=S7.trans s8
 have hr8:=s8 _ _ hr7
 have hS8:=S8.seq hS
 clear hr7 S7 s8 S8 nbl sS3 sS1 s5 B3 B2 k3 q2 hp hD hT hO xs e1 B1
 refine seqF fun F1 f1=>forE fun J j=>⟨_,rfl,_,rfl,_,rfl,a,_,rfl,hS8,fun sl nsl=>⟨sl,_,rfl,.inl (SqL.of jb),_,_,rfl,rfl,_,_,rfl,⟨by decide,by decide,?_,?_⟩,j _ _ ?_⟩⟩
 ·omega
 ·have:=ku (ns.map V.int) (some 1) (some 9)
  rw[List.length_map]at this
  show(2:Int)+((cutV (ns.map V.int) (some 1) (some 9)).length:Int) < _
  omega
 have cl:=ku (ns.map V.int) (some 1) (some 9)
 rw[List.length_map]at cl
 refine zx (lo:=1) (fun i σ H'=>∃o1 o6 o7 o8 o9,σ=[some (.ref a),o1,some (.ref r),some (.str (txtR (prows ds))),some (.ref rl),some (.ref bl),o6,o7,o8,o9]/\Kp H8 H') ⟨_,_,_,_,_,rfl,Kp.of_same (je nsl)⟩ ?_ (fun σ H' h=>f1 _ _ ?_)
 ·intro E rt i σ H' hi fE Gq kq h
  clear f1
  obtain⟨o1,o6,o7,o8,o9,rfl,kH⟩:=h
  refine kq ?_
  clear kq
  have hi:i < ((2:Int)+((cutV (ns.map V.int) (some 1) (some 9)).length:Int) - 1).toNat:=hi
  have hSH:=kH.seq hS8
  have hrH:=kH _ _ zR hr8
  have hbH:=kH _ _ zR hb8
  show tSeq (tAsg _ _) _ E [some (.ref a),o1,some (.ref r),some (.str (txtR (prows ds))),some (.ref rl),some (.ref bl),some (.int (1+(i:Int))),o7,o8,o9] H'
  refine seqF fun F1 f1=>⟨_,rfl,_,rfl,a,ns,1+(i:Int),rfl,hSH,by omega,by omega,fun p G1 np C1 e1=>f1 _ _ ?_⟩
  clear f1
  have s1:Same H' G1:=fun b o e=>by rw[e1 b (jj e np)];exact e
  have rp:rl≠p:=jj hrH np
  have bp:bl≠p:=jj hbH np
  refine seqF fun F1 f1=>⟨_,rfl,f1 _ _ ?_⟩
  clear f1
  have hb1:=s1 _ _ hbH
  refine seqF fun F1 f1=>⟨_,rfl,_,rfl,_,rfl,bl,_,rfl,.inl (SqL.of hb1),p,_,rfl,C1,by decide+kernel,by decide+kernel,fun d2 G2 d20 d21 C2 q2=>?_⟩
  have k2:But p G1 G2:=But.of_eq q2
  have hb2:=k2 _ _ bp hb1
  rw[List.length_map]at d21
  obtain⟨m2,rfl⟩:∃m:Nat,d2=(m:Int):=⟨d2.toNat,by omega⟩
  have hbg:badRows[m2]?=some (badRows[m2]'(by omega)):=List.getElem?_eq_getElem (by omega)
  have hbm:=List.mem_of_getElem? hbg
  generalize badRows[m2]'(by omega)=b at hbg hbm
  refine⟨bl,_,_,V.str b,rfl,rfl,SqL.of hb2,jo (j:=m2) (v:=V.str b) (by rw[List.getElem?_map,hbg];rfl),_,rfl,_,rfl,rfl,txtR (prows ds),_,rfl,rfl,by decide+kernel,by omega,fun tl2 ntl=>?_⟩
  rw[hsp]
  refine⟨p,tl2,prows ds,rfl,C2.upd_new ntl,jb,lp1,by omega,prw,fun o G3 ho C3 k3=>⟨sz2,fun ol nol=>f1 _ _ ?_⟩⟩
  clear f1
  have kk:But p G1 (upd G3 ol (.lst [V.str b,V.str o])):=((k2.upd_new ntl).trans k3).upd_new nol
  have C4:=C3.upd_new (o:=.lst [V.str b,V.str o]) nol
  have op:=C3.ne nol
  have ho4:upd G3 ol (.lst [V.str b,V.str o]) ol=some (.lst [V.str b,V.str o]):=jb
  show tSeq (tFor _ _ _) _ E [some (.ref a),some (.ref p),some (.ref r),some (.str (txtR (prows ds))),some (.ref rl),some (.ref bl),some (.int (1+(i:Int))),some (.ref rl),some (.ref ol),o9] (upd G3 ol (.lst [V.str b,V.str o]))
  generalize upd G3 ol (.lst [V.str b,V.str o])=G4 at kk C4 ho4
  have hr4:=kk _ _ rp (s1 _ _ hrH)
  have hb4':=kk _ _ bp hb1
  have kp4:Kp H8 G4:=fun c o e h=>by
   have h2:=kH c o e h
   exact kk _ _ (jj h2 np) (s1 _ _ h2)
  clear k3 C3 nol ntl C2 q2 k2 hb2 hb1 C1 s1 e1
  refine seqF fun F1 f1=>forE fun J j=>⟨_,rfl,p,3,rfl,C4,by decide,by decide,fun d5 H5 d50 d51 B5 q5=>⟨_,_,rfl,rfl,_,rfl,by omega,by omega,j _ _ ?_⟩⟩
  clear j
  obtain⟨n5,en⟩:∃n:Nat,(1+d5).toNat=n:=⟨_,rfl⟩
  have n53:n5<=3:=by omega
  rw[en]
  refine zx (lo:=0) (fun j σ Hx=>∃o9 sl ws,σ=[some (.ref a),some (.ref p),some (.ref r),some (.str (txtR (prows ds))),some (.ref rl),some (.ref bl),some (.int (1+(i:Int))),some (.ref sl),some (.ref ol),o9]/\Hx sl=some (.lst (ws.map V.str))/\(∀y∈ws,SRow b o y)/\ws.length<=156+j/\BoxAt Hx p/\But p G4 Hx) ⟨_,rl,R0,rfl,But.of_eq q5 _ _ rp hr4,fun y hy=>(hR0 y hy).elim .inl fun h=>.inr (.inl h),lR0,B5,But.of_eq q5⟩ ?_ (fun σ Hx h=>f1 _ _ ?_)
  ·intro E2 _ j σ Hx hj fE2 Gq kq h
   clear f1
   obtain⟨o9,sl,ws,rfl,hs,hw,hl,Bx,kx⟩:=h
   refine kq ?_
   clear kq
   have hoX:=kx _ _ op ho4
   have slp:=zr Bx hs
   refine⟨_,rfl,sl,_,rfl,.inl (SqL.of hs),_,_,rfl,rfl,_,rfl,?_⟩
   by_cases c:(0:Int) < ((ws.map V.str).length:Int)
   ·rw[List.length_map]at c
    refine ifY (decide_eq_true (by rw[List.length_map];exact c)) ⟨_,rfl,_,rfl,_,rfl,_,rfl,p,2,rfl,Bx,by decide,by decide,fun d6 H6 d60 d61 B6 q6=>?_⟩
    have k6:But p Hx H6:=But.of_eq q6
    obtain⟨bad,hat,hbd⟩:∃z,atI [V.str b,V.str o] d6=some (V.str z)/\(z=b∨z=o):=by
     by_cases c2:d6=0
     ·exact⟨b,by rw[c2];rfl,.inl rfl⟩
     ·have:d6=1:=by omega
      exact⟨o,by rw[this];rfl,.inr rfl⟩
    refine⟨ol,_,_,V.str bad,rfl,rfl,SqL.of (k6 _ _ op hoX),hat,p,sl,ws,bad,rfl,B6,k6 _ _ slp hs,by omega,by omega,fun r8 ws8 G8 h8 m8 l8 B8 k8=>fE2 _ _ ⟨_,r8,ws8,rfl,h8,fun y hy=>?_,by omega,B8,(kx.trans k6).trans k8⟩⟩
    rcases m8 y hy with h |rfl
    ·exact hw y h
    ·exact .inr (.inr hbd)
   ·exact ifX (decide_eq_false c) (fE2 _ _ ⟨_,sl,ws,rfl,hs,hw,by omega,Bx,kx⟩)
  ·obtain⟨o9',sl,ws,rfl,hs4,hw,hl,Bx,kx⟩:=h
   clear f1
   have ho4:=kx _ _ op ho4
   have hb4:=kx _ _ bp hb4'
   have kpx:Kp H8 Hx:=fun c o e h=>kx _ _ (fun z=>by have h2:=kH c o e h;rw[z,np]at h2;cases h2) (kp4 c o e h)
   have hwt:∀y∈ws,RowT y:=fun y hy=>(hw y hy).t hbm ho
   have wl:wt ws<=1000000:=by have:=QJ hwt;omega
   have hto:=Zk hwt (by omega)
   have bl76:badRows.length=76:=by decide+kernel
   rcases some_due hbm ho hw with ⟨hd,D,hD⟩ | ⟨line,hd,hD⟩
   ·refine⟨rfl,_,rfl,_,sl,ws,rfl,rfl,SqL.of hs4,by decide+kernel,Nat.le_trans wl (by decide),txtR ws,rfl,hto,.inl ⟨⟨D,hD⟩,fun G5 k5=>⟨_,rfl,_,rfl,_,rfl,bl,ol,_,_,rfl,rfl,k5 _ _ zR hb4,k5 _ _ zR ho4,by rw[List.length_map,bl76,sizeLine_eq];exact Nat.le_of_ble_eq_true rfl,fun cl ncl=>⟨sl,cl,ws,badRows++[b,o],rfl,keepN (k5 _ _ zR hs4) ncl,by rw[jb,List.map_append];rfl,by omega,by rw[List.length_append,bl76];exact Nat.le_of_ble_eq_true rfl,fun y hy=>by have:=(hw y hy).t hbm ho;have:=this.2.1;omega,fun G6 s6=>⟨by rw[hd];rfl,_,rfl,ifX (YH hd) (fE _ _ ⟨_,_,_,_,_,rfl,?_⟩)⟩⟩⟩⟩⟩
    exact(kpx.trans k5).trans ((Kp.of_same (je ncl)).trans (Kp.of_same s6))
   ·refine⟨rfl,_,rfl,_,sl,ws,rfl,rfl,SqL.of hs4,by decide+kernel,Nat.le_trans wl (by decide),txtR ws,rfl,hto,.inr ⟨line,hD,fun G5 k5=>⟨_,rfl,_,rfl,_,rfl,bl,ol,_,_,rfl,rfl,k5 _ _ zR hb4,k5 _ _ zR ho4,by rw[List.length_map,bl76,sizeLine_eq];exact Nat.le_of_ble_eq_true rfl,fun cl ncl=>⟨sl,cl,ws,badRows++[b,o],rfl,keepN (k5 _ _ zR hs4) ncl,by rw[jb,List.map_append];rfl,by omega,by rw[List.length_append,bl76];exact Nat.le_of_ble_eq_true rfl,fun y hy=>by have:=(hw y hy).t hbm ho;have:=this.2.1;omega,fun G6 s6=>⟨by rw[hd];rfl,_,rfl,ifX (YI hd) (fE _ _ ⟨_,_,_,_,_,rfl,?_⟩)⟩⟩⟩⟩⟩
    exact(kpx.trans k5).trans ((Kp.of_same (je ncl)).trans (Kp.of_same s6))
 ·obtain⟨o1,o6,o7,o8,o9,rfl,kH⟩:=h
  exact⟨_,rfl,txtR (prows ds),rfl,htx,.inl ⟨⟨ds,by rw[hsp];exact run_all hF.ok⟩,fun H9 k9=>q _⟩⟩
theorem cls_of{K:Frag}{C:Addr}{oc:Value}{od:Option Addr}{cd:ClassData}{sl:Array (Option Value)}(e:K.lookup C=some ⟨oc,od,.cls cd,sl⟩):clsIn K C=some cd:=by unfold clsIn;rw[e]
theorem tail_B{K:Frag}{B:Addr}(e:excIn K B bmVE "ValueError.__new__"=true):tailIn K bmVE (.ref B::bmVE)=true:=by
 obtain⟨nm,q,N,bs,bm,hdct,sn,sub,ab,col,dd,k0,k1,k2,k3,k5,hK,hT,hok,hni⟩:=X9 e
 have h1:tailIn K bmVE bmVE=true:=by unfold tailIn;simp
 unfold tailIn
 dsimp only
 rw[hK]
 simp only[hok,hni,h1,beq_self_eq_true,Bool.and_self,Bool.or_true]
theorem topD{K:Frag}{P:Params}{a:Addr}{es:Array DictEntry}{n:Nat}(l:K.lookup a=some ⟨.type "dict",none,.dict es n,#[]⟩)(k:PySem.W.KeysLit P es.toList)(h:(a==sysModules)=false):TopD K P a:=⟨es,n,l,k,h⟩
@[elab_as_elim] theorem us0 {P:List Value->Prop}:∀(us:List Value),us.length=0->P []->P us
 | [],_,q=>q
theorem _root_.L2.Fun.b0{K:Frag}{x q:Str}{st:Stmt}{f:Addr}{fd:FuncData}{ps:List Str}(F:Fun K x q st f fd)(h:∀(kV doc pm:Value) (an:Option Addr) (cdv ct:Value),bindArgs (fnOf x q (defArgs st) (defBody st) (defScope st) .none kV doc pm an cdv ct) ⟨[],[]⟩=pure (ps.zip []):=by intros;rfl)(e:ps.length=0:=by rfl):Binds K fd ps []:=F.binds fun kV doc pm an cdv ct us hl=>us0 us (hl.trans e) (h kV doc pm an cdv ct)
@[elab_as_elim] theorem us1 {P:List Value->Prop}:∀(us:List Value),us.length=1->(∀a,P [a])->P us
 | [a],_,q=>q a
theorem _root_.L2.Fun.b1{K:Frag}{x q:Str}{st:Stmt}{f:Addr}{fd:FuncData}{ps:List Str}(F:Fun K x q st f fd)(h:∀(kV doc pm:Value) (an:Option Addr) (cdv ct a:Value),bindArgs (fnOf x q (defArgs st) (defBody st) (defScope st) .none kV doc pm an cdv ct) ⟨[a],[]⟩=pure (ps.zip [a]):=by intros;rfl)(e:ps.length=1:=by rfl):Binds K fd ps []:=F.binds fun kV doc pm an cdv ct us hl=>us1 us (hl.trans e) fun a=>h kV doc pm an cdv ct a
@[elab_as_elim] theorem us2 {P:List Value->Prop}:∀(us:List Value),us.length=2->(∀a b,P [a,b])->P us
 | [a,b],_,q=>q a b
theorem _root_.L2.Fun.b2{K:Frag}{x q:Str}{st:Stmt}{f:Addr}{fd:FuncData}{ps:List Str}(F:Fun K x q st f fd)(h:∀(kV doc pm:Value) (an:Option Addr) (cdv ct a b:Value),bindArgs (fnOf x q (defArgs st) (defBody st) (defScope st) .none kV doc pm an cdv ct) ⟨[a,b],[]⟩=pure (ps.zip [a,b]):=by intros;rfl)(e:ps.length=2:=by rfl):Binds K fd ps []:=F.binds fun kV doc pm an cdv ct us hl=>us2 us (hl.trans e) fun a b=>h kV doc pm an cdv ct a b
@[elab_as_elim] theorem us3 {P:List Value->Prop}:∀(us:List Value),us.length=3->(∀a b c,P [a,b,c])->P us
 | [a,b,c],_,q=>q a b c
theorem _root_.L2.Fun.b3{K:Frag}{x q:Str}{st:Stmt}{f:Addr}{fd:FuncData}{ps:List Str}(F:Fun K x q st f fd)(h:∀(kV doc pm:Value) (an:Option Addr) (cdv ct a b c:Value),bindArgs (fnOf x q (defArgs st) (defBody st) (defScope st) .none kV doc pm an cdv ct) ⟨[a,b,c],[]⟩=pure (ps.zip [a,b,c]):=by intros;rfl)(e:ps.length=3:=by rfl):Binds K fd ps []:=F.binds fun kV doc pm an cdv ct us hl=>us3 us (hl.trans e) fun a b c=>h kV doc pm an cdv ct a b c
@[elab_as_elim] theorem us5 {P:List Value->Prop}:∀(us:List Value),us.length=5->(∀a b c d e,P [a,b,c,d,e])->P us
 | [a,b,c,d,e],_,q=>q a b c d e
theorem _root_.L2.Fun.b5{K:Frag}{x q:Str}{st:Stmt}{f:Addr}{fd:FuncData}{ps:List Str}(F:Fun K x q st f fd)(h:∀(kV doc pm:Value) (an:Option Addr) (cdv ct a b c d e:Value),bindArgs (fnOf x q (defArgs st) (defBody st) (defScope st) .none kV doc pm an cdv ct) ⟨[a,b,c,d,e],[]⟩=pure (ps.zip [a,b,c,d,e]):=by intros;rfl)(e:ps.length=5:=by rfl):Binds K fd ps []:=F.binds fun kV doc pm an cdv ct us hl=>us5 us (hl.trans e) fun a b c d e=>h kV doc pm an cdv ct a b c d e
def FnAt(K:Frag)(py q:Str)(st:Stmt)(f:Addr):Prop:=∃(oc:Value) (od:Option Addr) (kV dc pm:Value) (an:Option Addr) (cd ct:Value) (sl:Array (Option Value)),K.lookup f=some ⟨oc,od,.func (fnOf py q (defArgs st) (defBody st) (defScope st) .none kV dc pm an cd ct),sl⟩/\codeIn K cd q=true/\keepIn K (.ref f)=true
def Top(K:Frag)(g py:Str)(st:Stmt)(f:Addr):Prop:=nsIn K mainGlobals g=some (some (.ref f))/\FnAt K py py st f
section
variable {K:Frag}{g py q:Str}{st:Stmt}{f:Addr}{oc:Value}{od:Option Addr}{kV dc pm:Value}{an:Option Addr}{cd ct:Value}{sl:Array (Option Value)}
theorem fnA(l:K.lookup f=some ⟨oc,od,.func (fnOf py q (defArgs st) (defBody st) (defScope st) .none kV dc pm an cd ct),sl⟩)(c:codeIn K cd q=true)(k:keepIn K (.ref f)=true):FnAt K py q st f:=⟨_,_,_,_,_,_,_,_,_,l,c,k⟩
theorem topA(a:nsIn K mainGlobals g=some (some (.ref f)))(l:K.lookup f=some ⟨oc,od,.func (fnOf py py (defArgs st) (defBody st) (defScope st) .none kV dc pm an cd ct),sl⟩)(c:codeIn K cd py=true)(k:keepIn K (.ref f)=true):Top K g py st f:=⟨a,fnA l c k⟩
theorem FnAt.go(h:FnAt K py q st f):∃fd,Fun K py q st f fd/\keepIn K (.ref f)=true:=by
 obtain⟨oc,od,kV,dc,pm,an,cd,ct,sl,l,c,k⟩:=h
 exact⟨_,YT l c k,k⟩
theorem Top.go{h:Heap}{mg:Str->Option Value}(t:Top K g py st f)(X:K.In h)(G:h.Ns mainGlobals mg):∃fd,Fun K py py st f fd/\keepIn K (.ref f)=true/\mg g=some (.ref f):=by
 obtain⟨fd,F,k⟩:=t.2.go
 exact⟨fd,F,k,mg_of X G t.1⟩
end
theorem all_mk{l:PySem.W.OpenLaw}{w:World}{K:Frag}{h:Heap}{mg:Str->Option Value}{fa fMo fIn fIu fWr fPi fAt fOo fTo fAr fDr fRr fRd fTt fWw fRw fPc fBf fBr fSh fBx fTk fNu fNm fTm fPo fSt fBo fAn fBa fOd fWd fDu fSp fSd fLd fZ fmI fmA fmW fmJ fmF fmT fmN fIT xT xB clsB clsR rs sg sh ta0 ta1 ta2 ta3 ta4 ta5 ta6 ta7 ta8:Addr}(X:K.In h)(G:h.Ns mainGlobals mg)(hfa:mg "law"=some (.ref fa))
  {cdE:ClassData} {ocE:Value} {odE:Option Addr} {slE:Array (Option Value)} {nmxT qnxT:Str} {nsAxT:Addr} {bsxT subxT:List Value} {snxT:List Str} {abxT:Bool} {colxT:Option Bool} {ddxT:Option Addr} {k0xT k1xT k2xT k3xT k5xT:Option Value} {tML tMF tLe tFi:Tok} {odR odS:Option Addr} {nR nS:Nat} {slR slS:Array (Option Value)} {r0 r1 r2 r3 r4 r5 r6 r7 r8 r9 g0 g1 g2 g3 g4 g5:Tok} {od0 od1 od2 od3 od4 od5 od6 od7 od8:Option Addr} {n0 n1 n2 n3 n4 n5 n6 n7 n8:Nat} {sl0 sl1 sl2 sl3 sl4 sl5 sl6 sl7 sl8:Array (Option Value)} {a0 b0 a1 b1 a2 b2 a3 a4 b4 a5 b5 a6 b6 a7 b7 a8 b8:Tok}
  (tMo:Top K "made_of" "made_of" sMade fMo)
  (tIn:Top K "is_name" "is_name" sIsName fIn)
  (tIu:Top K "is_number" "is_number" sIsNum fIu)
  (tWr:Top K "words_of_reader" "words_of" sWordsR fWr)
  (tPi:Top K "piece_of" "piece_of" sPiece fPi)
  (tAt:Top K "are_terms" "are_terms" sAreT fAt)
  (tOo:Top K "op_of" "op_of" sOpOf fOo)
  (tTo:Top K "terms_of" "terms_of" sTerms fTo)
  (tAr:Top K "are_names" "are_names" sAreN fAr)
  (tDr:Top K "def_row" "def_row" sDefR fDr)
  (tRr:Top K "row_of_reader" "row_of" sRowR fRr)
  (tRd:Top K "read" "read" sRead fRd)
  (tTt:Top K "term_text" "term_text" sText fTt)
  (tWw:Top K "words_of_writer" "words_of" sWw fWw)
  (tRw:Top K "row_of_writer" "row_of" sRowW fRw)
  (tPc:Top K "placed" "placed" sPlaced fPc)
  (tBf:Top K "behind_first" "behind_first" sBehind fBf)
  (tBr:Top K "body_rows" "body_rows" sBRows fBr)
  (tSh:Top K "shown" "shown" sShown fSh)
  (tBx:Top K "_law_box" "_law_box" sBox fBx)
  (tTk:Top K "_law_take" "_law_take" sTake fTk)
  (tNu:Top K "_law_number" "_law_number" sNumber fNu)
  (tNm:Top K "_law_names" "_law_names" sNames fNm)
  (tTm:Top K "_law_term" "_law_term" sTerm fTm)
  (tPo:Top K "_law_spot" "_law_spot" sSpot fPo)
  (tSt:Top K "_law_statement" "_law_statement" sStm fSt)
  (tBo:Top K "_law_body" "_law_body" sBody fBo)
  (tAn:Top K "_law_any" "_law_any" sAny fAn)
  (tBa:Top K "_law_bad_rows" "_law_bad_rows" sBadR fBa)
  (tOd:Top K "_law_odd_row" "_law_odd_row" sOdd fOd)
  (tWd:Top K "_law_word" "_law_word" sWord fWd)
  (tDu:Top K "_law_due" "_law_due" sDue fDu)
  (tSp:Top K "_law_spoilt" "_law_spoilt" sSpoilt fSp)
  (tSd:Top K "_law_spread" "_law_spread" sSpread fSd)
  (tLd:Top K "_law_told" "_law_told" sTold fLd)
  (tZ:Top K "law" "law" sLaw fZ)
  (gML:nsIn K mainGlobals "MOST_LETTERS"=some (some (.int 8 tML)))
  (gMF:nsIn K mainGlobals "MOST_FIGURES"=some (some (.int 18 tMF)))
  (gLe:nsIn K mainGlobals "LETTERS"=some (some (.str "abcdefghijklmnopqrstuvwxyz" tLe)))
  (gFi:nsIn K mainGlobals "FIGURES"=some (some (.str "0123456789" tFi)))
  (gRe:nsIn K mainGlobals "RESERVED"=some (some (.ref rs)))
  (lRe:K.lookup rs=some ⟨.type "tuple",odR,.seq #[.str "def" r0,.str "set" r1,.str "read" r2,.str "write" r3,.str "call" r4,.str "if" r5,.str "else" r6,.str "while" r7,.str "give" r8,.str "end" r9] nR,slR⟩)
  (gSg:nsIn K mainGlobals "SIGNS"=some (some (.ref sg)))
  (lSg:K.lookup sg=some ⟨.type "tuple",odS,.seq #[.str "+" g0,.str "-" g1,.str "*" g2,.str "/" g3,.str "<" g4,.str "=" g5] nS,slS⟩)
  (gSh:nsIn K mainGlobals "SHAPES"=some (some (.ref sh)))
  (s0:nsIn K sh "set"=some (some (.ref ta0)))
  (l0:K.lookup ta0=some ⟨.type "tuple",od0,.seq #[.int 1 a0,.int 1 b0] n0,sl0⟩)
  (s1:nsIn K sh "read"=some (some (.ref ta1)))
  (l1:K.lookup ta1=some ⟨.type "tuple",od1,.seq #[.int 1 a1,.int 1 b1] n1,sl1⟩)
  (s2:nsIn K sh "write"=some (some (.ref ta2)))
  (l2:K.lookup ta2=some ⟨.type "tuple",od2,.seq #[.int 0 a2,.int 2 b2] n2,sl2⟩)
  (s3:nsIn K sh "call"=some (some (.ref ta3)))
  (l3:K.lookup ta3=some ⟨.type "tuple",od3,.seq #[.int 2 a3,.none] n3,sl3⟩)
  (s4:nsIn K sh "give"=some (some (.ref ta4)))
  (l4:K.lookup ta4=some ⟨.type "tuple",od4,.seq #[.int 0 a4,.int 1 b4] n4,sl4⟩)
  (s5:nsIn K sh "if"=some (some (.ref ta5)))
  (l5:K.lookup ta5=some ⟨.type "tuple",od5,.seq #[.int 0 a5,.int 1 b5] n5,sl5⟩)
  (s6:nsIn K sh "while"=some (some (.ref ta6)))
  (l6:K.lookup ta6=some ⟨.type "tuple",od6,.seq #[.int 0 a6,.int 1 b6] n6,sl6⟩)
  (s7:nsIn K sh "else"=some (some (.ref ta7)))
  (l7:K.lookup ta7=some ⟨.type "tuple",od7,.seq #[.int 0 a7,.int 0 b7] n7,sl7⟩)
  (s8:nsIn K sh "end"=some (some (.ref ta8)))
  (l8:K.lookup ta8=some ⟨.type "tuple",od8,.seq #[.int 0 a8,.int 0 b8] n8,sl8⟩)
  (u0:nsIn K sh "defs"=some none)
  (u1:nsIn K sh "sets"=some none)
  (u2:nsIn K sh "se"=some none)
  (u3:nsIn K sh "foo"=some none)
  (u4:nsIn K sh "x"=some none)
  (u5:nsIn K sh "1"=some none)
  (u6:nsIn K sh "("=some none)
  (u7:nsIn K sh "setset"=some none)
  (u8:nsIn K sh "set,"=some none)
  (u9:nsIn K sh "givewhile"=some none)
  (u10:nsIn K sh "i"=some none)
  (u11:nsIn K sh "'end'"=some none)
  (u12:nsIn K sh "elseend"=some none)
  (gB:nsIn K mainGlobals "Block"=some (some (.ref clsB)))
  (gR:nsIn K mainGlobals "Reading"=some (some (.ref clsR)))
  (vxT:nsIn K mainGlobals "NoText"=some (some (.ref xT)))
  (vxB:nsIn K mainGlobals "BookError"=some (some (.ref xB)))
  (lE:K.lookup xB=some ⟨ocE,odE,.cls cdE,slE⟩)
  (tpE:typeIn K (.ref xB)=some (.type "type"))
  (mbE:mroIn K xB (.type "BaseException")=some true)
  (excE:excIn K xB bmVE "ValueError.__new__"=true)
  (XcxT:XCls K xT)
  (kpxT:keepIn K (.ref xT)=true)
  (mexT:mroIn K xT (.ref xB)=some true)
  (tpxT:typeIn K (.ref xT)=some (.type "type"))
  (obxT:K.lookup xT=some (excClassObj nmxT qnxT xT nsAxT bsxT (.ref xB::bmVE) true snxT subxT abxT colxT ddxT k0xT k1xT k2xT k3xT k5xT "ValueError.__new__"))
  (noxT:findIn K (.ref xT) "line"=some none)
  (caxT:specialIn K (.ref xT) "__call__"=some (some (.builtin "type.__call__")))
  (tyxT:PySem.W.instIn K (.ref xT) (.type "type")=some true)
  (xIT:findIn K (.ref xT) "__init__"=some (some (.ref fIT)))
  (iIT:isFn K (.ref fIT)=true)
  (hSh:TopD K w.params sh)
  (ckB:CB' K clsB) (mkB:Mk K clsB fmI) (ckR:CR' K clsR) (mkR:Mk K clsR fmJ)
  (meA:Meth K clsB "awaits_else" fmA) (meW:Meth K clsB "whole" fmW) (meF:Meth K clsR "fits" fmF) (meT:Meth K clsR "take" fmT) (meN:Meth K clsR "finish" fmN)
  (lmI:FnAt K "__init__" "Block.__init__" sBIni fmI)
  (lmA:FnAt K "awaits_else" "Block.awaits_else" sBAw fmA)
  (lmW:FnAt K "whole" "Block.whole" sBWh fmW)
  (lmJ:FnAt K "__init__" "Reading.__init__" sRIni fmJ)
  (lmF:FnAt K "fits" "Reading.fits" sRFit fmF)
  (lmT:FnAt K "take" "Reading.take" sRTk fmT)
  (lmN:FnAt K "finish" "Reading.finish" sRFin fmN)
  (lIT:FnAt K "__init__" "NoText.__init__" sInitT fIT)
  (zlen:nsIn K mainGlobals "len"=some none)
  (zint:nsIn K mainGlobals "int"=some none)
  (zrange:nsIn K mainGlobals "range"=some none)
  (zlist:nsIn K mainGlobals "list"=some none)
  (zreversed:nsIn K mainGlobals "reversed"=some none)
  (zisinstance:nsIn K mainGlobals "isinstance"=some none)
  (ztuple:nsIn K mainGlobals "tuple"=some none)
  (zstr:nsIn K mainGlobals "str"=some none)
  (zbool:nsIn K mainGlobals "bool"=some none)
  (zall:nsIn K mainGlobals "all"=some none)
  (zenumerate:nsIn K mainGlobals "enumerate"=some none)
  (zmin:nsIn K mainGlobals "min"=some none)
  (zValueError:nsIn K mainGlobals "ValueError"=some none)
  (ktt:kitOne K (.type "tuple") (.type "tuple")=some true)
  (kst:kitOne K (.type "str") (.type "tuple")=some false)
  (yTT:kitOne K (.ref xT) (.ref xT)=some true)
  (yTV:kitOne K (.ref xT) (.type "ValueError")=some true)
  (yib:kitOne K (.type "int") (.type "bool")=some false)
  :∃fd:FuncData,(∀(s:Shared) (v:Value),BindsTo s fd ⟨[v],[]⟩ [("_law_script",v)])/\∀base:Heap,K.In base->base.Ns mainGlobals mg->FnOk l.prog w K mg base CX0 23 fa fd ["_law_script"] (spLaw K):=by
 have e:=hfa.symm.trans (mg_of X G tZ.1)
 cases e
 obtain⟨dMo,FMo,kMo,mMo⟩:=tMo.go X G
 obtain⟨dIn,FIn,kIn,mIn⟩:=tIn.go X G
 obtain⟨dIu,FIu,kIu,mIu⟩:=tIu.go X G
 obtain⟨dWr,FWr,kWr,mWr⟩:=tWr.go X G
 obtain⟨dPi,FPi,kPi,mPi⟩:=tPi.go X G
 obtain⟨dAt,FAt,kAt,mAt⟩:=tAt.go X G
 obtain⟨dOo,FOo,kOo,mOo⟩:=tOo.go X G
 obtain⟨dTo,FTo,kTo,mTo⟩:=tTo.go X G
 obtain⟨dAr,FAr,kAr,mAr⟩:=tAr.go X G
 obtain⟨dDr,FDr,kDr,mDr⟩:=tDr.go X G
 obtain⟨dRr,FRr,kRr,mRr⟩:=tRr.go X G
 obtain⟨dRd,FRd,kRd,mRd⟩:=tRd.go X G
 obtain⟨dTt,FTt,kTt,mTt⟩:=tTt.go X G
 obtain⟨dWw,FWw,kWw,mWw⟩:=tWw.go X G
 obtain⟨dRw,FRw,kRw,mRw⟩:=tRw.go X G
 obtain⟨dPc,FPc,kPc,mPc⟩:=tPc.go X G
 obtain⟨dBf,FBf,kBf,mBf⟩:=tBf.go X G
 obtain⟨dBr,FBr,kBr,mBr⟩:=tBr.go X G
 obtain⟨dSh,FSh,kSh,mSh⟩:=tSh.go X G
 obtain⟨dBx,FBx,kBx,mBx⟩:=tBx.go X G
 obtain⟨dTk,FTk,kTk,mTk⟩:=tTk.go X G
 obtain⟨dNu,FNu,kNu,mNu⟩:=tNu.go X G
 obtain⟨dNm,FNm,kNm,mNm⟩:=tNm.go X G
 obtain⟨dTm,FTm,kTm,mTm⟩:=tTm.go X G
 obtain⟨dPo,FPo,kPo,mPo⟩:=tPo.go X G
 obtain⟨dSt,FSt,kSt,mSt⟩:=tSt.go X G
 obtain⟨dBo,FBo,kBo,mBo⟩:=tBo.go X G
 obtain⟨dAn,FAn,kAn,mAn⟩:=tAn.go X G
 obtain⟨dBa,FBa,kBa,mBa⟩:=tBa.go X G
 obtain⟨dOd,FOd,kOd,mOd⟩:=tOd.go X G
 obtain⟨dWd,FWd,kWd,mWd⟩:=tWd.go X G
 obtain⟨dDu,FDu,kDu,mDu⟩:=tDu.go X G
 obtain⟨dSp,FSp,kSp,mSp⟩:=tSp.go X G
 obtain⟨dSd,FSd,kSd,mSd⟩:=tSd.go X G
 obtain⟨dLd,FLd,kLd,mLd⟩:=tLd.go X G
 obtain⟨dmI,FmI,kmI⟩:=lmI.go
 obtain⟨dmA,FmA,kmA⟩:=lmA.go
 obtain⟨dmW,FmW,kmW⟩:=lmW.go
 obtain⟨dmJ,FmJ,kmJ⟩:=lmJ.go
 obtain⟨dmF,FmF,kmF⟩:=lmF.go
 obtain⟨dmT,FmT,kmT⟩:=lmT.go
 obtain⟨dmN,FmN,kmN⟩:=lmN.go
 obtain⟨dIT,FIT,kIT⟩:=lIT.go
 obtain⟨ocZ,odZ,kVZ,dcZ,pmZ,anZ,cdZ,ctZ,slZ,lZ,cZ,kZ⟩:=tZ.2
 have FZ:=YT (st:=sLaw) lZ cZ kZ
 have nlen:=mg_none_of X G zlen
 have nint:=mg_none_of X G zint
 have nrange:=mg_none_of X G zrange
 have nlist:=mg_none_of X G zlist
 have nreversed:=mg_none_of X G zreversed
 have nisinstance:=mg_none_of X G zisinstance
 have ntuple:=mg_none_of X G ztuple
 have nstr:=mg_none_of X G zstr
 have nbool:=mg_none_of X G zbool
 have nall:=mg_none_of X G zall
 have nenumerate:=mg_none_of X G zenumerate
 have nmin:=mg_none_of X G zmin
 have nValueError:=mg_none_of X G zValueError
 have hRe:∀H,SqT K H rs (resv.map V.str):=fun H=>.inr ⟨_,_,_,lRe,rfl,rfl,(by show 10<=sizeLine;decide),(.cons ⟨_,rfl⟩ (.cons ⟨_,rfl⟩ (.cons ⟨_,rfl⟩ (.cons ⟨_,rfl⟩ (.cons ⟨_,rfl⟩ (.cons ⟨_,rfl⟩ (.cons ⟨_,rfl⟩ (.cons ⟨_,rfl⟩ (.cons ⟨_,rfl⟩ (.cons ⟨_,rfl⟩ .nil))))))))))⟩
 have hSg:∀H,SqT K H sg (signs.map V.str):=fun H=>.inr ⟨_,_,_,lSg,rfl,rfl,(by show 6<=sizeLine;decide),(.cons ⟨_,rfl⟩ (.cons ⟨_,rfl⟩ (.cons ⟨_,rfl⟩ (.cons ⟨_,rfl⟩ (.cons ⟨_,rfl⟩ (.cons ⟨_,rfl⟩ .nil))))))⟩
 have hKs:Shp K sh:=fun c hc=>by
  simp only[shp,List.mem_cons,List.not_mem_nil,or_false]at hc
  rcases hc with rfl |rfl |rfl |rfl |rfl |rfl |rfl |rfl |rfl
  ·exact⟨ta0,s0,fun H=>.inr ⟨_,_,_,l0,rfl,rfl,sz2,(.cons ⟨_,rfl⟩ (.cons ⟨_,rfl⟩ .nil))⟩⟩
  ·exact⟨ta1,s1,fun H=>.inr ⟨_,_,_,l1,rfl,rfl,sz2,(.cons ⟨_,rfl⟩ (.cons ⟨_,rfl⟩ .nil))⟩⟩
  ·exact⟨ta2,s2,fun H=>.inr ⟨_,_,_,l2,rfl,rfl,sz2,(.cons ⟨_,rfl⟩ (.cons ⟨_,rfl⟩ .nil))⟩⟩
  ·exact⟨ta3,s3,fun H=>.inr ⟨_,_,_,l3,rfl,rfl,sz2,(.cons ⟨_,rfl⟩ (.cons rfl .nil))⟩⟩
  ·exact⟨ta4,s4,fun H=>.inr ⟨_,_,_,l4,rfl,rfl,sz2,(.cons ⟨_,rfl⟩ (.cons ⟨_,rfl⟩ .nil))⟩⟩
  ·exact⟨ta5,s5,fun H=>.inr ⟨_,_,_,l5,rfl,rfl,sz2,(.cons ⟨_,rfl⟩ (.cons ⟨_,rfl⟩ .nil))⟩⟩
  ·exact⟨ta6,s6,fun H=>.inr ⟨_,_,_,l6,rfl,rfl,sz2,(.cons ⟨_,rfl⟩ (.cons ⟨_,rfl⟩ .nil))⟩⟩
  ·exact⟨ta7,s7,fun H=>.inr ⟨_,_,_,l7,rfl,rfl,sz2,(.cons ⟨_,rfl⟩ (.cons ⟨_,rfl⟩ .nil))⟩⟩
  ·exact⟨ta8,s8,fun H=>.inr ⟨_,_,_,l8,rfl,rfl,sz2,(.cons ⟨_,rfl⟩ (.cons ⟨_,rfl⟩ .nil))⟩⟩
 have hKn:Shn K sh:=fun c hc=>by
  simp only[badHeads,List.mem_cons,List.not_mem_nil,or_false]at hc
  rcases hc with rfl |rfl |rfl |rfl |rfl |rfl |rfl |rfl |rfl |rfl |rfl |rfl |rfl
  ·exact u0
  ·exact u1
  ·exact u2
  ·exact u3
  ·exact u4
  ·exact u5
  ·exact u6
  ·exact u7
  ·exact u8
  ·exact u9
  ·exact u10
  ·exact u11
  ·exact u12
 refine⟨fnOf "law" "law" (defArgs sLaw) (defBody sLaw) (defScope sLaw) .none kVZ dcZ pmZ anZ cdZ ctZ,fun s v=>.of_eq rfl,fun base _ _=>?_⟩
 have GTk:FnOk l.prog w K mg base CX0 1 fTk _ _ spTake:=ok_take FTk
 have GBx:FnOk l.prog w K mg base CX0 1 fBx _ _ (spBox K):=ok_box FBx nlen nint
 have GNu:FnOk l.prog w K mg base CX0 2 fNu _ _ spNum:=Yi FNu GTk FTk.b2 kTk mTk
 have GNm:FnOk l.prog w K mg base CX0 2 fNm _ _ spNames:=ZL FNm GTk FTk.b2 kTk mTk nrange
 have GTm:FnOk l.prog w K mg base CX0 6 fTm _ _ (spTerm 4):=terms (P:=l.prog) (w:=w) (base:=base) FTm FTm.b3 mTm GTk FTk.b2 kTk mTk GNu FNu.b1 kNu mNu nlen 4
 have GPo:FnOk l.prog w K mg base CX0 7 fPo _ _ spSpot:=ok_spot FPo GTk FTk.b2 kTk mTk GTm FTm.b3 kTm mTm
 have SS:=stms (P:=l.prog) (w:=w) (base:=base) FSt FBo GTk FTk.b2 kTk mTk GTm FTm.b3 kTm mTm GPo FPo.b2 kPo mPo FSt.b5 mSt FBo.b5 mBo nlen ntuple nrange
 have GBo:FnOk l.prog w K mg base CX0 21 fBo _ _ (spBody 6):=(SS 6).2
 have GAn:FnOk l.prog w K mg base CX0 22 fAn _ _ spAny:=ok_any FAn GTk FTk.b2 kTk mTk GNm FNm.b2 kNm mNm GBo FBo.b5 kBo mBo nlen nrange ntuple nint
 have GMo:FnOk l.prog w K mg base CX0 1 fMo _ _ spMade:=ok_made FMo nall
 have GIn:FnOk l.prog w K mg base CX0 2 fIn _ _ (spIs isName):=Yk FIn GMo FMo.b2 kMo mMo nlen (mg_of X G gML) (mg_of X G gLe) (mg_of X G gRe) hRe
 have GIu:FnOk l.prog w K mg base CX0 2 fIu _ _ (spIs isNum):=ZS FIu GMo FMo.b2 kMo mMo nlen (mg_of X G gMF) (mg_of X G gFi)
 have GWr:FnOk1 l.prog w K mg base CX0 1 fWr _ _ spWordsR:=Ym FWr
 have GPi:FnOk l.prog w K mg base CX0 3 fPi _ _ spPiece:=ZU FPi GIn FIn.b1 kIn mIn GIu FIu.b1 kIu mIu (mg_of X G gSg) hSg nint
 have GAt:FnOk l.prog w K mg base CX0 1 fAt _ _ spAreT:=ok_areT FAt nall nisinstance ntuple ktt
 have GOo:FnOk l.prog w K mg base CX0 2 fOo _ _ spOpOf:=ok_opOf FOo GAt FAt.b1 kAt mAt (mg_of X G gSg) hSg nlen
 have GTo:FnOk l.prog w K mg base CX0 4 fTo _ _ spTerms:=Xa FTo GOo FOo.b1 kOo mOo GPi FPi.b1 kPi mPi GAt FAt.b1 kAt mAt nlen
 have GAr:FnOk l.prog w K mg base CX0 3 fAr _ _ spAreN:=ok_areN FAr GIn FIn.b1 kIn mIn nall
 have GDr:FnOk l.prog w K mg base CX0 4 fDr _ _ spDefR:=ok_defR FDr GAr FAr.b1 kAr mAr nlen ntuple
 have GRr:FnOk l.prog w K mg base CX0 5 fRr _ _ spRowR:=ok_rowR FRr GDr FDr.b1 kDr mDr GTo FTo.b1 kTo mTo GAr FAr.b1 kAr mAr (mg_of X G gSh) hSh hKs nlen ntuple
 have GmI:FnOk l.prog w K mg base CX0 1 fmI _ _ (spBIni clsB):=ok_bini FmI ckB
 have GmA:FnOk l.prog w K mg base CX0 1 fmA _ _ (spBAw clsB):=ok_baw FmA ckB nlen
 have GmW:FnOk l.prog w K mg base CX0 1 fmW _ _ (spBWh clsB):=ok_bwh FmW ckB ntuple
 have GmJ:FnOk l.prog w K mg base CX0 1 fmJ _ _ (spRIni clsR clsB):=ok_rini FmJ ckR
 have GmF:FnOk l.prog w K mg base CX0 2 fmF _ _ (spRFit clsR clsB):=ok_rfit FmF ckR ckB GmA FmA.b1 meA
 have GmN:FnOk l.prog w K mg base CX0 2 fmN _ _ (spRFin clsR clsB):=ok_rfin FmN ckR ckB GmW FmW.b1 meW
 have GmT:FnOk l.prog w K mg base CX0 3 fmT _ _ (spRTk clsR clsB):=ok_rtk FmT ckR ckB mkB GmI FmI.b2 (mg_of X G gB) GmN FmN.b2 meN
 have GRd:FnOk l.prog w K mg base CX0 6 fRd _ _ spRead:=ok_read FRd ckR mkR GmJ FmJ.b1 (mg_of X G gR) GWr FWr.b1 kWr mWr GRr FRr.b1 kRr mRr GmF FmF.b2 meF GmT FmT.b2 meT nenumerate ntuple
 have GTt:FnOk l.prog w K mg base CX0 7 fTt _ _ (spTxt 6):=txts (P:=l.prog) (w:=w) (base:=base) FTt FTt.b1 mTt nstr 6
 have GWw:FnOk l.prog w K mg base CX0 8 fWw _ _ spWw:=ok_ww FWw GTt FTt.b1 kTt mTt
 have GRw:FnOk l.prog w K mg base CX0 1 fRw _ _ spRowW:=ok_rowW FRw
 have GPc:FnOk l.prog w K mg base CX0 1 fPc _ _ spPlaced:=YB FPc
 have GBf:FnOk l.prog w K mg base CX0 2 fBf _ _ spBehind:=YC FBf GPc FPc.b2 kPc mPc
 have GBr:FnOk l.prog w K mg base CX0 9 fBr _ _ spBRows:=Z7 FBr GPc FPc.b2 kPc mPc GWw FWw.b1 kWw mWw GRw FRw.b2 kRw mRw GBf FBf.b2 kBf mBf nlist nreversed
 have GSh:FnOk l.prog w K mg base CX0 10 fSh _ _ spShown:=Z8 FSh GRw FRw.b2 kRw mRw GBr FBr.b1 kBr mBr nlist
 have TE:=tail_B excE
 have hE:clsIn K xB≠none:=by
  unfold clsIn
  rw[lE]
  intro z
  cases z
 have GIT:FnOk l.prog w K mg base CX0 1 fIT _ _ (spInit xT "line"):=Z3 FIT ⟨XcxT,noxT,_,cls_of obxT,rfl,rfl⟩
 have MzT:XC l.prog w K mg base xT fIT _ "NoText":=⟨⟨⟨_,_,_,_,_,_,_,_,_,_,_,_,_,_,_,_,obxT,TE⟩,caxT,tyxT,kpxT⟩,xIT,iIT,GIT,FIT.b2,mg_of X G vxT,XcxT,tpxT⟩
 have GPb:FnOk l.prog w K mg base CX0 3 fPi _ _ spPieceB:=Yq FPi GIn FIn.b1 kIn mIn GIu FIu.b1 kIu mIu (mg_of X G gSg) hSg nint
 have GAg:FnOk l.prog w K mg base CX0 1 fAt _ _ spAreTG:=ZY FAt nall nisinstance ntuple ktt kst
 have GOb:FnOk l.prog w K mg base CX0 2 fOo _ _ spOpOfB:=ZZ FOo GAt FAt.b1 kAt mAt (mg_of X G gSg) hSg nlen
 have GTb:FnOk l.prog w K mg base CX0 4 fTo _ _ spTermsB:=Yr FTo (FnOk.or GOo GOb) FOo.b1 kOo mOo (FnOk.or GPi GPb) FPi.b1 kPi mPi GAg FAt.b1 kAt mAt nlen
 have GAb:FnOk l.prog w K mg base CX0 3 fAr _ _ spAreNG:=Z0 FAr GIn FIn.b1 kIn mIn nall
 have GDb:FnOk l.prog w K mg base CX0 4 fDr _ _ spDefRB:=Z1 FDr GAb FAr.b1 kAr mAr nlen ntuple
 have GRb:FnOk l.prog w K mg base CX0 5 fRr _ _ spRowN:=ok_rowN FRr GDb FDr.b1 kDr mDr (FnOk.or GTo GTb) FTo.b1 kTo mTo GAb FAr.b1 kAr mAr (mg_of X G gSh) hSh hKs hKn nlen ntuple
 have GFb:FnOk l.prog w K mg base CX0 2 fmF _ _ (spRFitG clsR clsB):=Z2 FmF ckR ckB GmA FmA.b1 meA
 have GRx:FnOk l.prog w K mg base (CX1 l.prog w) 6 fRd _ _ (spReadN xT):=Z4 FRd MzT ckR mkR GmJ FmJ.b1 (mg_of X G gR) GWr FWr.b1 kWr mWr (FnOk.or GRr GRb) FRr.b1 kRr mRr (FnOk.or GmF GFb) FmF.b2 meF GmT FmT.b2 meT nlen nenumerate ntuple
 have nx:Nt K xT xB:=⟨XcxT,yTT,yTV,yib,mexT,noxT⟩
 have GLd:FnOk l.prog w K mg base CX0 7 fLd _ _ spTold:=ok_told FLd (FnOk.or (FnOk.calm GRd) GRx) FRd.b1 kRd mRd nx (mg_of X G vxT) (mg_of X G vxB) hE tpE mbE nisinstance nbool nValueError
 have GBa:FnOk l.prog w K mg base CX0 1 fBa _ _ spBadR:=ok_badR FBa
 have GOd:FnOk l.prog w K mg base CX0 2 fOd _ _ spOdd:=ok_odd FOd GTk FTk.b2 kTk mTk nlen nrange
 have GWd:FnOk l.prog w K mg base CX0 1 fWd _ _ spWord:=ok_word FWd
 have GDu:FnOk l.prog w K mg base CX0 2 fDu _ _ spDue:=ok_due FDu GWd FWd.b1 kWd mWd nlen nenumerate
 have GSp:FnOk l.prog w K mg base CX0 2 fSp _ _ spSpoilt:=Yt FSp GTk FTk.b2 kTk mTk nlen nmin
 have GSd:FnOk l.prog w K mg base CX0 2 fSd _ _ spSpread:=Yu FSd GTk FTk.b2 kTk mTk
 exact ok_law FZ GBx FBx.b2 kBx mBx GTk FTk.b2 kTk mTk GAn FAn.b3 kAn mAn GSh FSh.b1 kSh mSh GSd FSd.b2 kSd mSd GBa FBa.b0 kBa mBa GOd FOd.b2 kOd mOd GSp FSp.b3 kSp mSp GLd FLd.b1 kLd mLd GDu FDu.b2 kDu mDu nlen nrange
theorem walk{l:PySem.W.OpenLaw}{q:Program}{loose:List Str}{XP:(Str->Option Value)->Heap->Prop}{YP:World->Heap->Prop}{d:DefRec}{K:Params->Frag}(hn:l.most=some 63)(hdf:d.params.defaults=[])
  (hY:∀(w:World) (h:Heap),YP w h->(K w.params).In h)
  (F:∀(w:World) (mg:Str->Option Value) (fa:Addr) (h:Heap),(K w.params).In h->h.Ns mainGlobals mg->mg d.name=some (.ref fa)->
   ∃fd:FuncData,(∀(s:Shared) (u:Value),BindsTo s fd ⟨[u],[]⟩ [("_law_script",u)])/\∀base:Heap,(K w.params).In base->base.Ns mainGlobals mg->FnOk l.prog w (K w.params) mg base CX0 23 fa fd ["_law_script"] (spLaw (K w.params))):
  PySem.W.WalkO q loose XP YP l.row.toRowW d [] (fun f vs=>PySem.call f vs):=
 L2.walk_of (n:=63) (k:=23) (x:="_law_script") (CX:=fun _=>CX0) (sp:=fun w=>spLaw (K w.params)) hn (by decide) hdf ⟨rfl,by decide,by decide⟩ hY F (fun _ _ a ns hl _ hS=>⟨a,ns,rfl,hS,hl,fun _=>rfl⟩) fun _ _ _ _ _ z=>z
end K06
namespace PySem.W.Fast
def tw6893611913870109779:=0
def tw13732046339041567232:=0
def tw15606381897116001828:=0
def tw10224995906127235752:=0
def tw8318559804945473835:=0
def tw6440016299942181357:=0
def tw17783379433943322968:=0
def tw14961090188198693803:=0
def tw13746421085014099365:=0
def tw12385732329213707312:=0
def tw9905977116785465180:=0
def tw1505183893473555515:=0
def tw13802783186500070499:=0
def tw8443540195064364251:=0
def tw1036580664357239152:=0
def tw9409763196891138067:=0
def tw4247747980074294640:=0
def tw6649541869929005111:=0
def tw11904402583448894196:=0
def tw6535016177979123724:=0
def tw11690364017116100601:=0
def tw18118291578220641514:=0
def tw3373421032888506313:=0
def tw4703630773018177198:=0
def tw10310298158027369828:=0
def tw2742881358438712898:=0
def tw9464964445715756937:=0
def tw367669151144448111:=0
def tw14704058695733039508:=0
def tw13009304644224556445:=0
def tw1044419636066848517:=0
def tw15466427174630201477:=0
def tw7985368897298737508:=0
def tw3248708927701949317:=0
def tw12386689334119634603:=0
def tw9252690389411331911:=0
def tw9440537347659266357:=0
def tw1944167550006449611:=0
def tw15237771972266492288:=0
def tw5532563014208045446:=0
def tw9185877068324958140:=0
def tw9645816317529271193:=0
def tw3712325441449121744:=0
def tw7415599315057793120:=0
def tw2529447191809782629:=0
def tw10793240245998688661:=0
def tw4599386755808487718:=0
def tw4360608348137751972:=0
def tw7182224804478218517:=0
def tw1769514954778326322:=0
def tw260088457995377992:=0
def tw8904214152103184227:=0
def tw9372309889044103018:=0
def tw10722557929072841417:=0
def tw1086542851454340601:=0
def tw7001983757231126982:=0
def tw4019854897411340069:=0
def tw13155135177282446627:=0
def tw6761139689249641182:=0
def tw6185212689704718980:=0
def tw7171714474299212235:=0
def tw5400859759314331521:=0
def tw5277981745840663302:=0
def tw15674687884877172816:=0
def tw3451501133871533669:=0
def tw3672142932125022864:=0
def tw11241169814595219691:=0
def tw13894932181743959878:=0
def tw14874008060585978073:=0
def tw8944635423134343484:=0
def tw1706893270616321995:=0
def tw9686583605003598587:=0
def tw15093425251943099697:=0
def tw9941718350194900451:=0
def tw5217012105459841501:=0
def tw6636063885796374365:=0
def tw2075528505008941589:=0
def tw6297574914233266425:=0
def tw8999886783981215304:=0
def tw10301180538842848485:=0
def tw13446866964539698306:=0
def tw14034605789843085003:=0
def tw14505352713885072018:=0
def tw17445668126742742678:=0
def tw5140230780796823455:=0
def tw11592127919581959858:=0
def tw1660149031624628934:=0
def tw129166300482958718:=0
def tw11571039212128381607:=0
def tw1328462397392305997:=0
def tw10874559065683662684:=0
def tw14824959166118255918:=0
def tw7593828754697301653:=0
def tw16913946637286300445:=0
def tw15981421114073939718:=0
def tw4897703438308920661:=0
end PySem.W.Fast
open PySem PySem.W PyProof.Rows PySem.W.X
theorem K06.walkX {q : Program} {loose : List PySem.Str} {XP : (PySem.Str → Option Value) → Heap → Prop} {K : Params → Frag} {as : List Addr} {n t : Nat} {r : RowW} {d : DefRec} {kwd : List (PySem.Str × PySem.Expr)} {run : Value → List Value → Sem Value}
    (e : ∀ P, as = (K P).map (·.1)) (h : WalkO q loose XP (InK K) r d kwd run) : WalkX q loose XP (obsZ as) (valZ K n t) r d kwd run :=
  fun w s₀ s₁ mg mb G Y a o pm cd doc dV kV h1 h2 h3 h4 h5 h6 args vals as' L => h w s₀ s₁ mg mb G (InK.keeps w _ _ (z_facts e Y).2.1 L.keeps) a o pm cd doc dV kV h1 h2 h3 h4 h5 h6 args vals as'
set_option maxRecDepth 100000 in
set_option maxHeartbeats 0 in
theorem PySem.Challenge.cw_againbook_k06_the_first_wrong_row_holds : PySem.Challenge.rw_againbook_k06_the_first_wrong_row.Holds := by
  w_on; o_law; z_head; (case hw => w_witness2)
  refine K06.walkX (fun _ => by rfl) (K06.walk (l := PySem.Challenge.rw_againbook_k06_the_first_wrong_row) rfl rfl (fun w h Y => Y) ?F)
  case F =>
    intro w mg fa h KX G hmg
    apply K06.all_mk KX G hmg
    iterate 36 (apply K06.topA;iterate 4 k_is)
    iterate 47 k_is
    k_exc
    constructor<;>k_is
    iterate 9 k_is
    apply K06.topD
    k_is
    k_keys
    rfl
    iterate 2 (refine ⟨⟨?_,?_,?_,?_⟩,?_,?_⟩;(iterate 4 k_is);(iterate 2 (unfold L2.NoAttr;k_is));constructor;iterate 4 k_is)
    iterate 5 (constructor;iterate 3 k_is)
    iterate 8 (apply K06.fnA;iterate 3 k_is)
    iterate 13 k_is
    iterate 5 kit_is
