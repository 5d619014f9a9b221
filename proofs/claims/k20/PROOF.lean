import PyProof.Rows.All
import Wide.All
import OpenK.AllK
import Wide.FinOn
import Lean
import PyProof.EqAt
import PyProof.EqKinds
import PyProof.TupleCall
import PySem.Challenge.RW_againbook_k20_deeds_of_cuts
set_option Elab.async false
set_option linter.all false
set_option maxRecDepth 100000
set_option genSizeOf false
theorem sz0:0≤PySem.sizeLine:=by decide
theorem sz1:1≤PySem.sizeLine:=by decide
theorem sz2:2≤PySem.sizeLine:=by decide
theorem sz3:3≤PySem.sizeLine:=by decide
theorem sz4:4≤PySem.sizeLine:=by decide
set_option Elab.async false
set_option linter.all false
set_option maxRecDepth 100000
set_option maxHeartbeats 4000000
open PySem.W (keepIn Frag nsIn kitOne fnOf mg_of codeIn findIn mroIn isFn mg_none_of kia_one typeIn emptyDict clsIn instObj hasDictIn kitAny specialIn callWith_K excIn lookIn plainGet notCls tailIn)
namespace L2
open PySem PySem.Spec PyProof.Rows
abbrev Key:=Sum Int Str
noncomputable def keyIs:Key->Value->Bool
 | .inl k,v=>Value.isInt k v
 | .inr x,v=>Value.isStrOf x v
noncomputable def keyH(w:World):Key->Int
 | .inl k=>hashInt k
 | .inr x=>hashStr w x
theorem jR:∀{k:Key} {v:Value},keyIs k v=true->(∃i t,k=Sum.inl i/\v=Value.int i t)∨(∃x t,k=Sum.inr x/\v=Value.str x t)
 | .inl i,v,h=>by
  obtain⟨t,e⟩:=Value.isInt_shape (k:=i) (v:=v) h
  exact .inl ⟨i,t,rfl,e⟩
 | .inr x,v,h=>by
  obtain⟨t,e⟩:=Value.isStrOf_shape (x:=x) (v:=v) h
  exact .inr ⟨x,t,rfl,e⟩
theorem X0(i:Int)(t:Tok):keyIs (.inl i) (.int i t)=true:=by simp [keyIs,Value.isInt]
theorem X1(x:Str)(t:Tok):keyIs (.inr x) (.str x t)=true:=by simp [keyIs,Value.isStrOf]
theorem key_ll(a b:Int):decide ((Sum.inl a:Key)=Sum.inl b)=(a==b):=by
 by_cases e:a=b
 ·subst e;simp
 ·have h:¬(Sum.inl a:Key)=Sum.inl b:=fun q=>e (Sum.inl.inj q)
  rw[decide_eq_false h]
  exact(beq_eq_false_iff_ne.mpr e).symm
theorem key_rr(a b:Str):decide ((Sum.inr a:Key)=Sum.inr b)=decide (a=b):=by
 by_cases e:a=b
 ·subst e;simp
 ·have h:¬(Sum.inr a:Key)=Sum.inr b:=fun q=>e (Sum.inr.inj q)
  rw[decide_eq_false h,decide_eq_false e]
theorem key_lr(a:Int)(b:Str):decide ((Sum.inl a:Key)=Sum.inr b)=false:=decide_eq_false (fun q=>nomatch q)
theorem key_rl(a:Str)(b:Int):decide ((Sum.inr a:Key)=Sum.inl b)=false:=decide_eq_false (fun q=>nomatch q)
noncomputable def mixKind(prog:Program)(w:World):PySem.KeyKind prog w Key where
 is:=keyIs
 hash:=keyH w
 inj:=fun v a b ha hb=>by
  rcases jR ha with ⟨i,t,rfl,rfl⟩ | ⟨x,t,rfl,rfl⟩
  ·rcases jR hb with ⟨j,u,rfl,e⟩ | ⟨y,u,rfl,e⟩
   ·injection e with e1 _;rw[e1]
   ·exact nomatch e
  ·rcases jR hb with ⟨j,u,rfl,e⟩ | ⟨y,u,rfl,e⟩
   ·exact nomatch e
   ·injection e with e1 _;rw[e1]
 byValue:=fun k v h=>by
  rcases jR h with ⟨i,t,rfl,rfl⟩ | ⟨x,t,rfl,rfl⟩<;>rfl
 pyHash:=fun hv h=>by
  rcases jR hv with ⟨i,t,rfl,rfl⟩ | ⟨x,t,rfl,rfl⟩
  ·exact wpAny_pyHash_int h
  ·exact wpAny_pyHash_str h
 eqBool:=fun hu hv h=>by
  rcases jR hu with ⟨i,t,rfl,rfl⟩ | ⟨x,t,rfl,rfl⟩
  ·rcases jR hv with ⟨j,u,rfl,rfl⟩ | ⟨y,u,rfl,rfl⟩
   ·rw[key_ll]at h;exact wpAny_eqBool_int h
   ·rw[key_lr]at h;exact SeqAt.EqAt.int_str i t y u _ _ _ _ h
  ·rcases jR hv with ⟨j,u,rfl,rfl⟩ | ⟨y,u,rfl,rfl⟩
   ·rw[key_rl]at h;exact SeqAt.EqAt.str_int x t j u _ _ _ _ h
   ·rw[key_rr]at h;exact wpAny_eqBool_str h
 «strs»:=fun k x t v h=>by
  rcases jR h with ⟨i,u,rfl,e⟩ | ⟨y,u,rfl,e⟩
  ·exact nomatch e
  ·injection e with e1 _
   subst e1
   cases v<;>rfl
theorem Ql(prog:Program)(w:World)(i:Int)(t:Tok):(mixKind prog w).is (.inl i) (.int i t)=true:=X0 i t
theorem Qm(prog:Program)(w:World)(x:Str)(t:Tok):(mixKind prog w).is (.inr x) (.str x t)=true:=X1 x t
end L2
namespace L2
open PySem PySem.Spec PyProof.Rows
inductive V where
 |non |bl (b:Bool) |int (i:Int) |str (x:Str) |byt (b:Array UInt8) |flt (b:UInt64) |ref (a:Addr) |ty (n:String)
 deriving DecidableEq
set_option genInjectivity false
def RelV:V->Value->Prop
 | .non,u=>u=Value.none
 | .bl b,u=>u=Value.bool b
 | .int i,u=>∃t,u=Value.int i t
 | .str x,u=>∃t,u=Value.str x t
 | .byt b,u=>∃t,u=Value.bytes b t
 | .flt b,u=>∃t,u=Value.float b t
 | .ref a,u=>u=Value.ref a
 | .ty n,u=>u=Value.type n
abbrev Vals:List V->List Value->Prop:=Paired RelV
theorem Vals.length{xs:List V}{us:List Value}(r:Vals xs us):xs.length=us.length:=Paired.length r
theorem Vals.get:∀{xs:List V} {us:List Value} {i:Nat} {x:V},Vals xs us->xs[i]?=some x->∃u,us[i]?=some u/\RelV x u
 |_,_,_,_,.nil,e=>by simp at e
 |_,_,0,_,.cons r _,e=>by simp at e;subst e;exact⟨_,rfl,r⟩
 |_,_,i+1,x,.cons _ t,e=>by
  obtain⟨u,h1,h2⟩:=Vals.get (i:=i) (x:=x) t (by simpa using e)
  exact⟨u,by simpa using h1,h2⟩
theorem Vals.set{x:V}{u:Value}(r:RelV x u):∀{xs:List V} {us:List Value} (i:Nat),Vals xs us->Vals (xs.set i x) (us.set i u)
 |_,_,_,.nil=>.nil
 |_,_,0,.cons _ t=>.cons r t
 |_,_,i+1,.cons q t=>.cons q (Vals.set r i t)
theorem Vals.append:∀{xs ys:List V} {us ws:List Value},Vals xs us->Vals ys ws->Vals (xs++ys) (us++ws)
 |_,_,_,_,.nil,s=>s
 |_,_,_,_,.cons r t,s=>.cons r (Vals.append t s)
theorem Vals.take:∀{xs:List V} {us:List Value} (n:Nat),Vals xs us->Vals (xs.take n) (us.take n)
 |_,_,0,_=>.nil
 |_,_,_+1,.nil=>.nil
 |_,_,n+1,.cons r t=>.cons r (Vals.take n t)
theorem Vals.drop:∀{xs:List V} {us:List Value} (n:Nat),Vals xs us->Vals (xs.drop n) (us.drop n)
 |_,_,0,r=>r
 |_,_,_+1,.nil=>.nil
 |_,_,n+1,.cons _ t=>Vals.drop n t
def RelO:Option V->Option Value->Prop
 |some v,some u=>RelV v u
 |none,none=>True
 |_,_=>False
def KV{κ:Type}:List (κ×V)->List (κ×Value)->Prop:=Paired fun(p:κ×V) (q:κ×Value)=>p.1=q.1/\RelV p.2 q.2
noncomputable def kV:Key->V
 | .inl i=>.int i
 | .inr x=>.str x
inductive HO where
 |lst (xs:List V)
 |tup (xs:List V)
 |dK (kvs:List (Key×V)) |dT (kvs:List (List Key×V))
 |set (S:Int->Bool) (n:Nat)
 |ins (C dx:Addr) (fs:List (Str×V))
 |own (x:Addr)
 |xd (fs:List (Str×V))
 |met (f x:Addr)
 |rng (lo hi:Int)
 |frz (o:Obj) (u:HO)
 |tbl (ps:Array Value)
 |ext (φ:Heap->Prop)
abbrev Hp:=Addr->Option HO
noncomputable def upd(H:Hp)(a:Addr)(o:HO):Hp:=fun b=>if b=a then some o else H b
theorem jd{H:Hp}{a:Addr}{o:HO}:upd H a o a=some o:=by unfold upd;rw[if_pos rfl]
theorem jm{H:Hp}{a b:Addr}{o:HO}(h:b≠a):upd H a o b=H b:=by unfold upd;rw[if_neg h]
theorem kf{H:Hp}{a b:Addr}{o u:HO}(h:H a=some o)(h':H b=some u)(d:o≠u):a≠b:=by
 intro e;subst e;rw[h]at h';exact d (Option.some.inj h')
theorem jv{H:Hp}{a b:Addr}{o:HO}(h:H a=some o)(h':H b=none):a≠b:=by
 intro e;subst e;rw[h]at h';cases h'
section
variable (P:Program)(w:World)
def ObjOk(H:Hp)(h:Heap)(a:Addr):HO->Prop
 | .lst xs=>xs.length<=sizeLine/\∃(its:List Value) (n:Nat),Vals xs its/\h.get? a=some { cls:=.type "list",data:=.seq its.toArray n }
 | .tup xs=>xs.length<=sizeLine/\∃its:List Value,Vals xs its/\IsTup h a its.toArray
 | .dK kvs=>kvs.length<=sizeLine/\(a==sysModules)=false/\∃vs,KV kvs vs/\h.DictOf (mixKind P w) a vs
 | .dT kvs=>kvs.length<=sizeLine/\(a==sysModules)=false/\∃xs:List (List Key×Addr×Value),
   Paired (fun(p:List Key×V) (q:List Key×Addr×Value)=>p.1=q.1/\H q.2.1=some (.tup (p.1.map kV))/\RelV p.2 q.2.2) kvs xs/\
   ∃o es ep,h.get? a=some o/\o.ExactDict/\o.data= .dict es ep/\es.toList=xs.map (entryOfKey (tupleKind (mixKind P w)))/\(xs.map (·.1)).Nodup
 | .set S n=>h.SetOf (intKind P w) a S n
 | .ins C dx fs=>H dx=some (.own a)/\fs.length<=1000/\dx≠a/\h.get? a=some (instObj C dx)/\
   ∃mA,h.Ns1 dx mA/\(∀f,RelO (fs.lookup f) (mA f))/\PySem.Within mA (fs.map (·.1))
 | .own _=>∃o,h.get? a=some o
 | .xd fs=>∃mA,h.Ns1 a mA/\∀f,RelO (fs.lookup f) (mA f)
 | .rng lo hi=>∃t u v,h.get? a=some { cls:=.type "range",data:=.fields #[.int lo t,.int hi u,.int 1 v] }
 | .frz o u=>h.get? a=some o/\ObjOk H h a u
 | .tbl ps=>h.get? a=some { cls:=.none,data:=.fields ps }
 | .met f x=>h.get? a=some (PySem.W.methodObj (.ref f) (.ref x))
 | .ext φ=>φ h/\(∃o,h.get? a=some o)/\∀h1 h2:Heap,φ h1->(∀o,h1.get? a=some o->h2.get? a=some o)->φ h2
def HOk(H:Hp)(h:Heap):Prop:=∀a o,H a=some o->ObjOk P w H h a o
end
section
variable {P:Program}{w:World}{H H':Hp}{h h':Heap}{a:Addr}{o:HO}
theorem ObjOk.lt(x:ObjOk P w H h a o):a < h.objs.size:=by
 cases o with
 |lst xs=>obtain⟨_,_,_,_,e⟩:=x;exact Heap.lt_size e
 |tup xs=>obtain⟨_,_,_,p⟩:=x;exact p.lt
 |dK kvs=>obtain⟨_,_,_,_,o,_,_,e,_⟩:=x;exact Heap.lt_size e
 |dT kvs=>obtain⟨_,_,_,_,o,_,_,e,_⟩:=x;exact Heap.lt_size e
 |set S n=>obtain⟨o,_,_,_,e,_⟩:=x;exact Heap.lt_size e
 |ins C dx fs=>obtain⟨_,_,_,e,_⟩:=x;exact Heap.lt_size e
 |own y=>obtain⟨_,e⟩:=x;exact Heap.lt_size e
 |xd fs=>obtain⟨_,⟨_,_,_,e,_⟩,_⟩:=x;exact Heap.lt_size e
 |rng lo hi=>obtain⟨_,_,_,e⟩:=x;exact Heap.lt_size e
 |frz ob u=>obtain⟨e,_⟩:=x;exact Heap.lt_size e
 |tbl ps=>exact Heap.lt_size (show h.get? a=some _ from x)
 |met f y=>exact Heap.lt_size (show h.get? a=some _ from x)
 |ext φ=>obtain⟨_,⟨_,e⟩,_⟩:=x;exact Heap.lt_size e
theorem Paired.mapP{α β:Type}{F G:α->β->Prop}:∀{l₁:List α} {l₂:List β},Paired F l₁ l₂->(∀a b,F a b->G a b)->Paired G l₁ l₂
 |_,_,.nil,_=>.nil
 |_,_,.cons r t,f=>.cons (f _ _ r) (Paired.mapP t f)
theorem ObjOk.stay(x:ObjOk P w H h a o)(k:∀b u,(b=a∨H b=some (.own a))->h.get? b=some u->h'.get? b=some u)
  (ho:∀b,H b=some (.own a)->H' b=some (.own a)) (ht:∀b xs,H b=some (.tup xs)->H' b=some (.tup xs)):ObjOk P w H' h' a o:=by
 induction o with
 |lst xs=>obtain⟨z,its,n,r,e⟩:=x;exact⟨z,its,n,r,k _ _ (.inl rfl) e⟩
 |tup xs=>obtain⟨z,its,r,ob,e,c⟩:=x;exact⟨z,its,r,ob,k _ _ (.inl rfl) e,c⟩
 |dK kvs=>obtain⟨z,y,vs,r,ob,es,ep,e,c⟩:=x;exact⟨z,y,vs,r,ob,es,ep,k _ _ (.inl rfl) e,c⟩
 |dT kvs=>
  obtain⟨z,y,xs,r,ob,es,ep,e,c⟩:=x
  exact⟨z,y,xs,Paired.mapP r fun p q z=>⟨z.1,ht _ _ z.2.1,z.2.2⟩,ob,es,ep,k _ _ (.inl rfl) e,c⟩
 |set S n=>obtain⟨ob,es,ep,t,e,c⟩:=x;exact⟨ob,es,ep,t,k _ _ (.inl rfl) e,c⟩
 |ins C dx fs=>
  obtain⟨d,z,ne,e,mA,⟨od,es,ep,e2,c⟩,r⟩:=x
  exact⟨ho _ d,z,ne,k _ _ (.inl rfl) e,mA,⟨od,es,ep,k _ _ (.inr d) e2,c⟩,r⟩
 |own y=>obtain⟨ob,e⟩:=x;exact⟨ob,k _ _ (.inl rfl) e⟩
 |xd fs=>obtain⟨mA,⟨od,es,ep,e,c⟩,r⟩:=x;exact⟨mA,⟨od,es,ep,k _ _ (.inl rfl) e,c⟩,r⟩
 |rng lo hi=>obtain⟨t,u,v,e⟩:=x;exact⟨t,u,v,k _ _ (.inl rfl) e⟩
 |frz ob u ih=>obtain⟨e,q⟩:=x;exact⟨k _ _ (.inl rfl) e,ih q⟩
 |tbl ps=>
  have e:h.get? a=some { cls:=.none,data:=.fields ps }:=x
  show h'.get? a=some { cls:=.none,data:=.fields ps }
  exact k a _ (.inl rfl) e
 |met f y=>
  have e:h.get? a=some (PySem.W.methodObj (.ref f) (.ref y)):=x
  show h'.get? a=some (PySem.W.methodObj (.ref f) (.ref y))
  exact k a _ (.inl rfl) e
 |ext φ=>obtain⟨p,⟨o,e⟩,st⟩:=x;exact⟨st _ _ p fun o q=>k _ _ (.inl rfl) q,⟨o,k _ _ (.inl rfl) e⟩,st⟩
theorem HOk.lt(x:HOk P w H h)(e:H a=some o):a < h.objs.size:=(x a o e).lt
theorem HOk.fresh(x:HOk P w H h)(e:h.objs.size<=a):H a=none:=by
 cases q:H a with
 |none=>rfl
 |some u=>exact absurd (Nat.lt_of_lt_of_le (x.lt q) e) (Nat.lt_irrefl _)
theorem HOk.kept(x:HOk P w H h)(k:∀b u,h.get? b=some u->h'.get? b=some u):HOk P w H h':=fun a o e=>
 (x a o e).stay (fun b u _ q=>k b u q) (fun _ q=>q) fun _ _ q=>q
theorem HOk.laid(x:HOk P w H h)(k:∀b u,h.get? b=some u->h'.get? b=some u)(hp:h.objs.size<=a)(new:ObjOk P w (upd H a o) h' a o):HOk P w (upd H a o) h':=fun b u e=>by
 have hn:=x.fresh hp
 by_cases hb:b=a
 ·subst hb;rw[jd]at e;cases e;exact new
 ·rw[jm hb]at e
  exact(x b u e).stay (fun c v _ q=>k c v q) (fun c q=>by rw[jm (jv q hn)];exact q) fun c xs q=>by rw[jm (jv q hn)];exact q
end
def Rd(H:Hp)(a:Addr)(u:HO):Prop:=H a=some u∨∃o,H a=some (.frz o u)
theorem Rd.ok{P:Program}{w:World}{H:Hp}{h:Heap}{a:Addr}{u:HO}(r:Rd H a u)(x:HOk P w H h):ObjOk P w H h a u:=by
 rcases r with r | ⟨o,r⟩
 ·exact x a u r
 ·obtain⟨_,q⟩:=x a _ r
  exact q
def Mut:Option HO->Prop
 |some (.lst _)=>True
 |some (.dK _)=>True
 |some (.dT _)=>True
 |some (.set _ _)=>True
 |some (.ins _ _ _)=>True
 |some (.ext _)=>True
 |_=>False
section
variable {P:Program}{w:World}{H:Hp}{h h':Heap}{x e:Addr}{o':HO}
theorem HOk.write(ok:HOk P w H h)(mu:Mut (H x))(he:e=x∨H e=some (.own x))(k:∀b u,b≠e->h.get? b=some u->h'.get? b=some u)(heo:∃u,h'.get? e=some u)
  (new:ObjOk P w (upd H x o') h' x o'):HOk P w (upd H x o') h':=fun b u q=>by
 have nown:∀c y,H c=some (.own y)->c≠x:=fun c y r z=>by subst z;rw[r]at mu;exact mu
 have ntup:∀c xs,H c=some (.tup xs)->c≠x:=fun c xs r z=>by subst z;rw[r]at mu;exact mu
 by_cases hb:b=x
 ·subst hb;rw[jd]at q;cases q;exact new
 ·rw[jm hb]at q
  by_cases hbe:b=e
  ·have q':H b=some (.own x):=by
    rcases he with z |z
    ·exact absurd (hbe.trans z) hb
    ·rw[hbe];exact z
   rw[q]at q';cases q'
   obtain⟨v,hv⟩:=heo
   exact⟨v,by rw[hbe];exact hv⟩
  ·refine(ok b u q).stay (fun c v hc r=>k c v ?_ r) (fun c r=>by rw[jm (nown c b r)];exact r) fun c xs r=>by rw[jm (ntup c xs r)];exact r
   rcases hc with rfl |hc
   ·exact hbe
   ·rintro rfl
    rcases he with z |z
    ·exact nown c b hc z
    ·rw[hc]at z;cases z;exact hb rfl
end
structure Un(fs ex:List Addr)(H H':Hp)(h h':Heap):Prop where
 keep:∀b o,h.get? b=some o->H b=none->b∉fs->b∉ex->h'.get? b=some o
 slot:∀b o,h.get? b=some o->H b=none->b∈fs->b∉ex->∃sl,h'.get? b=some { o with slots:=sl }
 free:∀b o,h.get? b=some o->H b=none->b∉ex->H' b=none
 there:∀b o,h.get? b=some o->b∉ex->∃o',h'.get? b=some o'
 tups:∀b xs,H b=some (.tup xs)->H' b=some (.tup xs)
 frzs:∀b o u,H b=some (.frz o u)->H' b=some (.frz o u)
 tbls:∀b ps,H b=some (.tbl ps)->∃more,H' b=some (.tbl (ps++more))
section
variable {fs fs' ex ex':List Addr}{H H1 H2:Hp}{h h1 h2 h':Heap}{a x e:Addr}{o:HO}
theorem Un.any(u:Un fs ex H H1 h h1){b:Addr}{ob:Obj}(q:h.get? b=some ob)(n:H b=none)(hx:b∉ex):∃sl,h1.get? b=some { ob with slots:=sl }:=by
 by_cases hb:b∈fs
 ·exact u.slot b ob q n hb hx
 ·exact⟨ob.slots,u.keep b ob q n hb hx⟩
theorem Un.kept(k:∀b u,h.get? b=some u->h'.get? b=some u):Un fs ex H H h h':=
 ⟨fun b ob q _ _ _=>k b ob q,fun b ob q _ _ _=>⟨ob.slots,k b ob q⟩,fun _ _ _ n _=>n,fun b ob q _=>⟨ob,k b ob q⟩,fun _ _ q=>q,fun _ _ _ q=>q,fun _ ps q=>⟨#[],by rw[q];simp⟩⟩
theorem Un.refl:Un fs ex H H h h:=Un.kept fun _ _ q=>q
theorem Un.laid(k:∀b u,h.get? b=some u->h'.get? b=some u)(hp:h.objs.size<=a)(hn:H a=none):Un fs ex H (upd H a o) h h' where
 keep:=fun b u q _ _ _=>k b u q
 slot:=fun b u q _ _ _=>⟨u.slots,k b u q⟩
 free:=fun b u q n _=>by rw[jm (Nat.ne_of_lt (Nat.lt_of_lt_of_le (Heap.lt_size q) hp))];exact n
 there:=fun b u q _=>⟨u,k b u q⟩
 tups:=fun b xs q=>by rw[jm (jv q hn)];exact q
 frzs:=fun b u xs q=>by rw[jm (jv q hn)];exact q
 tbls:=fun b ps q=>⟨#[],by rw[jm (jv q hn),q];simp⟩
theorem Un.write(mu:Mut (H x))(he:e=x∨H e=some (.own x))(k:∀b u,b≠e->h.get? b=some u->h'.get? b=some u)(heo:∃u,h'.get? e=some u):Un fs ex H (upd H x o) h h':=by
 have hx:∀b,H b=none->b≠x:=fun b n z=>by subst z;rw[n]at mu;exact mu
 have hb:∀b,H b=none->b≠e:=fun b n z=>by
  subst z
  rcases he with r |r
  ·exact hx b n r
  ·rw[n]at r;cases r
 have hm:∀b u,H b=some u->¬Mut (some u)->b≠x:=fun b u q nm z=>by subst z;rw[q]at mu;exact nm mu
 refine⟨fun b u q n _ _=>k b u (hb b n) q,fun b u q n _ _=>⟨u.slots,k b u (hb b n) q⟩,fun b u q n _=>by rw[jm (hx b n)];exact n,fun b u q _=>?_,
  fun b xs q=>by rw[jm (hm b _ q fun z=>z)];exact q,fun b u xs q=>by rw[jm (hm b _ q fun z=>z)];exact q,fun b ps q=>⟨#[],by rw[jm (hm b _ q fun z=>z),q];simp⟩⟩
 by_cases hbe:b=e
 ·subst hbe;exact heo
 ·exact⟨u,k b u hbe q⟩
end
noncomputable def trk(h:Heap)(H:Hp):List Addr:=(List.range h.objs.size).filter fun a=>(H a).isSome
noncomputable def hidT(h:Heap)(H:Hp):Heap:=PySem.W.hideAll h (trk h H)
theorem X2(h:Heap)(H:Hp):(hidT h H).objs.size=h.objs.size:=PySem.W.hideAll_size _ _
theorem Zj{h:Heap}{H:Hp}{b:Addr}{o:Obj}(e:h.get? b=some o)(n:H b=none):(hidT h H).get? b=some o:=
 PySem.W.hideAll_get _ e fun hm=>by
  have q:(H b).isSome=true:=(List.mem_filter.mp hm).2
  rw[n]at q;simp at q
theorem of_hidT{h:Heap}{H:Hp}{b:Addr}{o:Obj}(e:(hidT h H).get? b=some o):h.get? b=some o/\H b=none:=by
 have e':h.get? b=some o:=PySem.W.of_hideAll (trk h H) e
 refine⟨e',?_⟩
 cases q:H b with
 |none=>rfl
 |some x=>
  have hm:b∈trk h H:=List.mem_filter.mpr ⟨List.mem_range.mpr (Heap.lt_size e'),by simp [q]⟩
  have z:(hidT h H).get? b=none:=PySem.W.hideAll_none (trk h H) hm
  rw[z]at e;cases e
end L2
namespace L2
open PySem PySem.Spec PyProof.Rows
structure Mod(K:Frag)(mg:Str->Option Value)(base:Heap):Prop where
 kin:K.In base
 glob:base.Ns mainGlobals mg
 blt:∃mb,base.Ns builtinsNs mb/\∀x:Str,x≠"__name__"->mb x=bootBuiltins x
 nolimit:base.NoLimit
structure Cx where
 prog:Program
 w:World
 K:Frag
 mg:Str->Option Value
 base:Heap
 A:Around
 N:List Str
 s₀:Shared
 H₀:Hp
 env:Env
 outer:List Env
 stack:List Env
 ex:List Addr
 fn:Str->Bool
 calm:Bool
 pn:List (Addr×Obj)
 xe:Value->Shared->Prop
noncomputable def frs(l:List Env):List Addr:=l.filterMap (·.frame)
noncomputable abbrev Cx.fs(X:Cx):List Addr:=frs X.outer
def Vis(sc:Scope)(x:Str):Prop:=sc.names.lookup x=some .local∨sc.names.lookup x=some .cell∨sc.names.lookup x=some .free
def Loc(sc:Scope)(x:Str):Prop:=sc.names.lookup x=some .local∨sc.names.lookup x=some .cell
def Look(env:Env)(h:Heap)(m:Str->Option Value)(x:Str)(u:Value):Prop:=
 (env.kindOf x=some .local/\m x=some u)∨((env.kindOf x=some .cell∨env.kindOf x=some .free)/\∃c,env.cells.lookup x=some c/\h.IsCell c (some u))
structure Cx.Ok(X:Cx):Prop where
 mod:Mod X.K X.mg X.base
 kind:X.env.scope.kind= .function
 glob:X.env.globals=mainGlobals
 blt:X.env.builtins=builtinsNs
 above:X.s₀.heap.objs.size<=X.env.locals
 inj:∀x y c,X.env.cells.lookup x=some c->X.env.cells.lookup y=some c->x=y
 has:∀x,(X.env.kindOf x=some .cell∨X.env.kindOf x=some .free)->∃c,X.env.cells.lookup x=some c
 cab:∀x c,X.fn x=true->X.env.cells.lookup x=some c->X.s₀.heap.objs.size<=c
 hd:X.calm=true->X.A.handled=none
 frames:X.A.frames=some X.stack
 stk:X.stack=X.outer∨(X.stack=X.env::X.outer/\X.env.frame=some X.env.locals)
 exf:∀b∈X.ex,b≠X.env.locals/\∀x c,X.env.cells.lookup x=some c->c≠b
 bs:∀b o,X.base.get? b=some o->X.s₀.heap.get? b=some o/\X.H₀ b=none
 bsz:X.base.objs.size<=X.s₀.heap.objs.size
 noex:∀b o,X.base.get? b=some o->b∉X.ex
 exfs:∀b∈X.ex,b∉X.fs
 funs:X.s₀.heap.FunFrames X.base X.outer
 frf:∀b∈X.fs,X.H₀ b=none
structure Inv(X:Cx)(pins:List (Addr×Obj))(σ:List (Option V))(H:Hp)(s:Shared):Prop where
 ok:X.Ok
 os:s.os=X.s₀.os
 bare:AllBare s.gens
 base:Un X.fs X.ex X.H₀ H X.s₀.heap s.heap
 loc:∃m,s.heap.Ns X.env.locals m/\∀(i:Nat) (x:Str) (v:V),X.N[i]?=some x->σ[i]?=some (some v)->Vis X.env.scope x->∃u,RelV v u/\Look X.env s.heap m x u
 cell:∀x c,X.env.cells.lookup x=some c->∃v,s.heap.IsCell c v
 free:H X.env.locals=none
 freeC:∀x c,X.env.cells.lookup x=some c->H c=none
 pin:∀p∈X.pn++pins,s.heap.get? p.1=some p.2/\H p.1=none/\p.1≠X.env.locals/\p.1∉X.fs/\∀v,p.2.data≠ .cell v
 hok:HOk X.prog X.w H s.heap
 len:σ.length=X.N.length
section
variable {X:Cx}{pins:List (Addr×Obj)}{σ:List (Option V)}{H H':Hp}{s:Shared}{h':Heap}
theorem Cx.Ok.nofr(ok:X.Ok){b:Addr}{o:Obj}(e:X.base.get? b=some o):b∉X.fs:=fun hb=>by
 have:=(ok.funs.mem hb).1
 rw[e]at this;cases this
theorem Inv.bs(I:Inv X pins σ H s):∀b o,X.base.get? b=some o->s.heap.get? b=some o/\H b=none:=fun b o e=>
 ⟨I.base.keep b o (I.ok.bs b o e).1 (I.ok.bs b o e).2 (I.ok.nofr e) (I.ok.noex b o e),I.base.free b o (I.ok.bs b o e).1 (I.ok.bs b o e).2 (I.ok.noex b o e)⟩
theorem Inv.bk(I:Inv X pins σ H s):∀b o,X.base.get? b=some o->s.heap.get? b=some o:=fun b o e=>(I.bs b o e).1
theorem Inv.mod(I:Inv X pins σ H s):Mod X.K X.mg X.base:=I.ok.mod
theorem Inv.kIn(I:Inv X pins σ H s):X.K.In s.heap:=I.ok.mod.kin.keeps I.bk
theorem Inv.lt(I:Inv X pins σ H s):X.env.locals < s.heap.objs.size:=let ⟨_,hn,_⟩:=I.loc;hn.lt
theorem Inv.sz(I:Inv X pins σ H s):X.s₀.heap.objs.size<=s.heap.objs.size:=Nat.le_trans I.ok.above (Nat.le_of_lt I.lt)
theorem Inv.nofs(I:Inv X pins σ H s){a:Addr}(h:s.heap.objs.size<=a):a∉X.fs:=fun hb=>by
 obtain⟨_,o,ho,_⟩:=I.ok.funs.mem hb
 exact absurd (Nat.lt_of_lt_of_le (Heap.lt_size ho) (Nat.le_trans I.sz h)) (Nat.lt_irrefl _)
theorem Inv.cne(I:Inv X pins σ H s):∀x c,X.env.cells.lookup x=some c->c≠X.env.locals:=fun x c e z=>by
 obtain⟨v,o,ho,hd⟩:=I.cell x c e
 obtain⟨m,⟨o',es,ep,ho',hd',_⟩,_⟩:=I.loc
 rw[z,ho']at ho;cases ho;rw[hd']at hd;cases hd
theorem Inv.funs(I:Inv X pins σ H s):s.heap.FunFrames X.base X.outer:=by
 have all:∀(l:List Env),(∀b∈frs l,b∈X.fs)->X.s₀.heap.FunFrames X.base l->s.heap.FunFrames X.base l:=by
  intro l
  induction l with
  |nil=>intro _ _;trivial
  |cons env r ih=>
   intro hs hl
   obtain⟨hk,⟨L,o,hf,hn,ho,hd⟩,hr⟩:=hl
   have hL:L∈X.fs:=hs L (by unfold frs;rw[List.filterMap_cons,hf];exact List.mem_cons_self)
   obtain⟨sl,e⟩:=I.base.slot L o ho (I.ok.frf L hL) hL fun z=>I.ok.exfs L z hL
   exact⟨hk,⟨L,_,hf,hn,e,hd⟩,ih (fun b hb=>hs b (by unfold frs;rw[List.filterMap_cons,hf];exact List.mem_cons_of_mem _ hb)) hr⟩
 exact all X.outer (fun _ hb=>hb) I.ok.funs
theorem Inv.stack(I:Inv X pins σ H s):s.heap.FunFrames X.base X.stack:=by
 rcases I.ok.stk with e | ⟨e,hf⟩
 ·rw[e];exact I.funs
 ·rw[e]
  obtain⟨m,hn,_⟩:=I.loc
  refine .cons (by rw[I.ok.kind];decide) hf hn ?_ I.funs
  exact Heap.get?_none_of_le (Nat.le_trans I.ok.bsz I.ok.above)
theorem Inv.stkSub(I:Inv X pins σ H s):∀b∈frs X.stack,b∈X.env.locals::X.fs:=fun b hb=>by
 rcases I.ok.stk with e | ⟨e,hf⟩
 ·rw[e]at hb;exact List.mem_cons_of_mem _ hb
 ·rw[e]at hb
  unfold frs at hb
  rw[List.filterMap_cons,hf]at hb
  exact hb
theorem Inv.stkFree(I:Inv X pins σ H s):∀b∈frs X.stack,H b=none:=fun b hb=>by
 rcases List.mem_cons.mp (I.stkSub b hb) with e |hb
 ·rw[e];exact I.free
 ·obtain⟨_,o,ho,_⟩:=I.ok.funs.mem hb
  exact I.base.free b o ho (I.ok.frf b hb) fun z=>I.ok.exfs b z hb
theorem Inv.step{g':Array GenState}{t':Nat}{d':Drawn}{ch:List Addr}(I:Inv X pins σ H s)
  (hch:∀b∈ch,(b∈X.ex∨X.s₀.heap.objs.size<=b)/\b≠X.env.locals/\(∀x c,X.env.cells.lookup x=some c->c≠b)/\∀p∈X.pn++pins,p.1≠b)
  (keep:∀b o,b≠X.env.locals->b∉X.fs->b∉ch->s.heap.get? b=some o->H b=none->h'.get? b=some o)
  (slot:∀b o,b≠X.env.locals->b∈X.fs->b∉ch->s.heap.get? b=some o->H b=none->∃sl,h'.get? b=some { o with slots:=sl }) (free:∀b o,b∉ch->s.heap.get? b=some o->H b=none->H' b=none)
  (there:∀b o,b∉ch->s.heap.get? b=some o->∃o',h'.get? b=some o')
  (tups:∀b xs,H b=some (.tup xs)->H' b=some (.tup xs)) (frzs:∀b o u,H b=some (.frz o u)->H' b=some (.frz o u)) (tbls:∀b ps,H b=some (.tbl ps)->∃more,H' b=some (.tbl (ps++more)))
  (ns:∀m,s.heap.Ns X.env.locals m->h'.Ns X.env.locals m) (hok:HOk X.prog X.w H' h') (hg:AllBare g'):
  Inv X pins σ H' { s with heap:=h',gens:=g',drawn:=d',toks:=t' }:=by
 have neL:∀b o,X.s₀.heap.get? b=some o->b≠X.env.locals:=fun b o e=>Nat.ne_of_lt (Nat.lt_of_lt_of_le (Heap.lt_size e) I.ok.above)
 have neC:∀b o,X.s₀.heap.get? b=some o->b∉X.ex->b∉ch:=fun b o e hx hb=>by
  rcases(hch b hb).1 with z |z
  ·exact hx z
  ·exact absurd (Nat.lt_of_lt_of_le (Heap.lt_size e) z) (Nat.lt_irrefl _)
 have cellK:∀x c,X.env.cells.lookup x=some c->∀v,s.heap.IsCell c v->h'.IsCell c v:=fun x c e v ⟨o,ho,hd⟩=>by
  have nch:c∉ch:=fun z=>(hch c z).2.2.1 x c e rfl
  by_cases hc:c∈X.fs
  ·obtain⟨sl,q⟩:=slot c o (I.cne x c e) hc nch ho (I.freeC x c e)
   exact⟨_,q,hd⟩
  ·exact⟨o,keep c o (I.cne x c e) hc nch ho (I.freeC x c e),hd⟩
 refine⟨I.ok,I.os,hg,⟨fun b o e n hb hx=>?_,fun b o e n hb hx=>?_,fun b o e n hx=>?_,fun b o e hx=>?_,fun b xs e=>tups b xs (I.base.tups b xs e),fun b o xs e=>frzs b o xs (I.base.frzs b o xs e),fun b ps e=>?_⟩,?_,fun x c e=>?_,?_,fun x c e=>?_,fun p hp=>?_,hok,I.len⟩
 ·exact keep b o (neL b o e) hb (neC b o e hx) (I.base.keep b o e n hb hx) (I.base.free b o e n hx)
 ·obtain⟨sl,e1⟩:=I.base.slot b o e n hb hx
  obtain⟨sl',e2⟩:=slot b _ (neL b o e) hb (neC b o e hx) e1 (I.base.free b o e n hx)
  exact⟨sl',e2⟩
 ·obtain⟨o',e1⟩:=I.base.there b o e hx
  exact free b o' (neC b o e hx) e1 (I.base.free b o e n hx)
 ·obtain⟨o',e1⟩:=I.base.there b o e hx
  exact there b o' (neC b o e hx) e1
 ·obtain⟨m1,e1⟩:=I.base.tbls b ps e
  obtain⟨m2,e2⟩:=tbls b _ e1
  exact⟨m1++m2,by rw[e2,Array.append_assoc]⟩
 ·obtain⟨m,hn,hl⟩:=I.loc
  refine⟨m,ns m hn,fun i x v e1 e2 e3=>?_⟩
  obtain⟨u,r,l⟩:=hl i x v e1 e2 e3
  refine⟨u,r,?_⟩
  rcases l with l | ⟨k,c,e,z⟩
  ·exact .inl l
  ·exact .inr ⟨k,c,e,cellK x c e _ z⟩
 ·obtain⟨v,z⟩:=I.cell x c e
  exact⟨v,cellK x c e v z⟩
 ·obtain⟨m,⟨o,_,_,ho,_⟩,_⟩:=I.loc
  exact free _ o (fun z=>(hch _ z).2.1 rfl) ho I.free
 ·obtain⟨v,o,ho,hd⟩:=I.cell x c e
  exact free c o (fun z=>(hch c z).2.2.1 x c e rfl) ho (I.freeC x c e)
 ·obtain⟨e,n,ne,nf,d⟩:=I.pin p hp
  have nch:p.1∉ch:=fun z=>(hch p.1 z).2.2.2 p hp rfl
  exact⟨keep p.1 p.2 ne nf nch e n,free p.1 p.2 nch e n,ne,nf,d⟩
theorem Inv.un{t':Nat}(I:Inv X pins σ H s)(u:Un X.fs [] H H' s.heap h')(hok:HOk X.prog X.w H' h'):Inv X pins σ H' { s with heap:=h',toks:=t' }:=by
 obtain⟨m,⟨o,es,ep,ho,r⟩,_⟩:=id I.loc
 obtain⟨sl,hL⟩:=u.any ho I.free (by simp)
 exact I.step (g':=s.gens) (d':=s.drawn) (ch:=[]) (fun _ z=>nomatch z) (fun b o _ hb _ e n=>u.keep b o e n hb (by simp)) (fun b o _ hb _ e n=>u.slot b o e n hb (by simp)) (fun b o _ e n=>u.free b o e n (by simp)) (fun b o _ e=>u.there b o e (by simp)) u.tups u.frzs u.tbls (fun m' hm=>by
  obtain⟨o',es',ep',ho',r'⟩:=hm
  rw[ho]at ho';cases ho'
  exact⟨_,es',ep',hL,r'⟩) hok I.bare
theorem Inv.call{g':Array GenState}{t':Nat}{d':Drawn}{ch:List Addr}(I:Inv X pins σ H s)(u:Un (frs X.stack) ch H H' s.heap h')(hok:HOk X.prog X.w H' h')(hg:AllBare g')
  (hch:∀b∈ch,(b∈X.ex∨X.s₀.heap.objs.size<=b)/\b≠X.env.locals/\(∀x c,X.env.cells.lookup x=some c->c≠b)/\∀p∈X.pn++pins,p.1≠b):
  Inv X pins σ H' { s with heap:=h',gens:=g',drawn:=d',toks:=t' }:=by
 obtain⟨m,⟨o,es,ep,ho,r⟩,_⟩:=id I.loc
 obtain⟨sl,hL⟩:=u.any ho I.free fun z=>(hch _ z).2.1 rfl
 exact I.step (ch:=ch) hch (fun b o hL hb hc e n=>u.keep b o e n (fun z=>(List.mem_cons.mp (I.stkSub b z)).elim hL hb) hc) (fun b o _ _ hc e n=>u.any e n hc) (fun b o hc e n=>u.free b o e n hc) (fun b o hc e=>u.there b o e hc) u.tups u.frzs u.tbls (fun m' hm=>by
  obtain⟨o',es',ep',ho',r'⟩:=hm
  rw[ho]at ho';cases ho'
  exact⟨_,es',ep',hL,r'⟩) hok hg
theorem Inv.turned{t':Nat}{it:Addr}(I:Inv X pins σ H s)(k:∀b o,b≠it->s.heap.get? b=some o->h'.get? b=some o)(hn:H it=none)(hL:it≠X.env.locals)
  (h1:it∈X.ex∨X.s₀.heap.objs.size<=it) (h2:∀x c,X.env.cells.lookup x=some c->c≠it) (h3:∀p∈X.pn++pins,p.1≠it):Inv X pins σ H { s with heap:=h',toks:=t' }:=by
 have nit:∀b u,H b=some u->b≠it:=fun b u e z=>by rw[z,hn]at e;cases e
 refine I.step (g':=s.gens) (d':=s.drawn) (ch:=[it]) (fun b hb=>?_) (fun b o _ _ hc e _=>k b o (fun z=>hc (by simp [z])) e) (fun b o _ _ hc e _=>⟨o.slots,k b o (fun z=>hc (by simp [z])) e⟩) (fun _ _ _ _ n=>n)
  (fun b o hc e=>⟨o,k b o (fun z=>hc (by simp [z])) e⟩) (fun _ _ e=>e) (fun _ _ _ e=>e) (fun b ps e=>⟨#[],by rw[e];simp⟩) (fun m hm=>?_) (fun b u e=>?_) I.bare
 ·have e:b=it:=by simpa using hb
  subst e
  exact⟨h1,hL,h2,h3⟩
 ·obtain⟨o,es,ep,ho,r⟩:=hm
  exact⟨o,es,ep,k _ o (Ne.symm hL) ho,r⟩
 ·refine(I.hok b u e).stay (fun c v hc q=>k c v ?_ q) (fun _ q=>q) fun _ _ q=>q
  rcases hc with z |z
  ·rw[z];exact nit b u e
  ·exact nit c _ z
theorem Inv.tok(I:Inv X pins σ H s)(t:Nat):Inv X pins σ H { s with toks:=t }:=I.un (h':=s.heap) (t':=t) Un.refl I.hok
theorem Inv.kept{t':Nat}(I:Inv X pins σ H s)(k:∀b u,s.heap.get? b=some u->h'.get? b=some u):Inv X pins σ H { s with heap:=h',toks:=t' }:=I.un (Un.kept k) (I.hok.kept k)
theorem Inv.laid{a:Addr}{o:HO}{t':Nat}(I:Inv X pins σ H s)(k:∀b u,s.heap.get? b=some u->h'.get? b=some u)(hp:s.heap.objs.size<=a)(new:ObjOk X.prog X.w (upd H a o) h' a o):
  Inv X pins σ (upd H a o) { s with heap:=h',toks:=t' }:=I.un (Un.laid k hp (I.hok.fresh hp)) (I.hok.laid k hp new)
theorem Inv.write{x e:Addr}{o:HO}{t':Nat}(I:Inv X pins σ H s)(mu:Mut (H x))(he:e=x∨H e=some (.own x))(k:∀b u,b≠e->s.heap.get? b=some u->h'.get? b=some u)(heo:∃u,h'.get? e=some u)
  (new:ObjOk X.prog X.w (upd H x o) h' x o):Inv X pins σ (upd H x o) { s with heap:=h',toks:=t' }:=I.un (Un.write mu he k heo) (I.hok.write mu he k heo new)
theorem Inv.pins_of{pins':List (Addr×Obj)}(I:Inv X pins σ H s)(h:∀p∈pins',s.heap.get? p.1=some p.2/\H p.1=none/\p.1≠X.env.locals/\p.1∉X.fs/\∀v,p.2.data≠ .cell v):Inv X pins' σ H s:=
 ⟨I.ok,I.os,I.bare,I.base,I.loc,I.cell,I.free,I.freeC,fun p hp=>(List.mem_append.mp hp).elim (fun z=>I.pin p (List.mem_append_left _ z)) (h p),I.hok,I.len⟩
theorem Jy{N:List Str}(hN:N.Nodup){i j:Nat}{x:Str}(a:N[i]?=some x)(b:N[j]?=some x):i=j:=by
 obtain⟨h1,e1⟩:=List.getElem?_eq_some_iff.mp a
 obtain⟨h2,e2⟩:=List.getElem?_eq_some_iff.mp b
 exact(List.getElem_inj hN).mp (e1.trans e2.symm)
theorem Ka{M:Model}{A:Around}{E:Value->Shared->Prop}{i:Nat}{x:Str}{v:V}{u:Value}{Q:Unit->Shared->Prop}(I:Inv X pins σ H s)(hN:X.N.Nodup)(hi:X.N[i]?=some x)(hx:Loc X.env.scope x)(r:RelV v u)
  (h:∀s',Inv X pins (σ.set i (some v)) H s'->(∃a,Heap.SameBut a s.heap s'.heap/\(a=X.env.locals∨X.env.cells.lookup x=some a))->Q () s') (hf:X.fn x=true∨X.env.scope.names.lookup x=some .local:=by first |exact .inl rfl |exact .inr rfl |assumption):wpAny M A (storeName X.env x u) Q E s:=by
 obtain⟨m,hn,hl⟩:=id I.loc
 have hcls:(X.env.scope.kind== .class||(X.env.scope.kind== .module&&X.env.locals != X.env.globals))=false:=by rw[I.ok.kind];rfl
 have hiσ:i < σ.length:=by rw[I.len];exact(List.getElem?_eq_some_iff.mp hi).1
 have cne:=I.cne
 have tracked:∀{a:Addr} {h':Heap},(∃o,s.heap.get? a=some o/\H a=none)->Heap.SameBut a s.heap h'->HOk X.prog X.w H h':=fun {a h'} ha hs b ob e=>by
  obtain⟨_,_,hfree⟩:=ha
  refine(I.hok b ob e).stay (fun c w' hc q=>(hs.2 c ?_).trans q) (fun _ q=>q) fun _ _ q=>q
  rintro rfl
  rcases hc with rfl |hc
  ·rw[hfree]at e;cases e
  ·rw[hfree]at hc;cases hc
 rcases hx with hk |hk
 ·refine wpAny_storeName_local hk hn (fun h' hn' hs=>?_) hcls
  obtain⟨oL,_,_,hoL,_⟩:=id hn
  refine h _ ⟨I.ok,I.os,I.bare,⟨fun b o e n hb hx=>?_,fun b o e n hb hx=>?_,I.base.free,fun b o e hx=>?_,I.base.tups,I.base.frzs,I.base.tbls⟩,⟨_,hn',fun j y v' e1 e2 e3=>?_⟩,fun y c e=>?_,I.free,I.freeC,fun p hp=>?_,tracked ⟨oL,hoL,I.free⟩ hs,by simpa using I.len⟩ ⟨_,hs,.inl rfl⟩
  ·exact(hs.2 b (Nat.ne_of_lt (Nat.lt_of_lt_of_le (Heap.lt_size e) I.ok.above))).trans (I.base.keep b o e n hb hx)
  ·obtain⟨sl,e1⟩:=I.base.slot b o e n hb hx
   exact⟨sl,(hs.2 b (Nat.ne_of_lt (Nat.lt_of_lt_of_le (Heap.lt_size e) I.ok.above))).trans e1⟩
  ·obtain⟨o',e1⟩:=I.base.there b o e hx
   exact⟨o',(hs.2 b (Nat.ne_of_lt (Nat.lt_of_lt_of_le (Heap.lt_size e) I.ok.above))).trans e1⟩
  ·by_cases hj:j=i
   ·subst hj
    rw[hi]at e1;cases e1
    rw[List.getElem?_set_self hiσ]at e2
    cases e2
    exact⟨u,r,.inl ⟨hk,by simp⟩⟩
   ·rw[List.getElem?_set_ne (Ne.symm hj)]at e2
    obtain⟨u',r',q⟩:=hl j y v' e1 e2 e3
    refine⟨u',r',?_⟩
    rcases q with ⟨k,e⟩ | ⟨k,c,e,z⟩
    ·refine .inl ⟨k,?_⟩
     have:y≠x:=fun e=>hj (Jy hN e1 (e▸hi))
     simp [this,e]
    ·exact .inr ⟨k,c,e,z.sameBut hs (cne y c e)⟩
  ·obtain⟨w',z⟩:=I.cell y c e
   exact⟨w',z.sameBut hs (cne y c e)⟩
  ·obtain⟨e,n,ne,nf,d⟩:=I.pin p hp
   exact⟨(hs.2 p.1 ne).trans e,n,ne,nf,d⟩
 ·have hfn:X.fn x=true:=by
   rcases hf with z |z
   ·exact z
   ·rw[z]at hk;cases hk
  obtain⟨c,hc⟩:=I.ok.has x (.inl hk)
  obtain⟨w',z⟩:=I.cell x c hc
  refine wpAny_storeName_cell I.ok.kind hk hc z (fun h' hc' hs=>?_)
  obtain⟨oc,hoc,hocd⟩:=id z
  refine h { s with heap:=h' } ⟨I.ok,I.os,I.bare,⟨fun b o e n hb hx=>?_,fun b o e n hb hx=>?_,I.base.free,fun b o e hx=>?_,I.base.tups,I.base.frzs,I.base.tbls⟩,⟨m,hn.sameBut hs (Ne.symm (cne x c hc)),fun j y v' e1 e2 e3=>?_⟩,fun y c' e=>?_,I.free,I.freeC,fun p hp=>?_,tracked ⟨oc,hoc,I.freeC x c hc⟩ hs,by simpa using I.len⟩ ⟨c,hs,.inr hc⟩
  ·exact(hs.2 b (Nat.ne_of_lt (Nat.lt_of_lt_of_le (Heap.lt_size e) (I.ok.cab x c hfn hc)))).trans (I.base.keep b o e n hb hx)
  ·obtain⟨sl,e1⟩:=I.base.slot b o e n hb hx
   exact⟨sl,(hs.2 b (Nat.ne_of_lt (Nat.lt_of_lt_of_le (Heap.lt_size e) (I.ok.cab x c hfn hc)))).trans e1⟩
  ·obtain⟨o',e1⟩:=I.base.there b o e hx
   exact⟨o',(hs.2 b (Nat.ne_of_lt (Nat.lt_of_lt_of_le (Heap.lt_size e) (I.ok.cab x c hfn hc)))).trans e1⟩
  ·by_cases hj:j=i
   ·subst hj
    rw[hi]at e1;cases e1
    rw[List.getElem?_set_self hiσ]at e2
    cases e2
    exact⟨u,r,.inr ⟨.inl hk,c,hc,hc'⟩⟩
   ·rw[List.getElem?_set_ne (Ne.symm hj)]at e2
    obtain⟨u',r',q⟩:=hl j y v' e1 e2 e3
    refine⟨u',r',?_⟩
    rcases q with q | ⟨k,c',e,z'⟩
    ·exact .inl q
    ·refine .inr ⟨k,c',e,z'.sameBut hs ?_⟩
     rintro rfl
     exact hj (Jy hN e1 (I.ok.inj _ _ _ e hc▸hi))
  ·by_cases hcc:c'=c
   ·subst hcc;exact⟨_,hc'⟩
   ·obtain⟨w2,z2⟩:=I.cell y c' e
    exact⟨w2,z2.sameBut hs hcc⟩
  ·obtain⟨e,n,ne,nf,d⟩:=I.pin p hp
   refine⟨(hs.2 p.1 ?_).trans e,n,ne,nf,d⟩
   intro q
   rw[q,hoc]at e
   have q':oc=p.2:=Option.some.inj e
   exact d w' (by rw[<- q'];exact hocd)
theorem kM{M:Model}{A:Around}{E:Value->Shared->Prop}{i:Nat}{x:Str}{v:V}{u:Value}{Q:Unit->Shared->Prop}(I:Inv X pins σ H s)(hN:X.N.Nodup)(hi:X.N[i]?=some x)(hx:Loc X.env.scope x)(r:RelV v u)
  (h:∀s',Inv X pins (σ.set i (some v)) H s'->Q () s') (hf:X.fn x=true∨X.env.scope.names.lookup x=some .local:=by first |exact .inl rfl |exact .inr rfl |assumption):wpAny M A (storeName X.env x u) Q E s:=
 Ka I hN hi hx r (fun s' I' _=>h s' I') hf
theorem Inv.call'{s':Shared}{ch:List Addr}(I:Inv X pins σ H s)(ho:s'.os=s.os)(u:Un (frs X.stack) ch H H' s.heap s'.heap)(hok:HOk X.prog X.w H' s'.heap)(hg:AllBare s'.gens)
  (hch:∀b∈ch,(b∈X.ex∨X.s₀.heap.objs.size<=b)/\b≠X.env.locals/\(∀x c,X.env.cells.lookup x=some c->c≠b)/\∀p∈X.pn++pins,p.1≠b):Inv X pins σ H' s':=by
 obtain⟨h',g',d',t',o'⟩:=s'
 have e:o'=s.os:=ho
 subst e
 exact I.call (g':=g') (t':=t') (d':=d') u hok hg hch
end
abbrev XK:=Value->Option Addr->Hp->Prop
abbrev St:=List (Option V)
abbrev VK:=V->Hp->Prop
abbrev TE:=St->Hp->VK->Prop
abbrev TT:=St->Hp->(Bool->Hp->Prop)->Prop
abbrev TA:=St->Hp->(List V->Hp->Prop)->Prop
structure Ends where
 nx:St->Hp->Prop
 rt:VK
 bk:St->Hp->Prop:=fun _ _=>False
 ct:St->Hp->Prop:=fun _ _=>False
abbrev TS:=Ends->St->Hp->Prop
def EP(X:Cx)(pins:List (Addr×Obj))(σ:St)(Q:VK)(u:Value)(s':Shared):Prop:=∃v H',Inv X pins σ H' s'/\RelV v u/\Q v H'
def TP(X:Cx)(pins:List (Addr×Obj))(σ:St)(Q:Bool->Hp->Prop)(b:Bool)(s':Shared):Prop:=∃H',Inv X pins σ H' s'/\Q b H'
def AP(X:Cx)(pins:List (Addr×Obj))(σ:St)(Q:List V->Hp->Prop)(us:List Value)(s':Shared):Prop:=∃vs H',Inv X pins σ H' s'/\Vals vs us/\Q vs H'
def SP(X:Cx)(pins:List (Addr×Obj))(D:Ends)(f:Flow)(s':Shared):Prop:=
 match f with
 | .next=>∃σ' H',Inv X pins σ' H' s'/\D.nx σ' H'
 | .brk=>∃σ' H',Inv X pins σ' H' s'/\D.bk σ' H'
 | .cont=>∃σ' H',Inv X pins σ' H' s'/\D.ct σ' H'
 | .ret u=>∃v σ' H',Inv X pins σ' H' s'/\RelV v u/\D.rt v H'
def PE(X:Cx)(e:Expr)(t:TE):Prop:=
 ∀(pins:List (Addr×Obj)) (s:Shared) (σ:St) (H:Hp) (Q:VK),Inv X pins σ H s->t σ H Q->wpAny (model X.prog X.w) X.A (eval e X.env) (EP X pins σ Q) X.xe s
def PT(X:Cx)(e:Expr)(t:TT):Prop:=
 ∀(pins:List (Addr×Obj)) (s:Shared) (σ:St) (H:Hp) (Q:Bool->Hp->Prop),Inv X pins σ H s->t σ H Q->wpAny (model X.prog X.w) X.A (isTrue e X.env (eval e X.env)) (TP X pins σ Q) X.xe s
def PW(X:Cx)(e:Expr)(t:TT):Prop:=
 ∀(whole:Sem Value) (pins:List (Addr×Obj)) (s:Shared) (σ:St) (H:Hp) (Q:Bool->Hp->Prop),Inv X pins σ H s->t σ H Q->wpAny (model X.prog X.w) X.A (isTrue e X.env whole) (TP X pins σ Q) X.xe s
theorem PW.pt{X:Cx}{e:Expr}{t:TT}(h:PW X e t):PT X e t:=h _
def PA(X:Cx)(es:List Expr)(t:TA):Prop:=
 ∀(pos:Pos) (pins:List (Addr×Obj)) (s:Shared) (σ:St) (H:Hp) (Q:List V->Hp->Prop),Inv X pins σ H s->t σ H Q->wpAny (model X.prog X.w) X.A (spliced (backTo pos (starEach es X.env))) (AP X pins σ Q) X.xe s
def PS(X:Cx)(st:Stmt)(t:TS):Prop:=
 ∀(pins:List (Addr×Obj)) (s:Shared) (σ:St) (H:Hp) (D:Ends),Inv X pins σ H s->t D σ H->wpAny (model X.prog X.w) X.A (exec st X.env) (SP X pins D) X.xe s
def PSs(X:Cx)(st:List Stmt)(t:TS):Prop:=
 ∀(pins:List (Addr×Obj)) (s:Shared) (σ:St) (H:Hp) (D:Ends),Inv X pins σ H s->t D σ H->wpAny (model X.prog X.w) X.A (execs st X.env) (SP X pins D) X.xe s
theorem thn{α:Type}{t:Sem α}{Q Q':α->Shared->Prop}{M:Model}{A:Around}{E:Value->Shared->Prop}{s:Shared}(h:wpAny M A t Q E s)(hQ:∀a s,Q a s->Q' a s):wpAny M A t Q' E s:=wpAny_mono h hQ fun _ _ x=>x
section
variable {X:Cx}
def tVar(i:Nat):TE:=fun σ H Q=>∃v,σ[i]?=some (some v)/\Q v H
def tC(v:V):TE:=fun _ H Q=>Q v H
theorem pe_var{i:Nat}{x:Str}{pos:Pos}(hN:X.N[i]?=some x)(hv:Vis X.env.scope x)(hd:(x==("__debug__":Str))=false:=by decide)(hcd:(x==("__classdict__":Str))=false:=by decide):PE X (.Name x pos) (tVar i):=by
 intro pins s σ H Q I h
 obtain⟨v,e,h⟩:=h
 obtain⟨m,hn,hl⟩:=I.loc
 obtain⟨u,r,l⟩:=hl i x v hN e hv
 have fin:EP X pins σ Q u s:=⟨v,H,I,r,h⟩
 rcases l with ⟨hk,hm⟩ | ⟨hk,c,hc,hcell⟩
 ·exact wpAny_Name (wpAny_loadName_local I.ok.kind hk hn hm fin) hd
 ·rcases hk with hk |hk
  ·exact wpAny_Name (wpAny_loadName_cell I.ok.kind hk hc hcell fin) hd
  ·exact wpAny_Name (wpAny_loadName_free I.ok.kind hk hc hcell fin hcd) hd
theorem jc{i j pos}:PE X (.Constant (.int i) j pos) (tC (.int i)):=fun _ _ _ H _ I h=>wpAny_Constant_int ⟨.int i,H,I.tok _,⟨_,rfl⟩,h⟩
theorem Xk{b j pos}:PE X (.Constant (.bool b) j pos) (tC (.bl b)):=fun _ _ _ H _ I h=>Constant_bool ⟨.bl b,H,I,rfl,h⟩
theorem pe_non{j pos}:PE X (.Constant .none j pos) (tC .non):=fun _ _ _ H _ I h=>Constant_none ⟨.non,H,I,rfl,h⟩
theorem ji{x j pos}:PE X (.Constant (.str x) j pos) (tC (.str x)):=fun _ _ _ H _ I h=>Calls.Constant_str ⟨.str x,H,I.tok _,⟨_,rfl⟩,h⟩
def Gl(X:Cx)(x:Str):Prop:=X.env.kindOf x=some .globalImplicit
theorem zQ{E:Value->Shared->Prop}{pins:List (Addr×Obj)}{s:Shared}{σ:St}{H:Hp}{x:Str}{u:Value}{pos:Pos}{Q:Value->Shared->Prop}(I:Inv X pins σ H s)(hg:Gl X x)(hm:X.mg x=some u)(h:Q u s)
  (hd:(x==("__debug__":Str))=false:=by decide):wpAny (model X.prog X.w) X.A (eval (.Name x pos) X.env) Q E s:=
 Calls.Name_function_global I.ok.kind hg (Calls.loadGlobal_global (by rw[I.ok.glob];exact I.mod.glob.keeps I.bk) hm h) hd
theorem zi{E:Value->Shared->Prop}{pins:List (Addr×Obj)}{s:Shared}{σ:St}{H:Hp}{x:Str}{u:Value}{pos:Pos}{Q:Value->Shared->Prop}(I:Inv X pins σ H s)(hg:Gl X x)(hm:X.mg x=none)(hv:bootBuiltins x=some u)(h:Q u s)
  (hn:x≠"__name__":=by decide) (hd:(x==("__debug__":Str))=false:=by decide):wpAny (model X.prog X.w) X.A (eval (.Name x pos) X.env) Q E s:=by
 obtain⟨mb,h1,h2⟩:=I.mod.blt
 exact Calls.Name_function_global I.ok.kind hg (Calls.loadGlobal_builtin (by rw[I.ok.glob];exact I.mod.glob.keeps I.bk) hm (by rw[I.ok.blt];exact h1.keeps I.bk) ((h2 x hn).trans hv) h) hd
theorem zu{x:Str}{v:V}{u:Value}{pos:Pos}(hg:Gl X x)(hm:X.mg x=some u)(r:RelV v u)(hd:(x==("__debug__":Str))=false:=by decide):PE X (.Name x pos) (tC v):=
 fun _ _ _ H _ I h=>zQ I hg hm ⟨v,H,I,r,h⟩ hd
theorem kK{x:Str}{v:V}{u:Value}{pos:Pos}(hg:Gl X x)(hm:X.mg x=none)(hv:bootBuiltins x=some u)(r:RelV v u)(hn:x≠"__name__":=by decide)(hd:(x==("__debug__":Str))=false:=by decide):PE X (.Name x pos) (tC v):=
 fun _ _ _ H _ I h=>zi I hg hm hv ⟨v,H,I,r,h⟩ hn hd
variable {a b:Expr}{ta tb:TE}{pos:Pos}
def tB(t:TE):TT:=fun σ H Q=>t σ H fun x H1=>∃c,x= .bl c/\Q c H1
theorem qc{e:Expr}{t:TE}(h:PE X e t)(he:∀whole,isTrue e X.env whole=(do let v <- whole;standAt e.pos;holding [v] (truthy v)):=by intro _;rfl):PT X e (tB t):=by
 intro pins s σ H Q I hw
 refine isTrue_plain (thn (h pins s σ H _ I hw) fun v s1 ⟨x,H1,I1,r1,q1⟩=>?_) (he _)
 obtain⟨d,rfl,q⟩:=q1
 cases r1
 exact wpAny_truthy_bool ⟨H1,I1,q⟩
variable {tA tB':TT}{rest:List Expr}
def tAnd(t u:TT):TT:=fun σ H Q=>t σ H fun c H1=>if c=true then u σ H1 Q else Q false H1
def tOr(t u:TT):TT:=fun σ H Q=>t σ H fun c H1=>if c=true then Q true H1 else u σ H1 Q
def tNot(t:TT):TT:=fun σ H Q=>t σ H fun c H1=>Q (!c) H1
theorem zR(ha:PT X a tA):PW X (.BoolOp .And [a] pos) tA:=by
 intro wh pins s σ H Q I h
 refine isTrue_and (thn (ha pins s σ H Q I h) fun c s1 e=>?_)
 cases c with
 |true=>exact isTrue_and_nil e
 |false=>exact e
theorem Jq(ha:PT X a tA):PW X (.BoolOp .Or [a] pos) tA:=by
 intro wh pins s σ H Q I h
 refine isTrue_or (thn (ha pins s σ H Q I h) fun c s1 e=>?_)
 cases c with
 |false=>exact isTrue_or_nil e
 |true=>exact e
theorem qD(ha:PT X a tA)(hb:PW X (.BoolOp .And (b::rest) pos) tB'):PW X (.BoolOp .And (a::b::rest) pos) (tAnd tA tB'):=by
 intro wh pins s σ H Q I h
 refine isTrue_and (thn (ha pins s σ H _ I h) fun c s1 ⟨H1,I1,q1⟩=>?_)
 cases c with
 |true=>exact hb wh pins s1 σ H1 Q I1 q1
 |false=>exact⟨H1,I1,q1⟩
theorem KU(ha:PT X a tA)(hb:PW X (.BoolOp .Or (b::rest) pos) tB'):PW X (.BoolOp .Or (a::b::rest) pos) (tOr tA tB'):=by
 intro wh pins s σ H Q I h
 refine isTrue_or (thn (ha pins s σ H _ I h) fun c s1 ⟨H1,I1,q1⟩=>?_)
 cases c with
 |true=>exact⟨H1,I1,q1⟩
 |false=>exact hb wh pins s1 σ H1 Q I1 q1
theorem QC(ha:PT X a tA):PT X (.UnaryOp .Not a pos) (tNot tA):=by
 intro pins s σ H Q I h
 exact isTrue_not (ha pins s σ H (fun c H1=>Q (!c) H1) I h)
def tAndV(ta tb:TE):TE:=fun σ H Q=>ta σ H fun x H1=>∃c,x= .bl c/\if c=true then tb σ H1 Q else Q (.bl false) H1
def tNotV(ta:TE):TE:=fun σ H Q=>ta σ H fun x H1=>∃c,x= .bl c/\Q (.bl (!c)) H1
theorem QD{op}{t:TE}(h:PE X a t):PE X (.BoolOp op [a] pos) t:=fun pins s σ H Q I hw=>BoolOp_one (h pins s σ H Q I hw)
theorem Kx(ha:PE X a ta)(hb:PE X (.BoolOp .And (b::rest) pos) tb):PE X (.BoolOp .And (a::b::rest) pos) (tAndV ta tb):=by
 intro pins s σ H Q I h
 refine BoolOp_and (thn (ha pins s σ H _ I h) fun v s1 ⟨x,H1,I1,r1,q1⟩=>?_)
 obtain⟨c,rfl,q1⟩:=q1
 cases r1
 refine wpAny_truthy_bool ?_
 cases c with
 |true=>exact hb pins s1 σ H1 Q I1 q1
 |false=>exact⟨.bl false,H1,I1,rfl,q1⟩
theorem pe_not(ha:PE X a ta):PE X (.UnaryOp .Not a pos) (tNotV ta):=by
 intro pins s σ H Q I h
 refine UnaryOp_ (thn (ha pins s σ H _ I h) fun v s1 ⟨x,H1,I1,r1,q1⟩=>?_)
 obtain⟨c,rfl,q1⟩:=q1
 cases r1
 exact not_of (wpAny_truthy_bool ⟨.bl (!c),H1,I1,rfl,q1⟩)
def tIf(t:TT)(ta tb:TE):TE:=fun σ H Q=>t σ H fun c H1=>if c=true then ta σ H1 Q else tb σ H1 Q
theorem qr{c:Expr}(hc:PT X c tA)(ha:PE X a ta)(hb:PE X b tb):PE X (.IfExp c a b pos) (tIf tA ta tb):=by
 intro pins s σ H Q I h
 refine wpAny_IfExp (thn (hc pins s σ H _ I h) fun d s1 ⟨H1,I1,q1⟩=>?_)
 cases d with
 |true=>exact ha pins s1 σ H1 Q I1 q1
 |false=>exact hb pins s1 σ H1 Q I1 q1
end
def SqL(K:Frag)(H:Hp)(a:Addr)(xs:List V):Prop:=
 Rd H a (.lst xs)∨
  ∃(o:Obj) (its:Array Value) (n:Nat),K.lookup a=some o/\o.cls= .type "list"/\o.dict=none/\o.data= .seq its n/\its.size<=sizeLine/\Vals xs its.toList
def SqT(K:Frag)(H:Hp)(a:Addr)(xs:List V):Prop:=
 Rd H a (.tup xs)∨
  ∃(o:Obj) (its:Array Value) (n:Nat),K.lookup a=some o/\o.cls= .type "tuple"/\o.data= .seq its n/\its.size<=sizeLine/\Vals xs its.toList
noncomputable def absV:Value->Option V
 | .none=>some .non
 | .bool b=>some (.bl b)
 | .int i _=>some (.int i)
 | .str x _=>some (.str x)
 | .bytes b _=>some (.byt b)
 | .float b _=>some (.flt b)
 | .ref a=>some (.ref a)
 | .type n=>some (.ty n)
 |_=>none
theorem RelV.abs{x:V}{u:Value}(r:RelV x u):absV u=some x:=by
 cases x with
 |non=>cases r;rfl
 |bl _=>cases r;rfl
 |int _=>obtain⟨t,rfl⟩:=r;rfl
 |str _=>obtain⟨t,rfl⟩:=r;rfl
 |byt _=>obtain⟨t,rfl⟩:=r;rfl
 |flt _=>obtain⟨t,rfl⟩:=r;rfl
 |ref _=>cases r;rfl
 |ty _=>cases r;rfl
theorem RelV.inj{x y:V}{u:Value}(r:RelV x u)(q:RelV y u):x=y:=Option.some.inj (r.abs.symm.trans q.abs)
theorem Vals.inj:∀{xs ys:List V} {us:List Value},Vals xs us->Vals ys us->xs=ys
 |_,_,_,.nil,.nil=>rfl
 |_,_,_,.cons r t,.cons r' t'=>by rw[r.inj r',Vals.inj t t']
section
variable {X:Cx}{pins:List (Addr×Obj)}{σ:St}{H:Hp}{s:Shared}{a:Addr}{xs ys:List V}
theorem SqL.of{K:Frag}(h:H a=some (.lst xs)):SqL K H a xs:=.inl (.inl h)
theorem SqT.of{K:Frag}(h:H a=some (.tup xs)):SqT K H a xs:=.inl (.inl h)
theorem Inv.list(I:Inv X pins σ H s)(h:SqL X.K H a xs):∃its:List Value,Vals xs its/\PlainL s.heap a its.toArray/\xs.length<=sizeLine:=by
 rcases h with h | ⟨o,its,n,hk,hc,hd,hs,hz,r⟩
 ·obtain⟨z,its,n,r,e⟩:=h.ok I.hok
  exact⟨its,r,⟨_,n,e,rfl,rfl,rfl⟩,z⟩
 ·refine⟨its.toList,r,⟨o,n,I.kIn a o hk,hc,hd,by simpa using hs⟩,?_⟩
  have e:=r.length
  simp only[Array.length_toList]at e
  omega
theorem Inv.tuple(I:Inv X pins σ H s)(h:SqT X.K H a xs):∃its:List Value,Vals xs its/\IsTup s.heap a its.toArray/\xs.length<=sizeLine:=by
 rcases h with h | ⟨o,its,n,hk,hc,hs,hz,r⟩
 ·obtain⟨z,its,r,p⟩:=h.ok I.hok
  exact⟨its,r,p,z⟩
 ·refine⟨its.toList,r,⟨o,I.kIn a o hk,hc,n,by simpa using hs⟩,?_⟩
  have e:=r.length
  simp only[Array.length_toList]at e
  omega
theorem Inv.list_inj(I:Inv X pins σ H s)(h:SqL X.K H a xs)(h':SqL X.K H a ys):xs=ys:=by
 obtain⟨its,r,⟨o,n,e,_,_,d⟩,_⟩:=I.list h
 obtain⟨its',r',⟨o',n',e',_,_,d'⟩,_⟩:=I.list h'
 rw[e]at e';cases e'
 rw[d]at d'
 injection d' with d1 _
 have:its=its':=by simpa using congrArg Array.toList d1
 subst this
 exact r.inj r'
theorem Inv.tuple_inj(I:Inv X pins σ H s)(h:SqT X.K H a xs)(h':SqT X.K H a ys):xs=ys:=by
 obtain⟨its,r,⟨o,e,_,n,d⟩,_⟩:=I.tuple h
 obtain⟨its',r',⟨o',e',_,n',d'⟩,_⟩:=I.tuple h'
 rw[e]at e';cases e'
 rw[d]at d'
 injection d' with d1 _
 have:its=its':=by simpa using congrArg Array.toList d1
 subst this
 exact r.inj r'
end
noncomputable abbrev Cx.wish(X:Cx)(E:Value->Shared->Prop):Cx:={ X with xe:=E }
noncomputable abbrev Cx.nox(X:Cx):Cx:=X.wish fun _ _=>False
theorem Cx.Ok.wish{X:Cx}(ok:X.Ok)(E:Value->Shared->Prop):(X.wish E).Ok:=
 ⟨ok.mod,ok.kind,ok.glob,ok.blt,ok.above,ok.inj,ok.has,ok.cab,ok.hd,ok.frames,ok.stk,ok.exf,ok.bs,ok.bsz,ok.noex,ok.exfs,ok.funs,ok.frf⟩
theorem Cx.Ok.unwish{X:Cx}{E:Value->Shared->Prop}(ok:(X.wish E).Ok):X.Ok:=
 ⟨ok.mod,ok.kind,ok.glob,ok.blt,ok.above,ok.inj,ok.has,ok.cab,ok.hd,ok.frames,ok.stk,ok.exf,ok.bs,ok.bsz,ok.noex,ok.exfs,ok.funs,ok.frf⟩
section
variable {X:Cx}{pins:List (Addr×Obj)}{σ:St}{H:Hp}{s:Shared}{E:Value->Shared->Prop}
theorem Inv.wish(I:Inv X pins σ H s)(E:Value->Shared->Prop):Inv (X.wish E) pins σ H s:=⟨I.ok.wish E,I.os,I.bare,I.base,I.loc,I.cell,I.free,I.freeC,I.pin,I.hok,I.len⟩
theorem Inv.unwish(I:Inv (X.wish E) pins σ H s):Inv X pins σ H s:=⟨I.ok.unwish,I.os,I.bare,I.base,I.loc,I.cell,I.free,I.freeC,I.pin,I.hok,I.len⟩
theorem SP.unwish{D:Ends}{f:Flow}{s':Shared}(h:SP (X.wish E) pins D f s'):SP X pins D f s':=by
 cases f with
 |next=>obtain⟨σ',H',I,q⟩:=h;exact⟨σ',H',I.unwish,q⟩
 |brk=>obtain⟨σ',H',I,q⟩:=h;exact⟨σ',H',I.unwish,q⟩
 |cont=>obtain⟨σ',H',I,q⟩:=h;exact⟨σ',H',I.unwish,q⟩
 |ret u=>obtain⟨v,σ',H',I,r,q⟩:=h;exact⟨v,σ',H',I.unwish,r,q⟩
theorem PSs.nox{st:List Stmt}{t:TS}(h:PSs X.nox st t):PSs X st t:=fun pins s σ H D I hw=>
 wpAny_mono (h pins s σ H D (I.wish _) hw) (fun _ _ q=>q.unwish) fun _ _ z=>False.elim z
end
section
variable {X:Cx}{st:Stmt}{rest:List Stmt}{t u:TS}{e:Expr}{te:TE}{pos:Pos}
def tNext:TS:=fun D σ H=>D.nx σ H
def tSeq(t u:TS):TS:=fun D σ H=>t { D with nx:=u D } σ H
theorem jr:PSs X [] tNext:=fun _ _ σ H _ I h=>wpAny_execs_nil ⟨σ,H,I,h⟩
theorem je(h1:PS X st t)(h2:PSs X rest u):PSs X (st::rest) (tSeq t u):=by
 intro pins s σ H D I h
 refine wpAny_execs_cons (thn (h1 pins s σ H { D with nx:=u D } I h) fun f s1 q=>?_)
 cases f with
 |next=>
  obtain⟨σ',H',I',q⟩:=q
  exact h2 pins s1 σ' H' D I' q
 |ret v=>exact q
 |brk=>exact q
 |cont=>exact q
theorem jh(h1:PS X st t):PSs X [st] t:=by
 intro pins s σ H D I h
 refine wpAny_execs_cons (thn (h1 pins s σ H D I h) fun f s1 q=>?_)
 cases f with
 |next=>exact wpAny_execs_nil q
 |ret v=>exact q
 |brk=>exact q
 |cont=>exact q
theorem Inv.quiet{pins:List (Addr×Obj)}{σ:St}{H:Hp}{s:Shared}(I:Inv X pins σ H s):interactive X.env=false:=by simp [interactive,I.ok.kind]
def tDrop(te:TE):TS:=fun D σ H=>te σ H fun _ H1=>D.nx σ H1
theorem jY(he:PE X e te)(hs:swapsWith e none pos.line X.env=pure false:=by rfl):PS X (.Expr e pos) (tDrop te):=by
 intro pins s σ H D I h
 exact wpAny_Expr_any (thn (he pins s σ H _ I h) fun v s1 ⟨x,H1,I1,r1,q1⟩=>⟨σ,H1,I1,q1⟩) I.quiet hs
def tRet(te:TE):TS:=fun D σ H=>te σ H D.rt
theorem jp(he:PE X e te):PS X (.Return (some e) pos) (tRet te):=by
 intro pins s σ H D I h
 exact wpAny_Return_some (thn (he pins s σ H _ I h) fun v s1 ⟨x,H1,I1,r1,q1⟩=>⟨x,σ,H1,I1,r1,q1⟩)
def tIfS(c:TT)(t u:TS):TS:=fun D σ H=>c σ H fun b H1=>if b=true then t D σ H1 else u D σ H1
theorem jy{c:Expr}{a b:List Stmt}{tc:TT}(hc:PT X c tc)(ha:PSs X a t)(hb:PSs X b u):PS X (.If c a b pos) (tIfS tc t u):=by
 intro pins s σ H D I h
 refine wpAny_If (thn (hc pins s σ H _ I h) fun d s1 ⟨H1,I1,q1⟩=>?_)
 cases d with
 |true=>exact ha pins s1 σ H1 D I1 q1
 |false=>exact hb pins s1 σ H1 D I1 q1
end
abbrev TG:=V->St->Hp->(St->Hp->Prop)->Prop
abbrev TGs:=List V->St->Hp->(St->Hp->Prop)->Prop
def PG(X:Cx)(target:Expr)(t:TG):Prop:=
 ∀(pins:List (Addr×Obj)) (s:Shared) (σ:St) (H:Hp) (v:V) (u:Value) (Q:St->Hp->Prop),Inv X pins σ H s->RelV v u->t v σ H Q->
  wpAny (model X.prog X.w) X.A (assign target X.env u) (fun _ s'=>∃σ' H',Inv X pins σ' H' s'/\Q σ' H') X.xe s
def PGs(X:Cx)(ts:List Expr)(t:TGs):Prop:=
 ∀(pins:List (Addr×Obj)) (s:Shared) (σ:St) (H:Hp) (vs:List V) (us:List Value) (Q:St->Hp->Prop),Inv X pins σ H s->Vals vs us->t vs σ H Q->
  wpAny (model X.prog X.w) X.A (assignInOrder ((assignEach ts X.env).map (·.2)) us) (fun _ s'=>∃σ' H',Inv X pins σ' H' s'/\Q σ' H') X.xe s
abbrev TSet:=V->V->V->Hp->(Hp->Prop)->Prop
def PSet(X:Cx)(t:TSet):Prop:=
 ∀(pins:List (Addr×Obj)) (s:Shared) (σ:St) (H:Hp) (o i v:V) (ov iv u:Value) (Q:Hp->Prop),Inv X pins σ H s->RelV o ov->RelV i iv->RelV v u->t o i v H Q->
  wpAny (model X.prog X.w) X.A (setItem ov iv u) (fun _ s'=>∃H',Inv X pins σ H' s'/\Q H') X.xe s
abbrev TIp:=V->V->Hp->VK->Prop
def PIp(X:Cx)(op:Operator)(t:TIp):Prop:=
 ∀(pins:List (Addr×Obj)) (s:Shared) (σ:St) (H:Hp) (x y:V) (v u:Value) (Q:VK),Inv X pins σ H s->RelV x v->RelV y u->t x y H Q->
  wpAny (model X.prog X.w) X.A (inplaceOp op v u) (EP X pins σ Q) X.xe s
section
variable {X:Cx}{pos:Pos}
def gName(i:Nat):TG:=fun v σ H Q=>Q (σ.set i (some v)) H
theorem jx{i:Nat}{x:Str}(hN:X.N.Nodup)(hi:X.N[i]?=some x)(hx:Loc X.env.scope x)(hf:X.fn x=true∨X.env.scope.names.lookup x=some .local:=by first |exact .inl rfl |exact .inr rfl |assumption):PG X (.Name x pos) (gName i):=by
 intro pins s σ H v u Q I r h
 exact wpAny_assign_Name (kM I hN hi hx r (fun s' I'=>⟨_,H,I',h⟩) hf)
def gNil:TGs:=fun vs σ H Q=>vs=[]/\Q σ H
def gCons(t:TG)(u:TGs):TGs:=fun vs σ H Q=>∃v r,vs=v::r/\t v σ H fun σ' H'=>u r σ' H' Q
theorem kL:PGs X [] gNil:=by
 intro pins s σ H vs us Q I r h
 obtain⟨e,h⟩:=h
 subst e
 cases r
 exact assignInOrder_nil ⟨σ,H,I,h⟩
theorem jA{e:Expr}{es:List Expr}{t:TG}{u:TGs}(h1:PG X e t)(h2:PGs X es u)
  (hs:(assignEach (e::es) X.env).map (·.2)=assign e X.env::(assignEach es X.env).map (·.2):=by rfl):PGs X (e::es) (gCons t u):=by
 intro pins s σ H vs us Q I r h
 obtain⟨v,vr,e1,h⟩:=h
 subst e1
 cases r with
 |cons r rr=>
  rw[hs]
  refine assignInOrder_cons (thn (h1 pins s σ H _ _ _ I r h) fun _ s1 ⟨σ1,H1,I1,q1⟩=>?_)
  exact h2 pins s1 σ1 H1 _ _ Q I1 rr q1
def gTup(K:Frag)(n:Nat)(t:TGs):TG:=fun v σ H Q=>∃a xs,v= .ref a/\SqT K H a xs/\xs.length=n/\t xs σ H Q
theorem qd{es:List Expr}{k:Nat}{t:TGs}{n:Nat}(hc:X.calm=true)(h:PGs X es t)
  (hn:(assignEach es X.env).length=n:=by rfl) (hst:(assignEach es X.env).findIdx? (·.1)=none:=by rfl):PG X (.Tuple es k pos) (gTup X.K n t):=by
 intro pins s σ H v u Q I r hw
 obtain⟨a,xs,e1,hq,hl,hw⟩:=hw
 subst e1
 cases r
 obtain⟨its,rv,ht,hz⟩:=I.tuple hq
 refine assign_Tuple_tuple (I.ok.hd hc) ht (by simp [hn,<- hl,rv.length]) hst fun h' hx=>?_
 have I1:Inv X pins σ H { s with heap:=h' }:=I.kept (t':=s.toks) fun b o e=>hx b o (Nat.ne_of_lt (Heap.lt_size e)) e
 exact h pins _ σ H xs _ Q I1 (by simpa using rv) hw
def gSub(to ti:TE)(t:TSet):TG:=fun v σ H Q=>to σ H fun o H1=>ti σ H1 fun i H2=>t o i v H2 fun H3=>Q σ H3
theorem qe{o i:Expr}{to ti:TE}{t:TSet}(ho:PE X o to)(hi:PE X i ti)(hs:PSet X t)
  (ha:∀v,assign (.Subscript o i pos) X.env v=(do
   let ov <- holding [v] (eval o X.env)
   let iv <- holding [v,ov] (eval i X.env)
   standAt pos
   holding [v,ov,iv] (setItem ov iv v)
   release [v,ov,iv] []):=by intro _;rfl):PG X (.Subscript o i pos) (gSub to ti t):=by
 intro pins s σ H v u Q I r h
 rw[ha]
 refine wpAny_bind (wpAny_holding (thn (ho pins s σ H _ I h) fun ov s1 ⟨x,H1,I1,r1,q1⟩=>?_))
 refine wpAny_bind (wpAny_holding (thn (hi pins s1 σ H1 _ I1 q1) fun iv s2 ⟨y,H2,I2,r2,q2⟩=>?_))
 refine wpAny_bind (wpAny_standAt (wpAny_bind (wpAny_holding (thn (hs pins s2 σ H2 x y v ov iv u _ I2 r1 r2 r q2) fun _ s3 ⟨H3,I3,q3⟩=>?_))))
 exact wpAny_release ⟨σ,H3,I3,q3⟩
def tAsg(te:TE)(g:TG):TS:=fun D σ H=>te σ H fun x H1=>g x σ H1 D.nx
theorem kQ{tg e:Expr}{te:TE}{g:TG}(he:PE X e te)(hg:PG X tg g)(hs:swapsWithSole [tg] e pos.line X.env=pure false:=by rfl)(hw:swappedStores [tg] e X.env=pure none:=by rfl)
  (h1:(assignEach [tg] X.env).map (·.2)=[assign tg X.env]:=by rfl):PS X (.Assign [tg] e pos) (tAsg te g):=by
 intro pins s σ H D I h
 refine wpAny_Assign_stores (thn (he pins s σ H _ I h) fun v s1 ⟨x,H1,I1,r1,q1⟩=>?_) hs hw
 rw[h1]
 exact thn (hg pins s1 σ H1 x v _ I1 r1 q1) fun _ s2 q=>q
theorem jo{i:Nat}{x:Str}{e:Expr}{te:TE}{pos':Pos}(hN:X.N.Nodup)(hi:X.N[i]?=some x)(hx:Loc X.env.scope x)(he:PE X e te)(hs:swapsWith e (some (.Name x pos')) pos.line X.env=pure false:=by rfl)(hf:X.fn x=true∨X.env.scope.names.lookup x=some .local:=by first |exact .inl rfl |exact .inr rfl |assumption):
  PS X (.Assign [.Name x pos'] e pos) (tAsg te (gName i)):=by
 intro pins s σ H D I h
 refine wpAny_Assign_Name (thn (he pins s σ H _ I h) fun v s1 ⟨y,H1,I1,r1,q1⟩=>?_) hs
 exact kM I1 hN hi hx r1 (fun s2 I2=>⟨_,H1,I2,q1⟩) hf
def tAug(i:Nat)(te:TE)(ti:TIp):TS:=fun D σ H=>∃x,σ[i]?=some (some x)/\te σ H fun y H1=>ti x y H1 fun z H2=>D.nx (σ.set i (some z)) H2
theorem ps_aug{i:Nat}{x:Str}{e:Expr}{te:TE}{op:Operator}{ti:TIp}{pos':Pos}(hN:X.N.Nodup)(hi:X.N[i]?=some x)(hx:Loc X.env.scope x)(he:PE X e te)(ho:PIp X op ti)(hf:X.fn x=true∨X.env.scope.names.lookup x=some .local:=by first |exact .inl rfl |exact .inr rfl |assumption):
  PS X (.AugAssign (.Name x pos') op e pos) (tAug i te ti):=by
 intro pins s σ H D I h
 obtain⟨v,e1,h⟩:=h
 obtain⟨m,hn,hl⟩:=I.loc
 have vis:Vis X.env.scope x:=by rcases hx with k |k;exact .inl k;exact .inr (.inl k)
 obtain⟨u,r,l⟩:=hl i x v hi e1 vis
 refine wpAny_AugAssign_Name ?_
 have go:wpAny (model X.prog X.w) X.A (eval e X.env) (fun w s₂=>wpAny (model X.prog X.w) X.A (inplaceOp op u w) (fun r s₃=>wpAny (model X.prog X.w) X.A (storeName X.env x r) (fun _=>SP X pins D .next) X.xe s₃) X.xe s₂) X.xe s:=by
  refine thn (he pins s σ H _ I h) fun w s1 ⟨y,H1,I1,r1,q1⟩=>?_
  refine thn (ho pins s1 σ H1 v y u w _ I1 r r1 q1) fun z s2 ⟨zv,H2,I2,r2,q2⟩=>?_
  exact kM I2 hN hi hx r2 (fun s3 I3=>⟨_,H2,I3,q2⟩) hf
 rcases l with ⟨hk,hm⟩ | ⟨hk,c,hc,hcell⟩
 ·exact wpAny_loadName_local I.ok.kind hk hn hm go
 ·rcases hk with hk |hk
  ·exact wpAny_loadName_cell I.ok.kind hk hc hcell go
  ·rcases hx with k |k
   ·have:X.env.scope.names.lookup x=some .free:=hk
    rw[k]at this;cases this
   ·have:X.env.scope.names.lookup x=some .free:=hk
    rw[k]at this;cases this
def ipI(f:Int->Int->Int):TIp:=fun x y H Q=>∃i j,x= .int i/\y= .int j/\Q (.int (f i j)) H
theorem ip_add:PIp X .Add (ipI fun i j=>i+j):=by
 intro pins s σ H x y v u Q I r1 r2 h
 obtain⟨i,j,e1,e2,q⟩:=h
 subst e1;subst e2
 obtain⟨t,rfl⟩:=r1
 obtain⟨t',rfl⟩:=r2
 exact iadd_int ⟨.int _,H,I.tok _,⟨_,rfl⟩,q⟩
end
section
variable {X:Cx}{pos:Pos}
def tWhile(c:TT)(tb:TS):TS:=fun D σ H=>∃W:Nat->St->Hp->Prop,(∃m,W m σ H)/\∀m σ H,W m σ H->
 c σ H fun b H1=>if b=true then ∃N:St->Hp->Prop,(∀σ' H',N σ' H'->∃m',m' < m/\W m' σ' H')/\tb { D with nx:=N,ct:=N,bk:=D.nx } σ H1 else D.nx σ H1
theorem Zk{c:Expr}{body:List Stmt}{tc:TT}{tb:TS}(hp:PassesOwn (model X.prog X.w) X.A X.env X.xe)(hc:PT X c tc)(hb:PSs X body tb):PS X (.While c body [] pos) (tWhile tc tb):=by
 intro pins s σ H D I h
 obtain⟨W,⟨m0,w0⟩,turn⟩:=h
 refine wpAny_While (codeAny_whileLoop (fun n s'=>∃σ' H',Inv X pins σ' H' s'/\W n σ' H') ?_ m0 ⟨σ,H,I,w0⟩)
 rintro n s1 ⟨σ1,H1,I1,w1⟩
 refine wpAny_passesOwn hp (thn (hc pins s1 σ1 H1 _ I1 (turn n σ1 H1 w1)) fun b s2 ⟨H2,I2,q2⟩=>?_)
 cases b with
 |true=>
  obtain⟨N,hN,q2⟩:=q2
  rw[if_pos rfl]
  refine wpAny_passesOwn hp (thn (hb pins s2 σ1 H2 _ I2 q2) fun f s3 q3=>?_)
  cases f with
  |next=>
   obtain⟨σ3,H3,I3,n3⟩:=q3
   obtain⟨m',hm,w3⟩:=hN σ3 H3 n3
   exact⟨m',hm,σ3,H3,I3,w3⟩
  |cont=>
   obtain⟨σ3,H3,I3,n3⟩:=q3
   obtain⟨m',hm,w3⟩:=hN σ3 H3 n3
   exact⟨m',hm,σ3,H3,I3,w3⟩
  |brk=>exact q3
  |ret v=>exact q3
 |false=>
  rw[if_neg Bool.false_ne_true]
  exact wpAny_execs_nil ⟨σ1,H2,I2,q2⟩
end
structure It where
 go:Nat->Hp->Prop
 yld:Nat->Hp->V->Hp->Prop
 stop:Nat->Hp->Prop
def FpOk(X:Cx)(pins:List (Addr×Obj))(H:Hp)(b:Addr):Prop:=
 H b=none/\b≠X.env.locals/\b∉X.fs/\(b∈X.ex∨X.s₀.heap.objs.size<=b)/\(∀x c,X.env.cells.lookup x=some c->c≠b)/\∀p∈X.pn++pins,p.1≠b
theorem Inv.fpOk{X:Cx}{pins:List (Addr×Obj)}{σ:St}{H H':Hp}{s:Shared}{b:Addr}(I:Inv X pins σ H s)(hb:s.heap.objs.size<=b)(hn:H' b=none):FpOk X pins H' b:=by
 refine⟨hn,Nat.ne_of_gt (Nat.lt_of_lt_of_le I.lt hb),I.nofs hb,.inr (Nat.le_trans I.sz hb),fun x c e z=>?_,fun p hp z=>?_⟩
 ·obtain⟨v,q⟩:=I.cell x c e
  exact absurd (Nat.lt_of_lt_of_le q.lt (by rw[z];exact hb)) (Nat.lt_irrefl _)
 ·exact absurd (Nat.lt_of_lt_of_le (Heap.lt_size (I.pin p hp).1) (by rw[z];exact hb)) (Nat.lt_irrefl _)
structure Turn(P:Program)(w:World)(K:Frag)(tg:Expr)(J:It)(fp:List Addr)(it:Addr)(tn:Nat->Heap->Prop):Prop where
 mem:it∈fp
 obj:∀i h,tn i h->∀b∈fp,∃o,h.get? b=some o/\∀v,o.data≠ .cell v
 keep:∀i h h',tn i h->(∀b∈fp,∀o,h.get? b=some o->h'.get? b=some o)->tn i h'
 item:∀(X:Cx),X.prog=P->X.w=w->X.K=K->X.calm=true->∀(i:Nat) (pins:List (Addr×Obj)) (s:Shared) (σ:St) (H:Hp) (E:Value->Shared->Prop),Inv X pins σ H s->(∀b∈fp,FpOk X pins H b)->tn i s.heap->J.go i H->
  wpAny (model P w) X.A (pyNext (.ref it)) (fun r s1=>∃u,r=some u/\
   wpAny (model P w) X.A (letOwnedTupleGo tg (.ref it) u) (fun _ s2=>∃x H',Inv X pins σ H' s2/\RelV x u/\J.yld i H x H'/\tn (i+1) s2.heap/\∀b∈fp,H' b=none) E s1) E s
 done:∀(X:Cx),X.prog=P->X.w=w->X.K=K->X.calm=true->∀(i:Nat) (pins:List (Addr×Obj)) (s:Shared) (σ:St) (H:Hp) (E:Value->Shared->Prop),Inv X pins σ H s->(∀b∈fp,FpOk X pins H b)->tn i s.heap->J.stop i H->
  wpAny (model P w) X.A (pyNext (.ref it)) (fun r s1=>r=none/\Inv X pins σ H s1) E s
 self:∀(A:Around) (i:Nat) (s:Shared) (Q:Value->Shared->Prop) (E:Value->Shared->Prop),tn i s.heap->Q (.ref it) s->wpAny (model P w) A (pyIter (.ref it)) Q E s
abbrev TI:=St->Hp->(It->Hp->Prop)->Prop
def PIE(X:Cx)(pins:List (Addr×Obj))(σ:St)(tg:Expr)(R:It->Hp->Prop)(itv:Value)(s2:Shared):Prop:=
 ∃(it:Addr) (fp:List Addr) (tn:Nat->Heap->Prop) (J:It) (H':Hp),itv= .ref it/\Inv X pins σ H' s2/\Turn X.prog X.w X.K tg J fp it tn/\tn 0 s2.heap/\(∀b∈fp,FpOk X pins H' b)/\R J H'
def PI(X:Cx)(tg iter:Expr)(wi:TI):Prop:=
 ∀(pins:List (Addr×Obj)) (s:Shared) (σ:St) (H:Hp) (R:It->Hp->Prop),Inv X pins σ H s->wi σ H R->
  wpAny (model X.prog X.w) X.A (eval iter X.env) (fun v s1=>wpAny (model X.prog X.w) X.A (pyIter v) (PIE X pins σ tg R) X.xe s1) X.xe s
theorem Xl{M : Model}{A : Around}{E : Value -> Shared -> Prop}{s : Shared}{tg : Expr}{it : Addr}{u : Value}{o : Obj}{n : String}{vs : Array Value}{Q : Unit -> Shared -> Prop}(ho : s.heap.get? it = some o)(hc : o.cls = .type n)(hd : o.data = .fields vs)
    (hn : ["enumerate", "zip", "dict_itemiterator", "dict_reverseitemiterator", "odict_iterator", "itertools.zip_longest", "itertools.pairwise"].contains n = false) (hQ : Q () s) : wpAny M A (letOwnedTupleGo tg (.ref it) u) Q E s := by
  unfold letOwnedTupleGo
  cases tg <;> first
    | exact wpAny_pure hQ
    | (cases u <;> first
        | exact wpAny_pure hQ
        | (refine wpAny_bind (wpAny_load ho ?_)
           rw [hc, hd]
           show wpAny M A (if (["enumerate", "zip", "dict_itemiterator", "dict_reverseitemiterator", "odict_iterator", "itertools.zip_longest", "itertools.pairwise"].contains n && vs[0]? == some (rawInt _)) = true then _ else _) Q E s
           rw [if_neg (by intro h; rw [hn, Bool.false_and] at h; cases h)]
           exact wpAny_pure hQ))
noncomputable def Itl(K:Frag)(a:Addr):It:=
 ⟨fun i H=>∃xs x,SqL K H a xs/\xs[i]?=some x,fun i H x H'=>H'=H/\∀xs,SqL K H a xs->xs[i]?=some x,fun i H=>∃xs,SqL K H a xs/\xs.length<=i⟩
noncomputable def Itt(K:Frag)(a:Addr):It:=
 ⟨fun i H=>∃xs x,SqT K H a xs/\xs[i]?=some x,fun i H x H'=>H'=H/\∀xs,SqT K H a xs->xs[i]?=some x,fun i H=>∃xs,SqT K H a xs/\xs.length<=i⟩
noncomputable def Itr(lo:Int)(n:Nat):It:=⟨fun i _=>i < n,fun i H x H'=>H'=H/\x= .int (lo+i),fun i _=>n<=i⟩
theorem X3{P:Program}{w:World}{K:Frag}{tg:Expr}(a it:Addr):Turn P w K tg (Itl K a) [it] it (fun i h=>h.IsListIter it a i) where
 mem:=by simp
 obj:=fun i h st b hb=>by
  have e:b=it:=by simpa using hb
  subst e
  obtain⟨o,e,c,d⟩:=st
  exact⟨o,e,fun v z=>by rw[d]at z;cases z⟩
 keep:=fun i h h' st k=>st.at fun o e=>k it (by simp) o e
 item:=by
  intro X hP hw hK hc i pins s σ H E I hf st hg
  subst hP hw hK
  obtain⟨xs,x,hq,hx⟩:=hg
  obtain⟨its,rv,p,hz⟩:=I.list hq
  obtain⟨u,hu,ru⟩:=rv.get hx
  obtain⟨f0,f1,f2,f3,f4,f5⟩:=hf it (by simp)
  refine wpAny_pyNext_list_item st p.isList (x:=u) (by simpa using hu) fun h' st' sb=>?_
  have I1:Inv X pins σ H { s with heap:=h' }:=I.turned (t':=s.toks) (fun b o hb e=>(sb.2 b hb).trans e) f0 f1 f3 f4 f5
  obtain⟨o,e,c,d⟩:=id st'
  exact⟨u,rfl,Xl (s:={ s with heap:=h' }) e c d (by decide) ⟨x,H,I1,ru,⟨rfl,fun ys hy=>by rw[I.list_inj hy hq];exact hx⟩,st',fun b hb=>(hf b hb).1⟩⟩
 done:=by
  intro X hP hw hK hc i pins s σ H E I hf st hg
  subst hP hw hK
  obtain⟨xs,hq,hx⟩:=hg
  obtain⟨its,rv,p,hz⟩:=I.list hq
  obtain⟨f0,f1,f2,f3,f4,f5⟩:=hf it (by simp)
  have hl:=rv.length
  exact wpAny_pyNext_list_end (I.ok.hd hc) st p.isList (by simp;omega) fun h' eb=>⟨rfl,I.turned (t':=s.toks) (fun b o hb e=>eb b o hb e) f0 f1 f3 f4 f5⟩
 self:=fun _ _ _ _ _ st h=>wpAny_pyIter_listiter st h
theorem QJ{P:Program}{w:World}{K:Frag}{tg:Expr}(a it:Addr):Turn P w K tg (Itt K a) [it] it (fun i h=>h.IsTupleIter it a i) where
 mem:=by simp
 obj:=fun i h st b hb=>by
  have e:b=it:=by simpa using hb
  subst e
  obtain⟨o,e,c,d⟩:=st
  exact⟨o,e,fun v z=>by rw[d]at z;cases z⟩
 keep:=fun i h h' st k=>st.at fun o e=>k it (by simp) o e
 item:=by
  intro X hP hw hK hc i pins s σ H E I hf st hg
  subst hP hw hK
  obtain⟨xs,x,hq,hx⟩:=hg
  obtain⟨its,rv,p,hz⟩:=I.tuple hq
  obtain⟨u,hu,ru⟩:=rv.get hx
  obtain⟨f0,f1,f2,f3,f4,f5⟩:=hf it (by simp)
  refine wpAny_pyNext_tuple_item st (show s.heap.IsTuple a its.toArray from p) (x:=u) (by simpa using hu) fun h' st' sb=>?_
  have I1:Inv X pins σ H { s with heap:=h' }:=I.turned (t':=s.toks) (fun b o hb e=>(sb.2 b hb).trans e) f0 f1 f3 f4 f5
  obtain⟨o,e,c,d⟩:=id st'
  exact⟨u,rfl,Xl (s:={ s with heap:=h' }) e c d (by decide) ⟨x,H,I1,ru,⟨rfl,fun ys hy=>by rw[I.tuple_inj hy hq];exact hx⟩,st',fun b hb=>(hf b hb).1⟩⟩
 done:=by
  intro X hP hw hK hc i pins s σ H E I hf st hg
  subst hP hw hK
  obtain⟨xs,hq,hx⟩:=hg
  obtain⟨its,rv,p,hz⟩:=I.tuple hq
  obtain⟨f0,f1,f2,f3,f4,f5⟩:=hf it (by simp)
  have hl:=rv.length
  exact wpAny_pyNext_tuple_end (I.ok.hd hc) st (show s.heap.IsTuple a its.toArray from p) (by simp;omega) fun h' eb=>⟨rfl,I.turned (t':=s.toks) (fun b o hb e=>eb b o hb e) f0 f1 f3 f4 f5⟩
 self:=fun _ _ _ _ _ st h=>wpAny_pyIter_tupleiter st h
theorem QK{P:Program}{w:World}{K:Frag}{tg:Expr}(it:Addr)(lo:Int)(n:Nat):Turn P w K tg (Itr lo n) [it] it (fun i h=>IsRangeIter h it (lo+(i:Nat)*1) ((n:Int) - (i:Nat)) 1) where
 mem:=by simp
 obj:=fun i h st b hb=>by
  have e:b=it:=by simpa using hb
  subst e
  exact⟨_,st,fun v z=>by
   have z':Data.fields _=Data.cell v:=z
   cases z'⟩
 keep:=fun i h h' st k=>k it (by simp) _ st
 item:=by
  intro X hP hw hK hc i pins s σ H E I hf st hg
  subst hP hw hK
  obtain⟨f0,f1,f2,f3,f4,f5⟩:=hf it (by simp)
  have W:=Walks.range (prog:=X.prog) (w:=X.w) (I.ok.hd hc) it lo 1 n
  refine W.item i s _ _ hg st fun v h' tk hv st' kk=>?_
  obtain⟨t,rfl⟩:=hv
  have I1:Inv X pins σ H { s with heap:=h',toks:=tk }:=I.turned (fun b o hb e=>kk b o (by simpa using hb) e) f0 f1 f3 f4 f5
  refine⟨_,rfl,Xl (s:={ s with heap:=h',toks:=tk }) (n:="range_iterator") st' rfl rfl (by decide) ⟨.int (lo+i),H,I1,⟨t,?_⟩,⟨rfl,rfl⟩,st',fun b hb=>(hf b hb).1⟩⟩
  rw[Int.mul_one]
 done:=by
  intro X hP hw hK hc i pins s σ H E I hf st hg
  subst hP hw hK
  obtain⟨f0,f1,f2,f3,f4,f5⟩:=hf it (by simp)
  exact wpAny_pyNext_range_end (I.ok.hd hc) st (by have:n<=i:=hg;omega) fun h' eb=>⟨rfl,I.turned (t':=s.toks) (fun b o hb e=>eb b o hb e) f0 f1 f3 f4 f5⟩
 self:=fun _ _ _ _ _ st h=>wpAny_pyIter_rangeiter st h
section
variable {X:Cx}{tg:Expr}
def iList(K:Frag)(tl:TE):TI:=fun σ H R=>tl σ H fun x H1=>∃a,x= .ref a/\(∃xs,SqL K H1 a xs)/\R (Itl K a) H1
def iTup(K:Frag)(tl:TE):TI:=fun σ H R=>tl σ H fun x H1=>∃a,x= .ref a/\(∃xs,SqT K H1 a xs)/\R (Itt K a) H1
theorem zS{l:Expr}{tl:TE}(hl:PE X l tl):PI X tg l (iList X.K tl):=by
 intro pins s σ H R I h
 refine thn (hl pins s σ H _ I h) fun v s1 ⟨x,H1,I1,r1,q1⟩=>?_
 obtain⟨a,e,⟨xs,hq⟩,q⟩:=q1
 subst e
 cases r1
 obtain⟨its,rv,p,hz⟩:=I1.list hq
 refine wpAny_pyIter_list p.isList ?_
 refine⟨s1.heap.objs.size,[s1.heap.objs.size],_,_,H1,rfl,I1.kept (t':=s1.toks) fun b o e=>Heap.get?_push_of_some _ e,X3 a _,⟨_,Heap.get?_push_size _ rfl,rfl,rfl⟩,fun b hb=>?_,q⟩
 have e:b=s1.heap.objs.size:=by simpa using hb
 subst e
 exact I1.fpOk (Nat.le_refl _) (I1.hok.fresh (Nat.le_refl _))
theorem zj{l:Expr}{tl:TE}(hl:PE X l tl):PI X tg l (iTup X.K tl):=by
 intro pins s σ H R I h
 refine thn (hl pins s σ H _ I h) fun v s1 ⟨x,H1,I1,r1,q1⟩=>?_
 obtain⟨a,e,⟨xs,hq⟩,q⟩:=q1
 subst e
 cases r1
 obtain⟨its,rv,p,hz⟩:=I1.tuple hq
 refine wpAny_pyIter_tuple (show s1.heap.IsTuple a its.toArray from p) ?_
 refine⟨s1.heap.objs.size,[s1.heap.objs.size],_,_,H1,rfl,I1.kept (t':=s1.toks) fun b o e=>Heap.get?_push_of_some _ e,QJ a _,⟨_,Heap.get?_push_size _ rfl,rfl,rfl⟩,fun b hb=>?_,q⟩
 have e:b=s1.heap.objs.size:=by simpa using hb
 subst e
 exact I1.fpOk (Nat.le_refl _) (I1.hok.fresh (Nat.le_refl _))
theorem Zl{pins:List (Addr×Obj)}{σ:St}{H:Hp}{s:Shared}{R:It->Hp->Prop}{E:Value->Shared->Prop}{lo hi:Int}{t u v:Tok}{tk:Nat}(I:Inv X pins σ H s)(h1: -(2 ^ 62)<=lo)(h2:lo < 2 ^ 62)(h3: -(2 ^ 62)<=hi)(h4:hi < 2 ^ 62)
  (q:R (Itr lo (hi - lo).toNat) H):wpAny (model X.prog X.w) X.A (pyIter (.ref s.heap.objs.size)) (PIE X pins σ tg R) E { s with heap:=s.heap.push { cls:=.type "range",data:=.fields #[.int lo t,.int hi u,.int 1 v] },toks:=tk }:=by
 refine wpAny_pyIter_range (IsRange.new ..) (small_one h1 h2 h3 h4) ?_
 have I1:Inv X pins σ H { s with heap:=s.heap.push { cls:=.type "range",data:=.fields #[.int lo t,.int hi u,.int 1 v] },toks:=tk }:=I.kept fun b o e=>Heap.get?_push_of_some _ e
 refine⟨(s.heap.push { cls:=.type "range",data:=.fields #[.int lo t,.int hi u,.int 1 v] }).objs.size,[(s.heap.push { cls:=.type "range",data:=.fields #[.int lo t,.int hi u,.int 1 v] }).objs.size],_,_,H,rfl,
  I1.kept (t':=tk) fun b o e=>Heap.get?_push_of_some _ e,QK _ lo (hi - lo).toNat,?_,fun b hb=>?_,q⟩
 ·have e1:lo+((0:Nat):Int)*1=lo:=by simp
  have e2:(((hi - lo).toNat:Nat):Int) - ((0:Nat):Int)=Builtin.Range.rangeSize lo hi 1:=by rw[rangeSize_one];split<;>omega
  show IsRangeIter _ _ (lo+((0:Nat):Int)*1) ((((hi - lo).toNat:Nat):Int) - ((0:Nat):Int)) 1
  rw[e1,e2]
  exact Heap.get?_push_size _ rfl
 ·have e:b=(s.heap.push { cls:=.type "range",data:=.fields #[.int lo t,.int hi u,.int 1 v] }).objs.size:=by simpa using hb
  subst e
  exact I1.fpOk (Nat.le_refl _) (I1.hok.fresh (Nat.le_refl _))
def iRng1(ta:TA):TI:=fun σ H R=>ta σ H fun vs H1=>∃j:Int,vs=[.int j]/\ -(2 ^ 62)<=j/\j < 2 ^ 62/\R (Itr 0 j.toNat) H1
theorem ke{a:Expr}{ta:TA}{p pos:Pos}(hg:Gl X "range")(hm:X.mg "range"=none)(ha:PA X [a] ta)(hs:starEach [a] X.env=[(false,eval a X.env)]:=by rfl):PI X tg (.Call (.Name "range" p) [a] [] pos) (iRng1 ta):=by
 intro pins s σ H R I h
 refine Call_ (zi I hg hm boot_range (PyProof.Rows.callWith_type1 (thn (ha pos pins s σ H _ I h) fun us s1 ⟨vs,H1,I1,r1,q1⟩=>?_) hs rfl))
 obtain⟨j,e,q1,q2,q⟩:=q1
 subst e
 cases r1 with
 |cons r rr=>
  cases rr
  obtain⟨t,rfl⟩:=r
  exact call_range_1 (Zl I1 (by omega) (by omega) q1 q2 (by simpa using q))
def tFor(wi:TI)(g:TG)(tb:TS):TS:=fun D σ H=>wi σ H fun J H1=>∃W:Nat->Nat->St->Hp->Prop,(∃m,W 0 m σ H1)/\∀i m σ H,W i m σ H->
 (J.stop i H/\D.nx σ H)∨(J.go i H/\∃N:St->Hp->Prop,(∀σ' H',N σ' H'->∃m',m' < m/\W (i+1) m' σ' H')/\∀x H',J.yld i H x H'->g x σ H' fun σ2 H2=>tb { D with nx:=N,ct:=N,bk:=D.nx } σ2 H2)
noncomputable def pinsAt(fp:List Addr)(h:Heap):List (Addr×Obj):=fp.filterMap fun b=>(h.get? b).map fun o=>(b,o)
theorem kH{fp:List Addr}{h:Heap}{b:Addr}{o:Obj}(hb:b∈fp)(e:h.get? b=some o):(b,o)∈pinsAt fp h:=List.mem_filterMap.mpr ⟨b,hb,by rw[e];rfl⟩
theorem X4{fp:List Addr}{h:Heap}{p:Addr×Obj}(hp:p∈pinsAt fp h):p.1∈fp/\h.get? p.1=some p.2:=by
 obtain⟨b,hb,e⟩:=List.mem_filterMap.mp hp
 cases q:h.get? b with
 |none=>rw[q]at e;cases e
 |some o=>
  rw[q]at e
  have e':(b,o)=p:=Option.some.inj e
  subst e'
  exact⟨hb,q⟩
theorem Inv.pinned{pins:List (Addr×Obj)}{σ:St}{H:Hp}{s:Shared}{fp:List Addr}(I:Inv X pins σ H s)(hf:∀b∈fp,FpOk X pins H b)(ho:∀b∈fp,∃o,s.heap.get? b=some o/\∀v,o.data≠ .cell v):Inv X (pins++pinsAt fp s.heap) σ H s:=
 I.pins_of fun p hp=>(List.mem_append.mp hp).elim (fun z=>I.pin p (List.mem_append_right _ z)) fun z=>by
  obtain⟨hb,e⟩:=X4 z
  obtain⟨f0,f1,f2,_⟩:=hf p.1 hb
  obtain⟨o,e',d⟩:=ho p.1 hb
  rw[e]at e';cases e'
  exact⟨e,f0,f1,f2,d⟩
theorem Inv.unpinned{pins pl:List (Addr×Obj)}{σ:St}{H:Hp}{s:Shared}(I:Inv X (pins++pl) σ H s):Inv X pins σ H s:=I.pins_of fun p hp=>I.pin p (List.mem_append_right _ (List.mem_append_left _ hp))
theorem kl{iter:Expr}{body:List Stmt}{wi:TI}{g:TG}{tb:TS}{pos:Pos}(hp:PassesOwn (model X.prog X.w) X.A X.env X.xe)(hc:X.calm=true)(hi:PI X tg iter wi)(hg:PG X tg g)(hb:PSs X body tb)
  (hs:∀x,foldedSetIterable iter X.env x=pure x:=by intro _;rfl):PS X (.For tg iter body [] pos) (tFor wi g tb):=by
 intro pins s σ H D I h
 refine wpAny_For (thn (hi pins s σ H _ I h) fun v s1 h1=>thn h1 fun itv s2 h2=>?_) hs
 obtain⟨it,fp,tn,J,H2,e,I2,T,st2,f2,W,⟨m0,w0⟩,turn⟩:=h2
 subst e
 have stat:∀{H':Hp},(∀b∈fp,H' b=none)->∀b∈fp,FpOk X pins H' b:=fun hn b hb=>⟨hn b hb,(f2 b hb).2⟩
 refine codeAny_forLoop_any (fun n s'=>∃i σ' H',Inv X pins σ' H' s'/\tn i s'.heap/\(∀b∈fp,H' b=none)/\W i n σ' H') ?_ m0 ⟨0,σ,H2,I2,st2,fun b hb=>(f2 b hb).1,w0⟩
 rintro n s3 ⟨i,σ3,H3,I3,st3,fr3,w3⟩
 rcases turn i n σ3 H3 w3 with ⟨stop,qn⟩ | ⟨go,N,hN,step⟩
 ·refine wpAny_passesOwn hp (thn (T.done X rfl rfl rfl hc i pins s3 σ3 H3 X.xe I3 (stat fr3) st3 stop) fun r s4 ⟨hr,I4⟩=>?_)
  subst hr
  exact wpAny_execs_nil ⟨σ3,H3,I4,qn⟩
 ·refine wpAny_passesOwn hp (thn (T.item X rfl rfl rfl hc i pins s3 σ3 H3 X.xe I3 (stat fr3) st3 go) fun r s4 ⟨u,hr,h4⟩=>?_)
  subst hr
  refine wpAny_passesOwn hp (thn h4 fun _ s5 ⟨x,H5,I5,r5,y5,st5,fr5⟩=>?_)
  have I5':=I5.pinned (stat fr5) (T.obj _ _ st5)
  refine wpAny_passesOwn hp (thn (hg _ s5 σ3 H5 x u _ I5' r5 (step x H5 y5)) fun _ s6 ⟨σ6,H6,I6,q6⟩=>?_)
  refine wpAny_passesOwn hp (thn (hb _ s6 σ6 H6 _ I6 q6) fun f s7 q7=>?_)
  have again:∀{σ7:St} {H7:Hp},Inv X (pins++pinsAt fp s5.heap) σ7 H7 s7->N σ7 H7->∃m,m < n/\∃i σ' H',Inv X pins σ' H' s7/\tn i s7.heap/\(∀b∈fp,H' b=none)/\W i m σ' H':=fun {σ7 H7} I7 n7=>by
   obtain⟨m',hm,w7⟩:=hN σ7 H7 n7
   refine⟨m',hm,i+1,σ7,H7,I7.unpinned,T.keep _ _ _ st5 fun b hb o e=>(I7.pin (b,o) (List.mem_append_right _ (List.mem_append_right _ (kH hb e)))).1,fun b hb=>?_,w7⟩
   obtain⟨o,e,d⟩:=T.obj _ _ st5 b hb
   exact(I7.pin (b,o) (List.mem_append_right _ (List.mem_append_right _ (kH hb e)))).2.1
  cases f with
  |next=>obtain⟨σ7,H7,I7,n7⟩:=q7;exact again I7 n7
  |cont=>obtain⟨σ7,H7,I7,n7⟩:=q7;exact again I7 n7
  |brk=>obtain⟨σ7,H7,I7,q7⟩:=q7;exact⟨σ7,H7,I7.unpinned,q7⟩
  |ret v=>obtain⟨x7,σ7,H7,I7,r7,q7⟩:=q7;exact⟨x7,σ7,H7,I7.unpinned,r7,q7⟩
end
theorem Zm{K:Frag}{a:Addr}{xs:List V}{g:TG}{tb:TS}{D:Ends}{σ:St}{H:Hp}(Pv:Nat->St->Hp->Prop)(h0:Pv 0 σ H)(hl:∀i σ H,i<=xs.length->Pv i σ H->SqL K H a xs)
  (hs:∀i x σ H,xs[i]?=some x->Pv i σ H->g x σ H fun σ2 H2=>tb { D with nx:=Pv (i+1),ct:=Pv (i+1),bk:=D.nx } σ2 H2) (hd:∀σ H,Pv xs.length σ H->D.nx σ H):
  ∃W:Nat->Nat->St->Hp->Prop,(∃m,W 0 m σ H)/\∀i m σ H,W i m σ H->
   ((Itl K a).stop i H/\D.nx σ H)∨((Itl K a).go i H/\∃N:St->Hp->Prop,(∀σ' H',N σ' H'->∃m',m' < m/\W (i+1) m' σ' H')/\∀x H',(Itl K a).yld i H x H'->g x σ H' fun σ2 H2=>tb { D with nx:=N,ct:=N,bk:=D.nx } σ2 H2):=by
 refine⟨fun i m σ H=>m=xs.length - i/\i<=xs.length/\Pv i σ H,⟨xs.length,by simp,Nat.zero_le _,h0⟩,?_⟩
 rintro i m σ H ⟨rfl,hi,p⟩
 have q:=hl i σ H hi p
 by_cases hlt:i < xs.length
 ·refine .inr ⟨⟨xs,xs[i],q,by simp [hlt]⟩,Pv (i+1),fun σ' H' p'=>⟨xs.length - (i+1),by omega,rfl,hlt,p'⟩,fun x H' y=>?_⟩
  obtain⟨e,y⟩:=y
  subst e
  exact hs i x σ _ (y xs q) p
 ·have e:i=xs.length:=by omega
  subst e
  exact .inl ⟨⟨xs,q,Nat.le_refl _⟩,hd σ H p⟩
theorem for_tup{K:Frag}{a:Addr}{xs:List V}{g:TG}{tb:TS}{D:Ends}{σ:St}{H:Hp}(Pv:Nat->St->Hp->Prop)(h0:Pv 0 σ H)(hl:∀i σ H,i<=xs.length->Pv i σ H->SqT K H a xs)
  (hs:∀i x σ H,xs[i]?=some x->Pv i σ H->g x σ H fun σ2 H2=>tb { D with nx:=Pv (i+1),ct:=Pv (i+1),bk:=D.nx } σ2 H2) (hd:∀σ H,Pv xs.length σ H->D.nx σ H):
  ∃W:Nat->Nat->St->Hp->Prop,(∃m,W 0 m σ H)/\∀i m σ H,W i m σ H->
   ((Itt K a).stop i H/\D.nx σ H)∨((Itt K a).go i H/\∃N:St->Hp->Prop,(∀σ' H',N σ' H'->∃m',m' < m/\W (i+1) m' σ' H')/\∀x H',(Itt K a).yld i H x H'->g x σ H' fun σ2 H2=>tb { D with nx:=N,ct:=N,bk:=D.nx } σ2 H2):=by
 refine⟨fun i m σ H=>m=xs.length - i/\i<=xs.length/\Pv i σ H,⟨xs.length,by simp,Nat.zero_le _,h0⟩,?_⟩
 rintro i m σ H ⟨rfl,hi,p⟩
 have q:=hl i σ H hi p
 by_cases hlt:i < xs.length
 ·refine .inr ⟨⟨xs,xs[i],q,by simp [hlt]⟩,Pv (i+1),fun σ' H' p'=>⟨xs.length - (i+1),by omega,rfl,hlt,p'⟩,fun x H' y=>?_⟩
  obtain⟨e,y⟩:=y
  subst e
  exact hs i x σ _ (y xs q) p
 ·have e:i=xs.length:=by omega
  subst e
  exact .inl ⟨⟨xs,q,Nat.le_refl _⟩,hd σ H p⟩
theorem Kb{lo:Int}{n:Nat}{g:TG}{tb:TS}{D:Ends}{σ:St}{H:Hp}(Pv:Nat->St->Hp->Prop)(h0:Pv 0 σ H)
  (hs:∀i σ H,i < n->Pv i σ H->g (.int (lo+i)) σ H fun σ2 H2=>tb { D with nx:=Pv (i+1),ct:=Pv (i+1),bk:=D.nx } σ2 H2) (hd:∀σ H,Pv n σ H->D.nx σ H):
  ∃W:Nat->Nat->St->Hp->Prop,(∃m,W 0 m σ H)/\∀i m σ H,W i m σ H->
   ((Itr lo n).stop i H/\D.nx σ H)∨((Itr lo n).go i H/\∃N:St->Hp->Prop,(∀σ' H',N σ' H'->∃m',m' < m/\W (i+1) m' σ' H')/\∀x H',(Itr lo n).yld i H x H'->g x σ H' fun σ2 H2=>tb { D with nx:=N,ct:=N,bk:=D.nx } σ2 H2):=by
 refine⟨fun i m σ H=>m=n - i/\i<=n/\Pv i σ H,⟨n,by simp,Nat.zero_le _,h0⟩,?_⟩
 rintro i m σ H ⟨rfl,hi,p⟩
 by_cases hlt:i < n
 ·refine .inr ⟨hlt,Pv (i+1),fun σ' H' p'=>⟨n - (i+1),by omega,rfl,hlt,p'⟩,fun x H' y=>?_⟩
  obtain⟨e,y⟩:=y
  subst e y
  exact hs i σ _ hlt p
 ·have e:i=n:=by omega
  subst e
  exact .inl ⟨Nat.le_refl _,hd σ H p⟩
abbrev R2:=V->V->Hp->VK->Prop
def OpR(X:Cx)(f:Value->Value->Sem Value)(r:R2):Prop:=
 ∀(pins:List (Addr×Obj)) (s:Shared) (σ:St) (H:Hp) (x y:V) (v u:Value) (Q:VK),Inv X pins σ H s->RelV x v->RelV y u->r x y H Q->
  wpAny (model X.prog X.w) X.A (f v u) (EP X pins σ Q) X.xe s
def UnR(X:Cx)(f:Value->Sem Value)(r:V->Hp->VK->Prop):Prop:=
 ∀(pins:List (Addr×Obj)) (s:Shared) (σ:St) (H:Hp) (x:V) (v:Value) (Q:VK),Inv X pins σ H s->RelV x v->r x H Q->
  wpAny (model X.prog X.w) X.A (f v) (EP X pins σ Q) X.xe s
def CallR(X:Cx)(f:Value)(r:List V->Hp->VK->Prop):Prop:=
 ∀(pins:List (Addr×Obj)) (s:Shared) (σ:St) (H:Hp) (xs:List V) (us:List Value) (Q:VK),Inv X pins σ H s->Vals xs us->r xs H Q->
  wpAny (model X.prog X.w) X.A (call f us) (EP X pins σ Q) X.xe s
def TruR(X:Cx)(r:V->Hp->(Bool->Hp->Prop)->Prop):Prop:=
 ∀(pins:List (Addr×Obj)) (s:Shared) (σ:St) (H:Hp) (x:V) (v:Value) (Q:Bool->Hp->Prop),Inv X pins σ H s->RelV x v->r x H Q->
  wpAny (model X.prog X.w) X.A (truthy v) (TP X pins σ Q) X.xe s
def tOp(r:R2)(ta tb:TE):TE:=fun σ H Q=>ta σ H fun x H1=>tb σ H1 fun y H2=>r x y H2 Q
def tUn(r:V->Hp->VK->Prop)(ta:TE):TE:=fun σ H Q=>ta σ H fun x H1=>r x H1 Q
def rI(C:Int->Int->Prop)(g:Int->Int->V):R2:=fun x y H Q=>∃i j,x= .int i/\y= .int j/\C i j/\Q (g i j) H
def rI0(g:Int->Int->V):R2:=fun x y H Q=>∃i j,x= .int i/\y= .int j/\Q (g i j) H
def rU(g:Int->V):V->Hp->VK->Prop:=fun x H Q=>∃i,x= .int i/\Q (g i) H
section
variable {X:Cx}{a b c:Expr}{ta tb tc:TE}{pos:Pos}
theorem binT(ha:PE X a ta)(hb:PE X b tb){pins:List (Addr×Obj)}{s:Shared}{σ:St}{H:Hp}{R:V->V->Hp->Prop}(I:Inv X pins σ H s)
  (h:ta σ H fun x H1=>tb σ H1 fun y H2=>R x y H2) {Q:Value->Shared->Prop} {f:Value->Value->Sem Value}
  (hf:∀v u s2 x y H2,Inv X pins σ H2 s2->RelV x v->RelV y u->R x y H2->wpAny (model X.prog X.w) X.A (f v u) Q X.xe s2):
  wpAny (model X.prog X.w) X.A (eval a X.env) (fun v s₁=>wpAny (model X.prog X.w) X.A (eval b X.env) (fun u s₂=>wpAny (model X.prog X.w) X.A (f v u) Q X.xe s₂) X.xe s₁) X.xe s:=by
 refine thn (ha pins s σ H _ I h) fun v s1 ⟨x,H1,I1,r1,q1⟩=>?_
 refine thn (hb pins s1 σ H1 _ I1 q1) fun u s2 ⟨y,H2,I2,r2,q2⟩=>?_
 exact hf v u s2 x y H2 I2 r1 r2 q2
theorem jw{op:Operator}{r:R2}(ho:OpR X (binaryOp op) r)(ha:PE X a ta)(hb:PE X b tb):PE X (.BinOp a op b pos) (tOp r ta tb):=by
 intro pins s σ H Q I h
 exact wpAny_BinOp (binT ha hb I h fun v u s2 x y H2 I2 rx ry q=>ho pins s2 σ H2 x y v u Q I2 rx ry q)
theorem YM{op:UnaryOp}{r:V->Hp->VK->Prop}(ho:UnR X (unaryOp op) r)(ha:PE X a ta):PE X (.UnaryOp op a pos) (tUn r ta):=by
 intro pins s σ H Q I h
 exact UnaryOp_ (thn (ha pins s σ H _ I h) fun v s1 ⟨x,H1,I1,r1,q1⟩=>ho pins s1 σ H1 x v Q I1 r1 q1)
theorem opI{f:Value->Value->Sem Value}{C:Int->Int->Prop}{g:Int->Int->Int}
  (rule:∀(i j:Int) (t u:Tok) (s:Shared) (Q:Value->Shared->Prop) (E:Value->Shared->Prop),C i j->Q (.int (g i j) s.toks) { s with toks:=s.toks+1 }->wpAny (model X.prog X.w) X.A (f (.int i t) (.int j u)) Q E s):
  OpR X f (rI C fun i j=>.int (g i j)):=by
 intro pins s σ H x y v u Q I rx ry h
 obtain⟨i,j,rfl,rfl,hc,q⟩:=h
 obtain⟨t,rfl⟩:=rx
 obtain⟨t',rfl⟩:=ry
 exact rule i j t t' s _ _ hc ⟨.int (g i j),H,I.tok _,⟨_,rfl⟩,q⟩
theorem opI0{f:Value->Value->Sem Value}{g:Int->Int->Int}
  (rule:∀(i j:Int) (t u:Tok) (s:Shared) (Q:Value->Shared->Prop) (E:Value->Shared->Prop),Q (.int (g i j) s.toks) { s with toks:=s.toks+1 }->wpAny (model X.prog X.w) X.A (f (.int i t) (.int j u)) Q E s):
  OpR X f (rI0 fun i j=>.int (g i j)):=by
 intro pins s σ H x y v u Q I rx ry h
 obtain⟨i,j,rfl,rfl,q⟩:=h
 obtain⟨t,rfl⟩:=rx
 obtain⟨t',rfl⟩:=ry
 exact rule i j t t' s _ _ ⟨.int (g i j),H,I.tok _,⟨_,rfl⟩,q⟩
theorem opB0{f:Value->Value->Sem Value}{g:Int->Int->Bool}
  (rule:∀(i j:Int) (t u:Tok) (s:Shared) (Q:Value->Shared->Prop) (E:Value->Shared->Prop),Q (.bool (g i j)) s->wpAny (model X.prog X.w) X.A (f (.int i t) (.int j u)) Q E s):
  OpR X f (rI0 fun i j=>.bl (g i j)):=by
 intro pins s σ H x y v u Q I rx ry h
 obtain⟨i,j,rfl,rfl,q⟩:=h
 obtain⟨t,rfl⟩:=rx
 obtain⟨t',rfl⟩:=ry
 exact rule i j t t' s _ _ ⟨.bl (g i j),H,I,rfl,q⟩
def CPow(i j:Int):Prop:=0<=j/\j<=1000000/\i.natAbs < 2 ^ 64
def CMul(i j:Int):Prop:=(-(2 ^ 64) < i/\i < 2 ^ 64)∨(-(2 ^ 64) < j/\j < 2 ^ 64)
theorem CMul.ok{i j:Int}(h:CMul i j):IntMulOk i j:=by
 rcases h with ⟨h1,h2⟩ | ⟨h1,h2⟩
 ·exact .of_left (intBits_le_64 h1 h2)
 ·exact .of_right (intBits_le_64 h1 h2)
theorem jS:OpR X (binaryOp .Add) (rI0 fun i j=>.int (i+j)):=opI0 fun _ _ _ _ _ _ _ q=>add_int q
theorem kR:OpR X (binaryOp .Sub) (rI0 fun i j=>.int (i - j)):=opI0 fun _ _ _ _ _ _ _ q=>sub_int q
theorem kS:OpR X (binaryOp .Mult) (rI CMul fun i j=>.int (i*j)):=opI fun _ _ _ _ _ _ _ hc q=>mul_int q hc.ok
theorem kr:OpR X (binaryOp .Mod) (rI (fun _ j=>0 < j) fun i j=>.int (i % j)):=opI fun i j _ _ _ _ _ hc q=>by
 have h1:(0:Int) < j:=hc
 exact mod_int' (by omega) (by rw[Int.fmod_eq_emod_of_nonneg i (by omega)];exact q)
theorem Jr:OpR X (binaryOp .Pow) (rI CPow fun i j=>.int (i ^ j.toNat)):=opI fun _ _ _ _ _ _ _ hc q=>pow_int_small hc.1 hc.2.1 hc.2.2 q
theorem unI{f:Value->Sem Value}{g:Int->Int}
  (rule:∀(i:Int) (t:Tok) (s:Shared) (Q:Value->Shared->Prop) (E:Value->Shared->Prop),Q (.int (g i) s.toks) { s with toks:=s.toks+1 }->wpAny (model X.prog X.w) X.A (f (.int i t)) Q E s):
  UnR X f (rU fun i=>.int (g i)):=by
 intro pins s σ H x v Q I rx h
 obtain⟨i,rfl,q⟩:=h
 obtain⟨t,rfl⟩:=rx
 exact rule i t s _ _ ⟨.int (g i),H,I.tok _,⟨_,rfl⟩,q⟩
theorem QE:UnR X (unaryOp .USub) (rU fun i=>.int (-i)):=unI fun _ _ _ _ _ q=>neg_int q
end
noncomputable def scal:V->V->Bool
 | .non,.non=>true | .non,.int _=>true | .int _,.non=>true | .non,.bl _=>true | .bl _,.non=>true | .non,.str _=>true | .str _,.non=>true
 | .int _,.int _=>true | .bl _,.bl _=>true | .str _,.str _=>true | .byt _,.byt _=>true
 | .int _,.str _=>true | .str _,.int _=>true | .bl _,.str _=>true | .str _,.bl _=>true
 |_,_=>false
def rEq:R2:=fun x y H Q=>scal x y=true/\Q (.bl (decide (x=y))) H
def rNe:R2:=fun x y H Q=>scal x y=true/\Q (.bl (!decide (x=y))) H
theorem Xr{i j:Int}:decide (V.int i=V.int j)=(i==j):=by
 rw[Bool.eq_iff_iff]
 simp
theorem YT{i j:Bool}:decide (V.bl i=V.bl j)=(i==j):=by
 rw[Bool.eq_iff_iff]
 simp
theorem Xs{i j:Str}:decide (V.str i=V.str j)=(i==j):=by
 rw[Bool.eq_iff_iff]
 simp
theorem Xt{i j:Array UInt8}:decide (V.byt i=V.byt j)=(i.toList==j.toList):=by
 rw[Bool.eq_iff_iff]
 cases i
 cases j
 simp
section
variable {X:Cx}{a b c:Expr}{ta tb tc:TE}{pos:Pos}
theorem jM{pins:List (Addr×Obj)}{σ:St}{H:Hp}{s:Shared}{Q:VK}{k k':Bool}(I:Inv X pins σ H s)(q:Q (.bl k) H)(e:k=k'):EP X pins σ Q (.bool k') s:=by
 subst e
 exact⟨.bl k,H,I,rfl,q⟩
theorem jz:OpR X (compareOp .Eq) rEq:=by
 intro pins s σ H x y v u Q I rx ry h
 obtain⟨hs,q⟩:=h
 cases x with
 |non=>
  cases rx
  cases y with
  |non=>cases ry;exact PySem.EqNone.eq_none_none (jM I q (by simp))
  |bl j=>cases ry;exact PySem.EqNone.eq_none_bool (jM I q (by simp))
  |int j=>obtain⟨t',rfl⟩:=ry;exact PySem.EqNone.eq_none_int (jM I q (by simp))
  |str j=>obtain⟨t',rfl⟩:=ry;exact PySem.EqNone.eq_none_str (jM I q (by simp))
  |_=>exact absurd (show false=true from hs) Bool.false_ne_true
 |bl i=>
  cases rx
  cases y with
  |non=>cases ry;exact PySem.EqNone.eq_bool_none (jM I q (by simp))
  |bl j=>cases ry;exact eq_bool (jM I q YT)
  |str j=>obtain⟨t',rfl⟩:=ry;exact PySem.EqMixed.eq_bool_str (jM I q (by simp))
  |_=>exact absurd (show false=true from hs) Bool.false_ne_true
 |int i=>
  obtain⟨t,rfl⟩:=rx
  cases y with
  |non=>cases ry;exact PySem.EqNone.eq_int_none (jM I q (by simp))
  |int j=>obtain⟨t',rfl⟩:=ry;exact eq_int (jM I q Xr)
  |str j=>obtain⟨t',rfl⟩:=ry;exact PySem.EqMixed.eq_int_str (jM I q (by simp))
  |_=>exact absurd (show false=true from hs) Bool.false_ne_true
 |str i=>
  obtain⟨t,rfl⟩:=rx
  cases y with
  |non=>cases ry;exact PySem.EqNone.eq_str_none (jM I q (by simp))
  |bl j=>cases ry;exact PySem.EqMixed.eq_str_bool (jM I q (by simp))
  |int j=>obtain⟨t',rfl⟩:=ry;exact PySem.EqMixed.eq_str_int (jM I q (by simp))
  |str j=>obtain⟨t',rfl⟩:=ry;exact eq_str (jM I q Xs)
  |_=>exact absurd (show false=true from hs) Bool.false_ne_true
 |byt i=>
  obtain⟨t,rfl⟩:=rx
  cases y with
  |byt j=>obtain⟨t',rfl⟩:=ry;exact PySem.W.eq_bytes (jM I q Xt)
  |_=>exact absurd (show false=true from hs) Bool.false_ne_true
 |_=>cases y<;>exact absurd (show false=true from hs) Bool.false_ne_true
theorem Xm:OpR X (compareOp .NotEq) rNe:=by
 intro pins s σ H x y v u Q I rx ry h
 obtain⟨hs,q⟩:=h
 cases x with
 |non=>
  cases rx
  cases y with
  |non=>cases ry;exact PySem.EqNone.ne_none_none (jM I q (by simp))
  |bl j=>cases ry;exact PySem.EqNone.ne_none_bool (jM I q (by simp))
  |int j=>obtain⟨t',rfl⟩:=ry;exact PySem.EqNone.ne_none_int (jM I q (by simp))
  |str j=>obtain⟨t',rfl⟩:=ry;exact PySem.EqNone.ne_none_str (jM I q (by simp))
  |_=>exact absurd (show false=true from hs) Bool.false_ne_true
 |bl i=>
  cases rx
  cases y with
  |non=>cases ry;exact PySem.EqNone.ne_bool_none (jM I q (by simp))
  |bl j=>cases ry;exact ne_bool (jM I q (congrArg not YT))
  |str j=>obtain⟨t',rfl⟩:=ry;exact PySem.EqMixed.ne_bool_str (jM I q (by simp))
  |_=>exact absurd (show false=true from hs) Bool.false_ne_true
 |int i=>
  obtain⟨t,rfl⟩:=rx
  cases y with
  |non=>cases ry;exact PySem.EqNone.ne_int_none (jM I q (by simp))
  |int j=>obtain⟨t',rfl⟩:=ry;exact ne_int (jM I q (congrArg not Xr))
  |str j=>obtain⟨t',rfl⟩:=ry;exact PySem.EqMixed.ne_int_str (jM I q (by simp))
  |_=>exact absurd (show false=true from hs) Bool.false_ne_true
 |str i=>
  obtain⟨t,rfl⟩:=rx
  cases y with
  |non=>cases ry;exact PySem.EqNone.ne_str_none (jM I q (by simp))
  |bl j=>cases ry;exact PySem.EqMixed.ne_str_bool (jM I q (by simp))
  |int j=>obtain⟨t',rfl⟩:=ry;exact PySem.EqMixed.ne_str_int (jM I q (by simp))
  |str j=>obtain⟨t',rfl⟩:=ry;exact ne_str (jM I q (congrArg not Xs))
  |_=>exact absurd (show false=true from hs) Bool.false_ne_true
 |byt i=>
  obtain⟨t,rfl⟩:=rx
  cases y with
  |byt j=>obtain⟨t',rfl⟩:=ry;exact PySem.W.ne_bytes (jM I q (congrArg not Xt))
  |_=>exact absurd (show false=true from hs) Bool.false_ne_true
 |_=>cases y<;>exact absurd (show false=true from hs) Bool.false_ne_true
theorem Jj:OpR X (compareOp .Lt) (rI0 fun i j=>.bl (decide (i < j))):=opB0 fun _ _ _ _ _ _ _ q=>lt_int q
theorem qO:OpR X (compareOp .Gt) (rI0 fun i j=>.bl (decide (j < i))):=opB0 fun _ _ _ _ _ _ _ q=>gt_int q
theorem op_ge:OpR X (compareOp .GtE) (rI0 fun i j=>.bl (decide (j<=i))):=opB0 fun _ _ _ _ _ _ _ q=>ge_int q
theorem nomark(b:Expr){op:CmpOp}(h:op≠ .In:=by decide)(h2:op≠ .NotIn:=by decide):behindInMarks op b=false:=by
 have e1:(op==CmpOp.In)=false:=by cases op<;>first |rfl |exact absurd rfl h
 have e2:(op==CmpOp.NotIn)=false:=by cases op<;>first |rfl |exact absurd rfl h2
 cases b<;>simp [behindInMarks,e1,e2]
theorem ky{op:CmpOp}{r:R2}(ho:OpR X (compareOp op) r)(ha:PE X a ta)(hb:PE X b tb)(hm:behindInMarks op b=false):PE X (.Compare a [op] [b] pos) (tOp r ta tb):=by
 intro pins s σ H Q I h
 exact wpAny_Compare1 (binT ha hb I h fun v u s2 x y H2 I2 rx ry q=>ho pins s2 σ H2 x y v u Q I2 rx ry q) hm
def tTest(t:TE):TT:=fun σ H Q=>t σ H fun x H'=>∃k,x= .bl k/\Q k H'
theorem jl{op:CmpOp}{r:R2}(ho:OpR X (compareOp op) r)(ha:PE X a ta)(hb:PE X b tb)(hm:behindInMarks op b=false):PT X (.Compare a [op] [b] pos) (tTest (tOp r ta tb)):=by
 intro pins s σ H Q I h
 refine wpAny_isTrue_Compare1 (thn (ha pins s σ H _ I h) fun v s1 ⟨x,H1,I1,r1,q1⟩=>thn (hb pins s1 σ H1 _ I1 q1) fun u s2 ⟨y,H2,I2,r2,q2⟩=>
  thn (ho pins s2 σ H2 x y v u _ I2 r1 r2 q2) fun c s3 ⟨z,H3,I3,r3,k,e,q3⟩=>?_) hm
 subst e
 cases r3
 exact wpAny_truthy_bool ⟨H3,I3,q3⟩
def TruV(K:Frag)(x:V)(H:Hp)(k:Bool):Prop:=
 match x with
 | .non=>k=false
 | .bl b=>k=b
 | .int i=>k=(i != 0)
 | .str y=>y.length<=sizeLine/\k=((y.length:Int) != 0)
 | .byt y=>y.size<=sizeLine/\k=((y.size:Int) != 0)
 | .ref p=>(∃xs,SqL K H p xs/\k=!xs.isEmpty)∨(∃xs,SqT K H p xs/\k=!xs.isEmpty)∨∃kvs,H p=some (.dK kvs)/\k=!kvs.isEmpty
 |_=>False
theorem QL{κ:Type}{kvs:List (κ×V)}{vs:List (κ×Value)}(r:KV kvs vs):(!vs.isEmpty)=!kvs.isEmpty:=by
 cases r<;>rfl
theorem JC{xs:List V}{its:List Value}(r:Vals xs its):(!its.toArray.isEmpty)=!xs.isEmpty:=by
 cases r<;>simp
theorem line63:(sizeLine:Nat) < 2 ^ 63:=by rw[sizeLine_eq];decide
theorem tru_ok:TruR X (fun x H Q=>∃k,TruV X.K x H k/\Q k H):=by
 intro pins s σ H x v Q I rx h
 obtain⟨k,e,q⟩:=h
 have hl:=line63
 have hs:sizeLine=16777216:=sizeLine_eq
 cases x with
 |non=>
  cases rx
  have e':k=false:=e
  subst e'
  exact truthy_none ⟨H,I,q⟩
 |bl b=>
  cases rx
  have e':k=b:=e
  subst e'
  exact wpAny_truthy_bool ⟨H,I,q⟩
 |int i=>
  obtain⟨t,rfl⟩:=rx
  have e':k=(i != 0):=e
  subst e'
  exact PySem.P.truthy_int ⟨H,I,q⟩
 |str y=>
  obtain⟨t,rfl⟩:=rx
  obtain⟨hy,e'⟩:y.length<=sizeLine/\k=((y.length:Int) != 0):=e
  subst e'
  exact PySem.P.truthy_str (by omega) ⟨H,I.tok _,q⟩
 |byt y=>
  obtain⟨t,rfl⟩:=rx
  obtain⟨hy,e'⟩:y.size<=sizeLine/\k=((y.size:Int) != 0):=e
  subst e'
  exact PySem.W.truthy_bytes (by omega) ⟨H,I.tok _,q⟩
 |ref p=>
  cases rx
  have e':(∃xs,SqL X.K H p xs/\k=!xs.isEmpty)∨(∃xs,SqT X.K H p xs/\k=!xs.isEmpty)∨∃kvs,H p=some (.dK kvs)/\k=!kvs.isEmpty:=e
  rcases e' with ⟨xs,hx,e'⟩ | ⟨xs,hx,e'⟩ | ⟨kvs,hx,e'⟩
  ·subst e'
   obtain⟨its,r,pl,hz⟩:=I.list hx
   have hlen:=r.length
   exact wpAny_truthy_list pl.isList (by simp only[List.size_toArray];omega) ⟨H,I.tok _,by rw[JC r];exact q⟩
  ·subst e'
   obtain⟨its,r,pl,hz⟩:=I.tuple hx
   have hlen:=r.length
   exact truthy_tuple pl (by simp only[List.size_toArray];omega) ⟨H,I.tok _,by rw[JC r];exact q⟩
  ·subst e'
   obtain⟨hz,hS,vs,r,m⟩:kvs.length<=sizeLine/\(p==sysModules)=false/\∃vs,KV kvs vs/\s.heap.DictOf (mixKind X.prog X.w) p vs:=I.hok p _ hx
   have hlen:kvs.length=vs.length:=Paired.length r
   exact wpAny_truthy_dict hS m (by omega) ⟨H,I.tok _,by rw[QL r];exact q⟩
 |_=>exact(show False from e).elim
theorem Zn(ha:PE X a ta)(he:∀whole,isTrue a X.env whole=(do let v <- whole;standAt a.pos;holding [v] (truthy v))):
  PT X a (fun σ H Q=>ta σ H fun x H'=>∃k,TruV X.K x H' k/\Q k H'):=by
 intro pins s σ H Q I h
 exact isTrue_plain (thn (ha pins s σ H _ I h) fun v s1 ⟨x,H1,I1,r1,q1⟩=>tru_ok pins s1 σ H1 x v Q I1 r1 q1) (he _)
theorem km:OpR X (binaryOp .Add) (fun x y H Q=>∃i j,x= .str i/\y= .str j/\i.length+j.length<=sizeLine/\Q (.str (i++j)) H):=by
 intro pins s σ H x y v u Q I rx ry h
 obtain⟨i,j,rfl,rfl,hz,q⟩:=h
 obtain⟨t,rfl⟩:=rx
 obtain⟨t',rfl⟩:=ry
 exact add_str (fun t' tk=>⟨.str (i++j),H,I.tok _,⟨_,rfl⟩,q⟩) hz
theorem vals1{x:V}{us:List Value}(r:Vals [x] us):∃u,us=[u]/\RelV x u:=by
 cases r with
 |cons r1 r2=>cases r2;exact⟨_,rfl,r1⟩
theorem vals2{x y:V}{us:List Value}(r:Vals [x,y] us):∃u w',us=[u,w']/\RelV x u/\RelV y w':=by
 cases r with
 |cons r1 r2=>
  cases r2 with
  |cons r3 r4=>cases r4;exact⟨_,_,rfl,r1,r3⟩
theorem X5(hc:X.calm=true):CallR X (.builtin "max") (fun xs H Q=>∃i j,xs=[.int i,.int j]/\Q (.int (if j > i then j else i)) H):=by
 intro pins s σ H xs us Q I r h
 obtain⟨i,j,rfl,q⟩:=h
 obtain⟨u,w',rfl,⟨t,rfl⟩,⟨t',rfl⟩⟩:=vals2 r
 refine max_two_ints (I.ok.hd hc) fun h' tk k=>⟨_,H,I.kept k,?_,q⟩
 by_cases hj:j > i
 ·rw[if_pos hj,if_pos hj];exact⟨_,rfl⟩
 ·rw[if_neg hj,if_neg hj];exact⟨_,rfl⟩
theorem kE:CallR X (.type "int") (fun xs H Q=>(∃i,xs=[.int i]/\Q (.int i) H)∨∃k,xs=[.bl k]/\Q (.int (if k then 1 else 0)) H):=by
 intro pins s σ H xs us Q I r h
 rcases h with ⟨i,rfl,q⟩ | ⟨k,rfl,q⟩
 ·obtain⟨u,rfl,t,rfl⟩:=vals1 r
  exact call_int_int ⟨.int i,H,I,⟨_,rfl⟩,q⟩
 ·obtain⟨u,rfl,r1⟩:=vals1 r
  cases r1
  exact call_int_bool ⟨.int (if k then 1 else 0),H,I.tok _,⟨_,rfl⟩,q⟩
end
structure ObjM(h:Heap)(x dx C:Addr)(mA:Str->Option Value):Prop where
 obj:h.get? x=some (instObj C dx)
 ns:h.Ns1 dx mA
 ne:dx≠x
theorem Kc{h:Heap}{dx:Addr}{mA:Str->Option Value}(n:h.Ns1 dx mA):∃od,h.get? dx=some od/\∀name,lookIn name od=some (mA name):=by
 obtain⟨o,es,ep,ho,hd,hk,_,hm⟩:=n
 refine⟨o,ho,fun name=>?_⟩
 have e:=hm name
 unfold nsFind findBy at e
 rw[<- Array.find?_toList]at e
 unfold lookIn
 rw[hd]
 dsimp only
 split
 ·rename_i y q
  rw[q]at e
  exact congrArg some e
 ·rename_i q
  rw[q]at e
  have a:es.toList.any (·.refKey)=false:=by
   rw[List.any_eq_false]
   intro y hy
   obtain⟨z,t,hkey⟩:=hk y (Array.mem_toList_iff.mp hy)
   simp [DictEntry.refKey,hkey]
  have a':¬es.toList.any (·.refKey)=true:=by rw[a];exact Bool.false_ne_true
  rw[if_neg a']
  exact congrArg some e
theorem ObjM.look{h:Heap}{x dx C:Addr}{mA:Str->Option Value}(I:ObjM h x dx C mA):∃od,PySem.W.InstAt h x (instObj C dx) C (some od)/\∀name,lookIn name od=some (mA name):=
 let ⟨od,ho,hl⟩:=Kc I.ns
 ⟨od,⟨I.obj,rfl,rfl,ho⟩,hl⟩
section
variable {prog:Program}{w:World}{A:Around}{E:Value->Shared->Prop}{s:Shared}{K:Frag}{x dx C f:Addr}{mA:Str->Option Value}{name:Str}{v:Value}
theorem get_map{expr:Bool}{Q:Value->Shared->Prop}(X:K.In s.heap)(I:ObjM s.heap x dx C mA)(hg:plainGet K C name=true)(hh:hasDictIn K C=true)
  (ha:findIn K (.ref C) name=some none) (hv:mA name=some v) (hv':PySem.W.handedIn v=true) (h:Q v { s with toks:=s.toks+1 }):
  wpAny (model prog w) A (getAttr (.ref x) name expr) Q E s:=by
 obtain⟨od,J,hl⟩:=I.look
 exact PySem.W.get_value X J (PySem.W.plainGet_of hg).1 (PySem.W.findObj_own hh ha rfl (by rw[hl,hv])) hv' h
theorem Zo{pl:Sem Bool}{Q:Value×List Value->Shared->Prop}(X:K.In s.heap)(I:ObjM s.heap x dx C mA)(hg:plainGet K C name=true)
  (hf:findIn K (.ref C) name=some (some (.ref f))) (ht:isFn K (.ref f)=true) (hv:mA name=none) (h:Q (.ref f,[.ref x]) s):
  wpAny (model prog w) A (getMethod (.ref x) name pl) Q E s:=by
 obtain⟨od,J,hl⟩:=I.look
 exact PySem.W.method_fn X J (PySem.W.plainGet_of hg).1 (PySem.W.plainGet_of hg).2 hf (beq_iff_eq.mp ht) (by show(lookIn name od).map (·.isSome)=some false;rw[hl,hv];rfl) h
theorem set_map{ns:List Str}{Q:Unit->Shared->Prop}(X:K.In s.heap)(I:ObjM s.heap x dx C mA)
  (hs:findIn K (.ref C) "__setattr__"=some (some (.builtin "object.__setattr__"))) (hp:PySem.W.plainOver K C=true) (ht:PySem.W.takerIn K C name=some none) (hh:hasDictIn K C=true)
  (hw:PySem.Within mA ns) (hsz:ns.length<=sizeLine)
  (h:∀h',ObjM h' x dx C (fun y=>if y=name then some v else mA y)->Heap.SameBut dx s.heap h'->Q () { s with heap:=h',toks:=s.toks+2 }):
  wpAny (model prog w) A (setAttr (.ref x) name v) Q E s:=by
 obtain⟨od,J,hl⟩:=I.look
 refine PySem.W.set_plain X J hs (PySem.W.osa_open (s:={ s with toks:=s.toks+1 }) (r:=none) X J hp ht fun b=>?_)
 obtain⟨cd,hc,hd'⟩:=PySem.W.any_some hh
 have hx:s.heap.get? x=some ⟨.ref C,some dx,.plain,#[]⟩:=I.obj
 refine wpAny_bind (wpAny_pure (wpAny_bind (wpAny_bind (wpAny_loadPart hx (wpAny_bind (PySem.W.Looks.here (s:={ s with toks:=s.toks+1 }) (PySem.W.looks_clsIn X hc) ?_))))))
 rw[hd']
 refine wpAny_pure (a:=some dx) (wpAny_bind (wpAny_pure (wpAny_bind ?_)))
 refine wpAny_nsSet1 (s:={ s with toks:=s.toks+1 }) I.ns fun h' hn2 hs2=>?_
 obtain⟨oD,esD,epD,hoD,hdD,hcD⟩:=hn2.count (PySem.Within.cons name v hw)
 refine wpAny_bind (wpAny_lookBehind hoD (by rw[hdD];exact pastItsLine_dict (Nat.le_trans hcD (by rw[List.length_cons];omega))) ?_)
 exact wpAny_pure (h _ ⟨(hs2.2 _ (Ne.symm I.ne)).trans I.obj,hn2,I.ne⟩ hs2)
theorem Zp{R:Result->Shared->Prop}{vs:List Value}{kw:List (Str×Value)}(X:K.In s.heap)(hm:PySem.W.makesIn K C=true)
  (hi:findIn K (.ref C) "__init__"=some (some (.ref f))) (hf:typeIn K (.ref f)=some (.type "function"))
  (h:codeAny (model prog w) (A.under (.builtin "type.__call__" ⟨.ref C::vs,kw⟩)) (.call (.ref f) ⟨.ref (s.heap.objs.size+1)::vs,kw⟩) (PySem.W.InitBack (s.heap.objs.size+1) R)
   { s with heap:=(s.heap.push emptyDict).push (instObj C s.heap.objs.size) }):
  codeAny (model prog w) A (.call (.ref C) ⟨vs,kw⟩) R s:=by
 obtain⟨hh,g,d,t,os⟩:=s
 exact PySem.W.make_core (PySem.W.makes_of X hm) (PySem.W.looks_findIn X hi) (fun self=>PySem.W.bind_fn X self hf) (.inl rfl) h
end
noncomputable def putF(f:Str)(v:V):List (Str×V)->List (Str×V)
 | []=>[(f,v)]
 | (g,x)::r=>if g=f then (g,v)::r else (g,x)::putF f v r
theorem qQ(f g:Str)(v:V):∀fs:List (Str×V),(putF f v fs).lookup g=if g=f then some v else fs.lookup g
 | []=>by
  show List.lookup g [(f,v)]=_
  by_cases h:g=f
  ·have hb:(g==f)=true:=beq_iff_eq.mpr h
   simp only[List.lookup,hb,if_pos h]
  ·have hb:(g==f)=false:=beq_eq_false_iff_ne.mpr h
   simp only[List.lookup,hb,if_neg h]
 | (k,x)::r=>by
  have ih:=qQ f g v r
  rw[show putF f v ((k,x)::r)=(if k=f then (k,v)::r else (k,x)::putF f v r) from rfl]
  by_cases hk:k=f
  ·rw[if_pos hk]
   by_cases h:g=k
   ·have hb:(g==k)=true:=beq_iff_eq.mpr h
    simp only[List.lookup,hb,if_pos (h.trans hk)]
   ·have hb:(g==k)=false:=beq_eq_false_iff_ne.mpr h
    simp only[List.lookup,hb,if_neg (fun e:g=f=>h (e.trans hk.symm))]
  ·rw[if_neg hk]
   by_cases h:g=k
   ·have hb:(g==k)=true:=beq_iff_eq.mpr h
    simp only[List.lookup,hb,if_neg (fun e:g=f=>hk (h.symm.trans e))]
   ·have hb:(g==k)=false:=beq_eq_false_iff_ne.mpr h
    simp only[List.lookup,hb]
    exact ih
theorem qH(f:Str)(v:V):∀fs:List (Str×V),f∈(putF f v fs).map (·.1)/\∀g,g∈fs.map (·.1)->g∈(putF f v fs).map (·.1)
 | []=>⟨by simp [putF],fun g h=>by simp at h⟩
 | (k,x)::r=>by
  obtain⟨i1,i2⟩:=qH f v r
  rw[show putF f v ((k,x)::r)=(if k=f then (k,v)::r else (k,x)::putF f v r) from rfl]
  by_cases hk:k=f
  ·rw[if_pos hk]
   subst hk
   exact⟨by simp,fun g h=>by simpa using h⟩
  ·rw[if_neg hk]
   refine⟨?_,fun g h=>?_⟩
   ·rw[List.map_cons]
    exact List.mem_cons_of_mem _ i1
   ·rw[List.map_cons]at h ⊢
    rcases List.mem_cons.mp h with e |e
    ·exact List.mem_cons.mpr (.inl e)
    ·exact List.mem_cons_of_mem _ (i2 g e)
theorem qR(f:Str)(v:V):∀fs:List (Str×V),(putF f v fs).length<=fs.length+1
 | []=>by simp [putF]
 | (k,x)::r=>by
  have ih:=qR f v r
  rw[show putF f v ((k,x)::r)=(if k=f then (k,v)::r else (k,x)::putF f v r) from rfl]
  by_cases hk:k=f
  ·rw[if_pos hk,List.length_cons,List.length_cons];omega
  ·rw[if_neg hk,List.length_cons,List.length_cons];omega
theorem RelO.some_of{v:V}{o:Option Value}(r:RelO (some v) o):∃u,o=some u/\RelV v u:=by
 cases o with
 |none=>exact(show False from r).elim
 |some u=>exact⟨u,rfl,r⟩
theorem RelO.none_of{o:Option Value}(r:RelO none o):o=none:=by
 cases o with
 |none=>rfl
 |some u=>exact(show False from r).elim
theorem Kd{v:V}{u:Value}(r:RelV v u):PySem.W.handedIn u=true:=by
 cases v with
 |non=>cases (show u=Value.none from r);rfl
 |bl b=>cases (show u=Value.bool b from r);rfl
 |int i=>obtain⟨t,e⟩:=(show ∃t,u=Value.int i t from r);cases e;rfl
 |str x=>obtain⟨t,e⟩:=(show ∃t,u=Value.str x t from r);cases e;rfl
 |byt b=>obtain⟨t,e⟩:=(show ∃t,u=Value.bytes b t from r);cases e;rfl
 |flt b=>obtain⟨t,e⟩:=(show ∃t,u=Value.float b t from r);cases e;rfl
 |ref a=>cases (show u=Value.ref a from r);rfl
 |ty n=>cases (show u=Value.type n from r);rfl
section
variable {P:Program}{w:World}{H H':Hp}{h h':Heap}{a C dx:Addr}{fs fs':List (Str×V)}
theorem Jc(hok:HOk P w H h)(e:H a=some (.ins C dx fs)):∃mA,ObjM h a dx C mA/\(∀f,RelO (fs.lookup f) (mA f))/\PySem.Within mA (fs.map (·.1))/\fs.length<=1000/\H dx=some (.own a):=by
 obtain⟨d,z,ne,ob,mA,n,r,q⟩:=(show ObjOk P w H h a (.ins C dx fs) from hok a _ e)
 exact⟨mA,⟨ob,n,ne⟩,r,q,z,d⟩
end
structure Cls(K:Frag)(C:Addr):Prop where
 pg:plainGet K C Str.empty=true
 hd:hasDictIn K C=true
 po:PySem.W.plainOver K C=true
 sa:findIn K (.ref C) "__setattr__"=some (some (.builtin "object.__setattr__"))
theorem Cls.get{K:Frag}{C:Addr}(c:Cls K C)(f:Str):plainGet K C f=true:=c.pg
def NoAttr(K:Frag)(C:Addr)(f:Str):Prop:=findIn K (.ref C) f=some none
theorem NoAttr.taker{K:Frag}{C:Addr}{f:Str}(n:NoAttr K C f):PySem.W.takerIn K C f=some none:=by
 unfold PySem.W.takerIn
 rw[show findIn K (.ref C) f=some none from n]
 rfl
structure Meth(K:Frag)(C:Addr)(m:Str)(f:Addr):Prop where
 at_:findIn K (.ref C) m=some (some (.ref f))
 fn:isFn K (.ref f)=true
 kp:keepIn K (.ref f)=true
section
variable {X:Cx}{pins:List (Addr×Obj)}{σ:St}{H:Hp}{s:Shared}{a C dx:Addr}{fs:List (Str×V)}{f:Str}{v:V}{A:Around}{E:Value->Shared->Prop}
theorem QM{b:Bool}{Q:Value->Shared->Prop}(I:Inv X pins σ H s)(e:H a=some (.ins C dx fs))(c:Cls X.K C)(n:NoAttr X.K C f)(l:fs.lookup f=some v)
  (h:∀u s',Inv X pins σ H s'->RelV v u->Q u s'):wpAny (model X.prog X.w) A (getAttr (.ref a) f b) Q E s:=by
 obtain⟨mA,O,r,_,_,_⟩:=Jc I.hok e
 obtain⟨u,hu,ru⟩:=RelO.some_of (v:=v) (o:=mA f) (by rw[<- l];exact r f)
 exact get_map I.kIn O (c.get f) c.hd n hu (Kd ru) (h u _ (I.tok _) ru)
theorem QN{m:Str}{g:Addr}{pl:Sem Bool}{Q:Value×List Value->Shared->Prop}(I:Inv X pins σ H s)(e:H a=some (.ins C dx fs))(c:Cls X.K C)(k:Meth X.K C m g)(l:fs.lookup m=none)
  (h:Q (.ref g,[.ref a]) s):wpAny (model X.prog X.w) A (getMethod (.ref a) m pl) Q E s:=by
 obtain⟨mA,O,r,_,_,_⟩:=Jc I.hok e
 have hn:mA m=none:=RelO.none_of (by rw[<- l];exact r m)
 exact Zo I.kIn O (c.get m) k.at_ k.fn hn h
theorem QO{y:V}{u:Value}{Q:Unit->Shared->Prop}(I:Inv X pins σ H s)(e:H a=some (.ins C dx fs))(c:Cls X.K C)(n:NoAttr X.K C f)(hl:fs.length < 1000)(ry:RelV y u)
  (h:∀s',Inv X pins σ (upd H a (.ins C dx (putF f y fs))) s'->Q () s'):wpAny (model X.prog X.w) A (setAttr (.ref a) f u) Q E s:=by
 obtain⟨mA,O,r,wi,_,ho⟩:=Jc I.hok e
 have hz:(fs.map (·.1)).length<=sizeLine:=by rw[List.length_map,sizeLine_eq];omega
 refine set_map I.kIn O c.sa c.po n.taker c.hd wi hz fun h' O' sb=>h _ ?_
 have hd:∃o,h'.get? dx=some o:=let ⟨o,_,_,e',_⟩:=O'.ns;⟨o,e'⟩
 refine I.write (x:=a) (e:=dx) (by rw[e];exact True.intro) (.inr ho) (fun b q hb z=>(sb.2 b hb).trans z) hd ?_
 refine⟨by rw[jm O.ne];exact ho,?_,O.ne,O'.obj,_,O'.ns,fun g=>?_,fun g hg=>?_⟩
 ·have:=qR f y fs;omega
 ·show RelO ((putF f y fs).lookup g) (if g=f then some u else mA g)
  rw[qQ]
  by_cases q:g=f
  ·rw[if_pos q,if_pos q];exact ry
  ·rw[if_neg q,if_neg q];exact r g
 ·by_cases q:g=f
  ·rw[q];exact(qH f y fs).1
  ·refine(qH f y fs).2 g (wi g fun z=>hg ?_)
   show(if g=f then some u else mA g)=none
   rw[if_neg q];exact z
theorem Inv.made(I:Inv X pins σ H s):Inv X pins σ (upd (upd H s.heap.objs.size (.own (s.heap.objs.size+1))) (s.heap.objs.size+1) (.ins C s.heap.objs.size []))
  { s with heap:=(s.heap.push emptyDict).push (instObj C s.heap.objs.size) }:=by
 have e1:(s.heap.push emptyDict).get? s.heap.objs.size=some emptyDict:=Heap.get?_push_size s.heap rfl
 have e2:((s.heap.push emptyDict).push (instObj C s.heap.objs.size)).get? (s.heap.objs.size+1)=some (instObj C s.heap.objs.size):=by
  have:=Heap.get?_push_size (s.heap.push emptyDict) (o:=instObj C s.heap.objs.size) rfl
  rwa [Heap.size_push]at this
 have e3:(s.heap.push emptyDict).Ns s.heap.objs.size (fun _=>none):=⟨emptyDict,#[],_,e1,rfl,(fun e he=>absurd he (by simp)),fun _=>rfl⟩
 have I1:=I.laid (a:=s.heap.objs.size) (o:=.own (s.heap.objs.size+1)) (h':=s.heap.push emptyDict) (t':=s.toks) (fun b u q=>Heap.get?_push_of_some _ q) (Nat.le_refl _) ⟨_,e1⟩
 refine I1.laid (a:=s.heap.objs.size+1) (o:=.ins C s.heap.objs.size []) (t':=s.toks) (fun b u q=>Heap.get?_push_of_some _ q) (Nat.le_of_eq (Heap.size_push _ _)) ?_
 have ne:s.heap.objs.size≠s.heap.objs.size+1:=Nat.ne_of_lt (Nat.lt_succ_self _)
 refine⟨by rw[jm ne,jd],Nat.zero_le _,ne,e2,fun _=>none,(Heap.Ns1.of_empty e3).at fun o q=>Heap.get?_push_of_some _ q,fun _=>True.intro,fun y hy=>absurd rfl hy⟩
theorem Xu{prog:Program}{w:World}{env:Env}{e:Expr}{f:Str}{pos:Pos}{s:Shared}{Q:Value->Shared->Prop}(hb:attributeBase e f env (eval e env)=eval e env)
  (h:wpAny (model prog w) A (eval e env) (fun o s₁=>wpAny (model prog w) A (getAttr o f true) Q E s₁) E s):wpAny (model prog w) A (eval (.Attribute e f pos) env) Q E s:=
 Attribute_any_ h (by rw[arm_eval_Attribute,hb])
end
def tFld(K:Frag)(ta:TE)(f:Str):TE:=fun σ H Q=>ta σ H fun x H1=>∃a C dx fs v,x= .ref a/\H1 a=some (.ins C dx fs)/\Cls K C/\NoAttr K C f/\fs.lookup f=some v/\Q v H1
def sFld(K:Frag)(ta tv:TE)(f:Str):TS:=fun D σ H=>tv σ H fun y H1=>ta σ H1 fun x H2=>∃a C dx fs,x= .ref a/\H2 a=some (.ins C dx fs)/\Cls K C/\NoAttr K C f/\fs.length < 1000/\
 D.nx σ (upd H2 a (.ins C dx (putF f y fs)))
section
variable {X:Cx}{o e value:Expr}{f:Str}{pos pos' tpos:Pos}{ta tv:TE}
theorem Ky(he:PE X e ta)(hb:attributeBase e f X.env (eval e X.env)=eval e X.env):PE X (.Attribute e f pos) (tFld X.K ta f):=by
 intro pins s σ H Q I h
 refine Xu hb (thn (he pins s σ H _ I h) fun u s1 ⟨x,H1,I1,rx,a,C,dx,fs,v,ex,ea,c,n,l,q⟩=>?_)
 subst ex
 obtain rfl:u=Value.ref a:=rx
 exact QM I1 ea c n l fun u' s2 I2 ru=>⟨v,H1,I2,ru,q⟩
theorem YU(ha:PE X o ta)(hv:PE X value tv)(hs:swapsWith value (some (.Attribute o f pos')) pos.line X.env=pure false):PS X (.Assign [.Attribute o f pos'] value pos) (sFld X.K ta tv f):=by
 intro pins s σ H D I h
 refine plainObj_wpAny_Assign_Attribute (thn (hv pins s σ H _ I h) fun u s1 ⟨y,H1,I1,ry,q⟩=>thn (ha pins s1 σ H1 _ I1 q) fun ov s2 ⟨x,H2,I2,rx,a,C,dx,fs,ex,ea,c,n,l,q2⟩=>?_) hs
 subst ex
 obtain rfl:ov=Value.ref a:=rx
 exact QO I2 ea c n l ry fun s3 I3=>⟨σ,_,I3,q2⟩
end
section
variable {X:Cx}{pins:List (Addr×Obj)}{σ:St}{H:Hp}{s:Shared}{A:Around}{E:Value->Shared->Prop}{Q:Value->Shared->Prop}{c:Value}{b:Bool}
inductive TyOf(K:Frag)(H:Hp):V->Value->Prop where
 |non:TyOf K H .non (.type "NoneType")
 |bl (x:Bool):TyOf K H (.bl x) (.type "bool")
 |int (i:Int):TyOf K H (.int i) (.type "int")
 |str (x:Str):TyOf K H (.str x) (.type "str")
 |flt (x:UInt64):TyOf K H (.flt x) (.type "float")
 |lst {a:Addr} {xs:List V} (e:H a=some (.lst xs)):TyOf K H (.ref a) (.type "list")
 |frz {a:Addr} {o:Obj} {xs:List V} (e:H a=some (.frz o (.lst xs))):TyOf K H (.ref a) (.type "list")
 |tup {a:Addr} {xs:List V} (e:H a=some (.tup xs)):TyOf K H (.ref a) (.type "tuple")
 |dK {a:Addr} {kvs:List (Key×V)} (e:H a=some (.dK kvs)):TyOf K H (.ref a) (.type "dict")
 |dT {a:Addr} {kvs:List (List Key×V)} (e:H a=some (.dT kvs)):TyOf K H (.ref a) (.type "dict")
 |ins {a C dx:Addr} {fs:List (Str×V)} (e:H a=some (.ins C dx fs)) (cl:Cls K C) (ha:findIn K (.ref C) "__class__"=some (some (.builtin "object.__class__")))
   (hn:specialIn K (.builtin "object.__class__") "__get__"=some (some (.builtin "getset_descriptor.__get__"))) (htk:PySem.W.takesIn K (.builtin "object.__class__")=some true)
   (hm:mroIn K C (.type "object")=some true):TyOf K H (.ref a) (.ref C)
theorem X6{x:V}{u t:Value}(I:Inv X pins σ H s)(rx:RelV x u)(ty:TyOf X.K H x t)(e:kitOne X.K t c=some b)(h:∀tk,Q (.bool b) { s with toks:=tk }):
  wpAny (model X.prog X.w) A (call (.builtin "isinstance") [u,c]) Q E s:=by
 cases ty with
 |non=>cases (show u=Value.none from rx);exact kia_one PySem.W.kitx_none I.kIn True.intro e (fun z=>nomatch z) h
 |bl y=>cases (show u=Value.bool y from rx);exact kia_one PySem.W.kitx_bool I.kIn True.intro e (fun z=>nomatch z) h
 |int i=>obtain⟨t,q⟩:=(show ∃t,u=Value.int i t from rx);cases q;exact kia_one PySem.W.kitx_int I.kIn True.intro e (fun z=>nomatch z) h
 |str y=>obtain⟨t,q⟩:=(show ∃t,u=Value.str y t from rx);cases q;exact kia_one PySem.W.kitx_str I.kIn True.intro e (fun z=>nomatch z) h
 |flt y=>obtain⟨t,q⟩:=(show ∃t,u=Value.float y t from rx);cases q;exact kia_one PySem.W.kitx_float I.kIn True.intro e (fun z=>nomatch z) h
 | @lst a xs ea=>
  cases (show u=Value.ref a from rx)
  obtain⟨_,_,n,_,h1⟩:=(show ObjOk X.prog X.w H s.heap a (.lst xs) from I.hok a _ ea)
  exact kia_one PySem.W.kitx_list I.kIn ⟨_,h1,rfl⟩ e (fun z=>nomatch z) h
 | @frz a ob xs ea=>
  cases (show u=Value.ref a from rx)
  obtain⟨_,_,_,n,_,h1⟩:=(show ObjOk X.prog X.w H s.heap a (.frz ob (.lst xs)) from I.hok a _ ea)
  exact kia_one PySem.W.kitx_list I.kIn ⟨_,h1,rfl⟩ e (fun z=>nomatch z) h
 | @tup a xs ea=>
  cases (show u=Value.ref a from rx)
  obtain⟨_,_,_,p⟩:=(show ObjOk X.prog X.w H s.heap a (.tup xs) from I.hok a _ ea)
  obtain⟨o,h1,h2,_⟩:=p
  exact kia_one PySem.W.kitx_tuple I.kIn ⟨o,h1,h2⟩ e (fun z=>nomatch z) h
 | @dK a kvs ea=>
  cases (show u=Value.ref a from rx)
  obtain⟨_,_,vs,_,p⟩:=(show ObjOk X.prog X.w H s.heap a (.dK kvs) from I.hok a _ ea)
  obtain⟨o,es,ep,h1,h2,_⟩:=p
  exact kia_one PySem.W.kitx_dict I.kIn ⟨o,h1,h2.1⟩ e (fun z=>nomatch z) h
 | @dT a kvs ea=>
  cases (show u=Value.ref a from rx)
  obtain⟨_,_,xs,_,o,es,ep,h1,h2,_⟩:=(show ObjOk X.prog X.w H s.heap a (.dT kvs) from I.hok a _ ea)
  exact kia_one PySem.W.kitx_dict I.kIn ⟨o,h1,h2.1⟩ e (fun z=>nomatch z) h
 | @ins a C dx fs ea cl ha hn htk hm=>
  cases (show u=Value.ref a from rx)
  obtain⟨mA,O,_⟩:=Jc I.hok ea
  obtain⟨od,J,_⟩:=O.look
  exact kia_one (PySem.W.kitx_own (cl.get _) cl.hd ha hn htk hm) I.kIn J e (fun z=>nomatch z) h
end
structure Room(k:Nat)(A:Around):Prop where
 hd:A.handled=none
 dp:A.depth+3*k+5 < recursionLimit
 un:A.units+16*k+200 < cLine
theorem Room.mono{j k:Nat}{A:Around}(r:Room k A)(h:j<=k):Room j A:=⟨r.hd,by have:=r.dp;omega,by have:=r.un;omega⟩
theorem Room.deeper{k:Nat}{A:Around}(r:Room (k+1) A)(env:Env):Room k (A.deeper env):=
 ⟨r.hd,by have:=r.dp;show A.depth+1+3*k+5 < _;omega,by have:=r.un;show A.units+3+16*k+200 < _;omega⟩
theorem QP{A:Around}{C:Addr}{us:List Value}{kw:List (Str×Value)}:(A.under (.builtin "type.__call__" ⟨.ref C::us,kw⟩)).depth=A.depth+1:=by
 first |rfl |simp [Around.under,Code.weight,Code.isCreation,Code.isGuard,Code.isCaller,Code.frames,Code.isFrame,guardIds]
theorem QQ{A:Around}{C:Addr}{us:List Value}{kw:List (Str×Value)}:(A.under (.builtin "type.__call__" ⟨.ref C::us,kw⟩)).units=A.units+1:=by
 first |rfl |simp [Around.under,Code.cUnits,Code.frames,Code.isFrame]
theorem Room.make{k:Nat}{A:Around}(r:Room (k+1) A)(C:Addr)(us:List Value)(kw:List (Str×Value)):Room k (A.under (.builtin "type.__call__" ⟨.ref C::us,kw⟩)):=
 ⟨r.hd,by have:=r.dp;rw[QP];omega,by have:=r.un;rw[QQ];omega⟩
theorem Room.depth{k:Nat}{A:Around}(r:Room k A):A.depth < recursionLimit:=by have:=r.dp;omega
theorem Room.units{k:Nat}{A:Around}(r:Room k A):A.units+64 < cLine:=by have:=r.un;omega
def tNil:TA:=fun _ H Q=>Q [] H
def tCons(ta:TE)(tr:TA):TA:=fun σ H Q=>ta σ H fun x H1=>tr σ H1 fun xs H2=>Q (x::xs) H2
section
variable {X:Cx}{e:Expr}{es:List Expr}{te:TE}{t:TA}{pos:Pos}
theorem jb:PA X [] tNil:=fun _ _ _ _ H Q I h=>Calls.spliced_nil ⟨[],H,I,.nil,h⟩
theorem ja(ha:PE X e te)(hr:PA X es t)(hs:starEach (e::es) X.env=(false,eval e X.env)::starEach es X.env:=by rfl):PA X (e::es) (tCons te t):=by
 intro pos pins s σ H Q I h
 rw[hs]
 show wpAny _ _ (spliced ((false,eval e X.env)::backTo pos (starEach es X.env))) _ _ s
 refine Calls.spliced_cons (thn (ha pins s σ H _ I h) fun u s1 ⟨x,H1,I1,r1,q1⟩=>?_)
 exact thn (hr pos pins s1 σ H1 _ I1 q1) fun us s2 ⟨xs,H2,I2,r2,q2⟩=>⟨x::xs,H2,I2,.cons r1 r2,q2⟩
def tTup(t:TA):TE:=fun σ H Q=>t σ H fun xs H1=>xs.length<=sizeLine/\∀p,H1 p=none->Q (.ref p) (upd H1 p (.tup xs))
def tLst(t:TA):TE:=fun σ H Q=>t σ H fun xs H1=>xs.length<=sizeLine/\∀p,H1 p=none->Q (.ref p) (upd H1 p (.lst xs))
theorem jj{x1}(h:PA X es t):PE X (.Tuple es x1 pos) (tTup t):=by
 intro pins s σ H Q I hq
 refine wpAny_Tuple_spliced (thn (h pos pins s σ H _ I hq) fun us s1 ⟨xs,H1,I1,r,z,q⟩=>⟨by rw[<- r.length];exact z,?_⟩)
 have hf:H1 s1.heap.objs.size=none:=I1.hok.fresh (Nat.le_refl _)
 refine⟨.ref s1.heap.objs.size,upd H1 s1.heap.objs.size (.tup xs),I1.laid (t':=s1.toks) (fun b u e=>Heap.get?_push_of_some _ e) (Nat.le_refl _) ?_,rfl,q _ hf⟩
 exact⟨z,us,r,⟨_,Heap.get?_push_size _ rfl,rfl,_,rfl⟩⟩
theorem jH(h:PA X es t):PE X (.List es pos) (tLst t):=by
 intro pins s σ H Q I hq
 refine wpAny_List_spliced (thn (h pos pins s σ H _ I hq) fun us s1 ⟨xs,H1,I1,r,z,q⟩=>⟨by rw[<- r.length];exact z,?_⟩)
 have hf:H1 s1.heap.objs.size=none:=I1.hok.fresh (Nat.le_refl _)
 refine⟨.ref s1.heap.objs.size,upd H1 s1.heap.objs.size (.lst xs),I1.laid (t':=s1.toks) (fun b u e=>Heap.get?_push_of_some _ e) (Nat.le_refl _) ?_,rfl,q _ hf⟩
 exact⟨z,us,0,r,Heap.get?_push_size _ rfl⟩
end
abbrev Sp:=List V->Hp->VK->XK->Prop
abbrev CXT:=List Env->Hp->Shared->XK->Value->Shared->Prop
structure Env0(P:Program)(w:World)(K:Frag)(mg:Str->Option Value)(base:Heap)(A:Around)(outer:List Env)(s:Shared)(H:Hp):Prop where
 frames:A.frames=some outer
 mod:Mod K mg base
 bs:∀b o,base.get? b=some o->s.heap.get? b=some o/\H b=none
 bsz:base.objs.size<=s.heap.objs.size
 funs:s.heap.FunFrames base outer
 frf:∀b∈frs outer,H b=none
 hok:HOk P w H s.heap
 bare:AllBare s.gens
def CE(outer:List Env)(P:Program)(w:World)(H:Hp)(s:Shared)(Q:VK)(u:Value)(s':Shared):Prop:=
 ∃v H',s'.os=s.os/\AllBare s'.gens/\Un (frs outer) [] H H' s.heap s'.heap/\HOk P w H' s'.heap/\RelV v u/\Q v H'
def CR(CX:CXT)(outer:List Env)(P:Program)(w:World)(H:Hp)(s:Shared)(Q:VK)(E:XK)(r:Result)(s':Shared):Prop:=
 match r with
 | .ok (.ret u)=>CE outer P w H s Q u s'
 | .ok _=>False
 | .error e=>CX outer H s E e s'
structure FnOk(P:Program)(w:World)(K:Frag)(mg:Str->Option Value)(base:Heap)(CX:CXT)(k:Nat)(f:Addr)(fd:FuncData)(ps:List Str)(sp:Sp):Prop where
 len:∀vs H Q E,sp vs H Q E->vs.length=ps.length
 run:∀(A:Around) (outer:List Env) (s:Shared) (H:Hp) (args:Args) (us:List Value) (vs:List V) (Q:VK) (E:XK),Room k A->Env0 P w K mg base A outer s H->BindsTo s fd args (ps.zip us)->Vals vs us->sp vs H Q E->
  codeAny (model P w) A (.call (.ref f) args) (CR CX outer P w H s Q E) s
theorem Env0.make{P:Program}{w:World}{K:Frag}{mg:Str->Option Value}{base:Heap}{A:Around}{outer:List Env}{s:Shared}{H:Hp}(e:Env0 P w K mg base A outer s H)(C:Addr)(us:List Value)(kw:List (Str×Value)):
  Env0 P w K mg base (A.under (.builtin "type.__call__" ⟨.ref C::us,kw⟩)) outer s H:=⟨by first |exact e.frames | (simpa [Around.under,Code.envs,Code.isFrame,pushEnvs] using e.frames),e.mod,e.bs,e.bsz,e.funs,e.frf,e.hok,e.bare⟩
section
variable {X:Cx}{pins:List (Addr×Obj)}{σ:St}{H:Hp}{s s':Shared}
theorem Inv.env0(I:Inv X pins σ H s):Env0 X.prog X.w X.K X.mg X.base X.A X.stack s H:=
 ⟨I.ok.frames,I.ok.mod,I.bs,Nat.le_trans I.ok.bsz I.sz,I.stack,I.stkFree,I.hok,I.bare⟩
theorem Inv.after{Q:VK}{u:Value}(I:Inv X pins σ H s)(h:CE X.stack X.prog X.w H s Q u s'):EP X pins σ Q u s':=by
 obtain⟨v,H',os,bare,un,hok,r,q⟩:=h
 obtain⟨hh,g,d,t,os'⟩:=s'
 obtain rfl:os'=s.os:=os
 exact⟨v,H',I.call (h':=hh) (g':=g) (d':=d) (t':=t) (ch:=[]) un hok bare (fun b z=>absurd z (by simp)),r,q⟩
end
def tCall(sp:Sp)(dvs:List V)(E:XK)(t:TA):TE:=fun σ H Q=>t σ H fun vs H1=>sp (vs++dvs) H1 Q E
def tMeth(C:Addr)(m:Str)(sp:Sp)(dvs:List V)(E:XK)(ta:TE)(t:TA):TE:=fun σ H Q=>ta σ H fun x H1=>∃a dx fs,x= .ref a/\H1 a=some (.ins C dx fs)/\fs.lookup m=none/\
 t σ H1 fun vs H2=>sp (x::(vs++dvs)) H2 Q E
def tMake(C:Addr)(sp:Sp)(dvs:List V)(E:XK)(t:TA):TE:=fun σ H Q=>t σ H fun vs H1=>∀x dx,H1 x=none->H1 dx=none->dx≠x->
 sp (.ref x::(vs++dvs)) (upd (upd H1 dx (.own x)) x (.ins C dx [])) (fun v H2=>v= .non/\Q (.ref x) H2) E
def Binds(K:Frag)(fd:FuncData)(ps:List Str)(ds:List Value):Prop:=
 ∀(s:Shared) (us:List Value),K.In s.heap->(us++ds).length=ps.length->BindsTo s fd ⟨us,[]⟩ (ps.zip (us++ds))
theorem Binds.all{K:Frag}{fd:FuncData}{ps:List Str}(h:∀us:List Value,us.length=ps.length->bindArgs fd ⟨us,[]⟩=pure (ps.zip us)):Binds K fd ps []:=fun s us _ hl=>by
 rw[List.append_nil]at hl ⊢
 exact .of_eq (h us hl)
def Passes(CX:CXT)(X:Cx)(E:XK):Prop:=∀(pins:List (Addr×Obj)) (σ:St) (H:Hp) (s:Shared) (e:Value) (s':Shared),Inv X pins σ H s->CX X.stack H s E e s'->X.xe e s'
section
variable {X:Cx}{CX:CXT}{k:Nat}{f C:Addr}{fd:FuncData}{ps:List Str}{sp:Sp}{dvs:List V}{ds:List Value}{E:XK}{x m:Str}{p pos apos:Pos}{e o:Expr}{es:List Expr}{ta:TE}{t:TA}
theorem YV{pins:List (Addr×Obj)}{σ:St}{H:Hp}{s:Shared}{Q:VK}{us:List Value}{vs:List V}(F:FnOk X.prog X.w X.K X.mg X.base CX k f fd ps sp)(hr:Room k X.A)(hb:Binds X.K fd ps ds)(hd:Vals dvs ds)(hx:Passes CX X E)
  (I:Inv X pins σ H s) (r:Vals vs us) (h:sp (vs++dvs) H Q E):wpAny (model X.prog X.w) X.A (call (.ref f) us) (EP X pins σ Q) X.xe s:=by
 have r2:Vals (vs++dvs) (us++ds):=r.append hd
 have hl:(us++ds).length=ps.length:=by rw[<- r2.length];exact F.len _ _ _ _ h
 refine wpAny_call (codeAny_mono (F.run X.A X.stack s H ⟨us,[]⟩ (us++ds) (vs++dvs) Q E hr I.env0 (hb s us I.kIn hl) r2 h) fun r s' hq=>?_)
 cases r with
 |error e=>exact hx pins σ H s e s' I hq
 |ok fl=>
  cases fl with
  |ret u=>exact I.after hq
  |next=>exact False.elim hq
  |brk=>exact False.elim hq
  |cont=>exact False.elim hq
theorem jg(F:FnOk X.prog X.w X.K X.mg X.base CX k f fd ps sp)(hr:Room k X.A)(hg:Gl X x)(hm:X.mg x=some (.ref f))(hk:keepIn X.K (.ref f)=true)(hb:Binds X.K fd ps ds)(hd:Vals dvs ds)(hx:Passes CX X E)
  (ha:PA X (e::es) t) (hdb:(x==("__debug__":Str))=false:=by decide) (he:starEach (e::es) X.env=(false,eval e X.env)::starEach es X.env:=by rfl) (hpl:(backTo pos (starEach es X.env)).any (·.1)=false:=by rfl):
  PE X (.Call (.Name x p) (e::es) [] pos) (tCall sp dvs E t):=by
 intro pins s σ H Q I h
 refine wpAny_Call_Name_kw (zQ I hg hm ?_ hdb)
 refine callWith_K (h₀:=X.base) I.ok.mod.kin hk (thn (ha pos pins s σ H _ I h) fun us s1 ⟨vs,H1,I1,r,q⟩=>⟨I1.kIn,?_⟩) he hpl
 exact YV F hr hb hd hx I1 r q
theorem zw{pl:Sem Bool}(he:PE X o ta)(c:Cls X.K C)(hm:Meth X.K C m f)(F:FnOk X.prog X.w X.K X.mg X.base CX k f fd ps sp)(hr:Room k X.A)(hb:Binds X.K fd ps ds)(hd:Vals dvs ds)(hx:Passes CX X E)(ha:PA X (e::es) t)
  (hst:starEach (e::es) X.env=(false,eval e X.env)::starEach es X.env:=by rfl) (hpl:(backTo pos (starEach es X.env)).any (·.1)=false:=by rfl)
  (ht:eval (.Call (.Attribute o m apos) (e::es) [] pos) X.env=(do
   let ov <- eval o X.env
   standAt apos.atName
   let (f,first) <- holding [ov] (getMethod ov m pl)
   callWith pos f first (backTo pos (starEach (e::es) X.env)) (backToKw pos (keywordEach [] X.env))):=by rfl):
  PE X (.Call (.Attribute o m apos) (e::es) [] pos) (tMeth C m sp dvs E ta t):=by
 intro pins s σ H Q I h
 refine PySem.W.methodCall_KW (pl:=pl) (thn (he pins s σ H _ I h) fun u s1 ⟨x,H1,I1,rx,a,dx,fs,ex,ea,l,q⟩=>?_) ht
 subst ex
 obtain rfl:u=Value.ref a:=rx
 refine QN I1 ea c hm l ?_
 refine callWith_K (first:=[.ref a]) (h₀:=X.base) I.ok.mod.kin hm.kp (thn (ha pos pins s1 σ H1 _ I1 q) fun us s2 ⟨vs,H2,I2,r,q2⟩=>⟨I2.kIn,?_⟩) hst hpl
 exact YV (us:=.ref a::us) (vs:=.ref a::vs) F hr hb hd hx I2 (.cons rfl r) q2
structure Mk(K:Frag)(C f:Addr):Prop where
 makes:PySem.W.makesIn K C=true
 init:findIn K (.ref C) "__init__"=some (some (.ref f))
 fn:isFn K (.ref f)=true
 kp:keepIn K (.ref C)=true
theorem Zq{pins:List (Addr×Obj)}{σ:St}{H:Hp}{s:Shared}{Q:VK}{us:List Value}{vs:List V}(M:Mk X.K C f)(F:FnOk X.prog X.w X.K X.mg X.base CX k f fd ps sp)(hr:Room (k+1) X.A)(hb:Binds X.K fd ps ds)(hd:Vals dvs ds)
  (hx:Passes CX X E) (I:Inv X pins σ H s) (r:Vals vs us)
  (h:∀x dx,H x=none->H dx=none->dx≠x->sp (.ref x::(vs++dvs)) (upd (upd H dx (.own x)) x (.ins C dx [])) (fun v H2=>v= .non/\Q (.ref x) H2) E):
  wpAny (model X.prog X.w) X.A (call (.ref C) us) (EP X pins σ Q) X.xe s:=by
 have hq:=h (s.heap.objs.size+1) s.heap.objs.size (I.hok.fresh (Nat.le_succ _)) (I.hok.fresh (Nat.le_refl _)) (Nat.ne_of_lt (Nat.lt_succ_self _))
 have I2:=Inv.made (C:=C) I
 have r2:Vals (V.ref (s.heap.objs.size+1)::(vs++dvs)) (Value.ref (s.heap.objs.size+1)::(us++ds)):=.cons rfl (r.append hd)
 have hl:(Value.ref (s.heap.objs.size+1)::us++ds).length=ps.length:=by
  have e:=r2.length
  rw[F.len _ _ _ _ hq]at e
  exact e.symm
 refine wpAny_call (Zp (f:=f) I.kIn M.makes M.init (beq_iff_eq.mp M.fn) (codeAny_mono (F.run _ X.stack _ _ ⟨Value.ref (s.heap.objs.size+1)::us,[]⟩ (Value.ref (s.heap.objs.size+1)::(us++ds)) _ _ E (hr.make C us [])
  (I2.env0.make C us []) (hb _ (Value.ref (s.heap.objs.size+1)::us) I2.kIn hl) r2 hq) fun r s' hq'=>?_))
 cases r with
 |error e=>exact hx pins σ _ _ e s' I2 hq'
 |ok fl=>
  cases fl with
  |ret u=>
   obtain⟨v,H',I3,rv,ev,q3⟩:=I2.after hq'
   subst ev
   exact⟨rv,⟨V.ref (s.heap.objs.size+1),H',I3,rfl,q3⟩⟩
  |next=>exact False.elim hq'
  |brk=>exact False.elim hq'
  |cont=>exact False.elim hq'
theorem pe_make(M:Mk X.K C f)(F:FnOk X.prog X.w X.K X.mg X.base CX k f fd ps sp)(hr:Room (k+1) X.A)(hg:Gl X x)(hm:X.mg x=some (.ref C))(hb:Binds X.K fd ps ds)(hd:Vals dvs ds)(hx:Passes CX X E)
  (ha:PA X (e::es) t) (hdb:(x==("__debug__":Str))=false:=by decide) (he:starEach (e::es) X.env=(false,eval e X.env)::starEach es X.env:=by rfl) (hpl:(backTo pos (starEach es X.env)).any (·.1)=false:=by rfl):
  PE X (.Call (.Name x p) (e::es) [] pos) (tMake C sp dvs E t):=by
 intro pins s σ H Q I h
 refine wpAny_Call_Name_kw (zQ I hg hm ?_ hdb)
 refine callWith_K (h₀:=X.base) I.ok.mod.kin M.kp (thn (ha pos pins s σ H _ I h) fun us s1 ⟨vs,H1,I1,r,q⟩=>⟨I1.kIn,?_⟩) he hpl
 exact Zq M F hr hb hd hx I1 r q
end
structure FnScope(N P:List Str)(sc:Scope):Prop where
 kind:sc.kind= .function
 co:sc.isCoroutine=false
 gen:sc.isGenerator=false
 nd:N.Nodup
 pre:N.take P.length=P
 par:∀x∈P,sc.names.lookup x=some .local∨sc.names.lookup x=some .cell
 nofree:∀y∈sc.names,y.2≠ .free
theorem Ke{kindOf:Str->Option NameKind}{x:Str}:∀{binds:List (Str×Value)} {m:Str->Option Value},(∀v,(x,v)∉binds)->bindL kindOf binds m x=m x
 | [],_,_=>rfl
 | (n,v)::r,m,h=>by
  unfold bindL
  rw[Ke fun w hw=>h w (List.mem_cons_of_mem _ hw)]
  split
  ·have:x≠n:=by rintro rfl;exact h v List.mem_cons_self
   simp [this]
  ·rfl
theorem Kf{kindOf:Str->Option NameKind}{x:Str}:∀{binds:List (Str×Value)} {m:Str->Option Value},(∀v,(x,v)∉binds)->bindC kindOf binds m x=m x
 | [],_,_=>rfl
 | (n,v)::r,m,h=>by
  unfold bindC
  rw[Kf fun w hw=>h w (List.mem_cons_of_mem _ hw)]
  split
  ·rfl
  ·have:x≠n:=by rintro rfl;exact h v List.mem_cons_self
   simp [this]
theorem Kg{kindOf:Str->Option NameKind}{x:Str}{v:Value}:∀{P:List Str} {vs:List Value} {i:Nat} {m:Str->Option Value},P.Nodup->P[i]?=some x->vs[i]?=some v->kindOf x=some .local->
  bindL kindOf (P.zip vs) m x=some v
 | [],_,_,_,_,h,_,_=>by simp at h
 |_::_,[],_,_,_,_,h,_=>by simp at h
 |p::P,w::vs,0,m,nd,h1,h2,hk=>by
  simp at h1 h2;subst h1;subst h2
  show bindL kindOf ((p,w)::P.zip vs) m p=_
  unfold bindL
  rw[Ke fun v hv=>(List.nodup_cons.mp nd).1 (List.of_mem_zip hv).1,if_pos hk]
  simp
 |p::P,w::vs,i+1,m,nd,h1,h2,hk=>by
  show bindL kindOf ((p,w)::P.zip vs) m x=_
  unfold bindL
  exact Kg (i:=i) (List.nodup_cons.mp nd).2 (by simpa using h1) (by simpa using h2) hk
theorem Kh{kindOf:Str->Option NameKind}{x:Str}{v:Value}:∀{P:List Str} {vs:List Value} {i:Nat} {m:Str->Option Value},P.Nodup->P[i]?=some x->vs[i]?=some v->kindOf x≠some .local->
  bindC kindOf (P.zip vs) m x=some v
 | [],_,_,_,_,h,_,_=>by simp at h
 |_::_,[],_,_,_,_,h,_=>by simp at h
 |p::P,w::vs,0,m,nd,h1,h2,hk=>by
  simp at h1 h2;subst h1;subst h2
  show bindC kindOf ((p,w)::P.zip vs) m p=_
  unfold bindC
  rw[Kf fun v hv=>(List.nodup_cons.mp nd).1 (List.of_mem_zip hv).1,if_neg hk]
  simp
 |p::P,w::vs,i+1,m,nd,h1,h2,hk=>by
  show bindC kindOf ((p,w)::P.zip vs) m x=_
  unfold bindC
  exact Kh (i:=i) (List.nodup_cons.mp nd).2 (by simpa using h1) (by simpa using h2) hk
noncomputable def start(N:List Str)(vs:List V):St:=vs.map some++List.replicate (N.length - vs.length) none
noncomputable def cxOf(CX:CXT)(P:Program)(w:World)(K:Frag)(mg:Str->Option Value)(base:Heap)(N:List Str)(qual:Str)(scope:Scope)(f:Addr)(cd:Value)(A:Around)(outer:List Env)(s:Shared)(H:Hp)(E:XK):Cx where
 prog:=P
 w:=w
 K:=K
 mg:=mg
 base:=base
 A:=A.deeper (envOfC qual scope s.heap.objs.size f cd)
 N:=N
 s₀:=s
 H₀:=H
 env:=envOfC qual scope s.heap.objs.size f cd
 outer:=outer
 stack:=envOfC qual scope s.heap.objs.size f cd::outer
 ex:=[]
 calm:=true
 fn:=fun _=>true
 pn:=[]
 xe:=fun e s'=>wpAny (model P w) (A.deeper (envOfC qual scope s.heap.objs.size f cd)) (leaving (envOfC qual scope s.heap.objs.size f cd) e) (fun _ s''=>CX outer H s E e s'') (fun e' s''=>CX outer H s E e' s'') s'
theorem KZ{sc:Scope}{n:Nat}{x:Str}(h:sc.names.lookup x=some .cell):∃c,(cellsFrom n sc.names []).lookup x=some c:=by
 have q:=PySem.W.cellsFrom_some sc.names n [] (.inl h)
 exact Option.isSome_iff_exists.mp q
theorem X7{CX:CXT}{P:Program}{w:World}{K:Frag}{mg:Str->Option Value}{base:Heap}{N ps:List Str}{qual:Str}{scope:Scope}{f:Addr}{cd:Value}{A:Around}{outer:List Env}{s s1:Shared}{H:Hp}{E:XK}{us:List Value}{vs:List V}
  (S:FnScope N ps scope) (hd:A.handled=none) (e0:Env0 P w K mg base A outer s H) (hl:vs.length=ps.length) (r:Vals vs us)
  (x:InCallC s s.heap.objs.size (bindL (envOfC qual scope s.heap.objs.size f cd).kindOf (ps.zip us) fun _=>none) (cellsFrom (s.heap.objs.size+1) scope.names []) (bindC (envOfC qual scope s.heap.objs.size f cd).kindOf (ps.zip us) fun _=>none) s1):
  Inv (cxOf CX P w K mg base N qual scope f cd A outer s H E) [] (start N vs) H s1:=by
 have hpl:ps.length<=N.length:=by have:=congrArg List.length S.pre;rw[List.length_take]at this;omega
 obtain⟨h1,tk,rfl,hk⟩:=x.done
 have noA:∀b:Addr,b∉(cxOf CX P w K mg base N qual scope f cd A outer s H E).ex:=fun b z=>absurd (show b∈([]:List Addr) from z) (by simp)
 refine⟨⟨e0.mod,S.kind,rfl,rfl,Nat.le_refl _,fun y z c h1 h2=>?_,fun y hy=>?_,fun y c _ h=>?_,fun _=>hd,Around.frames_deeper e0.frames,.inr ⟨rfl,rfl⟩,fun b z=>absurd z (noA b),e0.bs,e0.bsz,fun b _ _=>noA b,fun b z=>absurd z (noA b),e0.funs,e0.frf⟩,
  rfl,e0.bare,Un.kept hk,⟨_,x.toInCall.ns,fun i y v h1 h2 h3=>?_⟩,fun y c h=>⟨_,x.cell y c h⟩,e0.hok.fresh (Nat.le_refl _),fun y c h=>?_,fun p hp=>absurd (show p∈([]:List (Addr×Obj)) from hp) (by simp),e0.hok.kept hk,?_⟩
 ·exact name_of_addr x.apart (PySem.mem_of_lookup h1) (PySem.mem_of_lookup h2)
 ·have hy:scope.names.lookup y=some .cell∨scope.names.lookup y=some .free:=hy
  rcases hy with hy |hy
  ·exact KZ hy
  ·exact absurd rfl (S.nofree _ (PySem.mem_of_lookup hy))
 ·exact Nat.le_of_lt (x.above y c (PySem.mem_of_lookup h))
 ·have hi:i < vs.length:=by
   unfold start at h2
   by_cases hi:i < vs.length
   ·exact hi
   ·rw[List.getElem?_append_right (by simpa using hi)]at h2
    rw[List.getElem?_replicate]at h2
    split at h2<;>cases h2
  have ha:vs[i]?=some v:=by
   unfold start at h2
   rw[List.getElem?_append_left (by simpa using hi),List.getElem?_map]at h2
   cases e:vs[i]? with
   |none=>rw[e]at h2;cases h2
   |some a=>rw[e]at h2;cases h2;rfl
  obtain⟨u,hu,rv⟩:=r.get ha
  have hp:ps[i]?=some y:=by
   rw[<- S.pre,List.getElem?_take_of_lt (by omega)];exact h1
  have ndP:ps.Nodup:=by rw[<- S.pre];exact S.nd.sublist (List.take_sublist _ _)
  refine⟨u,rv,?_⟩
  rcases S.par y (List.mem_of_getElem? hp) with k |k
  ·exact .inl ⟨k,Kg ndP hp hu k⟩
  ·obtain⟨c,e⟩:=KZ (n:=s.heap.objs.size+1) k
   refine .inr ⟨.inl k,c,e,?_⟩
   have q:=x.cell y c e
   rw[Kh ndP hp hu (by show scope.names.lookup y≠_;rw[k];decide)]at q
   exact q
 ·exact e0.hok.fresh (Nat.le_of_lt (x.above y c (PySem.mem_of_lookup h)))
 ·unfold start
  show _=N.length
  rw[List.length_append,List.length_map,List.length_replicate]
  omega
theorem fn_of{CX:CXT}{P:Program}{w:World}{K:Frag}{mg:Str->Option Value}{base:Heap}{k:Nat}{f:Addr}{name qual:Str}{params:Arguments}{body:List Stmt}{scope:Scope}{dV kV doc pm cdv ct oc:Value}{an od:Option Addr}
  {osl:Array (Option Value)} {N ps:List Str} {sp:Sp} (lk:K.lookup f=some ⟨oc,od,.func (fnOf name qual params body scope dV kV doc pm an cdv ct),osl⟩) (hcd:codeIn K cdv qual=true) (S:FnScope N ps scope)
  (len:∀vs H Q E,sp vs H Q E->vs.length=ps.length)
  (hbody:∀(A:Around) (outer:List Env) (s:Shared) (H:Hp) (vs:List V) (Q:VK) (E:XK),Room k (A.deeper (envOfC qual scope s.heap.objs.size f cdv))->sp vs H Q E->
   ∃t,PSs (cxOf CX P w K mg base N qual scope f cdv A outer s H E) body t/\t { nx:=fun _ H'=>Q .non H',rt:=Q } (start N vs) H):
  FnOk P w K mg base CX (k+1) f (fnOf name qual params body scope dV kV doc pm an cdv ct) ps sp:=by
 refine⟨len,fun A outer s H args us vs Q E hr e0 hb r hsp=>?_⟩
 have hl:=len _ _ _ _ hsp
 have KX:K.In s.heap:=e0.mod.kin.keeps fun b o e=>(e0.bs b o e).1
 have lim:s.heap.NoLimit:=e0.mod.nolimit.keeps fun b o e=>(e0.bs b o e).1
 have hkind:∀y∈ps.zip us,scope.names.lookup y.1=some .local∨(scope.names.lookup y.1=some .cell/\((cellsFrom (s.heap.objs.size+1) scope.names []).lookup y.1).isSome=true):=fun⟨n,v⟩ hy=>by
  rcases S.par n (List.of_mem_zip hy).1 with q |q
  ·exact .inl q
  ·exact .inr ⟨q,PySem.W.cellsFrom_some _ _ _ (.inl q)⟩
 refine codeAny_call_function hr.depth (KX _ _ lk) rfl S.co S.gen rfl (PySem.W.codeRec_of KX hcd) (hb _ _ _ _ ?_)
 refine wpAny_newFunctionEnv_cells S.kind hkind fun env he s1 x=>?_
 subst he
 refine⟨lim.keeps x.toInCall.keep,codeAny_func ?_⟩
 obtain⟨t,ht,hq⟩:=hbody A outer s H vs Q E (hr.deeper _) hsp
 have I:Inv (cxOf CX P w K mg base N qual scope f cdv A outer s H E) [] (start N vs) H s1:=X7 S hr.hd e0 hl r x
 refine wpAny_mono (ht [] s1 (start N vs) H _ I hq) (fun fl s' hs=>?_) fun e s' hs=>hs
 have fin:∀{σ':St} {H':Hp} {v:V} {u:Value},Inv (cxOf CX P w K mg base N qual scope f cdv A outer s H E) [] σ' H' s'->RelV v u->Q v H'->CE outer P w H s Q u s':=
  fun {σ' H' v u} J rv q=>⟨v,H',J.os,J.bare,J.base,J.hok,rv,q⟩
 cases fl with
 |ret u=>
  obtain⟨v,σ',H',J,rv,q⟩:=hs
  exact fin J rv q
 |next=>
  obtain⟨σ',H',J,q⟩:=hs
  exact fin (v:=V.non) (u:=Value.none) J rfl q
 |brk=>
  obtain⟨_,_,_,q⟩:=hs
  exact False.elim q
 |cont=>
  obtain⟨_,_,_,q⟩:=hs
  exact False.elim q
section
variable {X:Cx}{x:Str}{p pos:Pos}{e:Expr}{es:List Expr}{t:TA}{id T:String}{r:List V->Hp->VK->Prop}
def tCB(r:List V->Hp->VK->Prop)(t:TA):TE:=fun σ H Q=>t σ H fun vs H1=>r vs H1 Q
theorem jB(hc:CallR X (.builtin id) r)(hg:Gl X x)(hm:X.mg x=none)(hv:bootBuiltins x=some (.builtin id))(ha:PA X (e::es) t)(hn:x≠"__name__":=by decide)(hdb:(x==("__debug__":Str))=false:=by decide)
  (he:starEach (e::es) X.env=(false,eval e X.env)::starEach es X.env:=by rfl) (hpl:(backTo pos (starEach es X.env)).any (·.1)=false:=by rfl):PE X (.Call (.Name x p) (e::es) [] pos) (tCB r t):=by
 intro pins s σ H Q I h
 refine wpAny_Call_Name_kw (zi I hg hm hv ?_ hn hdb)
 exact PyProof.Rows.callWith_builtin1 (thn (ha pos pins s σ H _ I h) fun us s1 ⟨vs,H1,I1,r1,q1⟩=>hc pins s1 σ H1 vs us Q I1 r1 q1) he hpl
theorem jC(hc:CallR X (.type T) r)(hg:Gl X x)(hm:X.mg x=none)(hv:bootBuiltins x=some (.type T))(ha:PA X (e::es) t)(hn:x≠"__name__":=by decide)(hdb:(x==("__debug__":Str))=false:=by decide)
  (he:starEach (e::es) X.env=(false,eval e X.env)::starEach es X.env:=by rfl) (hpl:(backTo pos (starEach es X.env)).any (·.1)=false:=by rfl):PE X (.Call (.Name x p) (e::es) [] pos) (tCB r t):=by
 intro pins s σ H Q I h
 refine wpAny_Call_Name_kw (zi I hg hm hv ?_ hn hdb)
 exact PyProof.Rows.callWith_type1 (thn (ha pos pins s σ H _ I h) fun us s1 ⟨vs,H1,I1,r1,q1⟩=>hc pins s1 σ H1 vs us Q I1 r1 q1) he hpl
end
end L2
namespace HT
open PySem PyProof.Rows
section
variable {prog:Program}{w:World}{A:Around}{E:Value->Shared->Prop}{s:Shared}
theorem cat_tup{t b:Addr}{vs ws:List Value}{Q:Value->Shared->Prop}(ht:IsTup s.heap t vs.toArray)(hb:IsTup s.heap b ws.toArray)(hv:vs≠[])
  (h1:ws=[]->Q (.ref t) s) (h2:ws≠[]->Q (.ref s.heap.objs.size) { s with heap:=s.heap.push { cls:=.type "tuple",data:=.seq (vs++ws).toArray } })
  (hsz:vs.length+ws.length<=sizeLine):wpAny (model prog w) A (binaryOp .Add (.ref t) (.ref b)) Q E s:=by
 obtain⟨⟨cls,dd,data,sl⟩,ho,hc,n,hd⟩:=id ht
 obtain⟨⟨cls2,dd2,data2,sl2⟩,ho2,hc2,n2,hd2⟩:=id hb
 simp only at hc hd hc2 hd2
 subst hc hd hc2 hd2
 have e:vs.toArray++ws.toArray=(vs++ws).toArray:=by simp
 by_cases hw:ws=[]
 ·exact concat_meets ⟨_,ho,rfl⟩ ⟨_,ho2,rfl⟩ noFill_tuple_add seq_tuple_add PySem.F.slot_tuple_add PySem.F.entry_tuple_add (PySem.F.args_tuple_add_2 _ _)
   (tuple_addW1 t b vs.toArray ws.toArray n n2 dd dd2 sl sl2 (by simpa using hv) (by simp [hw])) ⟨ho,ho2,h1 hw⟩
 ·refine concat_meets ⟨_,ho,rfl⟩ ⟨_,ho2,rfl⟩ noFill_tuple_add seq_tuple_add PySem.F.slot_tuple_add PySem.F.entry_tuple_add (PySem.F.args_tuple_add_2 _ _)
   (tuple_addW2 t b vs.toArray ws.toArray n n2 dd dd2 sl sl2 (by simpa using hv) (by simpa using hw) (by rw[List.size_toArray,List.size_toArray];exact hsz)) ⟨ho,ho2,?_⟩
  rw[e]
  exact h2 hw
noncomputable def sIx(n d:Nat):Option Int->Nat
 |none=>d
 |some v=>if v < 0 then (v+(n:Int)).toNat else min v.toNat n
theorem sIx_none(n d:Nat):sIx n d none=d:=rfl
theorem sIx_nat(n d k:Nat):sIx n d (some (k:Int))=min k n:=by
 show(if (k:Int) < 0 then ((k:Int)+(n:Int)).toNat else min (k:Int).toNat n)=min k n
 rw[if_neg (by omega),Int.toNat_natCast]
theorem sIx_le(n d:Nat)(hd:d<=n)(o:Option Int):sIx n d o<=n:=by
 cases o with
 |none=>exact hd
 |some v=>
  show(if v < 0 then (v+(n:Int)).toNat else min v.toNat n)<=n
  by_cases hv:v < 0
  ·rw[if_pos hv];omega
  ·rw[if_neg hv];exact Nat.min_le_right _ _
theorem Xv(v:Int)(n d:Nat):(if v < 0 then max (v+(n:Int)) 0 else min v (n:Int))=((sIx n d (some v):Nat):Int):=by
 show(if v < 0 then max (v+(n:Int)) 0 else min v (n:Int))=(((if v < 0 then (v+(n:Int)).toNat else min v.toNat n):Nat):Int)
 by_cases hv:v < 0
 ·simp only[if_pos hv];omega
 ·simp only[if_neg hv];omega
theorem QR(lo hi:Option Int)(n:Nat):Builtin.Slice.sliceAdjust lo hi 1 (n:Int)=(((sIx n 0 lo:Nat):Int),((sIx n n hi:Nat):Int)):=by
 have h1:¬((1:Int) < 0):=by omega
 unfold Builtin.Slice.sliceAdjust
 simp only[h1,if_false]
 refine Prod.ext ?_ ?_
 ·cases lo with
  |none=>rfl
  |some v=>exact Xv v n 0
 ·cases hi with
  |none=>rfl
  |some v=>exact Xv v n n
theorem QS(i j:Nat):Builtin.Slice.slicePlaces (i:Int) (j:Int) 1=j - i:=by
 unfold Builtin.Slice.slicePlaces
 have h1:(1:Int) > 0:=by omega
 simp only[h1,if_true,Int.ediv_one]
 split<;>omega
theorem JD{v:Value}{o:Option Int}{Q:Option Int->Shared->Prop}(p:IsPart v o)(h:Q o s):wpAny (model prog w) A (Builtin.Slice.slicePartIndex v) Q E s:=by
 cases p with
 |none=>exact slicePart_none h
 |int i t=>exact slicePart_int h
theorem sliceApplied_gen{sl:Addr}{vl vu:Value}{lo hi:Option Int}{n:Nat}{Q:Int×Int×Nat->Shared->Prop}(hs:s.heap.IsSliceOf sl vl vu .none)(pl:IsPart vl lo)(pu:IsPart vu hi)
  (h:Q (((sIx n 0 lo:Nat):Int),1,sIx n n hi - sIx n 0 lo) s):wpAny (model prog w) A (Builtin.Slice.sliceApplied (.ref sl) (pure (n:Int))) Q E s:=by
 obtain⟨os,hos,hcs,hds⟩:=id hs
 unfold Builtin.Slice.sliceApplied Builtin.Slice.sliceFields
 refine wpAny_bind (wpAny_bind (wpAny_field hos hds (x:=vl) rfl (wpAny_bind (wpAny_field hos hds (x:=vu) rfl (wpAny_bind (wpAny_field hos hds (x:=.none) rfl (wpAny_pure ?_)))))))
 refine wpAny_bind (slicePart_none ?_)
 show wpAny _ _ (if ((1:Int)==0)=true then _ else _) _ _ s
 rw[if_neg (by decide)]
 refine wpAny_bind (JD pl (wpAny_bind (JD pu (wpAny_bind (wpAny_pure ?_)))))
 show wpAny _ _ (match Builtin.Slice.sliceAdjust lo hi 1 (n:Int) with | (lo,hi)=>pure (lo,(1:Int),Builtin.Slice.slicePlaces lo hi 1)) _ _ s
 rw[QR lo hi n]
 show wpAny _ _ (pure (((sIx n 0 lo:Nat):Int),(1:Int),Builtin.Slice.slicePlaces ((sIx n 0 lo:Nat):Int) ((sIx n n hi:Nat):Int) 1)) _ _ s
 rw[QS]
 exact wpAny_pure h
theorem Zr(xs:Array Value)(i k:Nat):((List.range k).filterMap fun(m:Nat)=>xs[((i:Int)+(m:Int)*1).toNat]?).toArray=((xs.toList.drop i).take k).toArray:=by
 have e:(fun(m:Nat)=>xs[((i:Int)+(m:Int)*1).toNat]?)=fun m=>xs[i+m]?:=by
  funext m
  have:((i:Int)+(m:Int)*1).toNat=i+m:=by omega
  rw[this]
 rw[e]
 have:=pick_run xs i k
 rw[List.filterMap_map]at this
 have e2:((fun x=>xs[x]?) ∘ fun x=>i+x)=fun m=>xs[i+m]?:=rfl
 rw[e2]at this
 rw[this]
theorem getItem_tuple_cut{t sl:Addr}{items:Array Value}{vl vu:Value}{lo hi:Option Int}{Q:Value->Shared->Prop}(ht:IsTup s.heap t items)(hs:s.heap.IsSliceOf sl vl vu .none)(pl:IsPart vl lo)(pu:IsPart vu hi)
  (hw:¬(sIx items.size 0 lo=0/\sIx items.size items.size hi=items.size))
  (h:Q (.ref s.heap.objs.size) { s with heap:=s.heap.push { cls:=.type "tuple",data:=.seq ((items.toList.drop (sIx items.size 0 lo)).take (sIx items.size items.size hi - sIx items.size 0 lo)).toArray } })
  (hsz:items.size<=sizeLine):wpAny (model prog w) A (getItem (.ref t) (.ref sl)) Q E s:=by
 have htake:sizeOk (.seq ((items.toList.drop (sIx items.size 0 lo)).take (sIx items.size items.size hi - sIx items.size 0 lo)).toArray):=by
  show((items.toList.drop (sIx items.size 0 lo)).take (sIx items.size items.size hi - sIx items.size 0 lo)).toArray.size<=sizeLine
  rw[List.size_toArray,List.length_take,List.length_drop,Array.length_toList]
  omega
 have hj:sIx items.size items.size hi<=items.size:=sIx_le _ _ (Nat.le_refl _) hi
 obtain⟨os,hos,hcs,hds⟩:=id hs
 have hTs:s.TypeIs (.ref sl) "slice":=⟨os,hos,hcs⟩
 unfold getItem
 try with_reducible refine wpAny_holding ?_
 first |refine wpAny_bind (wpAny_pure ?_) |skip
 refine wpAny_bind (wpAny_sequenceKey ht.typeIs (by decide) ?_)
 refine wpAny_bind (wpAny_callSpecial?_slot (name:=Str.ofString "__getitem__") ht.typeIs PyProof.Rows.slot_tuple_getitem
  (wpAny_call_entry PyProof.Rows.slot_tuple_getitem ht.typeIs entry_tuple_getitem ?_ (args_tuple_getitem _ _)))
 show wpAny _ _ (Builtin.Tuple.tupleItemsOf (.ref t) >>= _) _ _ s
 refine wpAny_bind (tupleItemsOf_ ht ?_)
 refine wpAny_bind (wpAny_typeOf hTs ?_)
 rw[if_pos (by decide)]
 refine wpAny_bind (sliceApplied_gen hs pl pu ?_)
 have hno:¬((((sIx items.size 0 lo:Nat):Int)==0&&(1:Int)==1&&(sIx items.size items.size hi - sIx items.size 0 lo)==items.size)=true):=by
  intro q
  rw[Bool.and_eq_true,Bool.and_eq_true]at q
  have q1:((sIx items.size 0 lo:Nat):Int)=0:=eq_of_beq q.1.1
  have q2:sIx items.size items.size hi - sIx items.size 0 lo=items.size:=eq_of_beq q.2
  exact hw ⟨by omega,by omega⟩
 show wpAny _ _ (if (((sIx items.size 0 lo:Nat):Int)==0&&(1:Int)==1&&(sIx items.size items.size hi - sIx items.size 0 lo)==items.size)=true then _ else _) _ _ s
 rw[if_neg hno,Zr]
 first
  |exact wpAny_bind (m:=Builtin.Tuple.tupleExact _) (wpAny_newObj_type (wpAny_pure ⟨_,rfl,wpAny_pure h⟩) htake)
  |exact wpAny_bind (m:=Builtin.Tuple.tupleExact _) (wpAny_newObj_type (wpAny_bind (wpAny_pure (wpAny_pure ⟨_,rfl,wpAny_pure h⟩))) htake)
  |exact wpAny_bind (wpAny_bind (m:=Builtin.Tuple.tupleExact _) (wpAny_newObj_type (wpAny_pure (wpAny_pure ⟨_,rfl,wpAny_pure h⟩)) htake))
  |exact wpAny_bind (wpAny_bind (m:=Builtin.Tuple.tupleExact _) (wpAny_newObj_type (wpAny_pure ⟨_,rfl,wpAny_pure h⟩) htake))
end
end HT
namespace L2
open PySem PySem.Spec PyProof.Rows
abbrev TO:=St->Hp->(Option Int->Hp->Prop)->Prop
def PO(X:Cx)(e:Option Expr)(t:TO):Prop:=
 ∀(pins:List (Addr×Obj)) (s:Shared) (σ:St) (H:Hp) (Q:Option Int->Hp->Prop),Inv X pins σ H s->t σ H Q->
  wpAny (model X.prog X.w) X.A (evalPart e X.env) (fun u s'=>∃o H',Inv X pins σ H' s'/\IsPart u o/\Q o H') X.xe s
def tNoPart:TO:=fun _ H Q=>Q none H
def tPart(t:TE):TO:=fun σ H Q=>t σ H fun x H1=>∃i,x= .int i/\Q (some i) H1
section
variable {X:Cx}{e:Expr}{te:TE}{lo hi:Option Expr}{tl th:TO}{pos p2:Pos}
theorem jZ:PO X none tNoPart:=by
 intro pins s σ H Q I h
 rw[evalPart_none]
 exact wpAny_pure ⟨none,H,I,.none,h⟩
theorem jF(h:PE X e te):PO X (some e) (tPart te):=by
 intro pins s σ H Q I hw
 rw[evalPart_some]
 refine thn (h pins s σ H _ I hw) fun u s1 ⟨x,H1,I1,r1,q1⟩=>?_
 obtain⟨i,rfl,q⟩:=q1
 obtain⟨t,rfl⟩:=r1
 exact⟨some i,H1,I1,.int i t,q⟩
def SlR(X:Cx)(r:V->Option Int->Option Int->Hp->VK->Prop):Prop:=
 ∀(pins:List (Addr×Obj)) (s:Shared) (σ:St) (H:Hp) (x:V) (v vl vu:Value) (lo hi:Option Int) (sl:Addr) (Q:VK),Inv X pins σ H s->RelV x v->s.heap.IsSliceOf sl vl vu .none->IsPart vl lo->IsPart vu hi->r x lo hi H Q->
  ∃T id,typeLookup (.type T) "__getitem__"=pure (some (.builtin id))/\s.TypeIs v T/\wpAny (model X.prog X.w) X.A (getItem v (.ref sl)) (EP X pins σ Q) X.xe s
def tSl(r:V->Option Int->Option Int->Hp->VK->Prop)(te:TE)(tl th:TO):TE:=fun σ H Q=>te σ H fun x H1=>tl σ H1 fun l H2=>th σ H2 fun u H3=>r x l u H3 Q
theorem jK{r:V->Option Int->Option Int->Hp->VK->Prop}(hr:SlR X r)(he:PE X e te)(hl:PO X lo tl)(hu:PO X hi th):PE X (.Subscript e (.Slice lo hi none p2) pos) (tSl r te tl th):=by
 intro pins s σ H Q I h
 refine Subscript_ (thn (he pins s σ H _ I h) fun v s1 ⟨x,H1,I1,r1,q1⟩=>?_)
 refine wpAny_Slice (thn (hl pins s1 σ H1 _ I1 q1) fun vl s2 ⟨l,H2,I2,pl,q2⟩=>thn (hu pins s2 σ H2 _ I2 q2) fun vu s3 ⟨u,H3,I3,pu,q3⟩=>?_)
 rw[evalPart_none]
 refine wpAny_pure ?_
 have I4:Inv X pins σ H3 { s3 with heap:=s3.heap.push { cls:=.type "slice",data:=.fields #[vl,vu,.none] } }:=I3.kept (t':=s3.toks) fun b ob q=>Heap.get?_push_of_some _ q
 obtain⟨T,id,hT,ht,hg⟩:=hr pins { s3 with heap:=s3.heap.push { cls:=.type "slice",data:=.fields #[vl,vu,.none] } } σ H3 x v vl vu l u s3.heap.objs.size Q I4 r1 (Heap.IsSliceOf.new ..) pl pu q3
 show wpAny (model X.prog X.w) X.A (subscriptTail e (.Slice lo hi none p2) v (.ref s3.heap.objs.size)) (EP X pins σ Q) X.xe { s3 with heap:=s3.heap.push { cls:=.type "slice",data:=.fields #[vl,vu,.none] } }
 exact tail_any (ops:=[.ref s3.heap.objs.size,v]) ht hT hg (by with_unfolding_all rfl)
noncomputable def cutV(xs:List V)(lo hi:Option Int):List V:=(xs.drop (HT.sIx xs.length 0 lo)).take (HT.sIx xs.length xs.length hi - HT.sIx xs.length 0 lo)
theorem kO(xs:List V)(lo hi:Option Int):(cutV xs lo hi).length<=xs.length:=by
 unfold cutV
 rw[List.length_take,List.length_drop]
 omega
def rSlT(K:Frag):V->Option Int->Option Int->Hp->VK->Prop:=fun x lo hi H Q=>∃a xs,x= .ref a/\SqT K H a xs/\
 ¬(HT.sIx xs.length 0 lo=0/\HT.sIx xs.length xs.length hi=xs.length)/\∀p,H p=none->Q (.ref p) (upd H p (.tup (cutV xs lo hi)))
theorem sl_tup:SlR X (rSlT X.K):=by
 intro pins s σ H x v vl vu lo hi sl Q I rx hs pl pu h
 obtain⟨a,xs,rfl,hx,hw,q⟩:=h
 cases rx
 obtain⟨its,r,ht,hz⟩:=I.tuple hx
 have hlen:its.toArray.size=xs.length:=by rw[List.size_toArray];exact r.length.symm
 refine⟨"tuple",_,PyProof.Rows.slot_tuple_getitem.lookup,ht.typeIs,?_⟩
 refine HT.getItem_tuple_cut ht hs pl pu (by rw[hlen];exact hw) ?_ (by rw[hlen];exact hz)
 rw[hlen]
 refine⟨.ref s.heap.objs.size,_,I.laid (t':=s.toks) (o:=.tup (cutV xs lo hi)) (fun b ob q=>Heap.get?_push_of_some _ q) (Nat.le_refl _) ?_,rfl,q _ (I.hok.fresh (Nat.le_refl _))⟩
 exact⟨Nat.le_trans (kO xs lo hi) hz,_,(r.drop (HT.sIx xs.length 0 lo)).take (HT.sIx xs.length xs.length hi - HT.sIx xs.length 0 lo),IsTup.new _ _⟩
def rCatT(K:Frag):R2:=fun x y H Q=>∃a b xs ys,x= .ref a/\y= .ref b/\SqT K H a xs/\SqT K H b ys/\xs≠[]/\xs.length+ys.length<=sizeLine/\
 (ys=[]->Q (.ref a) H)/\(ys≠[]->∀p,H p=none->Q (.ref p) (upd H p (.tup (xs++ys))))
theorem Vals.nil_iff{xs:List V}{us:List Value}(r:Vals xs us):us=[]↔xs=[]:=by
 cases r with
 |nil=>simp
 |cons _ _=>simp
theorem op_catT:OpR X (binaryOp .Add) (rCatT X.K):=by
 intro pins s σ H x y v u Q I rx ry h
 obtain⟨a,b,xs,ys,rfl,rfl,ha,hb,hx,hz,q1,q2⟩:=h
 cases rx
 cases ry
 obtain⟨its,r1,p1,_⟩:=I.tuple ha
 obtain⟨its2,r2,p2,_⟩:=I.tuple hb
 refine HT.cat_tup p1 p2 (fun z=>hx (r1.nil_iff.mp z)) (fun z=>⟨.ref a,H,I,rfl,q1 (r2.nil_iff.mp z)⟩) (fun z=>?_) (by rw[<- r1.length,<- r2.length];exact hz)
 refine⟨.ref s.heap.objs.size,_,I.laid (t':=s.toks) (o:=.tup (xs++ys)) (fun b ob q=>Heap.get?_push_of_some _ q) (Nat.le_refl _) ?_,rfl,q2 (fun w=>z (r2.nil_iff.mpr w)) _ (I.hok.fresh (Nat.le_refl _))⟩
 exact⟨by rw[List.length_append];exact hz,_,r1.append r2,IsTup.new _ _⟩
end
noncomputable def ixN(n:Nat)(i:Int):Option Nat:=if 0<=i then (if i < n then some i.toNat else none) else if -(n:Int)<=i then some (i+n).toNat else none
noncomputable def atI{α:Type}(xs:List α)(i:Int):Option α:=(ixN xs.length i).bind fun j=>xs[j]?
theorem Xw{n:Nat}{i:Int}{j:Nat}(h:ixN n i=some j):seqIndex? i n=some j/\j < n/\ -(n:Int)<=i/\i < n:=by
 unfold ixN at h
 by_cases h0:0<=i
 ·rw[if_pos h0]at h
  by_cases h1:i < n
  ·rw[if_pos h1]at h
   have e:i.toNat=j:=Option.some.inj h
   exact⟨by rw[seqIndex_of h0 h1,e],by omega,by omega,h1⟩
  ·rw[if_neg h1]at h;cases h
 ·rw[if_neg h0]at h
  by_cases h1: -(n:Int)<=i
  ·rw[if_pos h1]at h
   have e:(i+n).toNat=j:=Option.some.inj h
   exact⟨by rw[seqIndex_neg (by omega) h1,e],by omega,h1,by omega⟩
  ·rw[if_neg h1]at h;cases h
theorem KC{α:Type}{xs:List α}{i:Int}{v:α}(h:atI xs i=some v):∃j,seqIndex? i xs.length=some j/\xs[j]?=some v/\j < xs.length/\ -(xs.length:Int)<=i/\i < xs.length:=by
 unfold atI at h
 cases e:ixN xs.length i with
 |none=>rw[e]at h;cases h
 |some j=>
  rw[e]at h
  obtain⟨h1,h2,h3,h4⟩:=Xw e
  exact⟨j,h1,h,h2,h3,h4⟩
theorem jE{α:Type}{xs:List α}{j:Nat}{v:α}(h:xs[j]?=some v):atI xs (j:Int)=some v:=by
 have hj:j < xs.length:=(List.getElem?_eq_some_iff.mp h).1
 have e:ixN xs.length (j:Int)=some j:=by
  unfold ixN
  rw[if_pos (by omega),if_pos (by omega)];simp
 unfold atI;rw[e];exact h
def PlainIx(b:Expr):Prop:=∀o i,subscripted b false o i=operate [o,i] (getItem o i)
def IxR(X:Cx)(r:R2):Prop:=
 ∀(value slice:Expr) (pins:List (Addr×Obj)) (s:Shared) (σ:St) (H:Hp) (x y:V) (v u:Value) (Q:VK),Inv X pins σ H s->RelV x v->RelV y u->r x y H Q->
  subscripted slice false v u=operate [v,u] (getItem v u)->wpAny (model X.prog X.w) X.A (subscriptTail value slice v u) (EP X pins σ Q) X.xe s
def MtR(X:Cx)(id:String)(r:V->List V->Hp->VK->Prop):Prop:=
 ∀(pins:List (Addr×Obj)) (s:Shared) (σ:St) (H:Hp) (x:V) (xs:List V) (v:Value) (us:List Value) (Q:VK),Inv X pins σ H s->RelV x v->Vals xs us->r x xs H Q->
  wpAny (model X.prog X.w) X.A (call (.builtin id) (v::us)) (EP X pins σ Q) X.xe s
section
variable {X:Cx}{a b:Expr}{ta tb:TE}{pos:Pos}
theorem jk{r:R2}(hr:IxR X r)(ha:PE X a ta)(hb:PE X b tb)(hs:PlainIx b):PE X (.Subscript a b pos) (tOp r ta tb):=by
 intro pins s σ H Q I h
 exact Subscript_ (binT ha hb I h fun v u s2 x y H2 I2 rx ry q=>hr a b pins s2 σ H2 x y v u Q I2 rx ry q (hs _ _))
def rIxL(K:Frag):R2:=fun x y H Q=>∃p xs i v,x= .ref p/\y= .int i/\SqL K H p xs/\atI xs i=some v/\Q v H
def rIxT(K:Frag):R2:=fun x y H Q=>∃p xs i v,x= .ref p/\y= .int i/\SqT K H p xs/\atI xs i=some v/\Q v H
def rIxS:R2:=fun x y H Q=>∃z i c,x= .str z/\y= .int i/\z.length<=sizeLine/\atI z.cps.toList i=some c/\Q (.str ⟨#[c]⟩) H
theorem ju:IxR X (rIxL X.K):=by
 intro value slice pins s σ H x y v u Q I rx ry h hs
 obtain⟨p,xs,i,z,rfl,rfl,hq,he,q⟩:=h
 cases rx
 obtain⟨t,rfl⟩:=ry
 obtain⟨its,r,pl,hz⟩:=I.list hq
 obtain⟨j,h1,h2,h3,h4,h5⟩:=KC he
 obtain⟨w,ew,rw'⟩:=r.get h2
 have hl:=r.length
 have hn:=line63
 have fin:EP X pins σ Q w s:=⟨z,H,I,rw',q⟩
 by_cases h0:0<=i
 ·have hj:i.toNat=j:=by
   rw[seqIndex_of h0 h5]at h1
   exact Option.some.inj h1
  exact item_listR pl.isList h0 (by omega) (by rw[hj];simpa using ew) fin hs
 ·have hj:(i+(its.toArray.size:Int)).toNat=j:=by
   rw[seqIndex_neg (by omega) h4]at h1
   rw[List.size_toArray,<- hl]
   exact Option.some.inj h1
  exact subscriptTail_builtinR (x:=w) pl.isList.typeIs slot_list_getitem.lookup
   (wpAny_getItem_list_neg (Q:=fun r s'=>r=w/\EP X pins σ Q r s') pl.isList (by omega) (by rw[List.size_toArray]<;>omega) (by omega) (by rw[hj];simpa using ew) ⟨rfl,fin⟩) hs
theorem jq:IxR X (rIxT X.K):=by
 intro value slice pins s σ H x y v u Q I rx ry h hs
 obtain⟨p,xs,i,z,rfl,rfl,hq,he,q⟩:=h
 cases rx
 obtain⟨t,rfl⟩:=ry
 obtain⟨its,r,pl,hz⟩:=I.tuple hq
 obtain⟨j,h1,h2,h3,h4,h5⟩:=KC he
 obtain⟨w,ew,rw'⟩:=r.get h2
 have hl:=r.length
 have hn:=line63
 have fin:EP X pins σ Q w s:=⟨z,H,I,rw',q⟩
 exact subscriptTail_builtinR (x:=w) pl.typeIs slot_tuple_getitem.lookup
  (getItem_tuple (j:=j) (Q:=fun r s'=>r=w/\EP X pins σ Q r s') pl (by omega) (by omega) (by rw[List.size_toArray,<- hl];exact h1) (by simpa using ew) ⟨rfl,fin⟩) hs
theorem Js:IxR X rIxS:=by
 intro value slice pins s σ H x y v u Q I rx ry h hs
 obtain⟨z,i,c,rfl,rfl,hz,he,q⟩:=h
 obtain⟨t,rfl⟩:=rx
 obtain⟨t',rfl⟩:=ry
 obtain⟨j,h1,h2,h3,h4,h5⟩:=KC he
 have hl:z.cps.toList.length=z.length:=by simp [Str.length]
 rw[hl]at h1 h4 h5
 have hn:=line63
 exact tail_any (typeIs_str s z t) slot_str_getitem.lookup (getItem_str (c:=c) (by
  have e1:decide (i < -(2 ^ 63:Int))=false:=decide_eq_false (by omega)
  have e2:decide (i≥2 ^ 63)=false:=decide_eq_false (by omega)
  rw[e1,e2,Bool.or_false]) (by rw[h1];simpa using h2) ⟨.str ⟨#[c]⟩,H,I.tok _,⟨_,rfl⟩,q⟩) hs
theorem QT(its:List Value)(n j:Nat)(u:Value):Obj.mapSeq (·.setIfInBounds j u) { cls:=.type "list",data:=.seq its.toArray n }={ cls:=.type "list",data:=.seq (its.set j u).toArray n }:=by
 simp [Obj.mapSeq]
theorem Inv.lst{pins:List (Addr×Obj)}{σ:St}{H:Hp}{s:Shared}{p:Addr}{xs:List V}(I:Inv X pins σ H s)(h:H p=some (.lst xs)):
  ∃(its:List Value) (n:Nat),Vals xs its/\s.heap.get? p=some { cls:=.type "list",data:=.seq its.toArray n }/\xs.length<=sizeLine:=by
 obtain⟨z,its,n,r,e⟩:=I.hok p _ h
 exact⟨its,n,r,e,z⟩
theorem Inv.lstUpd{pins:List (Addr×Obj)}{σ:St}{H:Hp}{s:Shared}{p:Addr}{xs ys:List V}{its its':List Value}{n n':Nat}{f:Obj->Obj}(I:Inv X pins σ H s)(h:H p=some (.lst xs))
  (ho:s.heap.get? p=some { cls:=.type "list",data:=.seq its.toArray n }) (hf:f { cls:=.type "list",data:=.seq its.toArray n }={ cls:=.type "list",data:=.seq its'.toArray n' }) (r:Vals ys its') (hz:ys.length<=sizeLine) (t:Nat):
  Inv X pins σ (upd H p (.lst ys)) { s with heap:=s.heap.update p f,toks:=t }:=by
 have e:(s.heap.update p f).get? p=some { cls:=.type "list",data:=.seq its'.toArray n' }:=by
  rw[Heap.get?_update_self f ho (by rw[hf]<;>rfl),hf]
 refine I.write (x:=p) (e:=p) (by rw[h];trivial) (.inl rfl) (fun b u hb q=>(Heap.get?_update_other _ _ (Ne.symm hb)).trans q) ⟨_,e⟩ ?_
 exact⟨hz,its',n',r,e⟩
def rSetL:V->V->V->Hp->(Hp->Prop)->Prop:=fun o i v H Q=>∃p xs k j,o= .ref p/\i= .int k/\H p=some (.lst xs)/\ixN xs.length k=some j/\Q (upd H p (.lst (xs.set j v)))
theorem zd:PSet X rSetL:=by
 intro pins s σ H o i v ov iv u Q I ro ri rv h
 obtain⟨p,xs,k,j,rfl,rfl,hp,hj,q⟩:=h
 cases ro
 obtain⟨t,rfl⟩:=ri
 obtain⟨its,n,r,ho,hz⟩:=I.lst hp
 obtain⟨h1,h2,h3,h4⟩:=Xw hj
 have hl:=r.length
 have hn:=line63
 have I':Inv X pins σ (upd H p (.lst (xs.set j v))) { s with heap:=s.heap.update p (Obj.mapSeq (·.setIfInBounds j u)) }:=
  I.lstUpd hp ho (QT its n j u) (r.set rv j) (by rw[List.length_set];exact hz) s.toks
 by_cases h0:0<=k
 ·have hk:k.toNat=j:=by
   rw[seqIndex_of h0 h4]at h1
   exact Option.some.inj h1
  exact PySem.W.ki_setAt ho h0 (by omega) (by rw[List.size_toArray,<- hl];exact h4) (by rw[hk];exact⟨_,I',q⟩)
 ·have hk:(k+(its.toArray.size:Int)).toNat=j:=by
   rw[seqIndex_neg (by omega) h3]at h1
   rw[List.size_toArray,<- hl]
   exact Option.some.inj h1
  exact PySem.W.ki_setBack ho (by omega) (by rw[List.size_toArray,<- hl];exact h3) (by omega) (by rw[hk];exact⟨_,I',q⟩)
theorem KJ(lo hi:Option Int)(n:Nat):(sliceBounds lo hi none n).1=((HT.sIx n 0 lo:Nat):Int)/\(sliceBounds lo hi none n).2.1=((HT.sIx n n hi:Nat):Int)/\(sliceBounds lo hi none n).2.2=1:=by
 refine⟨?_,?_,rfl⟩
 ·cases lo with
  |none=>simp [sliceBounds,HT.sIx]
  |some i=>
   simp only[sliceBounds,HT.sIx,Option.getD_none,show(1:Int) > 0 by decide,if_true]
   by_cases h:i < 0
   ·simp only[h,if_true]<;>omega
   ·simp only[h,if_false]<;>omega
 ·cases hi with
  |none=>simp [sliceBounds,HT.sIx]
  |some i=>
   simp only[sliceBounds,HT.sIx,Option.getD_none,show(1:Int) > 0 by decide,if_true]
   by_cases h:i < 0
   ·simp only[h,if_true]<;>omega
   ·simp only[h,if_false]<;>omega
theorem JR(its:List Value)(lo hi:Option Int):slicePick its.toArray lo hi none=((its.drop (HT.sIx its.length 0 lo)).take (HT.sIx its.length its.length hi - HT.sIx its.length 0 lo)).toArray:=by
 obtain⟨h1,h2,h3⟩:=KJ lo hi its.toArray.size
 unfold slicePick
 rw[h1,h2,h3]
 simp only[sliceRange_one,pick_run,List.size_toArray]<;>rfl
def rSlL(K:Frag):V->Option Int->Option Int->Hp->VK->Prop:=fun x lo hi H Q=>∃a xs,x= .ref a/\SqL K H a xs/\∀p,H p=none->Q (.ref p) (upd H p (.lst (cutV xs lo hi)))
theorem j8:SlR X (rSlL X.K):=by
 intro pins s σ H x v vl vu lo hi sl Q I rx hs pl pu h
 obtain⟨a,xs,rfl,hx,q⟩:=h
 cases rx
 obtain⟨its,r,ht,hz⟩:=I.list hx
 have hlen:=r.length
 refine⟨"list",_,slot_list_getitem.lookup,ht.isList.typeIs,?_⟩
 refine wpAny_getItem_list_slice ht.isList hs pl pu .none (by simp) ?_ (by rw[List.size_toArray]<;>omega)
 rw[JR,<- hlen]
 refine⟨.ref s.heap.objs.size,_,I.laid (t':=s.toks) (o:=.lst (cutV xs lo hi)) (fun b ob q=>Heap.get?_push_of_some _ q) (Nat.le_refl _) ?_,rfl,q _ (I.hok.fresh (Nat.le_refl _))⟩
 exact⟨Nat.le_trans (kO xs lo hi) hz,_,0,(r.drop (HT.sIx xs.length 0 lo)).take (HT.sIx xs.length xs.length hi - HT.sIx xs.length 0 lo),Heap.get?_push_size _ rfl⟩
noncomputable def flatV:V->Bool
 | .non=>true
 | .bl _=>true
 | .int _=>true
 | .str _=>true
 |_=>false
noncomputable def eqV:V->V->Bool
 | .non,.non=>true
 | .bl a,.bl b=>a==b
 | .bl a,.int b=>(if a then 1 else 0)==b
 | .int a,.bl b=>a==(if b then 1 else 0)
 | .int a,.int b=>a==b
 | .str a,.str b=>a==b
 |_,_=>false
theorem eqAt_V{A:Around}{s:Shared}{y x:V}{u v:Value}(ry:RelV y u)(rx:RelV x v)(fy:flatV y=true)(fx:flatV x=true):SeqAt.EqAt A s u v (eqV y x):=by
 cases y with
 |non=>
  cases ry
  cases x with
  |non=>cases rx;exact SeqAt.EqAt.same _
  |bl b=>cases rx;exact SeqAt.EqAt.none_bool b
  |int b=>obtain⟨t,rfl⟩:=rx;exact SeqAt.EqAt.none_int b t
  |str b=>obtain⟨t,rfl⟩:=rx;exact SeqAt.EqAt.none_str b t
  |_=>exact absurd (show false=true from fx) Bool.false_ne_true
 |bl a=>
  cases ry
  cases x with
  |non=>cases rx;exact SeqAt.EqAt.bool_none a
  |bl b=>cases rx;exact SeqAt.EqAt.bool_bool a b
  |int b=>obtain⟨t,rfl⟩:=rx;exact SeqAt.EqAt.bool_int a b t
  |str b=>obtain⟨t,rfl⟩:=rx;exact SeqAt.EqAt.bool_str a b t
  |_=>exact absurd (show false=true from fx) Bool.false_ne_true
 |int a=>
  obtain⟨t',rfl⟩:=ry
  cases x with
  |non=>cases rx;exact SeqAt.EqAt.int_none a t'
  |bl b=>cases rx;exact SeqAt.EqAt.int_bool a t' b
  |int b=>obtain⟨t,rfl⟩:=rx;exact SeqAt.EqAt.int_int a t' b t
  |str b=>obtain⟨t,rfl⟩:=rx;exact SeqAt.EqAt.int_str a t' b t
  |_=>exact absurd (show false=true from fx) Bool.false_ne_true
 |str a=>
  obtain⟨t',rfl⟩:=ry
  cases x with
  |non=>cases rx;exact SeqAt.EqAt.str_none a t'
  |bl b=>cases rx;exact SeqAt.EqAt.str_bool a t' b
  |int b=>obtain⟨t,rfl⟩:=rx;exact SeqAt.EqAt.str_int a t' b t
  |str b=>obtain⟨t,rfl⟩:=rx;exact SeqAt.EqAt.str_str a t' b t
  |_=>exact absurd (show false=true from fx) Bool.false_ne_true
 |_=>exact absurd (show false=true from fy) Bool.false_ne_true
noncomputable def eqU(x:V)(u:Value):Bool:=match u with
 | .none=>eqV .non x
 | .bool b=>eqV (.bl b) x
 | .int i _=>eqV (.int i) x
 | .str z _=>eqV (.str z) x
 |_=>false
theorem YW{x y:V}{u:Value}(r:RelV y u)(f:flatV y=true):eqU x u=eqV y x:=by
 cases y with
 |non=>cases r;rfl
 |bl b=>cases r;rfl
 |int i=>obtain⟨t,rfl⟩:=r;rfl
 |str z=>obtain⟨t,rfl⟩:=r;rfl
 |_=>exact absurd (show false=true from f) Bool.false_ne_true
theorem ql{x:V}:∀{xs:List V} {us:List Value},Vals xs us->xs.all flatV=true->us.any (eqU x)=xs.any fun y=>eqV y x
 |_,_,.nil,_=>rfl
 |y::xs,u::us,.cons r t,f=>by
  rw[List.all_cons,Bool.and_eq_true]at f
  rw[List.any_cons,List.any_cons,YW r f.1,ql t f.2]
theorem zN{A:Around}{s:Shared}{x:V}{v:Value}(rx:RelV x v)(fx:flatV x=true):∀{xs:List V} {us:List Value},Vals xs us->xs.all flatV=true->∀u∈us,SeqAt.EqAt A s u v (eqU x u)
 |_,_,.nil,_=>fun u hu=>by cases hu
 |y::xs,u::us,.cons r t,f=>fun u' hu=>by
  rw[List.all_cons,Bool.and_eq_true]at f
  rcases List.mem_cons.mp hu with rfl |hu
  ·rw[YW r f.1];exact eqAt_V r rx f.1 fx
  ·exact zN rx fx t f.2 u' hu
noncomputable def inV(x:V)(xs:List V):Bool:=xs.any fun y=>eqV y x
def rIn(K:Frag)(neg:Bool):R2:=fun x y H Q=>∃p xs,y= .ref p/\(SqL K H p xs∨SqT K H p xs)/\flatV x=true/\xs.all flatV=true/\Q (.bl (if neg then !inV x xs else inV x xs)) H
theorem zq:OpR X (compareOp .In) (rIn X.K false):=by
 intro pins s σ H x y v u Q I rx ry h
 obtain⟨p,xs,rfl,hq,fx,fs,q⟩:=h
 cases ry
 rcases hq with hq |hq
 ·obtain⟨its,r,pl,hz⟩:=I.list hq
  refine SeqAt.in_listAt (eqU x) pl.isList (fun w hw=>zN rx fx r fs w (by simpa using hw)) ⟨.bl _,H,I,rfl,?_⟩
  rw[show its.toArray.any (eqU x)=its.any (eqU x) by simp,ql r fs]
  exact q
 ·obtain⟨its,r,pl,hz⟩:=I.tuple hq
  refine SeqAt.in_tupleAt (eqU x) pl (fun w hw=>zN rx fx r fs w (by simpa using hw)) ⟨.bl _,H,I,rfl,?_⟩
  rw[show its.toArray.any (eqU x)=its.any (eqU x) by simp,ql r fs]
  exact q
theorem zE:OpR X (compareOp .NotIn) (rIn X.K true):=by
 intro pins s σ H x y v u Q I rx ry h
 obtain⟨p,xs,rfl,hq,fx,fs,q⟩:=h
 cases ry
 rcases hq with hq |hq
 ·obtain⟨its,r,pl,hz⟩:=I.list hq
  refine SeqAt.notIn_listAt (eqU x) pl.isList (fun w hw=>zN rx fx r fs w (by simpa using hw)) ⟨.bl _,H,I,rfl,?_⟩
  rw[show its.toArray.any (eqU x)=its.any (eqU x) by simp,ql r fs]
  exact q
 ·obtain⟨its,r,pl,hz⟩:=I.tuple hq
  refine SeqAt.notIn_tupleAt (eqU x) pl (fun w hw=>zN rx fx r fs w (by simpa using hw)) ⟨.bl _,H,I,rfl,?_⟩
  rw[show its.toArray.any (eqU x)=its.any (eqU x) by simp,ql r fs]
  exact q
theorem jL:CallR X (.builtin "len") (fun xs H Q=>∃p ys,xs=[.ref p]/\(SqL X.K H p ys∨SqT X.K H p ys)/\Q (.int ys.length) H):=by
 intro pins s σ H xs us Q I r h
 obtain⟨p,ys,rfl,hq,q⟩:=h
 obtain⟨u,rfl,rx⟩:=vals1 r
 cases rx
 have hn:=line63
 rcases hq with hq |hq
 ·obtain⟨its,r',pl,hz⟩:=I.list hq
  have hlen:=r'.length
  exact Calls.call_len_list pl.isList (by simp only[List.size_toArray]<;>omega) ⟨.int ys.length,H,I.tok _,⟨s.toks+1,by rw[List.size_toArray,hlen]⟩,q⟩
 ·obtain⟨its,r',pl,hz⟩:=I.tuple hq
  have hlen:=r'.length
  exact len_tuple pl (by simp only[List.size_toArray]<;>omega) ⟨.int ys.length,H,I.tok _,⟨s.toks+1,by rw[List.size_toArray,hlen]⟩,q⟩
theorem qw:CallR X (.type "list") (fun xs H Q=>∃p ys,xs=[.ref p]/\(SqL X.K H p ys∨SqT X.K H p ys)/\∀l,H l=none->Q (.ref l) (upd H l (.lst ys))):=by
 intro pins s σ H xs us Q I r h
 obtain⟨p,ys,rfl,hq,q⟩:=h
 obtain⟨u,rfl,rx⟩:=vals1 r
 cases rx
 have fin:∀(its:List Value),Vals ys its->ys.length<=sizeLine->∀(h':Heap) (c':Nat),(∀b o',s.heap.get? b=some o'->h'.get? b=some o')->
   h'.get? s.heap.objs.size=some { cls:=.type "list",dict:=none,data:=.seq its.toArray c',slots:=#[] }->EP X pins σ Q (.ref s.heap.objs.size) { s with heap:=h' }:=fun its r' hz h' c' kp e=>
  ⟨.ref s.heap.objs.size,_,I.laid (t':=s.toks) kp (Nat.le_refl _) (show ObjOk X.prog X.w _ h' _ (.lst ys) from ⟨hz,its,c',r',e⟩),rfl,q _ (I.hok.fresh (Nat.le_refl _))⟩
 rcases hq with hq |hq
 ·obtain⟨its,r',pl,hz⟩:=I.list hq
  have hlen:=r'.length
  obtain⟨o,ho,hc,n,hd⟩:=pl.isList
  exact call_list_seq p (.inl rfl) ho hc hd (fun h' c' kp e=>fin its r' hz h' c' kp e) (by simp only[List.size_toArray]<;>omega)
 ·obtain⟨its,r',pl,hz⟩:=I.tuple hq
  have hlen:=r'.length
  obtain⟨o,ho,hc,n,hd⟩:=pl
  exact call_list_seq p (.inr rfl) ho hc hd (fun h' c' kp e=>fin its r' hz h' c' kp e) (by simp only[List.size_toArray]<;>omega)
theorem jI:CallR X (.type "tuple") (fun xs H Q=>∃p ys,xs=[.ref p]/\((SqL X.K H p ys/\∀l,H l=none->Q (.ref l) (upd H l (.tup ys)))∨(SqT X.K H p ys/\Q (.ref p) H))):=by
 intro pins s σ H xs us Q I r h
 obtain⟨p,ys,rfl,h⟩:=h
 obtain⟨u,rfl,rx⟩:=vals1 r
 cases rx
 rcases h with ⟨hq,q⟩ | ⟨hq,q⟩
 ·obtain⟨its,r',pl,hz⟩:=I.list hq
  have hlen:=r'.length
  refine call_tuple_list pl.isList (fun h' kp=>?_) (by simp only[List.size_toArray]<;>omega)
  have I1:Inv X pins σ H { s with heap:=h' }:=I.kept (t':=s.toks) kp
  have I2:Inv X pins σ (upd H h'.objs.size (.tup ys)) { s with heap:=h'.push { cls:=.type "tuple",data:=.seq its.toArray } }:=
   I1.laid (t':=s.toks) (fun b o e=>Heap.get?_push_of_some _ e) (Nat.le_refl _) (show ObjOk X.prog X.w _ _ _ (.tup ys) from ⟨hz,its,r',IsTup.new _ _⟩)
  exact⟨.ref h'.objs.size,_,I2,rfl,q _ (I1.hok.fresh (Nat.le_refl _))⟩
 ·obtain⟨its,r',pl,hz⟩:=I.tuple hq
  exact call_tuple_same pl ⟨.ref p,H,I,rfl,q⟩
def tyV(K:Frag)(T:String)(x:V)(H:Hp):Prop:=match x with
 | .str _=>T="str"
 | .int _=>T="int"
 | .ref p=>(T="list"/\∃xs,SqL K H p xs)∨(T="tuple"/\∃o,K.lookup p=some o/\o.cls= .type "tuple"/\o.dict=none)∨
   (T="dict"/\((∃kvs,H p=some (.dK kvs))∨∃kvs,H p=some (.dT kvs)))∨(T="set"/\∃S n,H p=some (.set S n))
 |_=>False
theorem YX{pins:List (Addr×Obj)}{σ:St}{H:Hp}{s:Shared}{T:String}{x:V}{v:Value}(I:Inv X pins σ H s)(r:RelV x v)(ty:tyV X.K T x H):
  s.TypeIs v T/\∀a,v= .ref a->∃ob,s.heap.get? a=some ob/\ob.dict=none:=by
 cases x with
 |str z=>
  obtain⟨t,rfl⟩:=r
  cases (show T="str" from ty)
  exact⟨typeIs_str s z t,fun _ e=>nomatch e⟩
 |int i=>
  obtain⟨t,rfl⟩:=r
  cases (show T="int" from ty)
  exact⟨typeIs_int s i t,fun _ e=>nomatch e⟩
 |ref p=>
  cases r
  rcases ty with ⟨rfl,xs,hq⟩ | ⟨rfl,o,hk,hc,hd⟩ | ⟨rfl,hk⟩ | ⟨rfl,S,n,hk⟩
  ·obtain⟨its,_,pl,_⟩:=I.list hq
   refine⟨pl.isList.typeIs,fun a e=>?_⟩
   cases e
   obtain⟨o,n,e,c,hd,_⟩:=pl
   exact⟨o,e,hd⟩
  ·refine⟨⟨o,I.kIn p o hk,hc⟩,fun a e=>?_⟩
   cases e
   exact⟨o,I.kIn _ o hk,hd⟩
  ·have z:∃o,s.heap.get? p=some o/\o.ExactDict:=by
    rcases hk with ⟨kvs,hk⟩ | ⟨kvs,hk⟩
    ·obtain⟨_,_,_,_,o,_,_,e,ex,_⟩:=I.hok p _ hk
     exact⟨o,e,ex⟩
    ·obtain⟨_,_,_,_,o,_,_,e,ex,_⟩:=I.hok p _ hk
     exact⟨o,e,ex⟩
   obtain⟨o,e,ex⟩:=z
   refine⟨⟨o,e,ex.1⟩,fun a e2=>?_⟩
   cases e2
   exact⟨o,e,ex.2.1⟩
  ·obtain⟨o,_,_,_,e,ex,_⟩:=I.hok p _ hk
   refine⟨⟨o,e,ex.1⟩,fun a e2=>?_⟩
   cases e2
   exact⟨o,e,ex.2.1⟩
 |_=>exact False.elim ty
def tBM0(K:Frag)(T:String)(r:V->List V->Hp->VK->Prop)(to:TE):TE:=fun σ H Q=>to σ H fun x H1=>tyV K T x H1/\r x [] H1 Q
def tBM(K:Frag)(T:String)(r:V->List V->Hp->VK->Prop)(to:TE)(t:TA):TE:=fun σ H Q=>to σ H fun x H1=>tyV K T x H1/\t σ H1 fun xs H2=>r x xs H2 Q
variable {o e:Expr}{es:List Expr}{to:TE}{t:TA}{name:Str}{apos cpos:Pos}{T id:String}{r:V->List V->Hp->VK->Prop}
theorem pe_bm0(pa:PlainAttrs T)(slot:Slot T name id)(hty:typeOf (.builtin id)=pure (.type "method_descriptor"))(hm:MtR X id r)(ho:PE X o to)
  (hbase:attributeBase o name X.env (eval o X.env)=eval o X.env:=by rfl) (hline:(apos.endLine==cpos.line)=true:=by rfl):PE X (.Call (.Attribute o name apos) [] [] cpos) (tBM0 X.K T r to):=by
 intro pins s σ H Q I h
 refine wpAny_Call_method0_late hbase hline (thn (ho pins s σ H _ I h) fun v s1 ⟨x,H1,I1,r1,ty,q1⟩=>?_)
 obtain⟨h1,h2⟩:=YX I1 r1 ty
 exact⟨T,id,pa,slot,hty,h1,h2,Calls.callWith_builtin rfl (PySem.evalArgs_none (hm pins s1 σ H1 x [] v [] Q I1 r1 .nil q1))⟩
theorem kD(pa:PlainAttrs T)(slot:Slot T name id)(hty:typeOf (.builtin id)=pure (.type "method_descriptor"))(hm:MtR X id r)(ho:PE X o to)(ha:PA X (e::es) t)
  (hbase:attributeBase o name X.env (eval o X.env)=eval o X.env:=by rfl)
  (hfew:((backTo cpos (starEach (e::es) X.env)).all (fun x=>!x.1)&&(backToKw cpos (keywordEach [] X.env)).all (fun x=>x.1.isSome)
   &&decide ((e::es).length+([]:List Keyword).length+(if ([]:List Keyword).isEmpty then 0 else 1) < 30))=true:=by rfl)
  (hline:(apos.endLine==cpos.line)=true:=by rfl) (hs:starEach (e::es) X.env=(false,eval e X.env)::starEach es X.env:=by rfl) (hplain:(backTo cpos (starEach es X.env)).any (·.1)=false:=by rfl):
  PE X (.Call (.Attribute o name apos) (e::es) [] cpos) (tBM X.K T r to t):=by
 intro pins s σ H Q I h
 refine wpAny_Call_method_late hbase hfew hline rfl (thn (ho pins s σ H _ I h) fun v s1 ⟨x,H1,I1,r1,ty,q1⟩=>?_)
 obtain⟨h1,h2⟩:=YX I1 r1 ty
 refine⟨T,id,pa,slot,hty,h1,h2,?_⟩
 have hA:=ha cpos pins s1 σ H1 _ I1 q1
 rw[hs]at hA ⊢
 refine Calls.callWith_builtin (by show(false||(backTo cpos (starEach es X.env)).any (·.1))=false;rw[hplain]<;>rfl) (Calls.evalArgs_plain ?_)
 exact thn hA fun us s2 ⟨vs,H2,I2,r2,q2⟩=>hm pins s2 σ H2 x vs v us Q I2 r1 r2 q2
end
def MtM(X:Cx)(id:String)(r:V->List V->Hp->VK->Prop):Prop:=
 ∀(pins:List (Addr×Obj)) (s:Shared) (σ:St) (H:Hp) (x:V) (xs:List V) (v:Value) (us:List Value) (Q:VK),Inv X pins σ H s->RelV x v->Vals xs us->r x xs H Q->
  wpAny (model X.prog X.w) X.A (call (.builtin id) (v::us)) (EP X pins σ Q) X.xe s
theorem Vals.one:∀{x:V} {us:List Value},Vals [x] us->∃u,us=[u]/\RelV x u
 |_,_,.cons r .nil=>⟨_,rfl,r⟩
theorem Vals.zero:∀{us:List Value},Vals [] us->us=[]
 |_,.nil=>rfl
theorem Vals.dropLast{xs:List V}{us:List Value}(h:Vals xs us):Vals xs.dropLast us.dropLast:=by
 induction h with
 |nil=>exact .nil
 |cons r t ih=>
  cases t with
  |nil=>exact .nil
  |cons q t'=>exact .cons r ih
theorem Vals.reverse{xs:List V}{us:List Value}(h:Vals xs us):Vals xs.reverse us.reverse:=by
 induction h with
 |nil=>exact .nil
 |cons r t ih=>rw[List.reverse_cons,List.reverse_cons];exact Vals.append ih (.cons r .nil)
theorem QU{α:Type}(l:List α):l.eraseIdx (l.length - 1)=l.dropLast:=by
 induction l with
 |nil=>rfl
 |cons a r ih=>
  cases r with
  |nil=>rfl
  |cons b r=>
   have e:(a::b::r).length - 1=((b::r).length - 1)+1:=by
    have h1:(a::b::r).length=r.length+2:=rfl
    have h2:(b::r).length=r.length+1:=rfl
    omega
   rw[e,List.eraseIdx_cons_succ,ih]
   all_goals rfl
section
variable {X:Cx}{pins:List (Addr×Obj)}{σ:St}{H:Hp}{s:Shared}{l b:Addr}{xs ys zs:List V}
theorem Inv.lset{its its':List Value}{n:Nat}{f:Array Value->Array Value}{t':Nat}(I:Inv X pins σ H s)(hH:H l=some (.lst xs))
  (e:s.heap.get? l=some { cls:=.type "list",data:=.seq its.toArray n }) (hf:f its.toArray=its'.toArray) (hv:Vals ys its') (hz:ys.length<=sizeLine):
  Inv X pins σ (upd H l (.lst ys)) { s with heap:=s.heap.update l (Obj.mapSeq f),toks:=t' }:=by
 have q:=PySem.IsL.update e f
 rw[hf]at q
 refine I.write (x:=l) (e:=l) (by rw[hH];exact trivial) (.inl rfl) (fun b' u hb hu=>(Heap.get?_update_other s.heap (Obj.mapSeq f) (Ne.symm hb)).trans hu) ⟨_,q⟩ ?_
 exact⟨hz,its',_,hv,q⟩
theorem Inv.lnew{its:List Value}{t':Nat}(I:Inv X pins σ H s)(hv:Vals ys its)(hz:ys.length<=sizeLine):
  Inv X pins σ (upd H s.heap.objs.size (.lst ys)) { s with heap:=s.heap.push { cls:=.type "list",data:=.seq its.toArray },toks:=t' }:=
 I.laid (fun _ _ q=>Heap.get?_push_of_some _ q) (Nat.le_refl _) ⟨hz,its,0,hv,Heap.get?_push_size _ rfl⟩
theorem Inv.fresh(I:Inv X pins σ H s):H s.heap.objs.size=none:=I.hok.fresh (Nat.le_refl _)
theorem Inv.lstM(I:Inv X pins σ H s)(hH:H l=some (.lst xs)):xs.length<=sizeLine/\∃(its:List Value) (n:Nat),Vals xs its/\xs.length=its.length/\s.heap.get? l=some { cls:=.type "list",data:=.seq its.toArray n }:=by
 obtain⟨z,its,n,r,e⟩:=I.hok l _ hH
 exact⟨z,its,n,r,r.length,e⟩
theorem notLongL{n:Nat}(h:n<=sizeLine):Builtin.List.listTooLong n=false:=by
 unfold Builtin.List.listTooLong
 exact decide_eq_false (by omega)
end
section
variable {X:Cx}
def rAppend:V->List V->Hp->VK->Prop:=fun x vs H Q=>∃l xs y,x= .ref l/\vs=[y]/\H l=some (.lst xs)/\xs.length < sizeLine/\Q .non (upd H l (.lst (xs++[y])))
theorem jP:MtM X "list.append" rAppend:=by
 intro pins s σ H x vs v us Q I rx rv h
 obtain⟨l,xs,y,rfl,rfl,hH,hz,q⟩:=h
 cases rx
 obtain⟨u,rfl,ru⟩:=rv.one
 obtain⟨z,its,n,r,hl,e⟩:=I.lstM hH
 refine call_meets F.slot_list_append ⟨_,e,rfl⟩ F.entry_list_append (F.args_list_append_2 _ _) (PySem.list_append l its.toArray n u (by rw[List.size_toArray];omega)) ⟨e,?_⟩
 refine⟨.non,_,I.lset (its':=its++[u]) hH e (by simp) (r.append (.cons ru .nil)) ?_,rfl,q⟩
 rw[List.length_append,List.length_singleton]
 omega
def rExtend:V->List V->Hp->VK->Prop:=fun x vs H Q=>∃l b xs zs,x= .ref l/\vs=[.ref b]/\H l=some (.lst xs)/\H b=some (.lst zs)/\xs.length+zs.length<=sizeLine/\Q .non (upd H l (.lst (xs++zs)))
theorem X8:MtM X "list.extend" rExtend:=by
 intro pins s σ H x vs v us Q I rx rv h
 obtain⟨l,b,xs,zs,rfl,rfl,hH,hB,hz,q⟩:=h
 cases rx
 obtain⟨u,rfl,ru⟩:=rv.one
 cases ru
 obtain⟨z,its,n,r,hl,e⟩:=I.lstM hH
 obtain⟨z2,its2,n2,r2,hl2,e2⟩:=I.lstM hB
 have hsz:its.toArray.size+its2.toArray.size<=sizeLine:=by rw[List.size_toArray,List.size_toArray];omega
 have hlong:¬(!its.toArray.isEmpty&&Builtin.List.listTooLong (its.toArray.size+its2.toArray.size))=true:=by
  rw[notLongL hsz,Bool.and_false]
  exact Bool.false_ne_true
 refine call_meets F.slot_list_extend ⟨_,e,rfl⟩ F.entry_list_extend (F.args_list_extend_2 _ _)
  (AutoSeq1.list_extend_list_list_0 l its.toArray n b its2.toArray n2 hlong (by rw[List.size_toArray];omega) (by omega)) ⟨e,e2,?_⟩
 refine⟨.non,_,I.lset (its':=its++its2) hH e (by simp) (r.append r2) ?_,rfl,q⟩
 rw[List.length_append]
 omega
def rPop:V->List V->Hp->VK->Prop:=fun x vs H Q=>∃l xs y,x= .ref l/\vs=[]/\H l=some (.lst xs)/\xs[xs.length - 1]?=some y/\Q y (upd H l (.lst xs.dropLast))
theorem mt_pop:MtM X "list.pop" rPop:=by
 intro pins s σ H x vs v us Q I rx rv h
 obtain⟨l,xs,y,rfl,rfl,hH,hy,q⟩:=h
 cases rx
 have hus:=rv.zero
 subst hus
 obtain⟨z,its,n,r,hl,e⟩:=I.lstM hH
 obtain⟨u,hu,ru⟩:=r.get hy
 have hy':its.toArray[its.toArray.size - 1]?=some u:=by
  show its.toArray[its.length - 1]?=some u
  rw[<- Array.getElem?_toList,<- hl]
  exact hu
 refine call_meets F.slot_list_pop ⟨_,e,rfl⟩ F.entry_list_pop (F.args_list_pop_1 _) (MeetsSeq.list_pop_last l its.toArray n u hy' (by rw[List.size_toArray];omega)) ⟨e,?_⟩
 refine⟨y,_,I.lset (its':=its.dropLast) hH e ?_ r.dropLast ?_,ru,q⟩
 ·show its.toArray.eraseIdxIfInBounds (its.toArray.size - 1)=its.dropLast.toArray
  rw[List.size_toArray,List.eraseIdxIfInBounds_toArray,QU]
 ·rw[List.length_dropLast]
  omega
def rCat:R2:=fun x y H Q=>∃l b xs zs,x= .ref l/\y= .ref b/\H l=some (.lst xs)/\H b=some (.lst zs)/\xs.length+zs.length<=sizeLine/\∀p,H p=none->Q (.ref p) (upd H p (.lst (xs++zs)))
theorem zK:OpR X (binaryOp .Add) rCat:=by
 intro pins s σ H x y v u Q I rx ry h
 obtain⟨l,b,xs,zs,rfl,rfl,hH,hB,hz,q⟩:=h
 cases rx
 cases ry
 obtain⟨z,its,n,r,hl,e⟩:=I.lstM hH
 obtain⟨z2,its2,n2,r2,hl2,e2⟩:=I.lstM hB
 refine PySem.P.add_list e e2 ?_ (by rw[List.size_toArray,List.size_toArray];omega)
 have ea:its.toArray++its2.toArray=(its++its2).toArray:=by simp
 rw[ea]
 exact⟨.ref _,_,I.lnew (t':=s.toks) (r.append r2) (by rw[List.length_append];omega),rfl,q _ I.fresh⟩
end
section
variable {prog:Program}{w:World}{A:Around}{E:Value->Shared->Prop}{s:Shared}
theorem X9(its its2 : List Value)(a c : Nat) : its.toArray.extract 0 a ++ its2.toArray ++ its.toArray.extract c its.toArray.size = (its.take a ++ its2 ++ its.drop c).toArray := by
  apply Array.toList_inj.mp
  first
    | (simp
       exact List.take_of_length_le (by simp))
    | simp [List.take_of_length_le]
    | simp
theorem QV{a c n:Nat}(hac:a<=c)(hc:c<=n):sliceBounds (some (a:Int)) (some (c:Int)) none n=((a:Int),(c:Int),1):=by
 simp only[sliceBounds,Option.getD_none]
 have h1:¬((a:Int) < 0):=by omega
 have h2:¬((c:Int) < 0):=by omega
 simp only[h1,h2,if_false,show(1:Int) > 0 by decide,if_true]
 congr 1
 ·omega
 ·congr 1;omega
set_option maxRecDepth 100000 in
theorem JS{l b sl:Addr}{items new:Array Value}{n n2:Nat}{vl vu:Value}{a c:Nat}{Q:Unit->Shared->Prop}
  (e:s.heap.get? l=some { cls:=.type "list",data:=.seq items n }) (e2:s.heap.get? b=some { cls:=.type "list",data:=.seq new n2 }) (hne:l≠b)
  (hs:s.heap.IsSliceOf sl vl vu .none) (pl:IsPart vl (some (a:Int))) (pu:IsPart vu (some (c:Int))) (hac:a<=c) (hc:c<=items.size)
  (hsz:items.size+new.size<=sizeLine) (h:Q () { s with heap:=s.heap.update l (Obj.mapSeq fun xs=>xs.extract 0 a++new++xs.extract c xs.size) }):
  wpAny (model prog w) A (setItem (.ref l) (.ref sl) (.ref b)) Q E s:=by
 have hl:s.heap.IsList l items:=PySem.IsL.isList e
 have hb:s.heap.IsList b new:=PySem.IsL.isList e2
 obtain⟨os,hos,hcs,hds⟩:=id hs
 have hTs:s.TypeIs (.ref sl) "slice":=⟨os,hos,hcs⟩
 have hstep:¬((rawPart none==rawInt 0)=true):=Bool.false_ne_true
 have hsame:Builtin.List.listSameRef (.ref l) (.ref b)=false:=by
  unfold Builtin.List.listSameRef
  exact beq_eq_false_iff_ne.mpr hne
 have hmax:(max (a:Int) (c:Int)).toNat=c:=by omega
 have hz':((fun xs:Array Value=>xs.extract 0 a++new++xs.extract c xs.size) items).size<=sizeLine+1:=by
  simp only[Array.size_append,Array.size_extract]
  omega
 unfold setItem
 try with_reducible refine wpAny_holding ?_
 first |refine wpAny_bind (wpAny_pure ?_) |skip
 refine wpAny_bind (wpAny_sequenceKey hl.typeIs (by decide) ?_)
 refine wpAny_bind (wpAny_callSpecial?_slot (name:=Str.ofString "__setitem__") hl.typeIs slot_list_setitem
  (wpAny_call_entry slot_list_setitem hl.typeIs entry_list_setitem ?_ (args_list_setitem _ _ _)))
 show wpAny _ _ (Builtin.List.listSubscript? (.ref sl) >>= _) _ _ s
 refine wpAny_bind ?_
 unfold Builtin.List.listSubscript?
 refine wpAny_bind (wpAny_specialOf hTs slice_no_index ?_)
 simp only[Option.isNone_none,if_true]
 refine wpAny_pure ?_
 show wpAny _ _ (typeOf (.ref sl) >>= _) _ _ s
 refine wpAny_bind (wpAny_typeOf hTs ?_)
 first
  |rw[if_neg (by decide)]
  |refine PySem.W.KFB.if_not (by decide) ?_
 rw[listSliceParts_eq]
 refine wpAny_bind (wpAny_bind (wpAny_field hos hds (x:=.none) rfl (wpAny_bind (wpAny_listPart .none ?_))))
 rw[if_neg hstep]
 refine wpAny_bind (wpAny_field hos hds (x:=vl) rfl (wpAny_bind (wpAny_listPart pl ?_)))
 refine wpAny_bind (wpAny_field hos hds (x:=vu) rfl (wpAny_bind (wpAny_listPart pu (wpAny_pure ?_))))
 first
  |simp only[hsame,Bool.false_eq_true,if_false]
  |refine PySem.W.KFB.if_not hsame ?_
  | (dsimp only;rw[if_neg (by rw[hsame];exact Bool.false_ne_true)])
 refine wpAny_bind (m:=Builtin.List.listAllItems (.ref b) "must assign iterable to extended slice") ?_
 unfold Builtin.List.listAllItems
 refine wpAny_bind (wpAny_typeOf hb.typeIs ?_)
 first
  |refine PySem.W.KFB.if_so (by decide) ?_
  |rw[if_pos (by decide)]
  |simp only[beq_self_eq_true,Bool.true_or,if_true]
 unfold Builtin.List.listItems
 refine wpAny_bind (wpAny_seqItems e2 rfl (wpAny_pure ?_))
 refine wpAny_bind (wpAny_bind (wpAny_seqItems e rfl (wpAny_pure ?_)))
 refine wpAny_bind (wpAny_of_eq ((sliceIndices_raw (some (a:Int)) (some (c:Int)) none items.size (by simp)).trans (congrArg (pure:Int×Int×Int->Sem (Int×Int×Int)) (QV hac hc))) ?_)
 show wpAny _ _ (if ((1:Int)==1)=true then _ else _) _ _ s
 rw[if_pos (by decide)]
 refine wpAny_bind (wpAny_rule ?_)
 first
  |simp only[notLongL hsz,Bool.false_eq_true,if_false]
  |refine PySem.W.KFB.if_not (notLongL hsz) ?_
 first |refine wpAny_bind (wpAny_pure ?_) |skip
 show wpAny _ _ (updateSeq l (fun xs=>xs.extract 0 ((a:Int)).toNat++new++xs.extract (max (a:Int) (c:Int)).toNat xs.size) >>= _) _ _ s
 rw[hmax,Int.toNat_natCast]
 refine wpAny_bind (wpAny_updateSeq (hz:=Nat.le_trans (Nat.le_add_right _ _) hsz) (_hz':=hz') e rfl ?_)
 refine wpAny_bind (wpAny_letGo ?_)
 first
  |exact wpAny_bind (wpAny_pure (wpAny_pure ⟨.none,rfl,wpAny_pure h⟩))
  |exact wpAny_pure ⟨.none,rfl,wpAny_pure h⟩
end
section
variable {X:Cx}
theorem Ya{pins:List (Addr×Obj)}{s:Shared}{σ:St}{H:Hp}{l b sl:Addr}{xs ys:List V}{a c:Int}{vl vu:Value}{Q:Unit->Shared->Prop}(I:Inv X pins σ H s)
  (hH:H l=some (.lst xs)) (hB:H b=some (.lst ys)) (hne:l≠b) (hs:s.heap.IsSliceOf sl vl vu .none) (ra:RelV (.int a) vl) (rc:RelV (.int c) vu) (h0:0<=a) (hac:a<=c) (hc:c<=xs.length)
  (hz:xs.length+ys.length<=sizeLine) (h:∀s',Inv X pins σ (upd H l (.lst (xs.take a.toNat++ys++xs.drop c.toNat))) s'->Q () s'):
  wpAny (model X.prog X.w) X.A (setItem (.ref l) (.ref sl) (.ref b)) Q X.xe s:=by
 obtain⟨ta,rfl⟩:=ra
 obtain⟨tc,rfl⟩:=rc
 obtain⟨z,its,n,r,hl,e⟩:=I.lstM hH
 obtain⟨z2,its2,n2,r2,hl2,e2⟩:=I.lstM hB
 obtain⟨a',rfl⟩:=Int.eq_ofNat_of_zero_le h0
 obtain⟨c',rfl⟩:=Int.eq_ofNat_of_zero_le (Int.le_trans h0 hac)
 simp only[Int.toNat_natCast]at h
 refine JS (a:=a') (c:=c') e e2 hne hs (.int _ _) (.int _ _) (by omega) (by rw[List.size_toArray];omega) (by rw[List.size_toArray,List.size_toArray];omega) (h _ ?_)
 refine I.lset (its':=its.take a'++its2++its.drop c') (t':=s.toks) hH e ?_ (Vals.append (Vals.append (r.take _) r2) (r.drop _)) ?_
 ·exact X9 its its2 a' c'
 ·rw[List.length_append,List.length_append,List.length_take,List.length_drop]
  omega
end
end L2
namespace Att
open PySem PySem.W PySem.Calls PyProof.Rows
theorem qY{P:Params}{h:Heap}:∀(ns:List Int) (vs:List Value),WellAll P h vs (ns.map WData.int)->IntsAre vs ns:=by
 intro ns
 induction ns with
 |nil=>
  intro vs w
  rw[List.map_nil]at w
  cases w
  exact .nil
 |cons n ns ih=>
  intro vs w
  rw[List.map_cons]at w
  cases w with
  |cons a b=>
   cases a
   exact .cons _ _ (ih _ b)
theorem Yb{l:OpenLaw}{n:Nat}(hn:l.most=some n){P:Params}{h:Heap}{args:List WData}{vals:List Value}
  (hpre:l.row.toRowW.claim.pre args=true) (hwl:WellAll P h vals args):
  ∃a vs ns,vals=[Value.ref a]/\args=[WData.list (ns.map WData.int)]/\h.get? a=some { cls:=.type "list",data:=.seq vs.toArray }/\IntsAre vs ns/\ns.length<=n:=by
 have hsh:WShape.hasAll [] args [.list .int]=true:=(pre_splitW hpre).1
 have hc:l.pre.holds [] { args:=args }=true:=(pre_splitW hpre).2
 obtain⟨d,r,rfl,h1,h2⟩:=hasAllW_cons hsh
 obtain rfl:=hasAllW_nil h2
 obtain⟨xs,rfl,h3⟩:=hasW_list h1
 obtain⟨ns,rfl⟩:=items_int h3
 have hlen:ns.length<=n:=by
  unfold OpenLaw.pre at hc
  have h4:(WTm.not (.lt (.lit (.int (n:Int))) (.len (.arg 0)))).holds [] { args:=[.list (ns.map .int)] }=true:=by
   have h4:=(holds_andW hc).1
   rw[hn]at h4
   exact h4
  have h5:=condW_of h4 (w_not (w_lt w_lit (w_len_list (w_arg rfl))))
  rw[List.length_map]at h5
  refine Nat.le_of_not_lt fun q=>?_
  have q':(n:Int) < ((ns.length:Nat):Int):=by omega
  first
   | (rw[decide_eq_true q']at h5;exact absurd h5 (by decide))
   | (simp at h5;omega)
 cases hwl with
 |cons w1 w2=>
  cases w2
  cases w1 with
  |list ho hall=>exact⟨_,_,ns,rfl,rfl,ho,qY ns _ hall,hlen⟩
theorem Yc(l:OpenLaw)(args:List WData):l.row.toRowW.claim.post args (.bool true) args=true:=
 postW_of (r:=l.row.toRowW) (X:=(true==true))
  (show WShape.has [] (.bool true) .bool=true by first |rfl |decide |simp [WShape.has,WShape.arms,WShape.armsAll])
  (show(WTm.eq .res (.lit (.bool true))).value [] { args:=args,res:=some (.bool true),after:=args }=some (.bool (true==true)) from w_eq_bool (w_res rfl) w_lit) rfl
theorem attach_call{l:OpenLaw}{n:Nat}{q:Program}{loose:List Str}{XP:(Str->Option Value)->Heap->Prop}{YP:World->Heap->Prop}{d:DefRec}
  (hn:l.most=some n) (hdf:d.params.defaults=[])
  (call:∀(w:World) (s₀ s₁:Shared) (mg mb:Str->Option Value) (fa:Addr) (o:Obj) (pm cd doc:Value) (a:Addr) (vs:List Value) (ns:List Int),
   Ground q loose [] XP w s₀ mg mb s₁.heap->YP w s₁.heap->
   s₁.heap.get? fa=some o->o.data= .func (docDef d.name d.params d.body d.scope pm cd doc)->s₁.heap.CodeRec cd d.name->mg d.name=some (.ref fa)->
   s₁.heap.get? a=some { cls:=.type "list",data:=.seq vs.toArray }->IntsAre vs ns->ns.length<=n->s₁.gens=#[]->
   codeAny (model l.prog w) callerA (.call (.ref fa) ⟨[.ref a],[]⟩) (fun r s'=>r= .ok (.ret (.bool true))/\OldK s₁.heap s'.heap/\s'.os=s₁.os/\AllBare s'.gens) s₁):
  WalkO q loose XP YP l.row.toRowW d [] (fun f vs=>PySem.call f vs):=by
 intro w s₀ s₁ mg mb G Y fa o pm cd doc dV kV ho hd hcd hD hmg hg args vals as hpre hlay hrd hwl hlo
 obtain rfl:dV= .none:=Dflts.none hD hdf
 obtain rfl:kV= .none:=Dflts.noKw hD
 obtain⟨a,vs,ns,rfl,rfl,hobj,hints,hlen⟩:=Yb hn hpre hwl
 refine enter_call (codeAny_mono (call w s₀ s₁ mg mb fa o pm cd doc a vs ns G Y ho (fd_plain hd) hcd hmg hobj hints hlen hg) fun r s' hq=>?_)
 obtain⟨rfl,h2,h3,h4⟩:=hq
 exact⟨.inl ⟨.bool true,.bool true,[],rfl,fun _=>rfl,.bool true,Yc l _,fun _=>⟨List.Pairwise.nil,fun _ hm=>(nomatch hm)⟩⟩,h2,h3,h4⟩
end Att
namespace L2
open PySem PySem.Spec PyProof.Rows
theorem Ki:∀{vs:List Value} {ns:List Int},IntsAre vs ns->Vals (ns.map V.int) vs
 |_,_,.nil=>.nil
 |_,_,.cons n t h=>.cons ⟨t,rfl⟩ (Ki h)
def Only(H:Hp):Prop:=∀b,H b=none∨∃o xs,H b=some (.frz o (.lst xs))
theorem Zs{P:Program}{w:World}{K:Frag}{mg mb:Str->Option Value}{CX:CXT}{k:Nat}{fa a:Addr}{fd:FuncData}{x:Str}{sp:Sp}{s₁:Shared}{vs:List Value}{ns:List Int}
  (KX:K.In s₁.heap) (hns:s₁.heap.Ns mainGlobals mg) (hb:s₁.heap.Ns builtinsNs mb) (hbb:∀x:Str,x≠"__name__"->mb x=bootBuiltins x) (hlim:s₁.heap.NoLimit) (hg:s₁.gens=#[])
  (ha:s₁.heap.get? a=some { cls:=.type "list",data:=.seq vs.toArray }) (hi:IntsAre vs ns) (hl:ns.length<=sizeLine) (hr:Room k callerA)
  (F:∀base:Heap,K.In base->base.Ns mainGlobals mg->FnOk P w K mg base CX k fa fd [x] sp) (hbind:∀(s:Shared) (u:Value),BindsTo s fd ⟨[u],[]⟩ [(x,u)])
  (hsp:∀H:Hp,Only H->SqL K H a (ns.map V.int)->sp [.ref a] H (fun v _=>v= .bl true) fun _ _ _=>False)
  (hCX:∀H e s',CX [] H s₁ (fun _ _ _=>False) e s'->False):
  codeAny (model P w) callerA (.call (.ref fa) ⟨[.ref a],[]⟩) (fun r s'=>r= .ok (.ret (.bool true))/\OldK s₁.heap s'.heap/\s'.os=s₁.os/\AllBare s'.gens) s₁:=by
 have rv:=Ki hi
 have lenV:=hi.length
 have core:∀H:Hp,Only H->SqL K H a (ns.map V.int)->HOk P w H s₁.heap->(∀b,H b≠none->b=a)->(H a≠none->K.lookup a=none)->
   codeAny (model P w) callerA (.call (.ref fa) ⟨[.ref a],[]⟩) (fun r s'=>r= .ok (.ret (.bool true))/\OldK s₁.heap s'.heap/\s'.os=s₁.os/\AllBare s'.gens) s₁:=by
  intro H hO hS hok hA hK
  have base_of:∀{b:Addr} {o:Obj},s₁.heap.get? b=some o->H b=none->(hidT s₁.heap H).get? b=some o:=fun e n=>Zj e n
  have noA:∀{b:Addr} {o:Obj} {es:Array DictEntry} {ep:Nat},s₁.heap.get? b=some o->o.data= .dict es ep->H b=none:=fun {b o es ep} e d=>by
   cases q:H b with
   |none=>rfl
   |some u=>
    have e':b=a:=hA b (by rw[q];simp)
    subst e'
    rw[ha]at e;cases e
    have d':Data.seq vs.toArray _=Data.dict es ep:=d
    cases d'
  have nsK:∀{b:Addr} {m:Str->Option Value},s₁.heap.Ns b m->(hidT s₁.heap H).Ns b m:=fun {b m} ⟨o,es,ep,e,d,r⟩=>⟨o,es,ep,base_of e (noA e d),d,r⟩
  have hKb:K.In (hidT s₁.heap H):=fun b o e=>base_of (KX b o e) (by
   cases q:H b with
   |none=>rfl
   |some u=>
    have e':b=a:=hA b (by rw[q];simp)
    subst e'
    rw[hK (by rw[q];simp)]at e;cases e)
  have hM:Mod K mg (hidT s₁.heap H):=⟨hKb,nsK hns,⟨mb,nsK hb,hbb⟩,let ⟨mc,h1,h2⟩:=hlim;⟨mc,nsK h1,h2⟩⟩
  have e0:Env0 P w K mg (hidT s₁.heap H) callerA [] s₁ H:=⟨rfl,hM,fun b o e=>of_hidT e,Nat.le_of_eq (X2 _ _),trivial,fun b hb=>absurd (show b∈([]:List Addr) from hb) (by simp),hok,.of_eq hg⟩
  refine codeAny_mono ((F _ hKb (nsK hns)).run callerA [] s₁ H ⟨[.ref a],[]⟩ [.ref a] [.ref a] _ _ hr e0 (hbind s₁ (.ref a)) (.cons rfl .nil) (hsp H hO hS)) fun r s' h=>?_
  cases r with
  |error e=>exact(hCX H e s' h).elim
  |ok fl=>
   cases fl with
   |next=>exact False.elim h
   |brk=>exact False.elim h
   |cont=>exact False.elim h
   |ret u=>
    obtain⟨v,H',os,bare,un,hok',r',q⟩:=h
    have q':v= .bl true:=q
    subst q'
    obtain rfl:u=Value.bool true:=r'
    refine⟨rfl,OldK.of_keep fun b o e=>?_,os,bare⟩
    cases q:H b with
    |none=>exact un.keep b o e q (by intro z;exact absurd (show b∈([]:List Addr) from z) (by simp)) (by simp)
    |some u=>
     rcases hO b with z | ⟨ob,xs,z⟩
     ·rw[q]at z;cases z
     ·have z2:=un.frzs b ob _ z
      obtain⟨e1,_⟩:=hok b _ z
      obtain⟨e2,_⟩:=hok' b _ z2
      rw[e]at e1;cases e1
      exact e2
 cases hk:K.lookup a with
 |some o=>
  have e:=KX a o hk
  rw[ha]at e
  cases e
  refine core (fun _=>none) (fun _=>.inl rfl) (.inr ⟨_,vs.toArray,_,hk,rfl,rfl,rfl,by rw[List.size_toArray,lenV];exact hl,by simpa using rv⟩) (fun b u z=>by have z':(none:Option HO)=some u:=z;cases z') (fun b z=>absurd rfl z) fun z=>absurd rfl z
 |none=>
  refine core (fun b=>if b=a then some (.frz { cls:=.type "list",data:=.seq vs.toArray } (.lst (ns.map V.int))) else none) (fun b=>?_) (.inl (.inr ⟨{ cls:=.type "list",data:=.seq vs.toArray },if_pos rfl⟩)) (fun b u z=>?_) (fun b z=>?_) fun _=>hk
  ·by_cases hb:b=a
   ·exact .inr ⟨_,_,if_pos hb⟩
   ·exact .inl (if_neg hb)
  ·by_cases hb:b=a
   ·have z':=(if_pos hb).symm.trans z
    cases z'
    subst hb
    exact⟨ha,by rw[List.length_map];exact hl,vs,_,rv,ha⟩
   ·have z':=(if_neg hb).symm.trans z
    cases z'
  ·by_cases hb:b=a
   ·exact hb
   ·exact absurd (if_neg hb) z
theorem walk_of{l:PySem.W.OpenLaw}{n k:Nat}{q:Program}{loose:List Str}{XP:(Str->Option Value)->Heap->Prop}{YP:World->Heap->Prop}{d:DefRec}{K:Params->Frag}{CX:World->CXT}{sp:World->Sp}{x:Str}
  (hn:l.most=some n) (hn2:n<=sizeLine) (hdf:d.params.defaults=[]) (hr:Room k callerA)
  (hY:∀(w:World) (h:Heap),YP w h->(K w.params).In h)
  (F:∀(w:World) (mg:Str->Option Value) (fa:Addr) (h:Heap),(K w.params).In h->h.Ns mainGlobals mg->mg d.name=some (.ref fa)->
   ∃fd:FuncData,(∀(s:Shared) (u:Value),BindsTo s fd ⟨[u],[]⟩ [(x,u)])/\
    ∀base:Heap,(K w.params).In base->base.Ns mainGlobals mg->FnOk l.prog w (K w.params) mg base (CX w) k fa fd [x] (sp w))
  (hsp:∀(w:World) (H:Hp) (a:Addr) (ns:List Int),ns.length<=n->Only H->SqL (K w.params) H a (ns.map V.int)->sp w [.ref a] H (fun v _=>v= .bl true) fun _ _ _=>False)
  (hCX:∀(w:World) (H:Hp) (s:Shared) (e:Value) (s':Shared),CX w [] H s (fun _ _ _=>False) e s'->False):
  PySem.W.WalkO q loose XP YP l.row.toRowW d [] (fun f vs=>PySem.call f vs):=by
 refine Att.attach_call hn hdf fun w s₀ s₁ mg mb fa o pm cd doc a vs ns G Y ho hd hcd hmg hobj hints hlen hg=>?_
 have KX:=hY w _ Y
 obtain⟨fd,hb,hF⟩:=F w mg fa _ KX G.T.g hmg
 exact Zs KX G.T.g G.T.b G.T.builtins G.T.nolimit hg hobj hints (Nat.le_trans hlen hn2) hr hF hb (fun H hO hS=>hsp w H a ns hlen hO hS) fun H e s'=>hCX w H s₁ e s'
noncomputable def inClass(s:Stmt)(j:Nat):Stmt:=match s with
 | .ClassDef _ _ _ body _ _ _ _ _ _ _=>body.getD j (.Pass ⟨0,0,0,0⟩)
 |_=>.Pass ⟨0,0,0,0⟩
noncomputable def defArgs(s:Stmt):Arguments:=match s with
 | .FunctionDef _ a _ _ _ _ _ _ _ _=>a
 |_=>{ posonlyargs:=[],args:=[],vararg:=none,kwonlyargs:=[],kw_defaults:=[],kwarg:=none,defaults:=[] }
noncomputable def defBody(s:Stmt):List Stmt:=match s with
 | .FunctionDef _ _ b _ _ _ _ _ _ _=>b
 |_=>[]
noncomputable def defScope(s:Stmt):Scope:=match s with
 | .FunctionDef _ _ _ _ _ _ sc _ _ _=>sc
 |_=>{ kind:=.function,names:=[],isGenerator:=false,isCoroutine:=false }
abbrev CX0:CXT:=fun _ _ _ _ _ _=>False
abbrev E0:XK:=fun _ _ _=>False
theorem pass0{X:Cx}:Passes CX0 X E0:=fun _ _ _ _ _ _ _ h=>h.elim
structure Fun(K:Frag)(x qual:Str)(st:Stmt)(f:Addr)(fd:FuncData):Prop where
 ex:∃(oc:Value) (od:Option Addr) (kV doc pm:Value) (an:Option Addr) (cdv ct:Value) (osl:Array (Option Value)),
  fd=fnOf x qual (defArgs st) (defBody st) (defScope st) .none kV doc pm an cdv ct/\K.lookup f=some ⟨oc,od,.func fd,osl⟩/\codeIn K cdv qual=true
 kp:keepIn K (.ref f)=true
section
variable {P:Program}{w:World}{K:Frag}{mg:Str->Option Value}{base:Heap}
theorem Fun.ok{x qual:Str}{st:Stmt}{f:Addr}{fd:FuncData}{N ps:List Str}{k:Nat}{sp:Sp}(F:Fun K x qual st f fd)(S:FnScope N ps (defScope st))(len:∀vs H Q E,sp vs H Q E->vs.length=ps.length)
  (hbody:∀(cdv:Value) (A:Around) (outer:List Env) (s:Shared) (H:Hp) (vs:List V) (Q:VK) (E:XK),Room k (A.deeper (envOfC qual (defScope st) s.heap.objs.size f cdv))->sp vs H Q E->
   ∃t,PSs (cxOf CX0 P w K mg base N qual (defScope st) f cdv A outer s H E).nox (defBody st) t/\t { nx:=fun _ H'=>Q .non H',rt:=Q } (start N vs) H):FnOk P w K mg base CX0 (k+1) f fd ps sp:=by
 obtain⟨oc,od,kV,doc,pm,an,cdv,ct,osl,rfl,lk,hcd⟩:=F.ex
 refine fn_of lk hcd S len fun A outer s H vs Q E hr hsp=>?_
 obtain⟨t,h,q⟩:=hbody cdv A outer s H vs Q E hr hsp
 exact⟨t,h.nox,q⟩
theorem Fun.binds{x qual:Str}{st:Stmt}{f:Addr}{fd:FuncData}{ps:List Str}(F:Fun K x qual st f fd)
  (h:∀(kV doc pm:Value) (an:Option Addr) (cdv ct:Value) (us:List Value),us.length=ps.length->bindArgs (fnOf x qual (defArgs st) (defBody st) (defScope st) .none kV doc pm an cdv ct) ⟨us,[]⟩=pure (ps.zip us)):Binds K fd ps []:=by
 obtain⟨oc,od,kV,doc,pm,an,cdv,ct,osl,rfl,lk,hcd⟩:=F.ex
 exact .all (h kV doc pm an cdv ct)
theorem YY{x qual:Str}{st:Stmt}{f:Addr}{oc:Value}{od an:Option Addr}{osl:Array (Option Value)}{kV doc pm cdv ct:Value}(l:K.lookup f=some ⟨oc,od,.func (fnOf x qual (defArgs st) (defBody st) (defScope st) .none kV doc pm an cdv ct),osl⟩)
  (c:codeIn K cdv qual=true) (k:keepIn K (.ref f)=true):Fun K x qual st f (fnOf x qual (defArgs st) (defBody st) (defScope st) .none kV doc pm an cdv ct):=⟨⟨oc,od,kV,doc,pm,an,cdv,ct,osl,rfl,l,c⟩,k⟩
end
theorem hu_of{A:Around}{k:Nat}(hr:Room k A):A.units+1 < cLine:=Nat.lt_of_le_of_lt (Nat.add_le_add_left (by decide:1<=64) _) hr.units
section
variable {X:Cx}
theorem pv(i:Nat){x:Str}{pos:Pos}(hN:X.N[i]?=some x:=by rfl)(hv:Vis X.env.scope x:=by first |exact Or.inl rfl |exact Or.inr (Or.inl rfl) |exact Or.inr (Or.inr rfl))(hd:(x==("__debug__":Str))=false:=by decide)
  (hcd:(x==("__classdict__":Str))=false:=by decide):PE X (.Name x pos) (tVar i):=pe_var hN hv hd hcd
end
theorem iteF{A B:Prop}(h:B):if false=true then A else B:=by
 rw[if_neg Bool.false_ne_true]
 exact h
theorem iteT{A B:Prop}(h:A):if true=true then A else B:=by
 rw[if_pos rfl]
 exact h
theorem ite2{c A B:Prop}[Decidable c](h1:c->A)(h2:¬c->B):if c then A else B:=by
 by_cases h:c
 ·rw[if_pos h]
  exact h1 h
 ·rw[if_neg h]
  exact h2 h
def Same(H H':Hp):Prop:=∀b o,H b=some o->H' b=some o
theorem Same.refl(H:Hp):Same H H:=fun _ _ h=>h
theorem Same.trans{H H1 H2:Hp}(a:Same H H1)(b:Same H1 H2):Same H H2:=fun c o h=>b c o (a c o h)
theorem Same.free{H H':Hp}(e:Same H H'){l:Addr}(h:H' l=Option.none):H l=Option.none:=by
 cases q:H l with
 |none=>rfl
 |some o=>
  rw[e l o q]at h
  cases h
theorem Same.seq{K:Frag}{H H':Hp}{a:Addr}{xs:List V}(e:Same H H')(h:SqL K H a xs):SqL K H' a xs:=by
 rcases h with (h | ⟨o,h⟩) |h
 ·exact .inl (.inl (e _ _ h))
 ·exact .inl (.inr ⟨o,e _ _ h⟩)
 ·exact .inr h
section
variable {prog:Program}{w:World}{A:Around}{R:Result->Shared->Prop}{s:Shared}
abbrev NoE:Value->Shared->Prop:=fun _ _=>False
theorem Yd{elt target iter:Expr}{ifs:List Expr}{scope:Scope}{pos:Pos}{it acc:Value}{env:Env}(I:Nat->Shared->Prop)
  (turn:∀n s,I n s->wpAny (model prog w) A (pyNext it) (fun r s₁=>match r with
   |none=>R (.ok .next) s₁
   |some v=>wpAny (model prog w) A (letOwnedTupleGo target it v) (fun _ s₂=>wpAny (model prog w) A (assign target env v) (fun _ s₃=>
     wpAny (model prog w) A (forIn ifs true fun c r=>if r=true then do let ok <- isTrue c env (eval c env);pure (ForInStep.yield ok) else pure (ForInStep.yield r)) (fun ok s₄=>
      if ok=true then wpAny (model prog w) A (eval elt env) (fun x s₅=>
       wpAny (model prog w) A (call (.builtin "list.append") [acc,x]) (fun _ s₆=>∃m,m < n/\I m s₆) NoE s₅) NoE s₄
      else ∃m,m < n/\I m s₄) NoE s₃) NoE s₂) NoE s₁) NoE s)
  (n:Nat) (h:I n s):
  codeAny (model prog w) A (.compLoop (.ListComp elt [⟨target,iter,ifs,0⟩] scope pos) 0 it acc env) R s:=by
 refine codeAny_loop rfl I (fun n s hI=>?_) n h
 show wpAny _ A ((compTurn (.ListComp elt [⟨target,iter,ifs,0⟩] scope pos) 0 it acc env).onRaise (fun x=>do noteFrame x env;theTreesLotGoes x)) _ _ s
 refine wpAny_noted ?_
 rw[compTurn_list]
 refine wpAny_bind (wpAny_standAt (wpAny_bind (wpAny_mono (turn n s hI) (fun r s₁ h₁=>?_) fun _ _ f=>f.elim)))
 cases r with
 |none=>exact wpAny_pure h₁
 |some v=>
  refine wpAny_bind (wpAny_mono h₁ (fun _ s₂ h₂=>?_) fun _ _ f=>f.elim)
  refine wpAny_bind (wpAny_mono h₂ (fun _ s₃ h₃=>wpAny_bind (wpAny_mono h₃ (fun ok s₄ h₄=>?_) fun _ _ f=>f.elim)) fun _ _ f=>f.elim)
  cases ok with
  |false=>exact wpAny_pure ⟨rfl,h₄⟩
  |true=>
   exact wpAny_bind (wpAny_bind (wpAny_mono h₄ (fun x s₅ h₅=>wpAny_bind (wpAny_mono h₅ (fun _ s₆ h₆=>wpAny_pure (wpAny_pure ⟨rfl,h₆⟩)) fun _ _ f=>f.elim)) fun _ _ f=>f.elim))
end
noncomputable def compCx(X:Cx)(scope:Scope)(M:List Str)(cl:List (Str×Addr))(C:Addr)(fp:List Addr)(sB:Shared)(HB:Hp):Cx where
 prog:=X.prog
 w:=X.w
 K:=X.K
 mg:=X.mg
 base:=X.base
 A:=X.A
 N:=M
 s₀:=sB
 H₀:=HB
 env:=compEnvC scope cl C X.env
 outer:=X.stack
 stack:=X.stack
 ex:=fp
 fn:=fun _=>false
 calm:=X.calm
 pn:=[]
 xe:=fun _ _=>False
noncomputable def sIn(nT:Nat)(ix:List Nat)(σ:St):St:=List.replicate nT none++ix.map fun i=>(σ[i]?).getD none
structure CompSc(N:List Str)(sc scope:Scope)(M:List Str)(nT:Nat)(ix:List Nat):Prop where
 cell:∀y∈scope.names,y.2≠ .cell
 kind:scope.kind= .function
 loc:∀y∈scope.names,y.2= .local->scope.names.lookup y.1=some .local
 fre:∀y∈scope.names,y.2= .free->sc.names.lookup y.1=some .cell
 nms:M.drop nT=ix.map fun i=>N.getD i Str.empty
 len:M.length=nT+ix.length
 vis:∀i∈ix,scope.names.lookup (N.getD i Str.empty)=some .free
theorem qx{env:Env}(hk:env.scope.kind= .function):∀{names:List (Str×NameKind)} {y:Str},names.lookup y=some .free->env.kindOf y=some .cell->
  (names.map fun(n,k)=>if (k==NameKind.free&&env.scope.kind== .function&&env.kindOf n==some .cell) then (n,NameKind.cell) else (n,k)).lookup y=some .cell
 | [],_,h,_=>by simp at h
 | (n,k)::r,y,h,hc=>by
  have ih:=@qx env hk r y
  show List.lookup y ((if (k==NameKind.free&&env.scope.kind== .function&&env.kindOf n==some .cell)=true then (n,NameKind.cell) else (n,k))::_)=_
  cases hx:y==n with
  |true=>
   simp only[List.lookup_cons,hx]at h
   cases h
   have e:y=n:=by simpa using hx
   subst e
   rw[if_pos (by rw[hk,hc];rfl)]
   simp [List.lookup_cons]
  |false=>
   simp only[List.lookup_cons,hx]at h
   by_cases hc':(k==NameKind.free&&env.scope.kind== .function&&env.kindOf n==some .cell)=true
   ·rw[if_pos hc'];simp only[List.lookup_cons,hx];exact ih h hc
   ·rw[if_neg hc'];simp only[List.lookup_cons,hx];exact ih h hc
theorem JE{env:Env}:∀{names:List (Str×NameKind)} {y:Str} {k':NameKind},
  (names.map fun(n,k)=>if (k==NameKind.free&&env.scope.kind== .function&&env.kindOf n==some .cell) then (n,NameKind.cell) else (n,k)).lookup y=some k'->
  ∃k,names.lookup y=some k/\(k'=k∨k= .free)
 | [],_,_,h=>by simp at h
 | (n,k)::r,y,k',h=>by
  have ih:=@JE env r y k'
  have h:List.lookup y ((if (k==NameKind.free&&env.scope.kind== .function&&env.kindOf n==some .cell)=true then (n,NameKind.cell) else (n,k))::_)=some k':=h
  cases hx:y==n with
  |true=>
   refine⟨k,by simp only[List.lookup_cons,hx],?_⟩
   by_cases hc':(k==NameKind.free&&env.scope.kind== .function&&env.kindOf n==some .cell)=true
   ·right
    simp only[Bool.and_eq_true]at hc'
    simpa using hc'.1.1
   ·rw[if_neg hc']at h;simp only[List.lookup_cons,hx]at h;left;exact(Option.some.inj h).symm
  |false=>
   have h2:List.lookup y (r.map fun(n,k)=>if (k==NameKind.free&&env.scope.kind== .function&&env.kindOf n==some .cell) then (n,NameKind.cell) else (n,k))=some k':=by
    by_cases hc':(k==NameKind.free&&env.scope.kind== .function&&env.kindOf n==some .cell)=true
    ·rw[if_pos hc']at h;simp only[List.lookup_cons,hx]at h;exact h
    ·rw[if_neg hc']at h;simp only[List.lookup_cons,hx]at h;exact h
   obtain⟨k2,e,q⟩:=ih h2
   exact⟨k2,by simp only[List.lookup_cons,hx];exact e,q⟩
noncomputable def clFrom(env:Env):List (Str×NameKind)->List (Str×Addr)->List (Str×Addr)
 | [],acc=>acc
 | (n,k)::r,acc=>if k== .free then clFrom env r ((n,(env.cells.lookup n).getD 0)::acc) else clFrom env r acc
theorem zB{env:Env}:∀{names:List (Str×NameKind)} {acc:List (Str×Addr)},(∀y∈names,y.2= .free->∃c,env.cells.lookup y.1=some c)->(∀x c,acc.lookup x=some c->env.cells.lookup x=some c)->
  ∀x c,(clFrom env names acc).lookup x=some c->env.cells.lookup x=some c
 | [],_,_,ha,x,c,h=>ha x c h
 | (n,k)::r,acc,hy,ha,x,c,h=>by
  unfold clFrom at h
  by_cases hk:(k==NameKind.free)=true
  ·rw[if_pos hk]at h
   refine zB (fun y hy'=>hy y (List.mem_cons_of_mem _ hy')) (fun x' c' h'=>?_) x c h
   obtain⟨c0,e0⟩:=hy (n,k) List.mem_cons_self (by simpa using hk)
   have e0:env.cells.lookup n=some c0:=e0
   simp only[List.lookup_cons]at h'
   cases hx:x'==n with
   |true=>
    rw[hx]at h'
    have e:x'=n:=by simpa using hx
    subst e
    rw[e0]at h'
    rw[e0]
    exact h'
   |false=>rw[hx]at h';exact ha _ _ h'
  ·rw[if_neg hk]at h
   exact zB (fun y hy'=>hy y (List.mem_cons_of_mem _ hy')) ha x c h
theorem zP{x:Str}:∀{acc:List (Str×Addr)},(∃c,(x,c)∈acc)->∃c,acc.lookup x=some c
 | [],h=>by obtain⟨_,h⟩:=h;cases h
 | (n,c)::r,h=>by
  simp only[List.lookup_cons]
  cases hx:x==n with
  |true=>exact⟨c,rfl⟩
  |false=>
   obtain⟨c',h⟩:=h
   rcases List.mem_cons.mp h with e |h
   ·injection e with e1 _
    subst e1
    simp at hx
   ·exact zP ⟨c',h⟩
theorem qg{env:Env}{x:Str}:∀{names:List (Str×NameKind)} {acc:List (Str×Addr)},((∃c,(x,c)∈acc)∨(x,NameKind.free)∈names)->∃c,(x,c)∈clFrom env names acc
 | [],_,h=>by
  rcases h with h |h
  ·exact h
  ·cases h
 | (n,k)::r,acc,h=>by
  unfold clFrom
  by_cases hk:(k==NameKind.free)=true
  ·rw[if_pos hk]
   refine qg ?_
   rcases h with ⟨c,h⟩ |h
   ·exact .inl ⟨c,List.mem_cons_of_mem _ h⟩
   ·rcases List.mem_cons.mp h with e |h
    ·injection e with e1 _
     subst e1
     exact .inl ⟨_,List.mem_cons_self⟩
    ·exact .inr h
  ·rw[if_neg hk]
   refine qg ?_
   rcases h with h |h
   ·exact .inl h
   ·rcases List.mem_cons.mp h with e |h
    ·injection e with _ e2
     subst e2
     exact absurd rfl hk
    ·exact .inr h
theorem zW{env:Env}:∀(names:List (Str×NameKind)) (acc:List (Str×Addr)),(∀y∈names,y.2= .free->∃c,env.cells.lookup y.1=some c)->
  (forIn names acc (fun x r=>match x with | (name,kind)=>if (kind==NameKind.free)=true then (do let a <- cellOf env name;pure (ForInStep.yield ((name,a)::r))) else pure (ForInStep.yield r)):Sem (List (Str×Addr)))=pure (clFrom env names acc)
 | [],acc,_=>rfl
 | (n,k)::r,acc,hy=>by
  have ih:=fun acc=>zW r acc fun y hy'=>hy y (List.mem_cons_of_mem _ hy')
  rw[List.forIn_cons]
  unfold clFrom
  by_cases hk:(k==NameKind.free)=true
  ·obtain⟨c0,e0⟩:=hy (n,k) List.mem_cons_self (by simpa using hk)
   have e0:env.cells.lookup n=some c0:=e0
   have e1:cellOf env n=pure c0:=by unfold cellOf;rw[e0]
   rw[if_pos hk]
   simp only[hk,if_true,e1,e0]
   exact ih _
  ·rw[if_neg hk]
   simp only[hk]
   exact ih _
theorem zX{env:Env}{scope:Scope}(hy:∀y∈scope.names,y.2= .free->∃c,env.cells.lookup y.1=some c):closureFor scope env=pure (clFrom env scope.names []):=by
 have h:=zW scope.names [] hy
 exact congrArg (fun t:Sem (List (Str×Addr))=>t >>= fun s=>pure s) h
section
variable {X:Cx}{pins:List (Addr×Obj)}{σ:St}{H:Hp}{s:Shared}
theorem qt{scope:Scope}{M:List Str}{nT:Nat}{ix:List Nat}(I:Inv X pins σ H s)(S:CompSc X.N X.env.scope scope M nT ix):∀y∈scope.names,y.2= .free->∃c,X.env.cells.lookup y.1=some c:=
 fun y hy e=>I.ok.has y.1 (.inl (S.fre y hy e))
theorem Zt{scope:Scope}{M:List Str}{nT:Nat}{ix:List Nat}{fp:List Addr}{C:Addr}{h₁:Heap}{m:Str->Option Value}{tk:Nat}(I:Inv X pins σ H s)(hf:∀b∈fp,FpOk X pins H b)(hfs:∀b∈fp,b < s.heap.objs.size)
  (S:CompSc X.N X.env.scope scope M nT ix) (hC:s.heap.objs.size<=C) (old:∀b o,s.heap.get? b=some o->h₁.get? b=some o) (hns:h₁.Ns C m):
  Inv (compCx X scope M (clFrom X.env scope.names []) C fp s H) [] (sIn nT ix σ) H { s with heap:=h₁,toks:=tk }:=by
 have sub:∀x c,(clFrom X.env scope.names []).lookup x=some c->X.env.cells.lookup x=some c:=zB (qt I S) (fun x c h=>by simp at h)
 have hs2:∀x,scope.names.lookup x=some .free->∃c,(clFrom X.env scope.names []).lookup x=some c:=fun x e=>zP (qg (.inr (PySem.mem_of_lookup e)))
 have hex:∀x k',(relabel scope X.env).names.lookup x=some k'->(k'= .cell∨k'= .free)->scope.names.lookup x=some .free:=fun x k' e hk=>by
  obtain⟨k,e1,q⟩:=JE e
  rcases q with q |q
  ·rcases hk with z |z
   ·exact absurd (q.symm.trans z) (S.cell (x,k) (PySem.mem_of_lookup e1))
   ·rw[e1,<- q,z]
  ·rw[e1,q]
 refine⟨⟨I.ok.mod,S.kind,I.ok.glob,I.ok.blt,hC,fun x y c h1 h2=>I.ok.inj x y c (sub x c h1) (sub y c h2),fun x hx=>?_,fun x c hx=>?_,I.ok.hd,I.ok.frames,.inl rfl,fun b hb=>⟨fun z=>?_,fun x c e=>?_⟩,I.bs,Nat.le_trans I.ok.bsz I.sz,fun b o e hb=>?_,fun b hb hz=>?_,I.stack,I.stkFree⟩,
  rfl,I.bare,Un.kept old,⟨m,hns,fun k y v e1 e2 _=>?_⟩,fun x c e=>?_,I.hok.fresh hC,fun x c e=>I.freeC x c (sub x c e),fun p hp=>absurd (show p∈([]:List (Addr×Obj)) from hp) (by simp),I.hok.kept old,?_⟩
 ·rcases hx with hx |hx
  ·exact hs2 x (hex x _ hx (.inl rfl))
  ·exact hs2 x (hex x _ hx (.inr rfl))
 ·exact absurd (show false=true from hx) (by decide)
 ·have z':b=C:=z
  have:=hfs b hb
  rw[z']at this
  exact absurd this (Nat.not_lt.mpr hC)
 ·exact(hf b hb).2.2.2.2.1 x c (sub x c e)
 ·rcases(hf b hb).2.2.2.1 with z |z
  ·exact I.ok.noex b o e z
  ·exact absurd (Nat.lt_of_lt_of_le (Heap.lt_size e) (Nat.le_trans I.ok.bsz z)) (Nat.lt_irrefl _)
 ·rcases List.mem_cons.mp (I.stkSub b hz) with z |z
  ·exact(hf b hb).2.1 z
  ·exact(hf b hb).2.2.1 z
 ·have e2:(sIn nT ix σ)[k]?=some (some v):=e2
  have e1:M[k]?=some y:=e1
  unfold sIn at e2
  by_cases hk:k < nT
  ·rw[List.getElem?_append_left (by simpa using hk),List.getElem?_replicate]at e2
   simp [hk]at e2
  ·have hk':nT<=k:=Nat.le_of_not_lt hk
   rw[List.getElem?_append_right (by simpa using hk'),List.length_replicate,List.getElem?_map]at e2
   cases e3:ix[k - nT]? with
   |none=>rw[e3]at e2;cases e2
   |some i=>
    rw[e3]at e2
    have e4:(σ[i]?).getD none=some v:=Option.some.inj e2
    have e5:σ[i]?=some (some v):=by
     cases e6:σ[i]? with
     |none=>rw[e6]at e4;cases e4
     |some o=>rw[e6]at e4;exact congrArg some e4
    have hi:i < X.N.length:=by rw[<- I.len];exact(List.getElem?_eq_some_iff.mp e5).1
    have e7:y=X.N.getD i Str.empty:=by
     have q:(M.drop nT)[k - nT]?=some y:=by rw[List.getElem?_drop];rw[Nat.add_sub_cancel' hk'];exact e1
     rw[S.nms,List.getElem?_map,e3]at q
     exact(Option.some.inj q).symm
    have e8:X.N[i]?=some y:=by rw[e7,List.getElem?_eq_getElem hi,List.getD_eq_getElem?_getD,List.getElem?_eq_getElem hi];rfl
    have hfree:scope.names.lookup y=some .free:=by rw[e7];exact S.vis i (List.mem_of_getElem? e3)
    have hcell:X.env.scope.names.lookup y=some .cell:=S.fre (y,.free) (PySem.mem_of_lookup hfree) rfl
    obtain⟨m',_,hl⟩:=I.loc
    obtain⟨u,r,l⟩:=hl i y v e8 e5 (.inr (.inl hcell))
    refine⟨u,r,?_⟩
    rcases l with ⟨l,_⟩ | ⟨_,c,ec,o,ho,hd⟩
    ·have l:X.env.scope.names.lookup y=some .local:=l
     rw[hcell]at l
     cases l
    ·obtain⟨c',ec'⟩:=hs2 y hfree
     have q:=sub y c' ec'
     rw[ec]at q
     cases q
     exact .inr ⟨.inl (qx I.ok.kind hfree hcell),c,ec',o,old _ _ ho,hd⟩
 ·obtain⟨v,o,ho,hd⟩:=I.cell x c (sub x c e)
  exact⟨v,o,old _ _ ho,hd⟩
 ·show(sIn nT ix σ).length=M.length
  rw[S.len]
  simp [sIn]
theorem Inv.track{D:Addr}{o:HO}(I:Inv X pins σ H s)(f:FpOk X pins H D)(ge:X.s₀.heap.objs.size<=D)(new:ObjOk X.prog X.w (upd H D o) s.heap D o):Inv X pins σ (upd H D o) s:=by
 have n:=f.1
 have ne:∀b u,H b=some u->b≠D:=fun b u e=>jv e n
 refine⟨I.ok,I.os,I.bare,⟨I.base.keep,I.base.slot,fun b ob e q hx=>?_,I.base.there,fun b xs e=>?_,fun b ob u e=>?_,fun b ps e=>?_⟩,I.loc,I.cell,?_,fun x c e=>?_,fun p hp=>?_,fun b u e=>?_,I.len⟩
 ·rw[jm (Nat.ne_of_lt (Nat.lt_of_lt_of_le (Heap.lt_size e) ge))]
  exact I.base.free b ob e q hx
 ·have q:=I.base.tups b xs e
  rw[jm (ne _ _ q)]
  exact q
 ·have q:=I.base.frzs b ob u e
  rw[jm (ne _ _ q)]
  exact q
 ·obtain⟨more,q⟩:=I.base.tbls b ps e
  exact⟨more,by rw[jm (ne _ _ q)];exact q⟩
 ·rw[jm (Ne.symm f.2.1)]
  exact I.free
 ·rw[jm (f.2.2.2.2.1 x c e)]
  exact I.freeC x c e
 ·obtain⟨e,q,r⟩:=I.pin p hp
  exact⟨e,by rw[jm (f.2.2.2.2.2 p hp)];exact q,r⟩
 ·by_cases hb:b=D
  ·subst hb
   rw[jd]at e
   cases e
   exact new
  ·rw[jm hb]at e
   exact(I.hok b u e).stay (fun _ _ _ q=>q) (fun c q=>by rw[jm (ne _ _ q)];exact q) fun c xs q=>by rw[jm (ne _ _ q)];exact q
noncomputable abbrev lstO(us:List Value):Obj:={ cls:=.type "list",data:=.seq us.toArray us.length }
theorem Ye(us:List Value)(y:Value):({ cls:=.type "list",data:=.seq (us.toArray.push y) (us.length+1) }:Obj)=lstO (us++[y]):=by
 show({ cls:=.type "list",data:=.seq (us.toArray.push y) (us.length+1) }:Obj)={ cls:=.type "list",data:=.seq (us++[y]).toArray (us++[y]).length }
 rw[List.length_append,List.length_singleton,List.push_toArray]
def PF(X:Cx)(ifs:List Expr)(t:TT):Prop:=
 ∀(pins:List (Addr×Obj)) (s:Shared) (σ:St) (H:Hp) (Q:Bool->Hp->Prop),Inv X pins σ H s->t σ H Q->
  wpAny (model X.prog X.w) X.A (forIn ifs true fun c r=>if r=true then do let ok <- isTrue c X.env (eval c X.env);pure (ForInStep.yield ok) else pure (ForInStep.yield r)) (TP X pins σ Q) X.xe s
def tAll:TT:=fun _ H Q=>Q true H
theorem kU:PF X [] tAll:=fun _ _ _ H _ I h=>wpAny_tests_nil ⟨H,I,h⟩
theorem pf_one{c:Expr}{t:TT}(h:PT X c t):PF X [c] t:=fun pins s σ H Q I q=>wpAny_tests_one (h pins s σ H Q I q)
noncomputable def sTail(ix:List Nat)(σ:St):St:=ix.map fun i=>(σ[i]?).getD none
def CompR(J:It)(nT:Nat)(tail:St)(g:TG)(tt:TT)(te:TE)(Q:List V->Hp->Prop)(H:Hp):Prop:=
 ∃W:Nat->Nat->List V->Hp->Prop,(∃m,W 0 m [] H)/\∀i m ys H,W i m ys H->
  (J.stop i H/\Q ys H)∨(J.go i H/\ys.length < sizeLine/\∃N:List V->Hp->Prop,(∀ys' H2,N ys' H2->∃m',m' < m/\W (i+1) m' ys' H2)/\
   ∀x H' (ts:St),ts.length=nT->J.yld i H x H'->g x (ts++tail) H' fun σ2 H2=>(∃ts':St,ts'.length=nT/\σ2=ts'++tail)/\tt σ2 H2 fun b H3=>if b=true then te σ2 H3 fun y H4=>N (ys++[y]) H4 else N ys H3)
theorem JF{tg elt iter:Expr}{ifs:List Expr}{scope:Scope}{pos:Pos}{M:List Str}{nT:Nat}{ix:List Nat}{g:TG}{tt:TT}{te:TE}{it:Addr}{fp:List Addr}{tn:Nat->Heap->Prop}{J:It}{E:Value->Shared->Prop}
  {RR:Value->Addr->Result->Shared->Prop} {Qf:List V->Hp->Prop}
  (I:Inv X pins σ H s) (hc:X.calm=true) (T:Turn X.prog X.w X.K tg J fp it tn) (st:tn 0 s.heap) (hf:∀b∈fp,FpOk X pins H b) (S:CompSc X.N X.env.scope scope M nT ix)
  (hg:∀cl C fp s H,PG (compCx X scope M cl C fp s H) tg g) (hi:∀cl C fp s H,PF (compCx X scope M cl C fp s H) ifs tt) (he:∀cl C fp s H,PE (compCx X scope M cl C fp s H) elt te)
  (h:CompR J nT (sTail ix σ) g tt te Qf H)
  (hRR:∀D C ys m H' s',(∀b o u,H b=some (.frz o u)->H' b=some (.frz o u))->H' D=none->Inv X pins σ (upd H' D (.lst ys)) s'->FpOk X pins (upd H' D (.lst ys)) C->s'.heap.Ns C m->Qf ys H'->RR (.ref D) C (.ok .next) s'):
  wpAny (model X.prog X.w) X.A (newList []) (fun acc s₃=>wpAny (model X.prog X.w) X.A (newFunctionEnv scope X.env.globals (clFrom X.env scope.names []) [] X.env.qual none .none (some X.env)) (fun cenv s₄=>
   codeAny (model X.prog X.w) X.A (.compStart (.ListComp elt [⟨tg,iter,ifs,0⟩] scope pos) 0 (.ref it) acc { cenv with scope:=relabel scope X.env }) (RR acc cenv.locals) s₄) E s₃) E s:=by
 obtain⟨W,⟨m0,w0⟩,turn⟩:=h
 have hfs:∀b∈fp,b < s.heap.objs.size:=fun b hb=>by
  obtain⟨o,e,_⟩:=T.obj 0 _ st b hb
  exact Heap.lt_size e
 refine wpAny_newObj_type (wpAny_newFunctionEnv S.cell (by intro y hy;simp at hy) (fun h₁ hns₁ hsb₁=>?_) S.kind)
 dsimp only at hns₁ hsb₁ ⊢
 generalize hH2:s.heap.push { cls:=.type "list",dict:=none,data:=.seq ([]:List Value).toArray }=H2 at hns₁ hsb₁ ⊢
 have hC:H2.objs.size=s.heap.objs.size+1:=by rw[<- hH2,Heap.size_push]
 have hDC:s.heap.objs.size≠H2.objs.size:=by rw[hC];exact Nat.ne_of_lt (Nat.lt_succ_self _)
 have hCle:s.heap.objs.size<=H2.objs.size:=by rw[hC];exact Nat.le_succ _
 have below:∀b,b < s.heap.objs.size->b≠H2.objs.size/\b≠s.heap.objs.size:=fun b hb=>⟨by rw[hC];exact Nat.ne_of_lt (Nat.lt_succ_of_lt hb),Nat.ne_of_lt hb⟩
 have old:∀b o,s.heap.get? b=some o->h₁.get? b=some o:=fun b o e=>hsb₁.extBut b o (below b (Heap.lt_size e)).1 (Heap.get?_push_of_some _ (hH2▸Heap.get?_push_of_some _ e))
 have hacc:h₁.get? s.heap.objs.size=some (lstO []):=hsb₁.extBut _ _ hDC (Heap.get?_push_of_some _ (hH2▸Heap.get?_push_size _ rfl))
 have hDn:H s.heap.objs.size=none:=I.hok.fresh (Nat.le_refl _)
 have hDfs:s.heap.objs.size∉frs X.stack:=fun hb=>(List.mem_cons.mp (I.stkSub _ hb)).elim (fun e=>absurd I.lt (by rw[<- e];exact Nat.lt_irrefl _)) (I.nofs (Nat.le_refl _))
 generalize hD:s.heap.objs.size=D at*
 generalize hCC:H2.objs.size=C at*
 have J0:∀tk,Inv (compCx X scope M (clFrom X.env scope.names []) C fp s H) [] (sIn nT ix σ) H { s with heap:=h₁,toks:=tk }:=fun tk=>Zt I hf (by rw[hD];exact hfs) S (by rw[hD];exact hCle) old hns₁
 have cne:∀x c,(clFrom X.env scope.names []).lookup x=some c->c≠D:=fun x c e z=>by
  have sub:=zB (qt I S) (acc:=[]) (fun x c h=>by simp at h) x c e
  obtain⟨v,o,ho,_⟩:=I.cell x c sub
  have:=Heap.lt_size ho
  rw[z,hD]at this
  exact Nat.lt_irrefl _ this
 have pinD:∀{σ':St} {H':Hp} {s':Shared} {us:List Value},Inv (compCx X scope M (clFrom X.env scope.names []) C fp s H) [] σ' H' s'->s'.heap.get? D=some (lstO us)->H' D=none->
   Inv (compCx X scope M (clFrom X.env scope.names []) C fp s H) [(D,lstO us)] σ' H' s':=fun {σ' H' s' us} I' e n=>I'.pins_of fun p hp=>by
  have ep:p=(D,lstO us):=by simpa using hp
  subst ep
  exact⟨e,n,hDC,hDfs,fun v z=>by cases z⟩
 have stat:∀{H':Hp} {us:List Value},(∀b∈fp,H' b=none)->∀b∈fp,FpOk (compCx X scope M (clFrom X.env scope.names []) C fp s H) [(D,lstO us)] H' b:=fun {H' us} hn b hb=>
  ⟨hn b hb,((J0 0).ok.exf b hb).1,(J0 0).ok.exfs b hb,.inl hb,((J0 0).ok.exf b hb).2,fun p hp z=>by
   have ep:p=(D,lstO us):=by simpa [compCx] using hp
   rw[ep]at z
   have:=hfs b hb
   rw[<- z]at this
   exact Nat.lt_irrefl _ this⟩
 have loop:∀s₃:Shared,(∃tk,s₃={ s with heap:=h₁,toks:=tk })->
   codeAny (model X.prog X.w) X.A (.compLoop (.ListComp elt [⟨tg,iter,ifs,0⟩] scope pos) 0 (.ref it) (.ref D) (compEnvC scope (clFrom X.env scope.names []) C X.env)) (RR (.ref D) C) s₃:=by
  rintro s₃ ⟨tk,rfl⟩
  refine Yd (fun n s'=>∃i ys us ts H',ts.length=nT/\Inv (compCx X scope M (clFrom X.env scope.names []) C fp s H) [(D,lstO us)] (ts++sTail ix σ) H' s'/\Vals ys us/\ys.length<=sizeLine/\tn i s'.heap/\(∀b∈fp,H' b=none)/\W i n ys H') ?_ m0
   ⟨0,[],[],List.replicate nT none,H,List.length_replicate,pinD (J0 tk) hacc hDn,.nil,Nat.zero_le _,T.keep _ _ _ st fun b hb o e=>old b o e,fun b hb=>(hf b hb).1,w0⟩
  rintro n s1 ⟨i,ys,us,ts,H1,hts,I1,rv,hz,st1,fr1,w1⟩
  rcases turn i n ys H1 w1 with ⟨stop,q⟩ | ⟨go,hlt,N,hN,step⟩
  ·refine thn (T.done (compCx X scope M (clFrom X.env scope.names []) C fp s H) rfl rfl rfl hc i _ s1 _ H1 NoE I1 (stat fr1) st1 stop) fun r s2 ⟨hr,I2⟩=>?_
   subst hr
   have IO:Inv X pins σ H1 s2:=I.call' (ch:=fp) I2.os I2.base I2.hok I2.bare fun b hb=>⟨(hf b hb).2.2.2.1,(hf b hb).2.1,(hf b hb).2.2.2.2.1,(hf b hb).2.2.2.2.2⟩
   have pD:=I2.pin (D,lstO us) (by simp [compCx])
   have hn1:H1 D=none:=pD.2.1
   have fD:FpOk X pins H1 D:=by rw[<- hD];exact I.fpOk (Nat.le_refl _) (by rw[hD];exact hn1)
   have IT:Inv X pins σ (upd H1 D (.lst ys)) s2:=IO.track fD (by rw[<- hD];exact I.sz) ⟨hz,us,us.length,rv,pD.1⟩
   obtain⟨mC,hnC,_⟩:=I2.loc
   have hC1:H1 C=none:=I2.free
   exact hRR D C ys mC H1 s2 I2.base.frzs hn1 IT (I.fpOk (by rw[hD];exact hCle) (by rw[jm (Ne.symm hDC)];exact hC1)) hnC q
  ·refine thn (T.item (compCx X scope M (clFrom X.env scope.names []) C fp s H) rfl rfl rfl hc i _ s1 _ H1 NoE I1 (stat fr1) st1 go) fun r s2 ⟨u,hr,h2⟩=>?_
   subst hr
   refine thn h2 fun _ s3 ⟨x,H3,I3,r3,y3,st3,fr3⟩=>?_
   have I3':=I3.pinned (stat fr3) (T.obj _ _ st3)
   refine thn (hg _ _ _ _ _ _ s3 _ H3 x u _ I3' r3 (step x H3 ts hts y3)) fun _ s4 ⟨σ4,H4,I4,⟨ts4,hts4,e4⟩,q4⟩=>?_
   subst e4
   refine thn (hi _ _ _ _ _ _ s4 _ H4 _ I4 q4) fun b s5 ⟨H5,I5,q5⟩=>?_
   cases b with
   |false=>
    obtain⟨m',hm,w'⟩:∃m',m' < n/\W (i+1) m' ys H5:=hN _ _ q5
    refine⟨m',hm,i+1,ys,us,ts4,H5,hts4,I5.unpinned,rv,hz,T.keep _ _ _ st3 fun b hb o e=>(I5.pin (b,o) (List.mem_append_right _ (List.mem_append_right _ (kH hb e)))).1,fun b hb=>?_,w'⟩
    obtain⟨o,e,d⟩:=T.obj _ _ st3 b hb
    exact(I5.pin (b,o) (List.mem_append_right _ (List.mem_append_right _ (kH hb e)))).2.1
   |true=>
    refine thn (he _ _ _ _ _ _ s5 _ H5 _ I5 q5) fun v s6 ⟨y,H6,I6,r6,q6⟩=>?_
    obtain⟨m',hm,w'⟩:=hN _ _ q6
    have pD:=I6.pin (D,lstO us) (List.mem_append_right _ (List.mem_append_left _ List.mem_cons_self))
    have hl:=rv.length
    have keepfp:∀b∈fp,∀o,s3.heap.get? b=some o->s6.heap.get? b=some o:=fun b hb o e=>(I6.pin (b,o) (List.mem_append_right _ (List.mem_append_right _ (kH hb e)))).1
    have freefp:∀b∈fp,H6 b=none:=fun b hb=>by
     obtain⟨o,e,d⟩:=T.obj _ _ st3 b hb
     exact(I6.pin (b,o) (List.mem_append_right _ (List.mem_append_right _ (kH hb e)))).2.1
    refine append_at (hsz:=by rw[List.size_toArray,<- hl];exact hz) pD.1 fun h7 sb hD7=>?_
    have I7:Inv (compCx X scope M (clFrom X.env scope.names []) C fp s H) [] (ts4++sTail ix σ) H6 { s6 with heap:=h7 }:=
     (I6.pins_of (pins':=[]) fun p hp=>absurd hp (by simp)).turned (t':=s6.toks) (it:=D) (fun b o hb e=>(sb.2 b hb).trans e) pD.2.1 hDC (.inr (by show s.heap.objs.size<=D;rw[hD];exact Nat.le_refl _)) cne fun p hp=>absurd (show p∈([]:List (Addr×Obj)) from hp) (by simp)
    refine⟨m',hm,i+1,ys++[y],us++[v],ts4,H6,hts4,pinD I7 (hD7.trans (congrArg some (Ye us v))) pD.2.1,rv.append (.cons r6 .nil),by rw[List.length_append,List.length_singleton];exact hlt,
     T.keep _ _ _ (T.keep _ _ _ st3 keepfp) fun b hb o e=>(sb.2 b fun z=>?_).trans e,freefp,w'⟩
    have:=hfs b hb
    rw[z]at this
    exact Nat.lt_irrefl _ this
 exact codeAny_compStart_list (loop _ ⟨_,rfl⟩) (T.self _ 0 _ _ _ (T.keep _ _ _ st fun b hb o e=>old b o e) (loop _ ⟨_,rfl⟩))
def tComp(wi:TI)(nT:Nat)(ix:List Nat)(g:TG)(tt:TT)(te:TE):TE:=fun σ H Q=>wi σ H fun J H1=>CompR J nT (sTail ix σ) g tt te (fun ys H'=>∀p,H' p=none->Q (.ref p) (upd H' p (.lst ys))) H1
theorem kA{tg elt iter:Expr}{ifs:List Expr}{scope:Scope}{pos:Pos}{M:List Str}{nT:Nat}{ix:List Nat}{wi:TI}{g:TG}{tt:TT}{te:TE}(hc:X.calm=true)(hI:PI X tg iter wi)(S:CompSc X.N X.env.scope scope M nT ix)
  (hg:∀cl C fp s H,PG (compCx X scope M cl C fp s H) tg g) (hi:∀cl C fp s H,PF (compCx X scope M cl C fp s H) ifs tt) (he:∀cl C fp s H,PE (compCx X scope M cl C fp s H) elt te)
  (hs:∀x,foldedSetIterable iter X.env x=pure x:=by intro _;rfl):
  PE X (.ListComp elt [⟨tg,iter,ifs,0⟩] scope pos) (tComp wi nT ix g tt te):=by
 intro pins s σ H Q I h
 rw[eval_ListComp]
 refine wpAny_comprehension_free (use:=none) rfl hs (zX (qt I S)) S.kind S.loc (thn (hI pins s σ H _ I h) fun xv s1 h1=>thn h1 fun itv s2 h2=>?_)
 obtain⟨it,fp,tn,J,H2,e,I2,T,st2,f2,R⟩:=h2
 subst e
 refine JF (RR:=fun acc C=>compPost (model X.prog X.w) X.A X.xe none (EP X pins σ Q) acc C) I2 hc T st2 f2 S hg hi he R ?_
 intro D C ys m H' s' _ n I' fC ns q
 exact⟨m,ns,fun h' sb=>⟨.ref D,_,I'.turned (t':=s'.toks) (fun b o hb e=>(sb.2 b hb).trans e) fC.1 fC.2.1 fC.2.2.2.1 fC.2.2.2.2.1 fC.2.2.2.2.2,rfl,q D n⟩⟩
theorem Xx{tg elt iter:Expr}{ifs:List Expr}{scope:Scope}{pos py spos:Pos}{y:Str}{i:Nat}{M:List Str}{nT:Nat}{ix:List Nat}{wi:TI}{g:TG}{tt:TT}{te:TE}(hN:X.N.Nodup)(hy:X.N[i]?=some y)(hx:Loc X.env.scope y)
  (hc:X.calm=true) (hI:PI X tg iter wi) (S:CompSc X.N X.env.scope scope M nT ix)
  (hg:∀cl C fp s H,PG (compCx X scope M cl C fp s H) tg g) (hi:∀cl C fp s H,PF (compCx X scope M cl C fp s H) ifs tt) (he:∀cl C fp s H,PE (compCx X scope M cl C fp s H) elt te)
  (hsw:swapsWith (.ListComp elt [⟨tg,iter,ifs,0⟩] scope pos) (some (.Name y py)) spos.line X.env=pure true:=by rfl)
  (hf:X.fn y=true∨X.env.scope.names.lookup y=some .local:=by first |exact .inl rfl |exact .inr rfl |assumption)
  (hs:∀x,foldedSetIterable iter X.env x=pure x:=by intro _;rfl):
  PS X (.Assign [.Name y py] (.ListComp elt [⟨tg,iter,ifs,0⟩] scope pos) spos) (fun D σ H=>tComp wi nT ix g tt te σ H fun v H1=>D.nx (σ.set i (some v)) H1):=by
 intro pins s σ H D I h
 rw[exec_Assign_Name_used _ _ _ _ hsw]
 refine wpAny_bind (wpAny_standAt (wpAny_bind ?_))
 show wpAny _ X.A (do let _ <- comprehension (.ListComp elt [⟨tg,iter,ifs,0⟩] scope pos) scope X.env _ (newList []) false (eval iter X.env) (some (assign (.Name y py) X.env))) _ _ s
 refine wpAny_bind (thn (wpAny_comprehension_free (use:=some (assign (.Name y py) X.env)) (Q:=fun _ s'=>SP X pins D .next s') rfl hs (zX (qt I S)) S.kind S.loc
  (thn (hI pins s σ H _ I h) fun xv s1 h1=>thn h1 fun itv s2 h2=>?_)) fun _ s' hq=>wpAny_pure (wpAny_pure hq))
 obtain⟨it,fp,tn,J,H2,e,I2,T,st2,f2,R⟩:=h2
 subst e
 refine JF (RR:=fun acc C=>compPost (model X.prog X.w) X.A X.xe (some (assign (.Name y py) X.env)) (fun _ s'=>SP X pins D .next s') acc C) I2 hc T st2 f2 S hg hi he R ?_
 intro Dd C ys m H' s' _ n I' fC ns q
 show wpAny _ X.A (assign (.Name y py) X.env (.ref Dd)) _ _ s'
 refine wpAny_assign_Name (Ka I' hN hy hx (v:=.ref Dd) rfl (fun s'' I'' hh=>?_) hf)
 obtain⟨a,sb,ha⟩:=hh
 have hCa:C≠a:=by
  rcases ha with z |z
  ·rw[z];exact fC.2.1
  ·exact Ne.symm (fC.2.2.2.2.1 _ _ z)
 exact⟨m,ns.sameBut sb hCa,fun h' sb'=>⟨_,_,I''.turned (t':=s''.toks) (fun b o hb e=>(sb'.2 b hb).trans e) fC.1 fC.2.1 fC.2.2.2.1 fC.2.2.2.2.1 fC.2.2.2.2.2,q Dd n⟩⟩
end
section
variable {X:Cx}
def CDivB(i j:Int):Prop:=0 < j/\j<=1000000000000000000
theorem qu:OpR X (binaryOp .FloorDiv) (rI CDivB fun i j=>.int (i / j)):=opI fun i j _ _ _ _ _ hc q=>by
 have h1:(0:Int) < j:=hc.1
 have h2:j<=1000000000000000000:=hc.2
 refine floordiv_int (by omega) (by rw[Int.fdiv_eq_ediv_of_nonneg i (by omega)];exact q) (.inl (PyProof.noPylong_of_log2 ?_))
 have h3:j.natAbs≠0:=by omega
 have h4:j.natAbs < 2 ^ 60:=by omega
 have h5:j.natAbs.log2 < 60:=(Nat.log2_lt h3).mpr h4
 omega
noncomputable def clsV:V->Option Value
 | .ty n=>some (.type n)
 | .ref a=>some (.ref a)
 |_=>none
theorem jU:CallR X (.builtin "isinstance") (fun xs H Q=>∃x y c t b,xs=[x,y]/\clsV y=some c/\TyOf X.K H x t/\kitOne X.K t c=some b/\Q (.bl b) H):=by
 intro pins s σ H xs us Q I r h
 obtain⟨x,y,c,t,b,rfl,hc,ty,e,q⟩:=h
 obtain⟨u,w',rfl,rx,ry⟩:=vals2 r
 have ec:w'=c:=by
  cases y with
  |ty n=>exact Eq.trans ry (Option.some.inj hc)
  |ref a=>exact Eq.trans ry (Option.some.inj hc)
  |_=>cases hc
 subst ec
 exact X6 I rx ty e fun tk=>⟨.bl b,H,I.tok tk,rfl,q⟩
theorem qS:∀{bs:List Bool} {us:List Value},Vals (bs.map V.bl) us->LSm.BoolsAre us bs
 | [],_,.nil=>.nil
 |b::r,_,.cons (b:=u) h t=>by
  have e:u=Value.bool b:=h
  subst e
  exact .cons b (qS t)
theorem Zu(hc:X.calm=true):CallR X (.builtin "all") (fun xs H Q=>∃(p:Addr) (bs:List Bool),xs=[.ref p]/\SqL X.K H p (bs.map V.bl)/\Q (.bl (bs.all id)) H):=by
 intro pins s σ H xs us Q I r h
 obtain⟨p,bs,rfl,hq,q⟩:=h
 obtain⟨u,rfl,rx⟩:=vals1 r
 cases rx
 obtain⟨its,r',pl,hz⟩:=I.list hq
 have hb:=qS r'
 have hl:=pl.isList
 have hlt:p < s.heap.objs.size:=by obtain⟨_,e,_⟩:=hl;exact Heap.lt_size e
 refine call_all_walk (wpAny_pyIter_list hl ?_)
 refine⟨s.heap.objs.size,[s.heap.objs.size,p],[s.heap.objs.size],its.toArray.size,_,_,fun i=>(bs[i]?).getD true,rfl,Walks.list (A:=X.A.in1) (I.ok.hd hc) _ p (Nat.ne_of_lt hlt) its.toArray,
  ⟨⟨_,Heap.get?_push_size _ rfl,rfl,rfl⟩,hl.push _⟩,fun i v s' Q' E' hP hQ=>?_,fun h' tk hk=>?_⟩
 ·obtain⟨b,e,rfl⟩:=hb.get i v (by simpa using hP)
  simp only[e,Option.getD_some]at hQ
  exact wpAny_truthy_bool hQ
 ·have e:((List.range its.toArray.size).all fun i=>(bs[i]?).getD true)=bs.all id:=by
   rw[List.size_toArray,hb.length];exact LSm.range_all bs
  rw[e]
  exact⟨.bl _,H,I.kept (t':=tk) (LSm.kept_iter hk),rfl,q⟩
theorem zC:∀{ys:List Str} {us:List Value},Vals (ys.map V.str) us->StrsAre us ys
 | [],_,.nil=>.nil
 |y::r,_,.cons (b:=u) h t=>by
  obtain⟨tk,e⟩:∃tk,u=Value.str y tk:=h
  subst e
  exact .cons y tk (zC t)
theorem KD:MtR X "str.join" (fun x xs H Q=>∃(z:Str) (p:Addr) (ys:List Str),x= .str z/\xs=[.ref p]/\SqL X.K H p (ys.map V.str)/\z.length<=16/\(ys.map (·.length)).sum+ys.length<=1048576/\Q (.str (Txt.join z ys)) H):=by
 intro pins s σ H x xs v us Q I rx rs h
 obtain⟨z,p,ys,rfl,rfl,hq,hz,hw,q⟩:=h
 obtain⟨u,rfl,ru⟩:=vals1 rs
 cases ru
 obtain⟨t,rfl⟩:=rx
 obtain⟨its,r',pl,hz'⟩:=I.list hq
 exact join_listW pl.isList (by simpa using zC r') hz hw fun t' k=>⟨.str _,H,I.tok k,⟨_,rfl⟩,q⟩
noncomputable def cstV:Expr->Option V
 | .Constant (.str x) _ _=>some (.str x)
 | .Constant (.int i) _ _=>some (.int i)
 |_=>none
theorem pe_cst{e:Expr}{v:V}(h:cstV e=some v):PE X e (tC v):=by
 cases e with
 |Constant c j p=>
  cases c with
  |str x=>cases h;exact ji
  |int i=>cases h;exact jc
  |_=>cases h
 |_=>cases h
theorem Zv{e:Expr}{es:List Expr}{env:Env}{v:V}(h:cstV e=some v):starEach (e::es) env=(false,eval e env)::starEach es env:=by
 cases e with
 |Constant c j p=>rfl
 |_=>cases h
noncomputable def isCst(e:Expr):Bool:=(cstV e).isSome
noncomputable def cstG(e:Expr):V:=(cstV e).getD .non
theorem KE:∀{es:List Expr},es.all isCst=true->PA X es (fun _ H Q=>Q (es.map cstG) H)
 | [],_=>jb
 |e::es,h=>by
  rw[List.all_cons,Bool.and_eq_true]at h
  obtain⟨v,hv⟩:=Option.isSome_iff_exists.mp (show(cstV e).isSome=true from h.1)
  have hg:cstG e=v:=by unfold cstG;rw[hv];rfl
  rw[List.map_cons,hg]
  exact ja (pe_cst hv) (KE h.2) (Zv hv)
theorem Yf{es:List Expr}(h:es.all isCst=true):(es.map cstG).all flatV=true:=by
 rw[List.all_eq_true]at h ⊢
 intro v hv
 obtain⟨e,he,rfl⟩:=List.mem_map.mp hv
 have q:=h e he
 unfold isCst at q
 unfold cstG
 cases e with
 |Constant c j p=>
  cases c with
  |str x=>rfl
  |int i=>rfl
  |_=>exact absurd q Bool.false_ne_true
 |_=>exact absurd q Bool.false_ne_true
def tMid(t:TS):TS:=fun D σ H=>∃R:St->Hp->Prop,t { D with nx:=R } σ H/\∀σ' H',R σ' H'->D.nx σ' H'
theorem jT{st:Stmt}{t:TS}(h:PS X st t):PS X st (tMid t):=by
 intro pins s σ H D I hw
 obtain⟨R,h1,h2⟩:=hw
 refine thn (h pins s σ H _ I h1) fun f s' q=>?_
 cases f with
 |next=>obtain⟨σ',H',I',q⟩:=q;exact⟨σ',H',I',h2 _ _ q⟩
 |brk=>exact q
 |cont=>exact q
 |ret v=>exact q
theorem len1{ts:St}(h:ts.length=1):∃v,ts=[v]:=by
 match ts,h with
 | [v],_=>exact⟨v,rfl⟩
theorem Qn{lo:Int}{n:Nat}{te:TE}{Qf:List V->Hp->Prop}{σt:St}{H:Hp}(Pv:Nat->List V->Hp->Prop)(h0:Pv 0 [] H)(hz:n<=sizeLine)(hlen:∀i ys H',Pv i ys H'->ys.length<=i)
  (hs:∀i ys H',i < n->Pv i ys H'->te (some (.int (lo+i))::σt) H' fun y H2=>Pv (i+1) (ys++[y]) H2) (hd:∀ys H',Pv n ys H'->Qf ys H'):
  CompR (Itr lo n) 1 σt (gName 0) tAll te Qf H:=by
 refine⟨fun i m ys H'=>m=n - i/\i<=n/\Pv i ys H',⟨n,by simp,Nat.zero_le _,h0⟩,?_⟩
 rintro i m ys H' ⟨rfl,hi,p⟩
 by_cases hlt:i < n
 ·refine .inr ⟨hlt,Nat.lt_of_le_of_lt (hlen i ys H' p) (Nat.lt_of_lt_of_le hlt hz),Pv (i+1),fun ys' H2 p'=>⟨n - (i+1),by omega,rfl,hlt,p'⟩,fun x H2 ts hts y=>?_⟩
  obtain⟨e,y⟩:=y
  subst e y
  obtain⟨v,rfl⟩:=len1 hts
  exact⟨⟨[some _],rfl,rfl⟩,hs i ys _ hlt p⟩
 ·have e:i=n:=by omega
  subst e
  exact .inl ⟨Nat.le_refl _,hd ys H' p⟩
end
section
variable {κ:Type}[DecidableEq κ]
noncomputable def valV(kvs:List (κ×V))(k:κ):Option V:=(kvs.find? fun kv=>decide (kv.1=k)).map (·.2)
noncomputable def putK(kvs:List (κ×V))(k:κ)(v:V):List (κ×V):=
 if (kvs.any fun kv=>decide (kv.1=k))=true then kvs.map (fun kv=>if kv.1=k then (kv.1,v) else kv) else kvs++[(k,v)]
theorem K0{p:κ×V}{r:List (κ×V)}{k:κ}(e:p.1=k):valV (p::r) k=some p.2:=by simp [valV,List.find?_cons,e]
theorem K2{p:κ×V}{r:List (κ×V)}{k:κ}(e:¬p.1=k):valV (p::r) k=valV r k:=by simp [valV,List.find?_cons,e]
theorem RelO.getD{o:Option V}{u:Option Value}{d:V}{d':Value}(r:RelO o u)(rd:RelV d d'):RelV (o.getD d) (u.getD d'):=by
 cases o with
 |none=>cases u with
  |none=>exact rd
  |some _=>exact(show False from r).elim
 |some _=>cases u with
  |none=>exact(show False from r).elim
  |some _=>exact r
theorem KV.val{kvs:List (κ×V)}{vs:List (κ×Value)}(r:KV kvs vs)(k:κ):RelO (valV kvs k) (valueAt vs k):=by
 unfold KV at r
 induction r with
 |nil=>exact True.intro
 | @cons p q ps qs h t ih=>
  obtain⟨h1,h2⟩:=h
  by_cases e:p.1=k
  ·have e':q.1=k:=h1.symm.trans e
   have b:valueAt (q::qs) k=some q.2:=by simp [valueAt,List.find?_cons,e']
   rw[K0 e,b];exact h2
  ·have e':¬q.1=k:=fun z=>e (h1.trans z)
   have b:valueAt (q::qs) k=valueAt qs k:=by simp [valueAt,List.find?_cons,e']
   rw[K2 e,b];exact ih
theorem KV.any{kvs:List (κ×V)}{vs:List (κ×Value)}(r:KV kvs vs)(k:κ):(kvs.any fun kv=>decide (kv.1=k))=vs.any fun kv=>decide (kv.1=k):=by
 unfold KV at r
 induction r with
 |nil=>rfl
 |cons h t ih=>rw[List.any_cons,List.any_cons,ih,h.1]
theorem KV.repl{kvs:List (κ×V)}{vs:List (κ×Value)}(r:KV kvs vs)(k:κ){y:V}{u:Value}(ry:RelV y u):
  KV (kvs.map fun kv=>if kv.1=k then (kv.1,y) else kv) (vs.map fun kv=>if kv.1=k then (kv.1,u) else kv):=by
 unfold KV at r ⊢
 induction r with
 |nil=>exact .nil
 | @cons p q ps qs h t ih=>
  rw[List.map_cons,List.map_cons]
  refine .cons ?_ ih
  obtain⟨h1,h2⟩:=h
  by_cases e:p.1=k
  ·rw[if_pos e,if_pos (h1.symm.trans e)];exact⟨h1,ry⟩
  ·rw[if_neg e,if_neg (fun z=>e (h1.trans z))];exact⟨h1,h2⟩
theorem KV.put{kvs:List (κ×V)}{vs:List (κ×Value)}(r:KV kvs vs)(k:κ){y:V}{u:Value}(ry:RelV y u):KV (putK kvs k y) (stored vs k u):=by
 unfold putK stored
 rw[r.any k]
 by_cases e:(vs.any fun kv=>decide (kv.1=k))=true
 ·rw[if_pos e,if_pos e];exact r.repl k ry
 ·rw[if_neg e,if_neg e];exact Paired.snoc r ⟨rfl,ry⟩
theorem KV.length{kvs:List (κ×V)}{vs:List (κ×Value)}(r:KV kvs vs):kvs.length=vs.length:=Paired.length r
end
theorem YN{P:Program}{w:World}{k:Key}{u:Value}(r:RelV (kV k) u):(mixKind P w).is k u=true:=by
 cases k with
 |inl i=>obtain⟨t,e⟩:=(show ∃t,u=Value.int i t from r);subst e;exact Ql P w i t
 |inr x=>obtain⟨t,e⟩:=(show ∃t,u=Value.str x t from r);subst e;exact Qm P w x t
theorem Kj{P:Program}{w:World}:∀{ks:List Key} {us:List Value},Vals (ks.map kV) us->ItemsAre (mixKind P w) ks us
 | [],_,r=>by rw[List.map_nil]at r;cases r;exact .nil
 |k::ks,_,r=>by
  rw[List.map_cons]at r
  cases r with
  |cons h t=>exact .cons (YN h) (Kj t)
abbrev KT(H:Hp):List (List Key×V)->List (List Key×Addr×Value)->Prop:=Paired fun p q=>p.1=q.1/\H q.2.1=some (.tup (p.1.map kV))/\RelV p.2 q.2.2
theorem KT.val{H:Hp}{kvs:List (List Key×V)}{xs:List (List Key×Addr×Value)}(r:KT H kvs xs)(k:List Key):RelO (valV kvs k) ((atKey xs k).map (·.2)):=by
 induction r with
 |nil=>exact True.intro
 | @cons p q ps qs h t ih=>
  obtain⟨h1,_,h2⟩:=h
  by_cases e:p.1=k
  ·have e':q.1=k:=h1.symm.trans e
   have b:atKey (q::qs) k=some q.2:=by simp [atKey,List.find?_cons,e']
   rw[K0 e,b];exact h2
  ·have e':¬q.1=k:=fun z=>e (h1.trans z)
   have b:atKey (q::qs) k=atKey qs k:=by simp [atKey,List.find?_cons,e']
   rw[K2 e,b];exact ih
section
variable {P:Program}{w:World}{H:Hp}{h:Heap}{a:Addr}
theorem rd_of{u:HO}(ok:HOk P w H h)(e:Rd H a u):ObjOk P w H h a u:=e.ok ok
theorem dk_rd{kvs:List (Key×V)}(ok:HOk P w H h)(e:Rd H a (.dK kvs)):kvs.length<=sizeLine/\(a==sysModules)=false/\∃vs,KV kvs vs/\h.DictOf (mixKind P w) a vs:=
 show ObjOk P w H h a (.dK kvs) from rd_of ok e
theorem YZ{ks:List Key}(ok:HOk P w H h)(e:H a=some (.tup (ks.map kV))):(tupleKind (mixKind P w)).is h ks a:=by
 obtain⟨_,its,r,o,h1,h2,n,h3⟩:=(show ObjOk P w H h a (.tup (ks.map kV)) from ok a _ e)
 exact⟨o,its.toArray,n,h1,h2,h3,by simpa using Kj r⟩
theorem dt_rd{kvs:List (List Key×V)}(ok:HOk P w H h)(e:Rd H a (.dT kvs)):kvs.length<=sizeLine/\(a==sysModules)=false/\
  ∃xs,KT H kvs xs/\h.DictOfH (tupleKind (mixKind P w)) a xs:=by
 obtain⟨z,y,xs,r,o,es,ep,h1,h2,h3,h4,h5⟩:=(show ObjOk P w H h a (.dT kvs) from rd_of ok e)
 refine⟨z,y,xs,r,o,es,ep,h1,h2,h3,h4,fun x hx=>?_,h5⟩
 have all:∀{l:List (List Key×V)} {m:List (List Key×Addr×Value)},KT H l m->∀x∈m,(tupleKind (mixKind P w)).is h x.1 x.2.1:=by
  intro l m q
  induction q with
  |nil=>intro x hx;exact nomatch hx
  | @cons p q ps qs hq t ih=>
   intro x hx
   rcases List.mem_cons.mp hx with e |hx
   ·subst e
    exact YZ ok (by rw[<- hq.1];exact hq.2.1)
   ·exact ih x hx
 exact all r x hx
end
def DGet(H:Hp)(a:Addr)(y:V)(r:Option V):Prop:=
 (∃kvs k,Rd H a (.dK kvs)/\y=kV k/\r=valV kvs k)∨∃kvs k b,Rd H a (.dT kvs)/\y= .ref b/\H b=some (.tup (k.map kV))/\r=valV kvs k
theorem DGet.k{H:Hp}{a:Addr}{kvs:List (Key×V)}{k:Key}(e:H a=some (.dK kvs)):DGet H a (kV k) (valV kvs k):=.inl ⟨kvs,k,.inl e,rfl,rfl⟩
section
variable {X:Cx}{pins:List (Addr×Obj)}{σ:St}{H:Hp}{s:Shared}{a:Addr}{y v:V}{u r:Value}{o:Option V}{A:Around}{E:Value->Shared->Prop}
theorem Inv.big(I:Inv X pins σ H s):sysModules < s.heap.objs.size:=by
 have h:mainGlobals < s.heap.objs.size:=(I.mod.glob.keeps I.bk).lt
 exact Nat.lt_trans (by decide) h
theorem dk_new{P:Program}{w:World}{H':Hp}{h':Heap}{kvs:List (Key×V)}{vs:List (Key×Value)}(z:kvs.length<=sizeLine)(hd:(a==sysModules)=false)(rel:KV kvs vs)(dd:h'.DictOf (mixKind P w) a vs):
  ObjOk P w H' h' a (.dK kvs):=⟨z,hd,vs,rel,dd⟩
end
noncomputable def mergeK(kvs more:List (Key×V)):List (Key×V):=more.foldl (fun acc kv=>putK acc kv.1 kv.2) kvs
theorem KV.merge:∀{more:List (Key×V)} {rs:List (Key×Value)} {kvs:List (Key×V)} {vs:List (Key×Value)},KV more rs->KV kvs vs->KV (mergeK kvs more) (merged vs rs):=by
 intro more rs kvs vs r
 unfold KV at r
 induction r generalizing kvs vs with
 |nil=>intro q;exact q
 | @cons p q ps qs h t ih=>
  intro r0
  have e:KV (putK kvs p.1 p.2) (stored vs q.1 q.2):=by
   have:=r0.put p.1 h.2
   rw[<- h.1];exact this
  exact ih e
structure M2(X:Cx)(o:Expr)(m:Str)(apos:Pos)(e f:Expr)(cpos:Pos):Prop where
 base:attributeBase o m X.env (eval o X.env)=eval o X.env
 few:((backTo cpos (starEach [e,f] X.env)).all (fun x=>!x.1)&&(backToKw cpos (keywordEach [] X.env)).all (fun x=>x.1.isSome)
  &&decide (([e,f]:List Expr).length+([]:List Keyword).length+(if ([]:List Keyword).isEmpty then 0 else 1) < 30))=true
 line:(apos.endLine==cpos.line)=true
 trees:backTo cpos (starEach [e,f] X.env)=[(false,eval e X.env),(false,eval f X.env)]
def IsD(H:Hp)(a:Addr):Prop:=(∃kvs,Rd H a (.dK kvs))∨∃kvs,Rd H a (.dT kvs)
theorem isD_at{X:Cx}{pins:List (Addr×Obj)}{σ:St}{H:Hp}{s:Shared}{a:Addr}(I:Inv X pins σ H s)(d:IsD H a):
  s.TypeIs (.ref a) "dict"/\(∀b,Value.ref a= .ref b->∃ob,s.heap.get? b=some ob/\ob.dict=none)/\(a==sysModules)=false:=by
 rcases d with ⟨kvs,e⟩ | ⟨kvs,e⟩
 ·obtain⟨_,hd,vs,_,dd⟩:=dk_rd I.hok e
  refine⟨dd.typeIs,fun b q=>?_,hd⟩
  cases q
  obtain⟨ob,_,_,h1,h2,_⟩:=dd
  exact⟨ob,h1,h2.2.1⟩
 ·obtain⟨_,hd,xs,_,dd⟩:=dt_rd I.hok e
  refine⟨dd.typeIs,fun b q=>?_,hd⟩
  cases q
  obtain⟨ob,_,_,h1,h2,_⟩:=dd
  exact⟨ob,h1,h2.2.1⟩
section
variable {X:Cx}{pins:List (Addr×Obj)}{σ:St}{H:Hp}{s:Shared}{a:Addr}{y d:V}{u r:Value}{o:Option V}{A:Around}{E:Value->Shared->Prop}
theorem d_get2{Q:Value->Shared->Prop}(hu:A.units+1 < cLine)(I:Inv X pins σ H s)(g:DGet H a y o)(ry:RelV y u)(rd:RelV d r)(h:∀w' s',Inv X pins σ H s'->RelV (o.getD d) w'->Q w' s'):
  wpAny (model X.prog X.w) A (call (.builtin "dict.get") [.ref a,u,r]) Q E s:=by
 rcases g with ⟨kvs,k,e,ey,l⟩ | ⟨kvs,k,b,e,ey,eb,l⟩
 ·subst ey
  obtain⟨z,hd,vs,rel,dd⟩:=dk_rd I.hok e
  refine call_meetsIn PySem.F.slot_dict_get dd.typeIs PySem.F.entry_dict_get (PySem.F.args_dict_get_3 _ _ _) (meets_dict_get_default (mixKind X.prog X.w) a (YN ry) hd r) ⟨_,dd.mapOf,h _ _ (I.tok _) ?_⟩
  rw[l]
  exact(rel.val k).getD rd
 ·subst ey
  cases (show u=Value.ref b from ry)
  obtain⟨z,hd,xs,rel,dd⟩:=dt_rd I.hok e
  refine call_meetsIn PySem.F.slot_dict_get dd.typeIs PySem.F.entry_dict_get (PySem.F.args_dict_get_3 _ _ _) (meetsH_dict_get_default (tupleKind (mixKind X.prog X.w)) a b hd r) ⟨tupleKind_room_in1 hu,k,xs,YZ I.hok eb,dd,h _ _ (I.tok _) ?_⟩
  rw[l]
  exact(rel.val k).getD rd
end
def tDGet2(td ty tx:TE):TE:=fun σ H Q=>td σ H fun x H1=>∃a,x= .ref a/\IsD H1 a/\ty σ H1 fun y H2=>tx σ H2 fun z H3=>∃o,DGet H3 a y o/\Q (o.getD z) H3
section
variable {X:Cx}{o e f:Expr}{apos cpos:Pos}{td ty tx:TE}
theorem K5(hu:X.A.units+1 < cLine)(ho:PE X o td)(he:PE X e ty)(hf:PE X f tx)(m:M2 X o "get" apos e f cpos):PE X (.Call (.Attribute o "get" apos) [e,f] [] cpos) (tDGet2 td ty tx):=by
 intro pins s σ H Q I h
 refine wpAny_Call_method m.base m.few m.line PySem.F.plainAttrs_dict PySem.F.slot_dict_get PySem.F.type_dict_get (thn (ho pins s σ H _ I h) fun u s1 ⟨x,H1,I1,rx,a,ex,d,q1⟩=>?_)
 subst ex
 obtain rfl:u=Value.ref a:=rx
 obtain⟨t1,t2,_⟩:=isD_at I1 d
 refine⟨t1,t2,?_⟩
 rw[m.trees]
 refine Calls.callWith_builtin rfl (Calls.evalArgs_plain (Calls.spliced_cons (thn (he pins s1 σ H1 _ I1 q1) fun iv s2 ⟨y,H2,I2,ry,q2⟩=>
  Calls.spliced_cons (thn (hf pins s2 σ H2 _ I2 q2) fun fv s3 ⟨z,H3,I3,rz,ov,g,q3⟩=>Calls.spliced_nil ?_))))
 exact d_get2 hu I3 g ry rz fun w' s4 I4 rw'=>⟨_,H3,I4,rw',q3⟩
end
section
variable {X:Cx}{pins:List (Addr×Obj)}{σ:St}{H:Hp}{s:Shared}
theorem Zw:MtR X "str.index" (fun x xs H Q=>∃(z y:Str) (i:Nat) (rest:List Nat),x= .str z/\xs=[.str y]/\Builtin.Str.occurrences z y 0 z.length 1=i::rest/\Q (.int i) H):=by
 intro pins s σ H x xs v us Q I rx rs h
 obtain⟨z,y,i,rest,rfl,rfl,ho,q⟩:=h
 obtain⟨u,rfl,t',rfl⟩:=vals1 rs
 obtain⟨t,rfl⟩:=rx
 exact SC.index ho ⟨.int i,H,I.tok _,⟨_,rfl⟩,q⟩
end
section
open PySem.W PySem.Calls Builtin Builtin.ObjectAttr
variable {prog:Program}{w:World}{A:Around}{E:Value->Shared->Prop}{s:Shared}{K:Frag}{x C:Addr}{ox:Obj}{od:Option Obj}{name:Str}
theorem Zx:builtinKind "BaseException.__getattribute__"=some .slot:=by decide+kernel
theorem Yg:splitId "BaseException.__getattribute__"=some ("BaseException","__getattribute__"):=by decide+kernel
theorem ga_run{tk:Tok}{R:Result->Shared->Prop}(X:K.In s.heap)(I:InstAt s.heap x ox C od)(hb:mroIn K C (.type "BaseException")=some true)
  (h:wpAny (model prog w) A.in1 (Builtin.«object.__getattribute__» ⟨[.ref x,.str name tk],[]⟩) (fun fin s'=>match fin with | .done f=>R (.ok f) s' | .again c'=>c'.quiet=true/\codeAny (model prog w) A c' R s') (fun e s'=>R (.error e) s') s):
  codeAny (model prog w) A (.call (.builtin "BaseException.__getattribute__") ⟨[.ref x,.str name tk],[]⟩) R s:=
 codeAny_call_builtin PySem.F.excAttr_ValueError.ga.plain PySem.F.entry_bexc_ga
  (@check_slot (model prog w) _ _ s "BaseException.__getattribute__" "BaseException" "__getattribute__" (.ref x) [.str name tk] [] _ Zx Yg (I.type.andThen (looks_mroIn X hb)) (PySem.F.args_bexc_ga (.ref x) (.str name tk)) h)
theorem Y0{tk:Tok}{fill expr:Bool}{Q:Value->Shared->Prop}(X:K.In s.heap)(I:InstAt s.heap x ox C od)(hga:findIn K (.ref C) "__getattribute__"=some (some (.builtin "BaseException.__getattribute__")))(hgh:findIn K (.ref C) "__getattr__"=some none)
  (hb:mroIn K C (.type "BaseException")=some true)
  (h:wpAny (model prog w) A.in1 (Builtin.«object.__getattribute__» ⟨[.ref x,.str name tk],[]⟩) (fun fin s'=>match fin with | .done (.ret v)=>wpAny (model prog w) A (handedOut v) Q E s' |_=>False) (fun _ _=>False) s):
  wpAny (model prog w) A (getAttrBy (.ref x) (.str name tk) fill expr) Q E s:=by
 obtain⟨hh,g,d,t,os⟩:=s
 have L0:=I.type (M:=model prog w)
 have L1:=looks_findIn (M:=model prog w) X hga
 have L2:=looks_findIn (M:=model prog w) X hgh
 unfold getAttrBy
 refine wpAny_holding (wpAny_bind (L0.at (wpAny_bind (L1.at ?_))))
 show wpAny _ _ (getAttrByItsOwn _ _ _ _ _ _) _ _ _
 unfold getAttrByItsOwn
 refine wpAny_bind (show wpAny _ _ (typeLookup (.ref C) "__getattr__") _ _ _ from L2.at ?_)
 refine wpAny_bind (wpAny_attempt (wpAny_holding ?_))
 have e0:callGetattribute (.ref x) (.str name tk) (.builtin "BaseException.__getattribute__") expr=boundAndCalled (.builtin "BaseException.__getattribute__") (.ref x) (.str name tk):=by cases expr<;>rfl
 rw[e0]
 unfold boundAndCalled
 rw[PySem.F.excAttr_ValueError.ga.bind]
 refine wpAny_bind (wpAny_pure (wpAny_call (ga_run X I hb (wpAny_mono h (fun fin s' z=>?_) fun _ _ z=>z.elim))))
 rcases fin with (_ |_ |_ |_) |_<;>first |exact z |exact z.elim
theorem get_exc{v:Value}{expr:Bool}{Q:Value->Shared->Prop}(X:K.In s.heap)(I:InstAt s.heap x ox C od)(hga:findIn K (.ref C) "__getattribute__"=some (some (.builtin "BaseException.__getattribute__")))(hgh:findIn K (.ref C) "__getattr__"=some none)
  (hb:mroIn K C (.type "BaseException")=some true) (hf:findObj K C od name=some (.value v)) (hv:handedIn v=true) (h:Q v { s with toks:=s.toks+1 }):wpAny (model prog w) A (getAttr (.ref x) name expr) Q E s:=by
 unfold getAttr
 refine wpAny_bind (wpAny_mkText (Y0 (s:={ s with toks:=s.toks+1 }) X I hga hgh hb ?_))
 obtain⟨hh,g,d,t,os⟩:=s
 have L0:=I.type (M:=model prog w)
 have L1:=looks_find (M:=model prog w) X I hf
 refine wpAny_bind (wpAny_pure (wpAny_bind (wpAny_pure (wpAny_bind (L0.at (wpAny_bind (L1.at ?_)))))))
 refine wpAny_pure ?_
 show wpAny _ _ (handedOut v) _ _ _
 rw[handedOut_of hv];exact wpAny_pure h
theorem Yh{Q:Option Value->Shared->Prop}(X:K.In s.heap)(I:InstAt s.heap x ox C od)(hga:findIn K (.ref C) "__getattribute__"=some (some (.builtin "BaseException.__getattribute__")))(hgh:findIn K (.ref C) "__getattr__"=some none)
  (hb:mroIn K C (.type "BaseException")=some true) (hf:findObj K C od "__class__"=some (.bind (.builtin "getset_descriptor.__get__") (.builtin "object.__class__"))) (hm:mroIn K C (.type "object")=some true) (h:Q (some (.ref C)) { s with toks:=s.toks+1 }):
  wpAny (model prog w) A (getAttr? (.ref x) "__class__") Q E s:=by
 unfold getAttr? getAttrBy?
 refine wpAny_bind (wpAny_mkText (wpAny_bind (wpAny_attempt (Y0 (s:={ s with toks:=s.toks+1 }) X I hga hgh hb ?_))))
 obtain⟨hh,g,d,t,os⟩:=s
 have L0:=I.type (M:=model prog w)
 have L1:=looks_find (M:=model prog w) X I hf
 refine wpAny_bind (wpAny_pure (wpAny_bind (wpAny_pure (wpAny_bind (L0.at (wpAny_bind (L1.at ?_)))))))
 show wpAny _ _ (bindTo _ _ _ _) _ _ _
 unfold bindTo
 refine wpAny_bind (wpAny_holding (wpAny_call (class_get (ox:=ox) (od:=od) X I hm ?_)))
 refine wpAny_pure ?_
 exact handed_on rfl (wpAny_pure h)
theorem Qo{a g:Value}(hc:(clsIn K C).isSome=true)(ha:findIn K (.ref C) name=some (some a))(hg:specialIn K a "__get__"=some (some g))(ht:takesIn K a=some true):findObj K C od name=some (.bind g a):=by
 obtain⟨cd,hc⟩:=Option.isSome_iff_exists.mp hc
 unfold findObj
 rw[hc,Option.bind_some,ha,Option.bind_some]
 simp [hg,ht]
structure XCls(K:Frag)(C:Addr):Prop where
 ga:findIn K (.ref C) "__getattribute__"=some (some (.builtin "BaseException.__getattribute__"))
 gh:findIn K (.ref C) "__getattr__"=some none
 sa:findIn K (.ref C) "__setattr__"=some (some (.builtin "object.__setattr__"))
 cl:findIn K (.ref C) "__class__"=some (some (.builtin "object.__class__"))
 gt:specialIn K (.builtin "object.__class__") "__get__"=some (some (.builtin "getset_descriptor.__get__"))
 tk:takesIn K (.builtin "object.__class__")=some true
 mb:mroIn K C (.type "BaseException")=some true
 mo:mroIn K C (.type "object")=some true
 hd:hasDictIn K C=true
theorem K6(c:XCls K C):KitX K (.ref x) (.ref C) (fun h=>∃ox od,InstAt h x ox C od) where
 ty:=fun _ _ _ ⟨_,_,I⟩=>I.type
 it:=fun _ _ X _=>by
  obtain⟨cdD,hcD,_⟩:=any_some c.hd
  unfold clsIn at hcD
  split at hcD
  ·rename_i c' d' cd' sl' ho
   intro A' Q' E' s' k q
   unfold isType loadHead
   exact wpAny_bind (wpAny_loadPart (k _ _ (X _ _ ho)) (wpAny_pure q))
  ·cases hcD
 ne:=fun h tp dd its n sl X htp=>by
  obtain⟨cdD,hcD,_⟩:=any_some c.hd
  refine Bool.eq_false_iff.mpr fun q=>?_
  have e:C=tp:=Value.ref.inj (beq_iff_eq.mp q)
  subst e
  unfold clsIn at hcD
  split at hcD
  ·rename_i c' d' cd' sl' ho
   have z:=(X _ _ ho).symm.trans htp
   cases z
  ·cases hcD
 ca:=fun X ⟨_,_,I⟩ k=>Yh X I c.ga c.gh c.mb (Qo (by obtain⟨cd,hc,_⟩:=any_some c.hd;rw[hc];rfl) c.cl c.gt c.tk) c.mo k
abbrev bmVE:List Value:=[.type "ValueError",.type "Exception",.type "BaseException",.type "object"]
noncomputable def veTail:List Value->Bool
 | .ref _::r=>veTail r
 |l=>l==bmVE
theorem qI(self:Value):∀{l:List Value},veTail l=true->refuseLoop self "__setattr__" l=pure ()
 | .ref c::r,e=>by rw[refuseLoop_ref];exact qI self (l:=r) e
 | [],e=>by cases (show bmVE=[] from (beq_iff_eq.mp e).symm)
 | .none::r,e=>by rw[show Value.none::r=bmVE from beq_iff_eq.mp e];exact PySem.F.store_ValueError.passes self
 | .bool b::r,e=>by rw[show Value.bool b::r=bmVE from beq_iff_eq.mp e];exact PySem.F.store_ValueError.passes self
 | .type b::r,e=>by rw[show Value.type b::r=bmVE from beq_iff_eq.mp e];exact PySem.F.store_ValueError.passes self
 |v::r,e=>by
  cases v with
  |ref c=>rw[refuseLoop_ref];exact qI self (l:=r) e
  |_=>rw[show _=bmVE from beq_iff_eq.mp e];exact PySem.F.store_ValueError.passes self
theorem Yi{tk:Tok}{v:Value}{cd:ClassData}{R:Result->Shared->Prop}(X:K.In s.heap)(I:InstAt s.heap x ox C od)(hc:clsIn K C=some cd)(hv:veTail cd.mro=true)(mo:mroIn K C (.type "object")=some true)(ha:findIn K (.ref C) name=some none)
  (h:wpAny (model prog w) A.in1 (storeInOwnDict (.ref x) (.ref C) (.str name tk) name v false)
   (fun fin s'=>match fin with | .done f=>R (.ok f) s' | .again c'=>c'.quiet=true/\codeAny (model prog w) A c' R s') (fun e s'=>R (.error e) s') s):
  codeAny (model prog w) A (.call (.builtin "object.__setattr__") ⟨[.ref x,.str name tk,v],[]⟩) R s:=by
 have SF:=PySem.F.store_object
 have sub:Looks (model prog w) s.heap (isInstance (.ref x) (.type "object")) true:=I.type.andThen (looks_mroIn X mo)
 refine codeAny_call_builtin SF.slot.plain SF.entry (@check_slot (model prog w) _ _ s "object.__setattr__" "object" "__setattr__" (.ref x) [.str name tk,v] [] _ SF.kind SF.split sub (SF.args (.ref x) (.str name tk) v) ?_)
 have hm:Looks (model prog w) s.heap (mroOf (.ref C)) cd.mro:=(looks_clsIn X hc).andThen .now
 have L3:Looks (model prog w) s.heap (storeTaker? none) none:=.now
 rw[osa_eq,refuse_eq]
 refine wpAny_bind (wpAny_bind (I.type.here (wpAny_bind (hm.here ?_))))
 rw[qI _ hv]
 refine wpAny_pure (wpAny_bind (I.type.here (wpAny_bind ((looks_findIn X ha).here (wpAny_bind (L3.here ?_))))))
 exact h
theorem set_exc{v : Value}{cd : ClassData}{Q : Unit -> Shared -> Prop}(X : K.In s.heap)(hx : s.heap.get? x = some ox)(hcl : ox.cls = .ref C)(hn : notCls ox = true)(hdn : ox.dict = none)(hc : clsIn K C = some cd)(hdct : cd.hasDict = true)(hv : veTail cd.mro = true)
    (mo : mroIn K C (.type "object") = some true) (hs : findIn K (.ref C) "__setattr__" = some (some (.builtin "object.__setattr__"))) (ha : findIn K (.ref C) name = some none)
    (h : ∀ h' tk, h'.get? x = some { ox with dict := some s.heap.objs.size } -> h'.Ns1 s.heap.objs.size (fun y => if y = name then some v else none) -> (∀ b o, b ≠ x -> s.heap.get? b = some o -> h'.get? b = some o) -> Q () { s with heap := h', toks := tk }) :
    wpAny (model prog w) A (setAttr (.ref x) name v) Q E s := by
  have I : InstAt s.heap x ox C none := ⟨hx, hcl, hn, by rw [hdn]; trivial⟩
  refine set_plain X I hs (Yi (s := { s with toks := s.toks + 1 }) X I hc hv mo ha ?_)
  obtain ⟨hp, g, d, t, os⟩ := s
  obtain ⟨oc, odt, oda, osl⟩ := ox
  dsimp only at hcl hdn h hx
  subst hcl hdn
  unfold storeInOwnDict ownDictForStores
  refine wpAny_bind (wpAny_pure (wpAny_bind (wpAny_bind (wpAny_loadPart hx (wpAny_bind (PySem.W.Looks.here (s := ⟨hp, g, d, t + 1, os⟩) (looks_clsIn X hc) ?_))))))
  rw [hdct]
  have hx₁ : (hp.push { cls := .type "dict", data := .dict #[] }).get? x = some ⟨.ref C, none, oda, osl⟩ := Heap.get?_push_of_some _ hx
  have hxs : x ≠ hp.objs.size := Nat.ne_of_lt (Heap.lt_size hx)
  have hfr := (Heap.get?_some_iff.mp hx).2
  have hgd : ((hp.push { cls := .type "dict", data := .dict #[] }).update x fun o => { cls := o.cls, dict := some hp.objs.size, data := o.data, slots := o.slots }).get? hp.objs.size
      = some { cls := .type "dict", data := .dict #[] } :=
    (Heap.get?_update_ne _ _ _ _ hxs.symm).trans (Heap.get?_push_at rfl rfl)
  have hnd : ((hp.push { cls := .type "dict", data := .dict #[] }).update x fun o => { cls := o.cls, dict := some hp.objs.size, data := o.data, slots := o.slots }).Ns hp.objs.size (fun _ => none) :=
    ⟨_, #[], _, hgd, rfl, fun e he => absurd he (by simp), fun _ => rfl⟩
  have fin : wpAny (model prog w) A.in1 (do
        let d <- alloc { cls := .type "dict", data := .dict #[] }
        update x fun o => { o with dict := some d }
        dictMade (.ref C) x d)
      (fun a s' => wpAny (model prog w) A.in1 (match a with
            | some d_1 => storeInDict d_1 (Value.str name t) name v
            | none => noDictFor (Value.ref x) (Value.ref C) name false)
          (fun fin s' => match fin with
              | .done f => (match (Except.ok f : Result) with | .ok (.ret _) => Q () s' | .ok _ => False | .error e => E e s')
              | .again c' => c'.quiet = true /\ codeAny (model prog w) A c' (fun r s' => match r with | .ok (.ret _) => Q () s' | .ok _ => False | .error e => E e s') s')
          (fun e s' => E e s') s') (fun e s' => E e s') ⟨hp, g, d, t + 1, os⟩ := by
    refine wpAny_bind (wpAny_alloc' ?_)
    refine wpAny_bind (wpAny_update' hx₁ ?_)
    refine wpAny_pure ?_
    show wpAny _ _ (storeInDict hp.objs.size (.str name t) name v) _ _ _
    unfold storeInDict newKeyGuard
    refine wpAny_bind (wpAny_pure (wpAny_bind (wpAny_nsSet1 (Heap.Ns1.of_empty hnd) fun h' hn' hs => ?_)))
    obtain ⟨oD, esD, epD, hoD, hdD, hcD⟩ := hn'.count (Within.cons name v Within.nil)
    refine wpAny_bind (wpAny_lookBehind hoD (by rw [hdD]; exact pastItsLine_dict (Nat.le_trans hcD (by rw [List.length_cons, List.length_nil, sizeLine_eq]; omega))) ?_)
    refine wpAny_pure ?_
    refine h h' _ ((hs.2 x hxs).trans (Heap.get?_update_self _ hx₁ ?_)) hn' fun b o hb e => ?_
    · cases oda <;> first | rfl | exact hfr
    · exact (hs.2 b (Nat.ne_of_lt (Heap.lt_size e))).trans ((Heap.get?_update_ne _ _ _ _ hb).trans (Heap.get?_push_of_some _ e))
  cases oda with
  | cls c => exact absurd hn (by simp [notCls])
  | _ => exact fin
end
section
open PySem.W PySem.Calls
variable {prog:Program}{w:World}{A:Around}{E:Value->Shared->Prop}{R:Result->Shared->Prop}{K:Frag}{h:Heap}{g:Array GenState}{d:Drawn}{t:Nat}{os:OsState}{C B:Addr}
structure XMk(K:Frag)(C:Addr):Prop where
 obj:∃nm q N bs bm hdct sn sub ab col dd k0 k1 k2 k3 k5,K.lookup C=some (excClassObj nm q C N bs bm hdct sn sub ab col dd k0 k1 k2 k3 k5 "ValueError.__new__")/\tailIn K bmVE bm=true
 call:specialIn K (.ref C) "__call__"=some (some (.builtin "type.__call__"))
 typ:instIn K (.ref C) (.type "type")=some true
 kp:keepIn K (.ref C)=true
theorem Yj(q:excIn K C bmVE "ValueError.__new__"=true):(∃nm q N bs bm hdct sn sub ab col dd k0 k1 k2 k3 k5,K.lookup C=some (excClassObj nm q C N bs bm hdct sn sub ab col dd k0 k1 k2 k3 k5 "ValueError.__new__")/\tailIn K bmVE bm=true/\nsOkIn K N=true/\nsIn K N "__init__"=some none):=by
 unfold excIn at q
 split at q
 ·rename_i dd cd sl ho
  split at q
  ·rename_i C' bm k0 k1 k2 k3 n k5 hm hs
   simp only[Bool.and_eq_true,beq_iff_eq,Bool.not_eq_true']at q
   obtain⟨⟨⟨⟨⟨rfl,rfl⟩,hdel⟩,ht⟩,hok⟩,hni⟩:=q
   obtain⟨nm,bs,mro,ns,qn,hd,sn,sub,ab,col,del⟩:=cd
   dsimp only at hm hdel hok hni
   subst hm hdel
   have hsl:sl=#[k0,k1,k2,k3,some (.builtin "ValueError.__new__"),k5]:=by
    obtain⟨l⟩:=sl
    simp only at hs
    rw[hs]
   subst hsl
   exact⟨nm,qn,ns,bs,bm,hd,sn,sub,ab,col,dd,k0,k1,k2,k3,k5,ho,ht,hok,hni⟩
  ·cases q
 ·cases q
noncomputable abbrev excTup(rest:List Value):Obj:={ cls:=.type "tuple",data:=.seq rest.toArray }
noncomputable abbrev excNew(C t:Addr):Obj:={ cls:=.ref C,data:=.fields #[.ref t,.none,.none,.none,.bool false,.none] }
theorem Zy{rest:List Value}{f:Addr}(X:K.In h)(M:XMk K C)(hi:findIn K (.ref C) "__init__"=some (some (.ref f)))(hf:typeIn K (.ref f)=some (.type "function"))(hrest:rest.length<=sizeLine)
  (hq:codeAny (model prog w) (A.under (.builtin "type.__call__" ⟨.ref C::rest,[]⟩)) (.call (.ref f) ⟨.ref (h.objs.size+1)::rest,[]⟩) (InitBack (h.objs.size+1) R) ⟨(h.push (excTup rest)).push (excNew C h.objs.size),g,d,t,os⟩):
  codeAny (model prog w) A (.call (.ref C) ⟨rest,[]⟩) R ⟨h,g,d,t,os⟩:=by
 obtain⟨nm,q,N,bs,bm,hdct,sn,sub,ab,col,dd,k0,k1,k2,k3,k5,hK,hT⟩:=M.obj
 have hC:=X _ _ hK
 have T:=tail_of_in X hT
 have F:=PySem.F.excBase_ValueError
 have call:=looks_specialIn (M:=model prog w) X M.call
 have typ:=looks_instIn (M:=model prog w) X M.typ
 refine codeAny_of_tree ?_
 show wpAny _ _ (callAny (.ref C) _) _ _ _
 refine nd_load hC ?_
 show wpAny _ _ (callAny.viaDunder (.ref C) _) _ _ _
 unfold callAny.viaDunder
 refine wpAny_bind (call.at ?_)
 dsimp only
 rw[tc_bind]
 refine wpAny_bind (wpAny_pure (wpAny_bind (wpAny_pure ?_)))
 refine wpAny_pure (a:=Fin.again (.call (.builtin "type.__call__") ⟨.ref C::rest,[]⟩)) (And.intro rfl ?_)
 refine codeAny_call_builtin_at (Code.quiet_builtin _ (by decide+kernel)) entry_typeCall (check_slot tc_kind tc_split typ (tc_args _ _ _) ?_)
 unfold Builtin.«type.__call__»
 repeat (first |with_reducible refine wpAny_loadPart_at hC ?_ |with_reducible refine wpAny_madeBy_exc hC ?_ |wp_step)
 refine codeAny_call_builtin_code (Code.quiet_builtin _ F.quiet) (wpAny_check_new_subT F T hC ?_)
 refine codeAny_exc_new_subT F T hC ?_ hrest
 show wpAny _ _ _ _ _ _
 have k:∀b o,h.get? b=some o->((h.push (excTup rest)).push (excNew C h.objs.size)).get? b=some o:=fun b o e=>Heap.get?_push_of_some _ (Heap.get?_push_of_some _ e)
 have hC₁:=k _ _ hC
 have hget:((h.push (excTup rest)).push (excNew C h.objs.size)).get? (h.objs.size+1)=some (excNew C h.objs.size):=by heap_get
 have hcC:(Value.ref C::bm).contains (.ref C)=true:=by simp
 have i1:=(looks_findIn (M:=model prog w) X hi).keeps k
 have b1:=(bind_fn (M:=model prog w) X (.ref (h.objs.size+1)) hf).keeps k
 unfold isInstance
 repeat (first |with_reducible refine wpAny_loadPart_at hget ?_ | (with_reducible refine wpAny_isSubtype_exc hC₁ ?_;rw[hcC]) |wp_step)
 show wpAny _ _ (typeLookup (.ref C) _) _ _ _
 refine i1.at ?_
 refine wpAny_holding (wpAny_bind (b1.at ?_))
 refine wpAny_bind (wpAny_call (codeAny_mono hq fun r s' z=>?_))
 rcases r with e | (v |_ |_ |_)<;>first |exact z |exact z.elim |skip
 obtain⟨rfl,z⟩:=z
 wp_walk
 exact z
end
noncomputable def ExO(C:Addr)(d:Option Addr)(x:Addr):HO:=.ext fun h=>∃o,h.get? x=some o/\o.cls= .ref C/\notCls o=true/\o.dict=d/\∃vs,o.data= .fields vs/\vs[1]?=some .none
theorem Y1{P:Program}{w:World}{H:Hp}{h:Heap}{C x:Addr}{d:Option Addr}{o:Obj}(e:h.get? x=some o)(hc:o.cls= .ref C)(hn:notCls o=true)(hd:o.dict=d)(hf:∃vs,o.data= .fields vs/\vs[1]?=some .none):ObjOk P w H h x (ExO C d x):=
 ⟨⟨o,e,hc,hn,hd,hf⟩,⟨o,e⟩,fun h1 h2 ⟨o1,e1,q⟩ k=>⟨o1,k o1 e1,q⟩⟩
section
variable {X:Cx}{pins:List (Addr×Obj)}{σ:St}{H:Hp}{s:Shared}{a C:Addr}{fs:List (Str×V)}{f:Str}{v:V}{A:Around}{E:Value->Shared->Prop}
theorem setX_ok{y:V}{u:Value}{cd:ClassData}{Q:Unit->Shared->Prop}(I:Inv X pins σ H s)(e:H a=some (ExO C none a))(c:XCls X.K C)(n:NoAttr X.K C f)(hc:clsIn X.K C=some cd)(hdct:cd.hasDict=true)(hv:veTail cd.mro=true)(ry:RelV y u)
  (h:∀dx s',H dx=none->Inv X pins σ (upd (upd H a (ExO C (some dx) a)) dx (.xd [(f,y)])) s'->Q () s'):wpAny (model X.prog X.w) A (setAttr (.ref a) f u) Q E s:=by
 obtain⟨⟨o,h1,h2,h3,h4,h5⟩,_⟩:=I.hok a _ e
 refine set_exc I.kIn h1 h2 h3 h4 hc hdct hv c.mo c.sa n fun h' tk g1 g2 g3=>h s.heap.objs.size _ (I.hok.fresh (Nat.le_refl _)) ?_
 have nd:s.heap.objs.size≠a:=Ne.symm (Nat.ne_of_lt (Heap.lt_size h1))
 have I1:Inv X pins σ (upd H a (ExO C (some s.heap.objs.size) a)) { s with heap:=h',toks:=tk }:=
  I.write (x:=a) (e:=a) (by rw[e];exact True.intro) (.inl rfl) g3 ⟨_,g1⟩ (Y1 g1 h2 h3 rfl h5)
 have hn:upd H a (ExO C (some s.heap.objs.size) a) s.heap.objs.size=none:=by rw[jm nd];exact I.hok.fresh (Nat.le_refl _)
 refine I1.track (I.fpOk (Nat.le_refl _) hn) I.sz ⟨_,g2,fun g=>?_⟩
 show RelO (List.lookup g [(f,y)]) (if g=f then some u else none)
 by_cases q:g=f
 ·subst q;simp [RelO,ry]
 ·rw[if_neg q]
  have:(g==f)=false:=by simpa using q
  simp [List.lookup,this,RelO]
end
def sFldX(K:Frag)(ta tv:TE)(f:Str):TS:=fun D σ H=>tv σ H fun y H1=>ta σ H1 fun x H2=>∃a C cd,x= .ref a/\H2 a=some (ExO C none a)/\XCls K C/\NoAttr K C f/\clsIn K C=some cd/\cd.hasDict=true/\veTail cd.mro=true/\
 ∀dx,H2 dx=none->D.nx σ (upd (upd H2 a (ExO C (some dx) a)) dx (.xd [(f,y)]))
def tMakeX(C:Addr)(sp:Sp)(E:XK)(t:TA):TE:=fun σ H Q=>t σ H fun vs H1=>vs.length<=1000/\∀x,H1 x=none->sp (.ref x::vs) (upd H1 x (ExO C none x)) (fun v H2=>v= .non/\Q (.ref x) H2) E
section
variable {X:Cx}{CX:CXT}{k:Nat}{f C:Addr}{fd:FuncData}{ps:List Str}{sp:Sp}{E:XK}{x m g:Str}{p pos pos':Pos}{e o value:Expr}{es:List Expr}{ta tv:TE}{t:TA}
theorem ps_fldX(ha:PE X o ta)(hv:PE X value tv)(hs:swapsWith value (some (.Attribute o g pos')) pos.line X.env=pure false):PS X (.Assign [.Attribute o g pos'] value pos) (sFldX X.K ta tv g):=by
 intro pins s σ H D I h
 refine plainObj_wpAny_Assign_Attribute (thn (hv pins s σ H _ I h) fun u s1 ⟨y,H1,I1,ry,q⟩=>thn (ha pins s1 σ H1 _ I1 q) fun ov s2 hq'=>?_) hs
 obtain⟨x,H2,I2,rx,a,C,cd,ex,ea,c,n,hc,hd,hv,q2⟩:=hq'
 subst ex
 obtain rfl:ov=Value.ref a:=rx
 exact setX_ok I2 ea c n hc hd hv ry fun dx s3 hn I3=>⟨σ,_,I3,q2 dx hn⟩
theorem Inv.madeX{pins:List (Addr×Obj)}{σ:St}{H:Hp}{s:Shared}{us:List Value}(I:Inv X pins σ H s):Inv X pins σ (upd H (s.heap.objs.size+1) (ExO C none (s.heap.objs.size+1)))
  { s with heap:=(s.heap.push (excTup us)).push (excNew C s.heap.objs.size) }:=by
 have I1:=I.kept (h':=s.heap.push (excTup us)) (t':=s.toks) (fun b u q=>Heap.get?_push_of_some _ q)
 have e2:((s.heap.push (excTup us)).push (excNew C s.heap.objs.size)).get? (s.heap.objs.size+1)=some (excNew C s.heap.objs.size):=by
  have:=Heap.get?_push_size (s.heap.push (excTup us)) (o:=excNew C s.heap.objs.size) rfl
  rwa [Heap.size_push]at this
 exact I1.laid (a:=s.heap.objs.size+1) (t':=s.toks) (fun b u q=>Heap.get?_push_of_some _ q) (Nat.le_of_eq (Heap.size_push _ _)) (Y1 e2 rfl rfl rfl ⟨_,rfl,rfl⟩)
theorem Yk{pins:List (Addr×Obj)}{σ:St}{H:Hp}{s:Shared}{Q:VK}{us:List Value}{vs:List V}(M:XMk X.K C)(hi:findIn X.K (.ref C) "__init__"=some (some (.ref f)))(hf:isFn X.K (.ref f)=true)
  (F:FnOk X.prog X.w X.K X.mg X.base CX k f fd ps sp) (hr:Room (k+1) X.A) (hb:Binds X.K fd ps []) (hx:Passes CX X E) (I:Inv X pins σ H s) (r:Vals vs us) (hl:vs.length<=1000)
  (h:∀x,H x=none->sp (.ref x::vs) (upd H x (ExO C none x)) (fun v H2=>v= .non/\Q (.ref x) H2) E):
  wpAny (model X.prog X.w) X.A (call (.ref C) us) (EP X pins σ Q) X.xe s:=by
 have hq:=h (s.heap.objs.size+1) (I.hok.fresh (Nat.le_succ _))
 have I2:=Inv.madeX (C:=C) (us:=us) I
 have r2:Vals (V.ref (s.heap.objs.size+1)::vs) (Value.ref (s.heap.objs.size+1)::us):=.cons rfl r
 have hln:(Value.ref (s.heap.objs.size+1)::us).length=ps.length:=by
  have e:=r2.length
  rw[F.len _ _ _ _ hq]at e
  exact e.symm
 have hln':((Value.ref (s.heap.objs.size+1)::us)++[]).length=ps.length:=by rw[List.append_nil];exact hln
 have hbb:=hb _ (Value.ref (s.heap.objs.size+1)::us) I2.kIn hln'
 rw[List.append_nil]at hbb
 obtain⟨hp,g,d,tk,os⟩:=s
 refine wpAny_call (Zy (f:=f) I.kIn M hi (beq_iff_eq.mp hf) (by rw[<- r.length,sizeLine_eq];omega) (codeAny_mono (F.run _ X.stack _ _ ⟨Value.ref (hp.objs.size+1)::us,[]⟩ (Value.ref (hp.objs.size+1)::us) _ _ E (hr.make C us [])
  (I2.env0.make C us []) hbb r2 hq) fun r s' hq'=>?_))
 cases r with
 |error e=>exact hx pins σ _ _ e s' I2 hq'
 |ok fl=>
  cases fl with
  |ret u=>
   obtain⟨v,H',I3,rv,ev,q3⟩:=I2.after hq'
   subst ev
   exact⟨rv,⟨V.ref (hp.objs.size+1),H',I3,rfl,q3⟩⟩
  |next=>exact False.elim hq'
  |brk=>exact False.elim hq'
  |cont=>exact False.elim hq'
theorem Zz(M:XMk X.K C)(hi:findIn X.K (.ref C) "__init__"=some (some (.ref f)))(hf:isFn X.K (.ref f)=true)(F:FnOk X.prog X.w X.K X.mg X.base CX k f fd ps sp)(hr:Room (k+1) X.A)(hg:Gl X x)(hm:X.mg x=some (.ref C))(hb:Binds X.K fd ps [])(hx:Passes CX X E)
  (ha:PA X (e::es) t) (hdb:(x==("__debug__":Str))=false:=by decide) (he:starEach (e::es) X.env=(false,eval e X.env)::starEach es X.env:=by rfl) (hpl:(backTo pos (starEach es X.env)).any (·.1)=false:=by rfl):
  PE X (.Call (.Name x p) (e::es) [] pos) (tMakeX C sp E t):=by
 intro pins s σ H Q I h
 refine wpAny_Call_Name_kw (zQ I hg hm ?_ hdb)
 refine callWith_K (h₀:=X.base) I.ok.mod.kin M.kp (thn (ha pos pins s σ H _ I h) fun us s1 ⟨vs,H1,I1,r,hl,q⟩=>⟨I1.kIn,?_⟩) he hpl
 exact Yk M hi hf F hr hb hx I1 r hl q
end
theorem Inv.turnedN{X:Cx}{pins:List (Addr×Obj)}{σ:St}{H:Hp}{s:Shared}{h':Heap}{t':Nat}{fp:List Addr}(I:Inv X pins σ H s)(hf:∀b∈fp,FpOk X pins H b)(k:∀b o,b∉fp->s.heap.get? b=some o->h'.get? b=some o):
  Inv X pins σ H { s with heap:=h',toks:=t' }:=by
 have nit:∀b u,H b=some u->b∉fp:=fun b u e z=>by rw[(hf b z).1]at e;cases e
 refine I.step (g':=s.gens) (d':=s.drawn) (ch:=fp) (fun b hb=>?_) (fun b o _ _ hc e _=>k b o hc e) (fun b o _ _ hc e _=>⟨o.slots,k b o hc e⟩) (fun _ _ _ _ n=>n)
  (fun b o hc e=>⟨o,k b o hc e⟩) (fun _ _ e=>e) (fun _ _ _ e=>e) (fun b ps e=>⟨#[],by rw[e];simp⟩) (fun m hm=>?_) (fun b u e=>?_) I.bare
 ·obtain⟨f0,f1,f2,f3,f4,f5⟩:=hf b hb
  exact⟨f3,f1,f4,f5⟩
 ·obtain⟨o,es,ep,ho,r⟩:=hm
  exact⟨o,es,ep,k _ o (fun z=>(hf _ z).2.1 rfl) ho,r⟩
 ·refine(I.hok b u e).stay (fun c v hc q=>k c v ?_ q) (fun _ q=>q) fun _ _ q=>q
  rcases hc with z |z
  ·rw[z];exact nit b u e
  ·exact nit c _ z
section
variable {M:Model}{A:Around}{E:Value->Shared->Prop}{s:Shared}
structure Noted(fl:Value)(frs:List Addr)(x:Addr)(ox:Obj)(h h':Heap):Prop where
 ex:∃T oT ts,h.objs.size<=T/\h'.get? x=some (Obj.mapFields (·.setIfInBounds 1 (.ref T)) ox)/\h'.get? T=some oT/\oT.data= .fields ts/\ts[3]?=some fl
 keep:∀b o,b∉frs->b≠x->h.get? b=some o->h'.get? b=some o
 slot:∀b o,b≠x->h.get? b=some o->∃sl,h'.get? b=some { o with slots:=sl }
theorem Kk{base:Heap}{env:Env}{outer:List Env}{L x:Addr}{ox:Obj}{vs:Array Value}{head:Value}{hadNext:Bool}{Q:Unit->Shared->Prop}
  (hfr:A.frames=some (env::outer)) (hl:s.heap.FunFrames base (env::outer)) (hf:env.frame=some L)
  (hx:s.heap.get? x=some ox) (hd:ox.data= .fields vs) (hsz:1 < vs.size)
  (h:∀h',Noted (rawInt L) ((env::outer).filterMap (·.frame)) x ox s.heap h'->Q () { s with heap:=h' }):
  wpAny M A (do let a <- frameOf env;let pl <- entryPlaceOf L hadNext;let b <- EntryCells.newEntry head a .none (rawInt L) .none pl;setField (.ref x) 1 b) Q E s:=by
 have hxn:x∉(env::outer).filterMap (·.frame):=fun hm=>by
  obtain⟨_,o,ho,hnf⟩:=hl.mem hm
  rw[hx]at ho;injection ho with ho;subst ho;exact hnf vs hd
 refine wpAny_bind (wpAny_frameOf_fun hfr hl hf fun h₁ hs₁=>?_)
 refine wpAny_bind (wpAny_entryPlaceOf fun pl hpl=>?_)
 unfold EntryCells.newEntry newFields
 refine wpAny_bind (wpAny_newObj_type ?_ (hpl.sizeOk5 _ _ _ _ _))
 have hx₁:h₁.get? x=some ox:=(hs₁.2.1 x hxn).trans hx
 have hx₂:=Heap.get?_push_of_some (h:=h₁) { cls:=.type "traceback",dict:=none,data:=.fields ([head,.ref L,.none,rawInt L,.none]++(if pl.isEmpty then List.replicate 6 Value.none else pl)).toArray } hx₁
 refine wpAny_setField hx₂ hd hsz (h _ ?_)
 have hTx:h₁.objs.size≠x:=Nat.ne_of_gt (Heap.lt_size hx₁)
 have hd₃:=Obj.data_mapFields hd (·.setIfInBounds 1 (Value.ref h₁.objs.size))
 have hx₃:=Heap.get?_update_self (Obj.mapFields (·.setIfInBounds 1 (Value.ref h₁.objs.size))) hx₂ (Obj.isFreed_of_fields hd₃)
 have keep:∀b o,b≠x->h₁.get? b=some o->((h₁.push { cls:=.type "traceback",dict:=none,data:=.fields ([head,.ref L,.none,rawInt L,.none]++(if pl.isEmpty then List.replicate 6 Value.none else pl)).toArray }).update x (Obj.mapFields (·.setIfInBounds 1 (Value.ref h₁.objs.size)))).get? b=some o:=fun b o hb e=>by
  rw[Heap.get?_update_other _ _ (Ne.symm hb)]
  exact Heap.get?_push_of_some _ e
 have hT₃:=(Heap.get?_update_other (h₁.push { cls:=.type "traceback",dict:=none,data:=.fields ([head,.ref L,.none,rawInt L,.none]++(if pl.isEmpty then List.replicate 6 Value.none else pl)).toArray })
  (Obj.mapFields (·.setIfInBounds 1 (Value.ref h₁.objs.size))) (Ne.symm hTx)).trans (Heap.get?_push_size h₁ rfl)
 refine⟨⟨h₁.objs.size,_,_,Nat.le_of_eq hs₁.1.symm,hx₃,hT₃,rfl,by simp⟩,fun b o hb hbx e=>keep b o hbx ((hs₁.2.1 b hb).trans e),fun b o hbx e=>?_⟩
 obtain⟨sl,e'⟩:=hs₁.2.2 b o e
 exact⟨sl,keep b _ hbx e'⟩
theorem QW{base:Heap}{env:Env}{outer:List Env}{L x:Addr}{ox:Obj}{vs:Array Value}{Q:Unit->Shared->Prop}
  (hfr:A.frames=some (env::outer)) (hl:s.heap.FunFrames base (env::outer)) (hf:env.frame=some L)
  (hx:s.heap.get? x=some ox) (hd:ox.data= .fields vs) (h1:vs[1]?=some .none)
  (h:∀h',Noted (rawInt L) ((env::outer).filterMap (·.frame)) x ox s.heap h'->Q () { s with heap:=h' }):
  wpAny M A (noteFrame (.ref x) env) Q E s:=by
 unfold noteFrame
 simp only[hf]
 refine wpAny_bind (wpAny_field hx hd h1 ?_)
 rw[if_neg (by decide)]
 exact Kk hfr hl hf hx hd (Array.getElem?_eq_some_iff.mp h1).1 h
theorem land{fl:Value}{frs:List Addr}{x:Addr}{ox:Obj}{vs:Array Value}{h₀:Heap}{Q:Unit->Shared->Prop}(N:Noted fl frs x ox h₀ s.heap)(hx0:h₀.get? x=some ox)(hd:ox.data= .fields vs)(hsz:1 < vs.size)
  (h:∀h',Noted .none frs x ox h₀ h'->Q () { s with heap:=h' }):wpAny M A (setFlight (.ref x) none) Q E s:=by
 obtain⟨T,oT,ts,hT0,hx,hT,hdT,h3⟩:=N.ex
 have hd':=Obj.data_mapFields hd (·.setIfInBounds 1 (Value.ref T))
 have hTx:T≠x:=fun z=>absurd (Nat.lt_of_lt_of_le (Heap.lt_size hx0) (by rw[<- z];exact hT0)) (Nat.lt_irrefl _)
 unfold setFlight
 refine wpAny_bind (wpAny_field hx hd' (x:=.ref T) (by simp [hsz]) ?_)
 rw[if_pos (show(Value.ref T != Value.none)=true from by simp)]
 have h3s:=(Array.getElem?_eq_some_iff.mp h3).1
 refine wpAny_setField hT hdT h3s (h _ ?_)
 have hdT':=Obj.data_mapFields hdT (·.setIfInBounds 3 ((none:Option Addr).elim Value.none fun f=>rawInt f))
 have hT':=Heap.get?_update_self (Obj.mapFields (·.setIfInBounds 3 ((none:Option Addr).elim Value.none fun f=>rawInt f))) hT (Obj.isFreed_of_fields hdT')
 have nT:∀b o,h₀.get? b=some o->T≠b:=fun b o e z=>absurd (Nat.lt_of_lt_of_le (Heap.lt_size e) (by rw[<- z];exact hT0)) (Nat.lt_irrefl _)
 refine⟨⟨T,_,_,hT0,by rw[Heap.get?_update_other _ _ hTx];exact hx,hT',hdT',by simp [h3s]⟩,fun b o hb hbx e=>?_,fun b o hbx e=>?_⟩
 ·rw[Heap.get?_update_other _ _ (nT b o e)]
  exact N.keep b o hb hbx e
 ·obtain⟨sl,q⟩:=N.slot b o hbx e
  exact⟨sl,by rw[Heap.get?_update_other _ _ (nT b o e)];exact q⟩
theorem Qp{base:Heap}{env:Env}{outer:List Env}{L x:Addr}{ox:Obj}{vs:Array Value}{Q:Unit->Shared->Prop}
  (hfr:A.frames=some (env::outer)) (hl:s.heap.FunFrames base (env::outer)) (hf:env.frame=some L)
  (hx:s.heap.get? x=some ox) (hd:ox.data= .fields vs) (h1:vs[1]?=some .none)
  (h:∀h',Noted .none ((env::outer).filterMap (·.frame)) x ox s.heap h'->Q () { s with heap:=h' }):
  wpAny M A (leaving env (.ref x)) Q E s:=by
 unfold leaving
 exact wpAny_bind (QW hfr hl hf hx hd h1 fun h' N=>land (s:={ s with heap:=h' }) N hx hd (Array.getElem?_eq_some_iff.mp h1).1 h)
end
section
variable {M:Model}{A:Around}{E:Value->Shared->Prop}{s:Shared}
noncomputable abbrev clearT(T:Addr)(h:Heap):Heap:=h.update T (Obj.mapFields (·.setIfInBounds 3 Value.none))
theorem Kl{base:Heap}{env:Env}{outer:List Env}{L x T:Addr}{ox oT:Obj}{vs ts:Array Value}{Q:Unit->Shared->Prop}
  (hfr:A.frames=some (env::outer)) (hl:s.heap.FunFrames base (env::outer)) (hf:env.frame=some L)
  (hx:s.heap.get? x=some ox) (hd:ox.data= .fields vs) (h1:vs[1]?=some (.ref T)) (hTx:T≠x) (hT:s.heap.get? T=some oT) (hdT:oT.data= .fields ts) (h3:ts[3]?=some .none)
  (h:∀h',Noted (rawInt L) ((env::outer).filterMap (·.frame)) x ox (clearT T s.heap) h'->Q () { s with heap:=h' }):
  wpAny M A (noteFrame (.ref x) env) Q E s:=by
 unfold noteFrame
 simp only[hf]
 refine wpAny_bind (wpAny_field hx hd h1 ?_)
 rw[if_pos (show(Value.ref T != Value.none)=true from by simp)]
 refine wpAny_bind (wpAny_field hT hdT h3 ?_)
 rw[if_neg (show ¬((Value.none==rawInt L)=true) from by simp [rawInt])]
 refine wpAny_bind (wpAny_setField hT hdT (Array.getElem?_eq_some_iff.mp h3).1 ?_)
 have other:∀b,b≠T->(clearT T s.heap).get? b=s.heap.get? b:=fun b hb=>Heap.get?_update_other _ _ (Ne.symm hb)
 have noRecord:∀b o,s.heap.get? b=some o->(∀vs,o.data≠ .fields vs)->b≠T:=fun b o hb hnf q=>by
  rw[q,hT]at hb;injection hb with hb;subst hb;exact hnf ts hdT
 exact Kk (s:={ s with heap:=clearT T s.heap }) hfr (hl.of_keeps fun b o hb hnf=>⟨o,(other b (noRecord b o hb hnf)).trans hb,rfl⟩) hf ((other x (Ne.symm hTx)).trans hx) hd (Array.getElem?_eq_some_iff.mp h1).1 h
theorem QX{base:Heap}{env:Env}{outer:List Env}{L x T:Addr}{ox oT:Obj}{vs ts:Array Value}{Q:Unit->Shared->Prop}
  (hfr:A.frames=some (env::outer)) (hl:s.heap.FunFrames base (env::outer)) (hf:env.frame=some L)
  (hx:s.heap.get? x=some ox) (hd:ox.data= .fields vs) (h1:vs[1]?=some (.ref T)) (hTx:T≠x) (hT:s.heap.get? T=some oT) (hdT:oT.data= .fields ts) (h3:ts[3]?=some .none)
  (h:∀h',Noted .none ((env::outer).filterMap (·.frame)) x ox (clearT T s.heap) h'->Q () { s with heap:=h' }):
  wpAny M A (leaving env (.ref x)) Q E s:=by
 unfold leaving
 exact wpAny_bind (Kl hfr hl hf hx hd h1 hTx hT hdT h3 fun h' N=>land (s:={ s with heap:=h' }) N ((Heap.get?_update_other _ _ hTx).trans hx) hd (Array.getElem?_eq_some_iff.mp h1).1 h)
end
noncomputable def TxO(C:Addr)(d:Option Addr)(T x:Addr):HO:=.ext fun h=>∃o vs,h.get? x=some o/\o.cls= .ref C/\notCls o=true/\o.dict=d/\o.data= .fields vs/\vs[1]?=some (.ref T)
noncomputable def TbO(T:Addr):HO:=.ext fun h=>∃o ts,h.get? T=some o/\o.data= .fields ts/\ts[3]?=some .none
theorem txO_ok{P:Program}{w:World}{H:Hp}{h:Heap}{C T x:Addr}{d:Option Addr}{o:Obj}{vs:Array Value}(e:h.get? x=some o)(hc:o.cls= .ref C)(hn:notCls o=true)(hd:o.dict=d)(hf:o.data= .fields vs)(h1:vs[1]?=some (.ref T)):ObjOk P w H h x (TxO C d T x):=
 ⟨⟨o,vs,e,hc,hn,hd,hf,h1⟩,⟨o,e⟩,fun h1 h2 ⟨o1,vs1,e1,q⟩ k=>⟨o1,vs1,k o1 e1,q⟩⟩
theorem Y2{P:Program}{w:World}{H:Hp}{h:Heap}{T:Addr}{o:Obj}{ts:Array Value}(e:h.get? T=some o)(hf:o.data= .fields ts)(h3:ts[3]?=some .none):ObjOk P w H h T (TbO T):=
 ⟨⟨o,ts,e,hf,h3⟩,⟨o,e⟩,fun h1 h2 ⟨o1,ts1,e1,q⟩ k=>⟨o1,ts1,k o1 e1,q⟩⟩
def CX1(P:Program)(w:World):CXT:=fun outer H s E e s'=>∃x C d T H',e= .ref x/\s'.os=s.os/\AllBare s'.gens/\Un (frs outer) [] H H' s.heap s'.heap/\HOk P w H' s'.heap/\
 H' x=some (TxO C d T x)/\H' T=some (TbO T)/\T≠x/\E (.ref C) d H'
section
variable {X:Cx}{pins:List (Addr×Obj)}{σ:St}{H:Hp}{s:Shared}{x C:Addr}{d:Option Addr}
theorem Noted.hok{fl:Value}{fr:List Addr}{ox:Obj}{vs:Array Value}{h':Heap}{φ:Heap->Prop}(I:Inv X pins σ H s)(hx:H x=some (.ext φ))(ho:s.heap.get? x=some ox)(h2:ox.cls= .ref C)(h4:ox.dict=d)(h5:ox.data= .fields vs)(hsz:1 < vs.size)(hfr:∀b∈fr,H b=none)
  (N:Noted .none fr x ox s.heap h'):∃T,H T=none/\T≠x/\s.heap.objs.size<=T/\HOk X.prog X.w (upd (upd H T (TbO T)) x (TxO C d T x)) h':=by
 obtain⟨T,oT,ts,hT0,hx',hT,hdT,ht3⟩:=N.ex
 have hn:H T=none:=I.hok.fresh hT0
 have hTx:T≠x:=Ne.symm (jv hx hn)
 have hd':=Obj.data_mapFields h5 (·.setIfInBounds 1 (Value.ref T))
 refine⟨T,hn,hTx,hT0,fun b u e=>?_⟩
 by_cases hb:b=x
 ·subst hb
  rw[jd]at e
  cases e
  refine txO_ok hx' ((Obj.cls_mapFields _ _).trans h2) ?_ ?_ hd' (by simp [hsz])
  ·unfold notCls
   rw[hd']
  ·obtain⟨oc,od,oda,osl⟩:=ox
   simp only at h5
   subst h5
   exact h4
 ·rw[jm hb]at e
  by_cases hbT:b=T
  ·subst hbT
   rw[jd]at e
   cases e
   exact Y2 hT hdT ht3
  ·rw[jm hbT]at e
   refine(I.hok b u e).stay (fun c v hc q=>?_) (fun c q=>?_) fun c xs q=>?_
   ·have hcx:c≠x:=by
     rcases hc with z |z
     ·rw[z];exact hb
     ·exact kf z hx (by intro q;cases q)
    refine N.keep c v (fun hm=>?_) hcx q
    have:=hfr c hm
    rcases hc with z |z
    ·rw[z,e]at this;cases this
    ·rw[z]at this;cases this
   ·rw[jm (kf q hx (by intro z;cases z)),jm (jv q hn)]
    exact q
   ·rw[jm (kf q hx (by intro z;cases z)),jm (jv q hn)]
    exact q
theorem Noted.un{fr:List Addr}{ox:Obj}{h':Heap}{φ:Heap->Prop}{T:Addr}(I:Inv X pins σ H s)(hex:X.ex=[])(hx:H x=some (.ext φ))(hn:H T=none)(hT0:s.heap.objs.size<=T)(hfr:∀b∈fr,b∈X.fs∨X.s₀.heap.objs.size<=b)
  (N:Noted .none fr x ox s.heap h'):Un X.fs [] X.H₀ (upd (upd H T (TbO T)) x (TxO C d T x)) X.s₀.heap h':=by
 have nx:∀b,H b=none->b≠x:=fun b e z=>by rw[z,hx]at e;cases e
 have nT:∀b o,X.s₀.heap.get? b=some o->b≠T:=fun b o e=>Nat.ne_of_lt (Nat.lt_of_lt_of_le (Heap.lt_size e) (Nat.le_trans I.sz hT0))
 have nin:∀b:Addr,b∉X.ex:=fun b z=>by rw[hex]at z;cases z
 have up:∀b,H b=none->b≠T->upd (upd H T (TbO T)) x (TxO C d T x) b=none:=fun b e z=>by rw[jm (nx b e),jm z];exact e
 have upS:∀b u,H b=some u->(∀φ,u≠ .ext φ)->upd (upd H T (TbO T)) x (TxO C d T x) b=some u:=fun b u e z=>by
  rw[jm (fun q=>by rw[q,hx]at e;cases e;exact z _ rfl),jm (jv e hn)]
  exact e
 refine⟨fun b o e n hb _=>?_,fun b o e n hb _=>?_,fun b o e n _=>?_,fun b o e _=>?_,fun b xs e=>upS b _ (I.base.tups b xs e) (by intro _ q;cases q),fun b o u e=>upS b _ (I.base.frzs b o u e) (by intro _ q;cases q),fun b ps e=>?_⟩
 ·refine N.keep b o (fun z=>?_) (nx b (I.base.free b o e n (nin b))) (I.base.keep b o e n hb (nin b))
  rcases hfr b z with q |q
  ·exact hb q
  ·exact absurd (Nat.lt_of_lt_of_le (Heap.lt_size e) q) (Nat.lt_irrefl _)
 ·obtain⟨sl,q⟩:=I.base.slot b o e n hb (nin b)
  obtain⟨sl',q'⟩:=N.slot b _ (nx b (I.base.free b o e n (nin b))) q
  exact⟨sl',q'⟩
 ·exact up b (I.base.free b o e n (nin b)) (nT b o e)
 ·obtain⟨o',q⟩:=I.base.there b o e (nin b)
  by_cases hb:b=x
  ·obtain⟨T',_,_,_,hx',_⟩:=N.ex
   exact⟨_,by rw[hb];exact hx'⟩
  ·obtain⟨sl,q'⟩:=N.slot b o' hb q
   exact⟨_,q'⟩
 ·obtain⟨more,q⟩:=I.base.tbls b ps e
  exact⟨more,upS b _ q (by intro _ q;cases q)⟩
end
section
variable {P:Program}{w:World}{K:Frag}{mg:Str->Option Value}{base:Heap}{N:List Str}{qual:Str}{scope:Scope}{f:Addr}{cd:Value}{A:Around}{outer:List Env}{s₀:Shared}{H₀:Hp}{E:XK}
variable {pins:List (Addr×Obj)}{σ:St}{H:Hp}{s:Shared}{x C:Addr}{d:Option Addr}
theorem ZA(I:Inv (cxOf (CX1 P w) P w K mg base N qual scope f cd A outer s₀ H₀ E) pins σ H s)(hx:H x=some (ExO C d x))
  (h:∀T,H T=none->E (.ref C) d (upd (upd H T (TbO T)) x (TxO C d T x))):(cxOf (CX1 P w) P w K mg base N qual scope f cd A outer s₀ H₀ E).xe (.ref x) s:=by
 obtain⟨⟨ox,h1,h2,h3,h4,vs,h5,h6⟩,_⟩:=I.hok x _ hx
 have hsz:=(Array.getElem?_eq_some_iff.mp h6).1
 refine Qp (base:=base) I.ok.frames I.stack rfl h1 h5 h6 fun h' Nd=>?_
 obtain⟨T,hn,hTx,hT0,hok⟩:=Nd.hok (C:=C) (d:=d) (fl:=.none) I hx h1 h2 h4 h5 hsz fun b hb=>I.stkFree b hb
 have un:=Nd.un (C:=C) (d:=d) I rfl hx hn hT0 fun b hb=>by
  rcases List.mem_cons.mp (I.stkSub b hb) with e |e
  ·exact .inr (by rw[e];exact I.ok.above)
  ·exact .inl e
 exact⟨x,C,d,T,_,rfl,I.os,I.bare,un,hok,jd,by rw[jm hTx,jd],hTx,h T hn⟩
theorem Inv.cleared{X:Cx}{T:Addr}{oT:Obj}{ts:Array Value}(I:Inv X pins σ H s)(hT:H T=some (TbO T))(h1:s.heap.get? T=some oT)(hd:oT.data= .fields ts)(h3:ts[3]?=some .none):Inv X pins σ H { s with heap:=clearT T s.heap }:=by
 have hd':=Obj.data_mapFields hd (·.setIfInBounds 3 Value.none)
 have e':=Heap.get?_update_self (Obj.mapFields (·.setIfInBounds 3 Value.none)) h1 (Obj.isFreed_of_fields hd')
 have:=I.write (x:=T) (e:=T) (o:=TbO T) (h':=clearT T s.heap) (t':=s.toks) (by rw[hT];exact True.intro) (.inl rfl) (fun b u hb q=>(Heap.get?_update_other _ _ (Ne.symm hb)).trans q) ⟨_,e'⟩ (Y2 e' hd' (by simp [(Array.getElem?_eq_some_iff.mp h3).1]))
 have eH:upd H T (TbO T)=H:=by
  funext b
  by_cases hb:b=T
  ·rw[hb,jd,hT]
  ·rw[jm hb]
 rw[eH]at this
 exact this
theorem xe_next{T:Addr}(I:Inv (cxOf (CX1 P w) P w K mg base N qual scope f cd A outer s₀ H₀ E) pins σ H s)(hx:H x=some (TxO C d T x))(hT:H T=some (TbO T))(hTx:T≠x)
  (h:∀T',H T'=none->E (.ref C) d (upd (upd H T' (TbO T')) x (TxO C d T' x))):(cxOf (CX1 P w) P w K mg base N qual scope f cd A outer s₀ H₀ E).xe (.ref x) s:=by
 obtain⟨⟨ox,vs,h1,h2,h3,h4,h5,h6⟩,_⟩:=I.hok x _ hx
 obtain⟨⟨oT,ts,t1,t2,t3⟩,_⟩:=I.hok T _ hT
 have hsz:=(Array.getElem?_eq_some_iff.mp h6).1
 have I1:=I.cleared hT t1 t2 t3
 refine QX (base:=base) I.ok.frames I.stack rfl h1 h5 h6 hTx t1 t2 t3 fun h' Nd=>?_
 have hx1:(clearT T s.heap).get? x=some ox:=(Heap.get?_update_other _ _ hTx).trans h1
 obtain⟨T',hn,hT'x,hT0,hok⟩:=Noted.hok (C:=C) (d:=d) (fl:=.none) I1 hx hx1 h2 h4 h5 hsz (fun b hb=>I.stkFree b hb) Nd
 have un:=Noted.un (C:=C) (d:=d) I1 rfl hx hn hT0 (fun b hb=>by
  rcases List.mem_cons.mp (I.stkSub b hb) with e |e
  ·exact .inr (by rw[e];exact I.ok.above)
  ·exact .inl e) Nd
 exact⟨x,C,d,T',_,rfl,I.os,I.bare,un,hok,jd,by rw[jm hT'x,jd],hT'x,h T' hn⟩
theorem passes1{E':XK}(hE:∀x C d T T' H',H' x=some (TxO C d T x)->H' T=some (TbO T)->H' T'=none->E' (.ref C) d H'->E (.ref C) d (upd (upd H' T' (TbO T')) x (TxO C d T' x))):
  Passes (CX1 P w) (cxOf (CX1 P w) P w K mg base N qual scope f cd A outer s₀ H₀ E) E':=by
 intro pins σ H s e s' I h
 obtain⟨x,C,d,T,H',rfl,os,bare,un,hok,hx,hT,hTx,hw⟩:=h
 obtain⟨hh,g,dr,tk,os'⟩:=s'
 obtain rfl:os'=s.os:=os
 have I':=I.call (h':=hh) (g':=g) (d':=dr) (t':=tk) (ch:=[]) un hok bare (fun b z=>absurd z (by simp))
 exact xe_next I' hx hT hTx fun T' hn=>hE x C d T T' H' hx hT hn hw
end
section
open PySem.W
variable {prog:Program}{w:World}{A:Around}{E:Value->Shared->Prop}{K:Frag}{x C:Addr}{ox:Obj}{vs:Array Value}{env:Env}
theorem QY{s:Shared}{ev:Sem Value}{Q:Flow->Shared->Prop}(hh:A.handled=none)
  (h:wpAny (model prog w) A ev (fun v s₁=>∃x C ox vs,v= .ref x/\K.In s₁.heap/\XCls K C/\typeIn K (.ref C)=some (.type "type")/\s₁.heap.get? x=some ox/\ox.cls= .ref C/\ox.data= .fields vs/\vs[1]?=some .none/\E (.ref x) s₁) E s):
  wpAny (model prog w) A (raiseStmt env (some ev) none) Q E s:=by
 unfold raiseStmt
 refine wpAny_bind (wpAny_mono h (fun v s₁ h₁=>?_) fun _ _ z=>z)
 obtain⟨x,C,ox,vs,rfl,X,xc,ht,hx,hc,hd,h1,hE⟩:=h₁
 obtain⟨hp,g,d,tk,os⟩:=s₁
 have L0:Looks (model prog w) hp (typeOf (.ref x)) (.ref C):=hc▸(Looks.ld hx).andThen .now
 have L1:Looks (model prog w) hp (isType (.ref x)) false:=by
  intro A' Q' E' s' k q
  unfold isType loadHead
  refine wpAny_bind (wpAny_loadPart (k _ _ hx) ?_)
  rw[hd]
  exact wpAny_pure q
 have L2:=looks_mroIn (M:=model prog w) X xc.mb
 have L3:=looks_typeIn (M:=model prog w) X ht
 have L4:Looks (model prog w) hp (isInstance (.ref x) (.type "BaseException")) true:=L0.andThen L2
 have L5:Looks (model prog w) hp (isExcClass (.ref x)) false:=by
  unfold isExcClass
  exact L1.andThen .now
 have L6:Looks (model prog w) hp (raisedInstance (.ref x)) (.ref x):=by
  unfold raisedInstance
  exact L0.andThen (L3.andThen (by rw[if_pos (by decide)];exact .now))
 have L7:Looks (model prog w) hp (excFromValue (.ref x) "exceptions must derive from BaseException") (.ref x):=by
  unfold excFromValue
  exact L5.andThen (by rw[if_neg (by decide)];exact L4.andThen (by rw[if_pos rfl];exact .now))
 refine wpAny_bind (wpAny_pure ?_)
 refine wpAny_bind (wpAny_holding (L7.at ?_))
 dsimp only
 refine wpAny_bind (L1.at ?_)
 rw[if_neg (by decide)]
 refine wpAny_bind (L6.at ?_)
 unfold setFlight
 refine wpAny_bind (wpAny_bind (wpAny_field hx hd h1 ?_))
 rw[if_neg (by decide)]
 exact wpAny_pure (wpAny_raiseNew_none hh hE)
end
def Flies(X:Cx)(Wx:Addr->Addr->Option Addr->Hp->Prop):Prop:=∀(pins:List (Addr×Obj)) (σ:St) (H:Hp) (s:Shared) (x C:Addr) (d:Option Addr),Inv X pins σ H s->H x=some (ExO C d x)->Wx x C d H->X.xe (.ref x) s
theorem Yl{P:Program}{w:World}{K:Frag}{mg:Str->Option Value}{base:Heap}{N:List Str}{qual:Str}{scope:Scope}{f:Addr}{cd:Value}{A:Around}{outer:List Env}{s₀:Shared}{H₀:Hp}{E:XK}:
  Flies (cxOf (CX1 P w) P w K mg base N qual scope f cd A outer s₀ H₀ E) (fun x C d H=>∀T,H T=none->E (.ref C) d (upd (upd H T (TbO T)) x (TxO C d T x))):=
 fun _ _ _ _ _ _ _ I hx h=>ZA I hx h
def sRaise(K:Frag)(te:TE)(Wx:Addr->Addr->Option Addr->Hp->Prop):TS:=fun _ σ H=>te σ H fun v H1=>∃x C d,v= .ref x/\H1 x=some (ExO C d x)/\XCls K C/\typeIn K (.ref C)=some (.type "type")/\Wx x C d H1
theorem ZB{X:Cx}{e:Expr}{te:TE}{pos:Pos}{Wx:Addr->Addr->Option Addr->Hp->Prop}(hc:X.calm=true)(fl:Flies X Wx)(he:PE X e te):PS X (.Raise (some e) none pos) (sRaise X.K te Wx):=by
 intro pins s σ H D I h
 rw[arm_exec_Raise]
 refine wpAny_bind (wpAny_standAt ?_)
 refine QY (K:=X.K) (ev:=do let v <- eval e X.env;standAt pos;pure v) (I.ok.hd hc) (wpAny_bind (thn (he pins s σ H _ I h) fun u s1 hq'=>wpAny_bind (wpAny_standAt (wpAny_pure ?_))))
 obtain⟨v,H1,I1,rv,x,C,d,ev,hx,xc,ht,q⟩:=hq'
 subst ev
 obtain rfl:u=Value.ref x:=rv
 obtain⟨⟨ox,h1,h2,h3,h4,vs,h5,h6⟩,_⟩:=I1.hok x _ hx
 exact⟨x,C,ox,vs,rfl,I1.kIn,xc,ht,h1,h2,h5,h6,fl pins σ H1 s1 x C d I1 hx q⟩
section
variable {X:Cx}{pins:List (Addr×Obj)}{σ:St}{H:Hp}{s:Shared}{x C:Addr}{d:Option Addr}
theorem Inv.noted{ox:Obj}{vs:Array Value}{h':Heap}{φ:Heap->Prop}{t':Nat}(I:Inv X pins σ H s)(hx:H x=some (.ext φ))(ho:s.heap.get? x=some ox)(h2:ox.cls= .ref C)(h4:ox.dict=d)(h5:ox.data= .fields vs)(hsz:1 < vs.size)
  (Nd:Noted .none (frs X.stack) x ox s.heap h'):∃T,H T=none/\T≠x/\Inv X pins σ (upd (upd H T (TbO T)) x (TxO C d T x)) { s with heap:=h',toks:=t' }:=by
 obtain⟨T,hn,hTx,hT0,hok⟩:=Noted.hok (C:=C) (d:=d) (fl:=.none) I hx ho h2 h4 h5 hsz (fun b hb=>I.stkFree b hb) Nd
 have nx:∀b,H b=none->b≠x:=fun b e z=>by rw[z,hx]at e;cases e
 have upS:∀b u,H b=some u->(∀φ,u≠ .ext φ)->upd (upd H T (TbO T)) x (TxO C d T x) b=some u:=fun b u e z=>by
  rw[jm (fun q=>by rw[q,hx]at e;cases e;exact z _ rfl),jm (jv e hn)]
  exact e
 refine⟨T,hn,hTx,I.call (g':=s.gens) (d':=s.drawn) (ch:=[]) ?_ hok I.bare (fun b z=>absurd z (by simp))⟩
 refine⟨fun b o e n hb _=>Nd.keep b o hb (nx b n) e,fun b o e n _ _=>Nd.slot b o (nx b n) e,fun b o e n _=>?_,fun b o e _=>?_,fun b xs e=>upS b _ e (by intro _ q;cases q),fun b o u e=>upS b _ e (by intro _ q;cases q),fun b ps e=>⟨#[],by rw[upS b _ e (by intro _ q;cases q)];simp⟩⟩
 ·rw[jm (nx b n),jm (Nat.ne_of_lt (Nat.lt_of_lt_of_le (Heap.lt_size e) hT0))]
  exact n
 ·by_cases hb:b=x
  ·obtain⟨T',_,_,_,hx',_⟩:=Nd.ex
   exact⟨_,by rw[hb];exact hx'⟩
  ·obtain⟨sl,q⟩:=Nd.slot b o hb e
   exact⟨_,q⟩
theorem Ym{M:Model}{A:Around}{E:Value->Shared->Prop}{i:Nat}{n:Str}{v:V}{pos:Pos}{Q:Unit->Shared->Prop}(I:Inv X pins σ H s)(hN:X.N.Nodup)(hi:X.N[i]?=some n)(hk:X.env.scope.names.lookup n=some .local)(hv:σ[i]?=some (some v))
  (h:∀s',Inv X pins (σ.set i none) H s'->Q () s'):wpAny M A (unbindBehindTheSuite X.env n pos) Q E s:=by
 obtain⟨m,hn,hl⟩:=id I.loc
 have hcls:(X.env.scope.kind== .class||(X.env.scope.kind== .module&&X.env.locals != X.env.globals))=false:=by rw[I.ok.kind];rfl
 obtain⟨u,ru,lk⟩:=hl i n v hi hv (.inl hk)
 have hm:m n=some u:=by
  rcases lk with ⟨_,e⟩ | ⟨k,_⟩
  ·exact e
  ·have k':X.env.scope.names.lookup n=some .cell∨X.env.scope.names.lookup n=some .free:=k
   rw[hk]at k'
   rcases k' with z |z<;>cases z
 have cne:=I.cne
 obtain⟨oL,_,_,hoL,_⟩:=id hn
 unfold unbindBehindTheSuite
 refine wpAny_onRaise (wpAny_unbindName_local hk hn hm hcls fun h' w' hn' hs=>h _ ?_)
 refine⟨I.ok,I.os,I.bare,⟨fun b o e n hb hx=>?_,fun b o e n hb hx=>?_,I.base.free,fun b o e hx=>?_,I.base.tups,I.base.frzs,I.base.tbls⟩,⟨_,hn',fun j y v' e1 e2 e3=>?_⟩,fun y c e=>?_,I.free,I.freeC,fun p hp=>?_,fun b ob e=>?_,by simpa using I.len⟩
 ·exact(hs.2 b (Nat.ne_of_lt (Nat.lt_of_lt_of_le (Heap.lt_size e) I.ok.above))).trans (I.base.keep b o e n hb hx)
 ·obtain⟨sl,e1⟩:=I.base.slot b o e n hb hx
  exact⟨sl,(hs.2 b (Nat.ne_of_lt (Nat.lt_of_lt_of_le (Heap.lt_size e) I.ok.above))).trans e1⟩
 ·obtain⟨o',e1⟩:=I.base.there b o e hx
  exact⟨o',(hs.2 b (Nat.ne_of_lt (Nat.lt_of_lt_of_le (Heap.lt_size e) I.ok.above))).trans e1⟩
 ·have hiσ:i < σ.length:=by rw[I.len];exact(List.getElem?_eq_some_iff.mp hi).1
  by_cases hj:j=i
  ·subst hj
   rw[List.getElem?_set_self hiσ]at e2
   cases e2
  ·rw[List.getElem?_set_ne (Ne.symm hj)]at e2
   obtain⟨u',r',q⟩:=hl j y v' e1 e2 e3
   refine⟨u',r',?_⟩
   rcases q with ⟨k,e⟩ | ⟨k,c,e,z⟩
   ·refine .inl ⟨k,?_⟩
    have:y≠n:=fun e=>hj (Jy hN e1 (e▸hi))
    simp [this,e]
   ·exact .inr ⟨k,c,e,z.sameBut hs (cne y c e)⟩
 ·obtain⟨w2,z⟩:=I.cell y c e
  exact⟨w2,z.sameBut hs (cne y c e)⟩
 ·obtain⟨e,n,ne,nf,d⟩:=I.pin p hp
  exact⟨(hs.2 p.1 ne).trans e,n,ne,nf,d⟩
 ·refine(I.hok b ob e).stay (fun c w' hc q=>(hs.2 c ?_).trans q) (fun _ q=>q) fun _ _ q=>q
  rintro rfl
  rcases hc with z |z
  ·rw[<- z,I.free]at e;cases e
  ·rw[I.free]at z;cases z
end
noncomputable abbrev Cx.mark(X:Cx)(e:Value)(xe:Value->Shared->Prop):Cx:={ X with A:=X.A.mark (some e),calm:=false,xe:=xe }
theorem Inv.mark{X:Cx}{pins:List (Addr×Obj)}{σ:St}{H:Hp}{s:Shared}(I:Inv X pins σ H s)(e:Value)(xe:Value->Shared->Prop):Inv (X.mark e xe) pins σ H s:=
 ⟨⟨I.ok.mod,I.ok.kind,I.ok.glob,I.ok.blt,I.ok.above,I.ok.inj,I.ok.has,I.ok.cab,(fun z=>nomatch (show false=true from z)),I.ok.frames,I.ok.stk,I.ok.exf,I.ok.bs,I.ok.bsz,I.ok.noex,I.ok.exfs,I.ok.funs,I.ok.frf⟩,I.os,I.bare,I.base,I.loc,I.cell,I.free,I.freeC,I.pin,I.hok,I.len⟩
theorem Inv.unmark{X:Cx}{pins:List (Addr×Obj)}{σ:St}{H:Hp}{s:Shared}{e:Value}{xe:Value->Shared->Prop}(ok:X.Ok)(I:Inv (X.mark e xe) pins σ H s):Inv X pins σ H s:=
 ⟨ok,I.os,I.bare,I.base,I.loc,I.cell,I.free,I.freeC,I.pin,I.hok,I.len⟩
section
open PySem.W
theorem JT{M:Model}{K:Frag}{h:Heap}{x C B:Addr}{ox:Obj}(X:K.In h)(hx:h.get? x=some ox)(hc:ox.cls= .ref C)(hB:clsIn K B≠none)(tB:typeIn K (.ref B)=some (.type "type"))(mB:mroIn K B (.type "BaseException")=some true)(mC:mroIn K C (.ref B)=some true):
  Looks M h (excMatches (.ref x) (.ref B)) true:=by
 have L0:Looks M h (typeOf (.ref x)) (.ref C):=hc▸(Looks.ld hx).andThen .now
 have L1:=looks_typeIn (M:=M) X tB
 have L2:Looks M h (isInstance (.ref B) (.type "tuple")) false:=L1.andThen (Looks.of_pure tc_notTuple)
 have L3:Looks M h (isType (.ref B)) true:=by
  unfold clsIn at hB
  split at hB
  ·rename_i ho
   intro A' Q' E' s' k q
   unfold isType loadHead
   exact wpAny_bind (wpAny_loadPart (k _ _ (X _ _ ho)) (wpAny_pure q))
  ·exact absurd rfl hB
 have L4:Looks M h (isExcClass (.ref B)) true:=by
  unfold isExcClass
  exact L3.andThen (by rw[if_pos rfl];exact looks_mroIn X mB)
 have L5:=looks_mroIn (M:=M) X mC
 intro A' Q' E' s' k q
 unfold excMatches
 refine wpAny_bind (L2 A' _ E' s' k ?_)
 rw[if_neg (by decide)]
 refine wpAny_bind (wpAny_pure ?_)
 dsimp only
 refine wpAny_bind ?_
 rw[List.forIn_cons]
 refine wpAny_bind (wpAny_bind (L4 A' _ E' s' k ?_))
 simp only[Bool.not_true,Bool.false_eq_true,if_false]
 refine wpAny_pure ?_
 dsimp only
 rw[List.forIn_nil]
 refine wpAny_pure ?_
 refine wpAny_bind (L0 A' _ E' s' k ?_)
 refine wpAny_bind ?_
 rw[List.forIn_cons]
 refine wpAny_bind (wpAny_bind (L5 A' _ E' s' k ?_))
 simp only[if_true]
 refine wpAny_pure (wpAny_pure ?_)
 exact wpAny_pure q
end
abbrev XR:=Addr->Addr->Option Addr->Addr->Hp->Prop
def XW(X:Cx)(pins:List (Addr×Obj))(σ:St)(R:XR)(e:Value)(s':Shared):Prop:=
 ∃x C d T H',e= .ref x/\Inv X pins σ H' s'/\H' x=some (TxO C d T x)/\H' T=some (TbO T)/\T≠x/\R x C d T H'
abbrev TEX:=St->Hp->VK->XR->Prop
abbrev TSX:=Ends->XR->St->Hp->Prop
def PEX(X:Cx)(e:Expr)(t:TEX):Prop:=
 ∀(pins:List (Addr×Obj)) (s:Shared) (σ:St) (H:Hp) (Q:VK) (R:XR),Inv X pins σ H s->t σ H Q R->wpAny (model X.prog X.w) X.A (eval e X.env) (EP X pins σ Q) (XW X pins σ R) s
def PSX(X:Cx)(st:Stmt)(t:TSX):Prop:=
 ∀(pins:List (Addr×Obj)) (s:Shared) (σ:St) (H:Hp) (D:Ends) (R:XR),Inv X pins σ H s->t D R σ H->wpAny (model X.prog X.w) X.A (exec st X.env) (SP X pins D) (XW X pins σ R) s
def xOf(R:XR):XK:=fun Cv d H'=>∀x C T,Cv= .ref C->H' x=some (TxO C d T x)->H' T=some (TbO T)->T≠x->R x C d T H'
def tCallX(sp:Sp)(dvs:List V)(t:TA):TEX:=fun σ H Q R=>t σ H fun vs H1=>sp (vs++dvs) H1 Q (xOf R)
section
variable {X:Cx}{k:Nat}{f:Addr}{fd:FuncData}{ps:List Str}{sp:Sp}{dvs:List V}{ds:List Value}{x:Str}{p pos:Pos}{e:Expr}{es:List Expr}{t:TA}{te:TEX}
theorem ZC(F:FnOk X.prog X.w X.K X.mg X.base (CX1 X.prog X.w) k f fd ps sp)(hr:Room k X.A)(hg:Gl X x)(hm:X.mg x=some (.ref f))(hk:keepIn X.K (.ref f)=true)(hb:Binds X.K fd ps ds)(hd:Vals dvs ds)
  (ha:PA X.nox (e::es) t) (hdb:(x==("__debug__":Str))=false:=by decide) (he:starEach (e::es) X.env=(false,eval e X.env)::starEach es X.env:=by rfl) (hpl:(backTo pos (starEach es X.env)).any (·.1)=false:=by rfl):
  PEX X (.Call (.Name x p) (e::es) [] pos) (tCallX sp dvs t):=by
 intro pins s σ H Q R I h
 refine wpAny_Call_Name_kw (zQ I hg hm ?_ hdb)
 refine callWith_K (h₀:=X.base) I.ok.mod.kin hk (wpAny_mono (ha pos pins s σ H _ (I.wish _) h) (fun us s1 ⟨vs,H1,I1,r,q⟩=>⟨I1.kIn,?_⟩) fun _ _ z=>z.elim) he hpl
 have I1:=I1.unwish
 have r2:Vals (vs++dvs) (us++ds):=r.append hd
 have hl:(us++ds).length=ps.length:=by rw[<- r2.length];exact F.len _ _ _ _ q
 refine wpAny_call (codeAny_mono (F.run X.A X.stack s1 H1 ⟨us,[]⟩ (us++ds) (vs++dvs) Q (xOf R) hr I1.env0 (hb s1 us I1.kIn hl) r2 q) fun r s' hq=>?_)
 cases r with
 |error e=>
  obtain⟨x,C,d,T,H',rfl,os,bare,un,hok,hx,hT,hTx,hw⟩:=hq
  exact⟨x,C,d,T,H',rfl,I1.call' os un hok bare (fun b z=>absurd z (by simp)),hx,hT,hTx,hw x C T rfl hx hT hTx⟩
 |ok fl=>
  cases fl with
  |ret u=>exact I1.after hq
  |next=>exact False.elim hq
  |brk=>exact False.elim hq
  |cont=>exact False.elim hq
theorem ZD(he:PEX X e te)(hs:swapsWith e none pos.line X.env=pure false:=by rfl):PSX X (.Expr e pos) (fun D R σ H=>te σ H (fun _ H1=>D.nx σ H1) R):=by
 intro pins s σ H D R I h
 exact wpAny_Expr_any (thn (he pins s σ H _ R I h) fun v s1 ⟨x,H1,I1,r1,q1⟩=>⟨σ,H1,I1,q1⟩) I.quiet hs
end
theorem zV{X:Cx}{pins:List (Addr×Obj)}{σ:St}{H:Hp}{s:Shared}{M:Model}{A:Around}{E:Value->Shared->Prop}{i:Nat}{n:Str}{pos:Pos}{Q:Unit->Shared->Prop}(I:Inv X pins σ H s)(hN:X.N.Nodup)(hi:X.N[i]?=some n)(hk:X.env.scope.names.lookup n=some .local)
  (h:∀s',Inv X pins (σ.set i none) H s'->Q () s'):wpAny M A (do bindName X.env n .none;unbindBehindTheSuite X.env n pos) Q E s:=by
 have hiσ:i < σ.length:=by rw[I.len];exact(List.getElem?_eq_some_iff.mp hi).1
 refine wpAny_bind ?_
 unfold bindName
 refine wpAny_bind (wpAny_holding (wpAny_point (wpAny_bind (kM (v:=.non) I hN hi (.inl hk) rfl (fun s1 I1=>wpAny_point ?_) (.inr hk)))))
 refine Ym I1 hN hi hk (v:=.non) (List.getElem?_set_self hiσ) fun s2 I2=>h s2 ?_
 rw[List.set_set]at I2
 exact I2
noncomputable def behind(i:Nat)(D:Ends):Ends:={ nx:=fun σ H=>D.nx (σ.set i none) H,rt:=D.rt,bk:=fun σ H=>D.bk (σ.set i none) H,ct:=fun σ H=>D.ct (σ.set i none) H }
def tTry(K:Frag)(B:Addr)(i:Nat)(tb:TSX)(ts:TS):TS:=fun D σ H=>tb D (fun x C d _ H'=>mroIn K C (.ref B)=some true/\∀T',H' T'=none->ts (behind i D) (σ.set i (some (.ref x))) (upd (upd H' T' (TbO T')) x (TxO C d T' x))) σ H
section
variable {X:Cx}{st b₀:Stmt}{suite:List Stmt}{tb:TSX}{ts:TS}{cn n:Str}{np hp pos:Pos}{B:Addr}{i:Nat}
theorem ps_try(hst:X.stack=X.env::X.outer)(hfr:X.env.frame=some X.env.locals)(hb:PSX X st tb)(hg:Gl X cn)(hm:X.mg cn=some (.ref B))(hB:clsIn X.K B≠none)(tB:typeIn X.K (.ref B)=some (.type "type"))(mB:mroIn X.K B (.type "BaseException")=some true)
  (hN:X.N.Nodup) (hi:X.N[i]?=some n) (hk:X.env.scope.names.lookup n=some .local) (hs:∀e,PSs (X.mark e fun _ _=>False) (b₀::suite) ts) (hdb:(cn==("__debug__":Str))=false:=by decide):
  PS X (.Try [st] [.ExceptHandler (some (.Name cn np)) (some n) (b₀::suite) hp] [] [] pos) (tTry X.K B i tb ts):=by
 intro pins s σ H D I h
 refine wpAny_Try_except (wpAny_execs_cons (wpAny_mono (hb pins s σ H D _ I h) (fun f s1 q=>?_) fun e s1 q=>?_))
 ·cases f with
  |next=>exact wpAny_execs_nil (wpAny_execs_nil q)
  |ret v=>exact q
  |brk=>exact q
  |cont=>exact q
 obtain⟨x,C,d,T,H',rfl,I1,hx,hT,hTx,mC,q⟩:=q
 obtain⟨⟨ox,vs,h1,h2,h3,h4,h5,h6⟩,_⟩:=I1.hok x _ hx
 obtain⟨⟨oT,tz,t1,t2,t3⟩,_⟩:=I1.hok T _ hT
 have hsz:=(Array.getElem?_eq_some_iff.mp h6).1
 have fr1:X.A.frames=some (X.env::X.outer):=by rw[<- hst];exact I1.ok.frames
 have fl1:s1.heap.FunFrames X.base (X.env::X.outer):=by rw[<- hst];exact I1.stack
 refine Kl (base:=X.base) fr1 fl1 hfr h1 h5 h6 hTx t1 t2 t3 fun g2 Nd=>?_
 have hx1:(clearT T s1.heap).get? x=some ox:=(Heap.get?_update_other _ _ hTx).trans h1
 refine land (s:={ s1 with heap:=g2 }) Nd hx1 h5 hsz fun g3 Nd3=>?_
 obtain⟨T',hn,hT'x,I3⟩:=(I1.cleared hT t1 t2 t3).noted (C:=C) (d:=d) (t':=s1.toks) hx hx1 h2 h4 h5 hsz (by unfold frs;rw[hst];exact Nd3)
 have I3:Inv X pins σ (upd (upd H' T' (TbO T')) x (TxO C d T' x)) { s1 with heap:=g3 }:=I3
 obtain⟨⟨ox3,vs3,k1,k2,k3,k4,k5,k6⟩,_⟩:=I3.hok x _ jd
 have hT3:upd (upd H' T' (TbO T')) x (TxO C d T' x) T'=some (TbO T'):=by rw[jm hT'x,jd]
 obtain⟨⟨oT3,tz3,u1,u2,u3⟩,_⟩:=I3.hok T' _ hT3
 refine wpAny_handleBy_cons (codeAny_handlers_test ?_) (by intro z;cases z)
 refine zQ (I3.mark (.ref x) fun _ _=>False) hg hm ?_ hdb
 refine JT I3.kIn k1 k2 hB tB mB mC _ _ _ _ (fun _ _ e=>e) ?_
 refine codeAny_handlers_suite_as ?_
 unfold setFlight
 refine wpAny_bind (wpAny_field k1 k5 k6 ?_)
 rw[if_pos (show(Value.ref T' != Value.none)=true from by simp)]
 refine wpAny_setField u1 u2 (Array.getElem?_eq_some_iff.mp u3).1 ?_
 have I4:=I3.cleared hT3 u1 u2 u3
 refine kM (v:=.ref x) I4 hN hi (.inl hk) rfl (fun s5 I5=>?_) (.inr hk)
 refine wpAny_mono (hs (.ref x) pins s5 _ _ (behind i D) (I5.mark (.ref x) fun _ _=>False) (q T' hn)) (fun f s6 q6=>?_) fun _ _ z=>z.elim
 cases f with
 |next=>obtain⟨σ',H6,I6,nx⟩:=q6;exact zV (I6.unmark I.ok) hN hi hk fun s7 I7=>⟨_,_,I7,nx⟩
 |brk=>obtain⟨σ',H6,I6,nx⟩:=q6;exact zV (I6.unmark I.ok) hN hi hk fun s7 I7=>⟨_,_,I7,nx⟩
 |cont=>obtain⟨σ',H6,I6,nx⟩:=q6;exact zV (I6.unmark I.ok) hN hi hk fun s7 I7=>⟨_,_,I7,nx⟩
 |ret v=>obtain⟨y,σ',H6,I6,rv,nx⟩:=q6;exact zV (I6.unmark I.ok) hN hi hk fun s7 I7=>⟨y,_,_,I7,rv,nx⟩
end
def ExcC(H:Hp)(a C:Addr)(fs:List (Str×V)):Prop:=(fs=[]/\∃T,H a=some (TxO C none T a))∨∃dx T,H a=some (TxO C (some dx) T a)/\H dx=some (.xd fs)
section
variable {X:Cx}{pins:List (Addr×Obj)}{σ:St}{H:Hp}{s:Shared}{a C:Addr}{fs:List (Str×V)}{f:Str}{v:V}{A:Around}{E:Value->Shared->Prop}
theorem qJ(I:Inv X pins σ H s)(e:ExcC H a C fs):∃ox od,PySem.W.InstAt s.heap a ox C od/\∀f v,fs.lookup f=some v->∃o u,od=some o/\RelV v u/\lookIn f o=some (some u):=by
 rcases e with ⟨rfl,T,e⟩ | ⟨dx,T,e,e2⟩
 ·obtain⟨⟨o,vs,h1,h2,h3,h4,_⟩,_⟩:=I.hok a _ e
  exact⟨o,none,⟨h1,h2,h3,by rw[h4];trivial⟩,fun f v q=>nomatch q⟩
 ·obtain⟨⟨o,vs,h1,h2,h3,h4,_⟩,_⟩:=I.hok a _ e
  obtain⟨mA,n,r⟩:=(show ObjOk X.prog X.w H s.heap dx (.xd fs) from I.hok dx _ e2)
  obtain⟨od,ho,hl⟩:=Kc n
  refine⟨o,some od,⟨h1,h2,h3,by rw[h4];exact ho⟩,fun f v q=>?_⟩
  obtain⟨u,hu,ru⟩:=RelO.some_of (v:=v) (o:=mA f) (by rw[<- q];exact r f)
  exact⟨od,u,rfl,ru,by rw[hl,hu]⟩
theorem getC_ok{b:Bool}{Q:Value->Shared->Prop}(I:Inv X pins σ H s)(e:ExcC H a C fs)(c:XCls X.K C)(n:NoAttr X.K C f)(l:fs.lookup f=some v)
  (h:∀u s',Inv X pins σ H s'->RelV v u->Q u s'):wpAny (model X.prog X.w) A (getAttr (.ref a) f b) Q E s:=by
 obtain⟨ox,od,J,hl⟩:=qJ I e
 obtain⟨o,u,rfl,ru,hu⟩:=hl f v l
 exact get_exc I.kIn J c.ga c.gh c.mb (PySem.W.findObj_own c.hd n rfl hu) (Kd ru) (h u _ (I.tok _) ru)
theorem KK:CallR X (.builtin "isinstance") (fun xs H Q=>∃a C fs y c b,xs=[.ref a,y]/\clsV y=some c/\ExcC H a C fs/\XCls X.K C/\kitOne X.K (.ref C) c=some b/\Q (.bl b) H):=by
 intro pins s σ H xs us Q I r h
 obtain⟨a,C,fs,y,c,b,rfl,hc,ex,xc,e,q⟩:=h
 obtain⟨u,w',rfl,rx,ry⟩:=vals2 r
 have ec:w'=c:=by
  cases y with
  |ty n=>exact Eq.trans ry (Option.some.inj hc)
  |ref a=>exact Eq.trans ry (Option.some.inj hc)
  |_=>cases hc
 subst ec
 cases (show u=Value.ref a from rx)
 obtain⟨ox,od,J,_⟩:=qJ I ex
 exact kia_one (K6 xc) I.kIn ⟨ox,od,J⟩ e (fun z=>nomatch z) fun tk=>⟨.bl b,H,I.tok tk,rfl,q⟩
end
def tFldC(K:Frag)(ta:TE)(f:Str):TE:=fun σ H Q=>ta σ H fun x H1=>∃a C fs v,x= .ref a/\ExcC H1 a C fs/\XCls K C/\NoAttr K C f/\fs.lookup f=some v/\Q v H1
theorem pe_fldC{X:Cx}{g:Str}{pos:Pos}{e:Expr}{ta:TE}(he:PE X e ta)(hb:attributeBase e g X.env (eval e X.env)=eval e X.env):PE X (.Attribute e g pos) (tFldC X.K ta g):=by
 intro pins s σ H Q I h
 refine Xu hb (thn (he pins s σ H _ I h) fun u s1 hq'=>?_)
 obtain⟨x,H1,I1,rx,a,C,fs,v,ex,ea,c,n,l,q⟩:=hq'
 subst ex
 obtain rfl:u=Value.ref a:=rx
 exact getC_ok I1 ea c n l fun u' s2 I2 ru=>⟨v,H1,I2,ru,q⟩
theorem Fun.ok1{P:Program}{w:World}{K:Frag}{mg:Str->Option Value}{base:Heap}{x qual:Str}{st:Stmt}{f:Addr}{fd:FuncData}{N ps:List Str}{k:Nat}{sp:Sp}(F:Fun K x qual st f fd)(S:FnScope N ps (defScope st))(len:∀vs H Q E,sp vs H Q E->vs.length=ps.length)
  (hbody:∀(cdv:Value) (A:Around) (outer:List Env) (s:Shared) (H:Hp) (vs:List V) (Q:VK) (E:XK),Room k (A.deeper (envOfC qual (defScope st) s.heap.objs.size f cdv))->sp vs H Q E->
   ∃t,PSs (cxOf (CX1 P w) P w K mg base N qual (defScope st) f cdv A outer s H E) (defBody st) t/\t { nx:=fun _ H'=>Q .non H',rt:=Q } (start N vs) H):FnOk P w K mg base (CX1 P w) (k+1) f fd ps sp:=by
 obtain⟨oc,od,kV,doc,pm,an,cdv,ct,osl,rfl,lk,hcd⟩:=F.ex
 exact fn_of lk hcd S len fun A outer s H vs Q E hr hsp=>hbody cdv A outer s H vs Q E hr hsp
section
variable {prog:Program}{w:World}{A:Around}{E:Value->Shared->Prop}{s:Shared}
theorem QZ{src:Source}{n:Nat}{Q:Nat->Shared->Prop}(hn:n≠0)(h:∀i d,i < n->Q i { s with drawn:=d }):wpAny (model prog w) A (choose src n) Q E s:=by
 intro Γ p _
 show Sem.wp _ Γ (.choose src n .pure) _ _ p s
 rw[Sem.wp_choose]
 exact⟨hn,h _ _ (Nat.mod_lt _ (Nat.pos_of_ne_zero hn))⟩
theorem Qq{α:Type}:∀(n:Nat) (xs:List α) (s:Shared) {Q:List α->Shared->Prop},xs.length=n->(∀ys d,ys.Perm xs->Q ys { s with drawn:=d })->
  wpAny (model prog w) A (drawOrder n xs) Q E s:=by
 intro n
 induction n with
 |zero=>
  intro xs s Q hl h
  cases xs with
  |nil=>
   unfold drawOrder
   exact wpAny_pure (h [] s.drawn .rfl)
  |cons _ _=>cases hl
 |succ n ih=>
  intro xs s Q hl h
  cases xs with
  |nil=>cases hl
  |cons x r=>
   unfold drawOrder
   refine wpAny_bind (QZ (by simp) fun i d hi=>?_)
   have hg:(x::r)[i]?=some ((x::r)[i]'hi):=List.getElem?_eq_getElem hi
   rw[hg]
   dsimp only
   refine wpAny_bind (ih _ _ (by rw[List.length_eraseIdx_of_lt hi,hl];rfl) fun ys d' hp=>wpAny_pure (h _ d' ?_))
   refine(List.Perm.cons _ hp).trans ?_
   rw[List.eraseIdx_eq_take_drop_succ]
   refine List.perm_middle.symm.trans ?_
   rw[List.getElem_cons_drop,List.take_append_drop]
end
noncomputable def txOf:Value->Str
 | .str x _=>x
 |_=>⟨#[]⟩
theorem JU(t:SetTable)(n:Nat):(t.orStandIn n).led=t.led:=by
 unfold SetTable.orStandIn
 split
 ·rfl
 ·rfl
theorem Q0(t:SetTable)(es:Array (Int×Value))(h:Int)(x:Value):(layNew t es h x).2.1.led=t.led:=by
 unfold layNew
 split
 ·exact JU _ _
 ·rfl
theorem KL(t:SetTable)(es:Array (Int×Value))(n:Nat):(relayAll t es n).2.1.led=t.led:=by
 unfold relayAll
 split
 ·rename_i t' order e
  unfold SetTable.relaid SetTable.laid at e
  cases hq:SetTable.layClean (SetTable.sizeAbove n - 1) (es.map (·.1)) with
  |none=>rw[hq]at e;cases e
  |some ow=>
   rw[hq]at e
   cases e
   dsimp only
   split<;>rfl
 ·rfl
theorem JH(t:SetTable)(es:Array (Int×Value))(n:Nat)(hp:t.plain=false):(relayAll t es n).2.1.plain=false:=by
 unfold relayAll
 split
 ·rename_i t' order e
  unfold SetTable.relaid SetTable.laid at e
  cases hq:SetTable.layClean (SetTable.sizeAbove n - 1) (es.map (·.1)) with
  |none=>rw[hq]at e;cases e
  |some ow=>
   rw[hq]at e
   cases e
   dsimp only
   split
   ·exact hp
   ·rfl
 ·rfl
def TxSet(prog:Program)(w:World)(h:Heap)(a:Addr)(L:List Str):Prop:=
 ∃o es ep t,h.get? a=some o/\o.ExactSet/\o.data= .set es ep t/\ElemsOf (PySem.strKind prog w) es.toList/\(es.toList.map fun e=>txOf e.2).Perm L/\L.Nodup
  /\es.size < scanBound/\t.fits es.size=true/\t.led=!(w.params.followText "set-order")/\(t.plain=false∨es.size=0)
theorem TxSet.at{prog:Program}{w:World}{h h':Heap}{a:Addr}{L:List Str}(x:TxSet prog w h a L)(e:∀o,h.get? a=some o->h'.get? a=some o):TxSet prog w h' a L:=
 let ⟨o,es,ep,t,ho,r⟩:=x;⟨o,es,ep,t,e o ho,r⟩
section
variable {prog:Program}{w:World}{A:Around}{E:Value->Shared->Prop}{s:Shared}
theorem qT{es:Array (Int×Value)}(hel:ElemsOf (PySem.strKind prog w) es.toList)(x:Str):
  (es.toList.findIdx? (fun e=>(PySem.strKind prog w).is x e.2)=none↔¬x∈es.toList.map fun e=>txOf e.2):=by
 rw[List.findIdx?_eq_none_iff]
 constructor
 ·intro h m
  obtain⟨e,he,ex⟩:=List.mem_map.mp m
  obtain⟨⟨k,hk,_⟩,_⟩:=hel e he
  obtain⟨t,et⟩:=Value.isStrOf_shape hk
  have q:=h e he
  rw[et]at ex q
  have ekx:k=x:=ex
  subst ekx
  have q':(PySem.strKind prog w).is k (.str k t)=true:=strKind_is prog w k t
  rw[q']at q;cases q
 ·intro h e he
  cases q:(PySem.strKind prog w).is x e.2 with
  |false=>rfl
  |true=>
   obtain⟨t,et⟩:=Value.isStrOf_shape q
   exact absurd (List.mem_map.mpr ⟨e,he,by rw[et];rfl⟩) h
theorem qU{a:Addr}{o:Obj}{es es':Array (Int×Value)}{ep:Nat}{t t':SetTable}{L:List Str}(ho:s.heap.get? a=some o)(hx:o.ExactSet)(hd:o.data= .set es ep t)
  (h1:ElemsOf (PySem.strKind prog w) es'.toList) (h2:(es'.toList.map fun e=>txOf e.2).Perm L) (h3:L.Nodup) (h4:es'.size < scanBound) (h5:t'.fits es'.size=true)
  (h6:t'.led=!(w.params.followText "set-order")) (h7:t'.plain=false):
  (s.heap.update a (Obj.putSet es' t')).get? a=some { o with data:=.set es' (ep+1) t' }/\TxSet prog w (s.heap.update a (Obj.putSet es' t')) a L:=by
 have hg:(s.heap.update a (Obj.putSet es' t')).get? a=some { o with data:=.set es' (ep+1) t' }:=by
  have q:=Heap.get?_update_self (Obj.putSet es' t') ho (by rw[putSet_of es' t' hd];rfl)
  rwa [putSet_of es' t' hd]at q
 exact⟨hg,_,es',ep+1,t',hg,hx,rfl,h1,h2,h3,h4,h5,h6,.inl h7⟩
theorem Qr{a : Addr}{L : List Str}{x : Str}{tk : Tok}{Q : Bool -> Shared -> Prop}(hS : TxSet prog w s.heap a L)(room : L.length + 1 < scanBound)
    (h : ∀ b h' tk', Heap.SameBut a s.heap h' -> TxSet prog w h' a (if x ∈ L then L else L ++ [x]) -> s.toks <= tk' -> Q b { s with heap := h', toks := tk' }) :
    wpAny (model prog w) A (setAdd a (.str x tk)) Q E s := by
  obtain ⟨o, es, ep, t, ho, hx, hd, hel, hp, hnd, hb, hf, hl, hpl⟩ := hS
  have hkey : (PySem.strKind prog w).is x (.str x tk) = true := strKind_is prog w x tk
  have hlen : es.size = L.length := by rw [<- hp.length_eq, List.length_map, Array.length_toList]
  unfold setAdd
  refine wpAny_holding (wpAny_bind ((PySem.strKind prog w).pyHash (k := x) hkey ?_))
  unfold setAddHashed setAddHashedIn
  refine wpAny_holding (wpAny_bind (wpAny_setState_of (s := { s with toks := s.toks + 1 }) ho hd hf ?_))
  dsimp only
  rw [byScan_of rfl hb hel]
  simp only [↓reduceIte]
  unfold setAddByScan
  refine wpAny_bind (wpAny_bind (wpAny_rule (wpAny_bind (wpAny_setScan_of (knd := PySem.strKind prog w) hkey ho hd hf hel ?_))))
  cases hr : List.findIdx? (fun e => (PySem.strKind prog w).is x e.2) es.toList with
  | some j =>
    dsimp only
    have hm : x ∈ L := by
      refine Decidable.byContradiction fun hn => ?_
      have q := (qT (prog := prog) (w := w) hel x).mpr fun m => hn (hp.mem_iff.mp m)
      rw [q] at hr; cases hr
    have q := h false s.heap (s.toks + 1) (Heap.SameBut.refl a s.heap) (by rw [if_pos hm]; exact ⟨o, es, ep, t, ho, hx, hd, hel, hp, hnd, hb, hf, hl, hpl⟩) (Nat.le_succ _)
    exact wpAny_pure (wpAny_pure q)
  | none =>
    dsimp only
    have hm : ¬ x ∈ L := fun m => (qT (prog := prog) (w := w) hel x).mp hr (hp.mem_iff.mpr m)
    have way : ∀ (b : Bool) {s₁ : Shared} {Q' : Unit -> Shared -> Prop}, Q' () s₁ -> wpAny (model prog w) A (match b with | true => rule "set.scan.the-table-gave-way" | false => pure ()) Q' E s₁ := by
      intro b s₁ Q' hq
      cases b
      · exact wpAny_pure hq
      · exact wpAny_rule hq
    have p1 := layNew_perm t es ((PySem.strKind prog w).hash x) (.str x tk)
    have f1 := layNew_fits t es ((PySem.strKind prog w).hash x) (.str x tk)
    have l1 := Q0 t es ((PySem.strKind prog w).hash x) (.str x tk)
    generalize layNew t es ((PySem.strKind prog w).hash x) (.str x tk) = N at p1 f1 l1 ⊢
    obtain ⟨es1, t1, was, gave⟩ := N
    dsimp only at p1 f1 l1 ⊢
    rw [Array.toList_push] at p1
    have el1 : ElemsOf (PySem.strKind prog w) es1.toList := (hel.push hkey rfl).perm p1
    have pp1 : (es1.toList.map fun e => txOf e.2).Perm (L ++ [x]) := by
      refine (p1.map _).trans ?_
      rw [List.map_append]
      exact hp.append_right _
    have nd1 : (L ++ [x]).Nodup := List.nodup_append.mpr ⟨hnd, by simp, fun y hy z hz e => by rw [List.mem_singleton] at hz; subst hz; subst e; exact hm hy⟩
    have sz1 : es1.size = es.size + 1 := by rw [<- Array.length_toList, p1.length_eq, List.length_append, Array.length_toList]; rfl
    have b1 : es1.size < scanBound := by rw [sz1, hlen]; exact room
    refine wpAny_bind (way _ ?_)
    have tail : ∀ t2 : SetTable, t2.fits es1.size = true -> t2.led = t.led -> t2.plain = false ->
        wpAny (model prog w) A (do
          storeSet a es1 t2
          if (!was && t2.tooFull) = true then do
              (match (relayAll t2 es1 (SetTable.grown es1.size)).2.2 with | true => rule "set.scan.the-table-gave-way" | false => pure ())
              storeSet a (relayAll t2 es1 (SetTable.grown es1.size)).1 (relayAll t2 es1 (SetTable.grown es1.size)).2.1
              pure (some true)
            else pure (some true)) (fun r s' => r = some true /\ Q true s') E { s with toks := s.toks + 1 } := by
      intro t2 g1 g2 g3
      refine wpAny_bind (wpAny_storeSet_of (s := { s with toks := s.toks + 1 }) ho hd ?_ (fits_of_scanBound b1))
      obtain ⟨o1, S1⟩ := qU (s := s) (prog := prog) (w := w) ho hx hd el1 pp1 nd1 b1 g1 (g2.trans hl) g3
      have sb1 := Heap.SameBut.update s.heap a (Obj.putSet es1 t2)
      split
      · have p2 := relayAll_perm t2 es1 (SetTable.grown es1.size)
        have f2 := relayAll_fits t2 es1 (SetTable.grown es1.size)
        have l2 := KL t2 es1 (SetTable.grown es1.size)
        have q2 := JH t2 es1 (SetTable.grown es1.size) g3
        generalize relayAll t2 es1 (SetTable.grown es1.size) = Z at p2 f2 l2 q2 ⊢
        obtain ⟨es2, t3, gave2⟩ := Z
        dsimp only at p2 f2 l2 q2 ⊢
        have sz2 : es2.size = es1.size := by rw [<- Array.length_toList, p2.length_eq, Array.length_toList]
        have b2 : es2.size < scanBound := by rw [sz2]; exact b1
        refine wpAny_bind (way _ (wpAny_bind (wpAny_storeSet_of (s := { s with heap := s.heap.update a (Obj.putSet es1 t2), toks := s.toks + 1 }) o1 rfl ?_ (fits_of_scanBound b2))))
        obtain ⟨_, S2⟩ := qU (s := { s with heap := s.heap.update a (Obj.putSet es1 t2) }) (prog := prog) (w := w) o1 hx rfl (el1.perm p2) ((p2.map _).trans pp1) nd1 b2 f2 (l2.trans (g2.trans hl)) q2
        exact wpAny_pure ⟨rfl, h true _ _ (sb1.trans (Heap.SameBut.update _ a _)) (by rw [if_neg hm]; exact S2) (Nat.le_succ _)⟩
      · exact wpAny_pure ⟨rfl, h true _ _ sb1 (by rw [if_neg hm]; exact S1) (Nat.le_succ _)⟩
    split
    · rename_i tp
      refine wpAny_bind ?_
      rw [hashByValue_scannable 8 (x := .str x tk) rfl]
      refine wpAny_pure ?_
      have e0 : plainKind (.str x tk) = false := rfl
      rw [e0]
      simp only [Bool.false_eq_true, ↓reduceIte]
      refine wpAny_mono (tail { t1 with plain := false } (SetTable.fits_plain_off f1) l1 rfl) (fun r s' q => ?_) fun _ _ z => z
      obtain ⟨rfl, q⟩ := q
      exact wpAny_pure q
    · rename_i tp
      refine wpAny_bind (wpAny_pure ?_)
      simp only [↓reduceIte]
      refine wpAny_mono (tail t1 f1 l1 (by simpa using tp)) (fun r s' q => ?_) fun _ _ z => z
      obtain ⟨rfl, q⟩ := q
      exact wpAny_pure q
end
noncomputable def freshSet(w:World):Obj:={ cls:=.type "set",dict:=none,data:=.set #[] 0 (.fresh 0 0 (!(w.params.followText "set-order"))) }
section
variable {prog:Program}{w:World}{A:Around}{E:Value->Shared->Prop}{s:Shared}
theorem Qs{h:Heap}{a:Addr}(e:h.get? a=some (freshSet w)):TxSet prog w h a []:=
 ⟨_,#[],0,_,e,⟨rfl,rfl,rfl⟩,rfl,fun _ z=>by simp at z,by simp,List.nodup_nil,(by decide:(0:Nat) < scanBound),rfl,rfl,.inr rfl⟩
theorem JV(a:Value){G:Value->Shared->Prop}(h:G (.ref s.heap.objs.size) { s with heap:=s.heap.push (freshSet w) }):
  codeAny (model prog w) A (.call (.builtin "set.__new__") ⟨[.type "set",a],[]⟩) (wants G E) s:=by
 refine codeAny_of_tree ?_
 show wpAny _ A.in1 (do checkBuiltinCall "set.__new__" _;again (.builtin "set.__new__" _)) _ _ s
 refine wpAny_bind (wpAny_of_eq (PySem.F.newCall_set_1 a) (wpAny_pure ⟨plainId_quiet PySem.F.plain_set_new _,codeAny_builtin PySem.F.entry_set_new ?_⟩))
 rw[Around.under_plainId PySem.F.plain_set_new]
 unfold Builtin.«set.__new__» Builtin.Frozenset.newClass
 have ok:=sub_set_self
 obtain⟨H,g,d,tk,os⟩:=s
 dsimp only
 wp_walk
 refine wpAny_askSetting (wpAny_pure ?_)
 dsimp only
 simp only[newObj]
 exact wpAny_bind (wpAny_alloc (wpAny_pure (wpAny_pure h)))
end
theorem StrsAre.at':∀{vs:List Value} {ss:List Str},StrsAre vs ss->∀(i:Nat) (v:Value),vs[i]?=some v->∃x t,ss[i]?=some x/\v= .str x t
 |_,_,.nil,i,v,h=>by simp at h
 |_,_,.cons y t r,0,v,h=>by simp at h;exact⟨y,t,rfl,h.symm⟩
 |_,_,.cons y t r,i+1,v,h=>by
  simp only[List.getElem?_cons_succ]at h
  obtain⟨x,t',e,e'⟩:=StrsAre.at' r i v h
  exact⟨x,t',by simpa using e,e'⟩
theorem StrsAre.len:∀{vs:List Value} {ss:List Str},StrsAre vs ss->ss.length=vs.length
 |_,_,.nil=>rfl
 |_,_,.cons _ _ r=>by simp [StrsAre.len r]
theorem jW:Slot "set_iterator" "__next__" "set_iterator.__next__":=by
 refine .of (owner:="set_iterator") (n:="__next__") ?_ (by decide+kernel) (by decide+kernel) (by decide+kernel) ?_ ?_
 ·rw[typeLookup_type,builtinLookup_eq_fast];kernel_rfl
 ·first |exact .inl (by decide+kernel) |exact .inr (by decide+kernel)
 ·rw[isSubtype_type];kernel_rfl
theorem zI:Slot "set_iterator" "__iter__" "set_iterator.__iter__":=by
 refine .of (owner:="set_iterator") (n:="__iter__") ?_ (by decide+kernel) (by decide+kernel) (by decide+kernel) ?_ ?_
 ·rw[typeLookup_type,builtinLookup_eq_fast];kernel_rfl
 ·first |exact .inl (by decide+kernel) |exact .inr (by decide+kernel)
 ·rw[isSubtype_type];kernel_rfl
theorem qL:entryFor table "set_iterator.__next__"=some Builtin.«set_iterator.__next__»:=entryFor_of_tree (by kernel_rfl)
theorem qM:entryFor table "set_iterator.__iter__"=some Builtin.«dict_keyiterator.__iter__»:=by
 refine entryFor_alias (id':="dict_keyiterator.__iter__") ?_ rfl (by decide+kernel) ?_<;>kernel_rfl
theorem qZ:entryFor table "set.__iter__"=some Builtin.«frozenset.__iter__»:=by
 refine entryFor_alias (id':="frozenset.__iter__") ?_ rfl (by decide+kernel) ?_<;>kernel_rfl
theorem q9(a:Value):argsOk "set_iterator.__next__" ⟨[a],[]⟩:=by unfold argsOk;kernel_rfl
theorem Ja(a:Value):argsOk "set_iterator.__iter__" ⟨[a],[]⟩:=by unfold argsOk;kernel_rfl
def SetIt(h:Heap)(I:Addr)(f:Value)(i:Nat)(S:Addr)(n ep:Nat):Prop:=
 ∃o,h.get? I=some o/\o.cls= .type "set_iterator"/\o.data= .fields #[f,.int i 0,.ref S,.int n 0,.int ep 0]
theorem SetIt.at{h h':Heap}{I:Addr}{f:Value}{i:Nat}{S:Addr}{n ep:Nat}(x:SetIt h I f i S n ep)(e:∀o,h.get? I=some o->h'.get? I=some o):SetIt h' I f i S n ep:=
 let ⟨o,ho,r⟩:=x;⟨o,e o ho,r⟩
theorem SetIt.is{s:Shared}{I:Addr}{f:Value}{i:Nat}{S:Addr}{n ep:Nat}(x:SetIt s.heap I f i S n ep):s.TypeIs (.ref I) "set_iterator":=let ⟨o,ho,hc,_⟩:=x;⟨o,ho,hc⟩
section
variable {prog:Program}{w:World}{A:Around}{E:Value->Shared->Prop}{s:Shared}
theorem Jd{α:Type}{Q:α->Shared->Prop}(hh:A.handled=none)
  (h:∀h' e,(∀b o,s.heap.get? b=some o->h'.get? b=some o)->Shared.TypeIs { s with heap:=h' } e "StopIteration"->E e { s with heap:=h' }):
  wpAny (model prog w) A (do raiseNew (<- newExc (.type "StopIteration") []):Sem α) Q E s:=by
 refine wpAny_bind ?_
 simp only[newExc,newTuple]
 refine wpAny_bind (wpAny_newObj_type ?_ (by size_fits))
 refine wpAny_bind (m:=firstArgMember _ _) (wpAny_of_eq (a:=Value.none) ?_ ?_)
 ·first |rfl | (simp only[firstArgMember];rfl)
 refine wpAny_newObj_type ?_ (by size_fits)
 simp only[raiseNew]
 refine wpAny_bind (wpAny_handled ?_)
 rw[hh]
 refine wpAny_bind (wpAny_pure (wpAny_throw (h _ _ (fun b o e=>Heap.get?_push_of_some _ (Heap.get?_push_of_some _ e)) ?_)))
 exact⟨_,Heap.get?_push_size _ rfl,rfl⟩
theorem Je{I:Addr}{f:Value}{i:Nat}{S:Addr}{n ep:Nat}{Q:Option Value->Shared->Prop}(hit:SetIt s.heap I f i S n ep)
  (h:wpAny (model prog w) A.in1 (Builtin.«set_iterator.__next__» ⟨[.ref I],[]⟩) (fun fin s'=>∃v,fin= .done (.ret v)/\Q (some v) s') (fun e s'=>s'.TypeIs e "StopIteration"/\Q none s') s):
  wpAny (model prog w) A (pyNext (.ref I)) Q E s:=by
 unfold pyNext
 refine wpAny_bind (wpAny_attempt (wpAny_callSpecial?_slot (name:=Str.ofString "__next__") hit.is jW (wpAny_call_entry jW hit.is qL ?_ (q9 _))))
 refine wpAny_mono h (fun fin s' q=>?_) fun e s' q=>?_
 ·obtain⟨v,e,q⟩:=q
  exact⟨v,e,wpAny_pure q⟩
 ·exact wpAny_bind (wpAny_isInstance (T:="StopIteration") (b:=true) q.1 isSubtype_stop (wpAny_pure q.2))
theorem Km{I:Addr}{f:Value}{i:Nat}{S:Addr}{n ep:Nat}{o:Obj}{vs:Array Value}(ho:s.heap.get? I=some o)(hc:o.cls= .type "set_iterator")(hd:o.data= .fields vs)(k:Nat)(x:Value)
  (e:vs.setIfInBounds k x=#[f,.int i 0,.ref S,.int n 0,.int ep 0]):SetIt (s.heap.update I (Obj.mapFields (·.setIfInBounds k x))) I f i S n ep:=
 ⟨_,Heap.get?_update_self _ ho (Obj.isFreed_of_fields (Obj.data_mapFields hd _)),(Obj.cls_mapFields ..).trans hc,by rw[Obj.data_mapFields hd,e]⟩
theorem Q1{I S P:Addr}{i:Nat}{oS oP:Obj}{es:Array (Int×Value)}{ep:Nat}{t:SetTable}{ps:Array Value}{c p:Nat}{hx:Int}{x:Value}{Q:Option Value->Shared->Prop}
  (hit:SetIt s.heap I (.ref P) i S es.size ep) (hS:s.heap.get? S=some oS) (hdS:oS.data= .set es ep t) (hf:t.fits es.size=true) (hP:s.heap.get? P=some oP) (hdP:oP.data= .seq ps c)
  (hi:ps[i]?=some (.int p 0)) (he:es[p]?=some (hx,x)) (hQ:∀h',SetIt h' I (.ref P) (i+1) S es.size ep->Heap.SameBut I s.heap h'->Q (some x) { s with heap:=h' }):
  wpAny (model prog w) A (pyNext (.ref I)) Q E s:=by
 refine Je hit ?_
 obtain⟨o,ho,hc,hd⟩:=hit
 show wpAny _ _ (fieldsOf (.ref I) >>= _) _ _ s
 refine wpAny_bind (wpAny_fieldsOf ho hd ?_)
 dsimp only
 refine wpAny_bind (wpAny_setEntries_of hS hdS hf ?_)
 simp only[bne_self_eq_false,Bool.false_eq_true,↓reduceIte]
 refine wpAny_bind (wpAny_seqItems hP hdP ?_)
 simp only[Int.toNat_natCast,hi]
 unfold setNextDrawn
 refine wpAny_bind (wpAny_bind (wpAny_setState_of hS hdS hf ?_))
 simp only[bne_self_eq_false,Bool.false_eq_true,↓reduceIte,he]
 refine wpAny_pure ?_
 refine wpAny_bind (wpAny_setField ho hd (by simp) (wpAny_pure ⟨x,rfl,hQ _ ?_ (Heap.SameBut.update ..)⟩))
 exact Km ho hc hd _ _ (by simp [rawInt])
theorem JI(hh:A.handled=none){I S P:Addr}{i:Nat}{oS oP:Obj}{es:Array (Int×Value)}{ep:Nat}{t:SetTable}{ps:Array Value}{c:Nat}{Q:Option Value->Shared->Prop}
  (hit:SetIt s.heap I (.ref P) i S es.size ep) (hS:s.heap.get? S=some oS) (hdS:oS.data= .set es ep t) (hf:t.fits es.size=true) (hP:s.heap.get? P=some oP) (hdP:oP.data= .seq ps c)
  (hi:ps[i]?=none) (hQ:∀h',(∀b o,b≠I->s.heap.get? b=some o->h'.get? b=some o)->Q none { s with heap:=h' }):
  wpAny (model prog w) A (pyNext (.ref I)) Q E s:=by
 refine Je hit ?_
 obtain⟨o,ho,hc,hd⟩:=hit
 show wpAny _ _ (fieldsOf (.ref I) >>= _) _ _ s
 refine wpAny_bind (wpAny_fieldsOf ho hd ?_)
 dsimp only
 refine wpAny_bind (wpAny_setEntries_of hS hdS hf ?_)
 simp only[bne_self_eq_false,Bool.false_eq_true,↓reduceIte]
 refine wpAny_bind (wpAny_seqItems hP hdP ?_)
 simp only[Int.toNat_natCast,hi]
 refine wpAny_bind (wpAny_setField ho hd (by simp) ?_)
 refine wpAny_bind (wpAny_setField (Heap.get?_update_self _ ho (Obj.isFreed_of_fields (Obj.data_mapFields hd _))) (Obj.data_mapFields hd _) (by simp) ?_)
 refine Jd (s:={ s with heap:=_ }) (by simpa using hh) fun h' e k te=>⟨te,hQ h' fun b o hb eb=>k b o ?_⟩
 exact(Heap.get?_update_other _ _ (Ne.symm hb)).trans ((Heap.get?_update_other _ _ (Ne.symm hb)).trans eb)
end
section
variable {prog:Program}{w:World}{A:Around}{E:Value->Shared->Prop}{s:Shared}
theorem Kn{I S:Addr}{i j nx:Nat}{oS:Obj}{es:Array (Int×Value)}{ep:Nat}{t:SetTable}{x:Value}{Q:Option Value->Shared->Prop}
  (hit:SetIt s.heap I (.int j 0) i S es.size ep) (hS:s.heap.get? S=some oS) (hdS:oS.data= .set es ep t) (hf:t.fits es.size=true)
  (hn:∀(Q':Option (Value×Nat)->Shared->Prop) E',Q' (some (x,nx)) s->wpAny (model prog w) A.in1 (setNext S j i ep) Q' E' s)
  (hQ:∀h',SetIt h' I (.int nx 0) (i+1) S es.size ep->Heap.SameBut I s.heap h'->Q (some x) { s with heap:=h' }):
  wpAny (model prog w) A (pyNext (.ref I)) Q E s:=by
 refine Je hit ?_
 obtain⟨o,ho,hc,hd⟩:=hit
 show wpAny _ _ (fieldsOf (.ref I) >>= _) _ _ s
 refine wpAny_bind (wpAny_fieldsOf ho hd ?_)
 dsimp only
 refine wpAny_bind (wpAny_setEntries_of hS hdS hf ?_)
 simp only[bne_self_eq_false,Bool.false_eq_true,↓reduceIte]
 simp only[Int.toNat_natCast]
 refine wpAny_bind (hn _ _ ?_)
 dsimp only
 refine wpAny_bind (wpAny_setField ho hd (by simp) ?_)
 have g1:=Heap.get?_update_self (Obj.mapFields (·.setIfInBounds 0 (rawInt nx))) ho (Obj.isFreed_of_fields (Obj.data_mapFields hd _))
 have d1:=Obj.data_mapFields hd (·.setIfInBounds 0 (rawInt nx))
 refine wpAny_bind (wpAny_setField g1 d1 (by simp) (wpAny_pure ⟨x,rfl,hQ _ ?_ ((Heap.SameBut.update ..).trans (Heap.SameBut.update ..))⟩))
 exact Km (s:={ s with heap:=_ }) g1 ((Obj.cls_mapFields ..).trans hc) d1 _ _ (by simp [rawInt])
theorem zY(hh:A.handled=none){I S:Addr}{i j:Nat}{oS:Obj}{es:Array (Int×Value)}{ep:Nat}{t:SetTable}{Q:Option Value->Shared->Prop}
  (hit:SetIt s.heap I (.int j 0) i S es.size ep) (hS:s.heap.get? S=some oS) (hdS:oS.data= .set es ep t) (hf:t.fits es.size=true)
  (hn:∀(Q':Option (Value×Nat)->Shared->Prop) E',Q' none s->wpAny (model prog w) A.in1 (setNext S j i ep) Q' E' s)
  (hQ:∀h',(∀b o,b≠I->s.heap.get? b=some o->h'.get? b=some o)->Q none { s with heap:=h' }):
  wpAny (model prog w) A (pyNext (.ref I)) Q E s:=by
 refine Je hit ?_
 obtain⟨o,ho,hc,hd⟩:=hit
 show wpAny _ _ (fieldsOf (.ref I) >>= _) _ _ s
 refine wpAny_bind (wpAny_fieldsOf ho hd ?_)
 dsimp only
 refine wpAny_bind (wpAny_setEntries_of hS hdS hf ?_)
 simp only[bne_self_eq_false,Bool.false_eq_true,↓reduceIte]
 simp only[Int.toNat_natCast]
 refine wpAny_bind (hn _ _ ?_)
 dsimp only
 refine wpAny_bind (wpAny_setField ho hd (by simp) ?_)
 refine Jd (s:={ s with heap:=_ }) (by simpa using hh) fun h' e k te=>⟨te,hQ h' fun b o hb eb=>k b o ?_⟩
 exact(Heap.get?_update_other _ _ (Ne.symm hb)).trans eb
theorem qy(ht:w.params.followText "set-order"=true){S:Addr}{j i:Nat}{oS:Obj}{es:Array (Int×Value)}{ep:Nat}{t:SetTable}(hS:s.heap.get? S=some oS)(hdS:oS.data= .set es ep t)
  (hf:t.fits es.size=true) {Q:Option (Value×Nat)->Shared->Prop} (h:Q (((pickOrder (w.params.setOrder S ep) es)[i]?).map fun e=>(e.2,j)) s):
  wpAny (model prog w) A (setNext S j i ep) Q E s:=by
 unfold setNext
 refine wpAny_bind (wpAny_setState_of hS hdS hf ?_)
 dsimp only
 unfold setsByText
 refine wpAny_bind (wpAny_bind (wpAny_askSetting (wpAny_pure ?_)))
 dsimp only
 rw[show(model prog w).w.params.followText "set-order"=_ from ht]
 simp only[↓reduceIte,bne_self_eq_false,Bool.false_eq_true]
 unfold setWalk
 refine wpAny_bind (wpAny_bind (wpAny_setState_of hS hdS hf ?_))
 dsimp only
 unfold setsByText
 refine wpAny_bind (wpAny_bind (wpAny_askSetting (wpAny_pure ?_)))
 dsimp only
 rw[show(model prog w).w.params.followText "set-order"=_ from ht]
 simp only[↓reduceIte]
 exact wpAny_bind (wpAny_askSetting (wpAny_pure (wpAny_pure h)))
theorem qV(ht:w.params.followText "set-order"=false){S:Addr}{j i:Nat}{oS:Obj}{es:Array (Int×Value)}{ep:Nat}{t:SetTable}(hS:s.heap.get? S=some oS)(hdS:oS.data= .set es ep t)
  (hf:t.fits es.size=true) (hl:t.led=true) (hs:es.size<=1) {Q:Option (Value×Nat)->Shared->Prop}
  (h:Q (match es[SetTable.below t.place j]?,t.place[SetTable.below t.place j]? with |some (_,x),some k=>some (x,k+1) |_,_=>none) s):
  wpAny (model prog w) A (setNext S j i ep) Q E s:=by
 unfold setNext
 refine wpAny_bind (wpAny_setState_of hS hdS hf ?_)
 dsimp only
 unfold setsByText
 refine wpAny_bind (wpAny_bind (wpAny_askSetting (wpAny_pure ?_)))
 dsimp only
 rw[show(model prog w).w.params.followText "set-order"=_ from ht]
 simp only[Bool.false_eq_true,↓reduceIte]
 split
 ·rename_i z
  have z':(!t.plain&&decide (es.size > 1))=true:=z
  simp only[Bool.and_eq_true,decide_eq_true_eq]at z'
  omega
 ·refine wpAny_bind ?_
  show wpAny _ _ (if (!t.led&&!es.isEmpty)=true then _ else _) _ _ _
  rw[hl]
  simp only[Bool.not_true,Bool.false_and,Bool.false_eq_true,↓reduceIte]
  exact wpAny_pure (wpAny_pure h)
end
theorem Qt{α:Type}(f:Nat->Nat):∀(n k:Nat) (l:List α) (out:Array α),l.length=n->(pickOrder.go f n k l out).toList.Perm (out.toList++l):=by
 intro n
 induction n with
 |zero=>
  intro k l out h
  rw[List.length_eq_zero_iff.mp h]
  unfold pickOrder.go
  simp
 |succ n ih=>
  intro k l out h
  unfold pickOrder.go
  have hi:f k % l.length < l.length:=Nat.mod_lt _ (by omega)
  rw[List.getElem?_eq_getElem hi]
  dsimp only
  refine(ih _ _ _ (by rw[List.length_eraseIdx_of_lt hi,h];rfl)).trans ?_
  rw[Array.toList_push,List.append_assoc,List.singleton_append]
  refine List.Perm.append_left _ ?_
  rw[List.eraseIdx_eq_take_drop_succ]
  refine List.perm_middle.symm.trans ?_
  rw[List.getElem_cons_drop,List.take_append_drop]
theorem j7{α:Type}(f:Nat->Nat)(xs:Array α):(pickOrder f xs).toList.Perm xs.toList:=by
 have h:=Qt f xs.size 0 xs.toList #[] (Array.length_toList ..)
 simpa [pickOrder] using h
theorem K7{α:Type}(xs:Array α)(d:α):(List.range xs.size).map (fun p=>(xs[p]?).getD d)=xs.toList:=by
 refine List.ext_getElem (by simp) fun i h1 h2=>?_
 have h3:i < xs.size:=by simpa using h2
 simp [h3]
def ItAt(ord:List (Int×Value))(i:Nat)(v:Value):Prop:=∃e,ord[i]?=some e/\v=e.2
section
variable {prog:Program}{w:World}{A:Around}{E:Value->Shared->Prop}{s:Shared}
theorem qh{I:Addr}{f:Value}{i:Nat}{S:Addr}{n ep:Nat}(hit:SetIt s.heap I f i S n ep){Q:Value->Shared->Prop}(h:Q (.ref I) s):wpAny (model prog w) A (pyIter (.ref I)) Q E s:=by
 refine wpAny_pyIter_slot hit.is zI (wpAny_call_entry zI hit.is qM ?_ (Ja _))
 show wpAny _ _ (ret (.ref I)) _ _ s
 exact wpAny_pure ⟨_,rfl,"set_iterator",_,hit.is,jW.lookup,h⟩
theorem Q2(hh:A.handled=none)(I S P:Addr)(hIS:S≠I)(hIP:P≠I){oS oP:Obj}{es:Array (Int×Value)}{ep:Nat}{t:SetTable}{ys:List Nat}{c:Nat}(hdS:oS.data= .set es ep t)
  (hf:t.fits es.size=true) (hdP:oP.data= .seq (ys.map fun(i:Nat)=>rawInt i).toArray c) (hy:ys.Perm (List.range es.size)):
  WalksS prog w A I [I,S,P] [I] (fun a b=>b=a) es.size (ItAt (ys.map fun p=>(es[p]?).getD (0,.none)))
   (fun i s=>SetIt s.heap I (.ref P) i S es.size ep/\s.heap.get? S=some oS/\s.heap.get? P=some oP) where
 sub:=fun b hb=>by simp at hb;simp [hb]
 grefl:=fun _=>rfl
 gtrans:=fun _ _ _ h1 h2=>h2.trans h1
 frame:=fun i s h' tk st _ k=>⟨st.1.at fun o e=>k I (by simp) o e,k S (by simp) _ st.2.1,k P (by simp) _ st.2.2⟩
 item:=fun i s Q E hi st hQ=>by
  have hl:ys.length=es.size:=by rw[hy.length_eq,List.length_range]
  have hi':i < ys.length:=by omega
  have hp:ys[i] < es.size:=List.mem_range.mp (hy.mem_iff.mp (List.getElem_mem hi'))
  refine Q1 (p:=ys[i]) (hx:=(es[ys[i]]).1) (x:=(es[ys[i]]).2) st.1 st.2.1 hdS hf st.2.2 hdP (by simp [hi',rawInt]) (by simp [hp]) fun h' q sb=>?_
  refine hQ _ _ ⟨es[ys[i]],by simp [hi',hp],rfl⟩ ⟨q,?_,?_⟩ ⟨fun b o hb e=>?_,rfl,rfl,rfl,Nat.le_refl _⟩
  ·rw[sb.2 S hIS];exact st.2.1
  ·rw[sb.2 P hIP];exact st.2.2
  ·rw[sb.2 b (fun z=>hb (by simp [z]))];exact e
 done:=fun s Q E st hQ=>by
  have hl:ys.length=es.size:=by rw[hy.length_eq,List.length_range]
  refine JI hh st.1 st.2.1 hdS hf st.2.2 hdP (by simp [hl]) fun h' k=>hQ _ ⟨fun b o hb e=>k b o (fun z=>hb (by simp [z])) e,rfl,rfl,rfl,Nat.le_refl _⟩
 self:=fun _ _ _ _ st hQ=>qh st.1 hQ
theorem Yn(hh:A.handled=none)(ht:w.params.followText "set-order"=true)(I S:Addr)(hIS:S≠I){oS:Obj}{es:Array (Int×Value)}{ep:Nat}{t:SetTable}(hdS:oS.data= .set es ep t)
  (hf:t.fits es.size=true):
  WalksS prog w A I [I,S] [I] (fun a b=>b=a) es.size (ItAt (pickOrder (w.params.setOrder S ep) es).toList)
   (fun i s=>SetIt s.heap I (.int (0:Nat) 0) i S es.size ep/\s.heap.get? S=some oS) where
 sub:=fun b hb=>by simp at hb;simp [hb]
 grefl:=fun _=>rfl
 gtrans:=fun _ _ _ h1 h2=>h2.trans h1
 frame:=fun i s h' tk st _ k=>⟨st.1.at fun o e=>k I (by simp) o e,k S (by simp) _ st.2⟩
 item:=fun i s Q E hi st hQ=>by
  have hl:(pickOrder (w.params.setOrder S ep) es).size=es.size:=by rw[<- Array.length_toList,(j7 _ _).length_eq,Array.length_toList]
  have hi':i < (pickOrder (w.params.setOrder S ep) es).size:=by omega
  refine Kn (x:=(pickOrder (w.params.setOrder S ep) es)[i].2) (nx:=0) st.1 st.2 hdS hf (fun Q' E' q=>qy ht st.2 hdS hf (by rw[Array.getElem?_eq_getElem hi'];exact q)) fun h' q sb=>?_
  refine hQ _ _ ⟨(pickOrder (w.params.setOrder S ep) es)[i],by rw[Array.getElem?_toList];exact Array.getElem?_eq_getElem hi',rfl⟩ ⟨q,?_⟩ ⟨fun b o hb e=>?_,rfl,rfl,rfl,Nat.le_refl _⟩
  ·rw[sb.2 S hIS];exact st.2
  ·rw[sb.2 b (fun z=>hb (by simp [z]))];exact e
 done:=fun s Q E st hQ=>by
  have hl:(pickOrder (w.params.setOrder S ep) es).size=es.size:=by rw[<- Array.length_toList,(j7 _ _).length_eq,Array.length_toList]
  refine zY hh st.1 st.2 hdS hf (fun Q' E' q=>qy ht st.2 hdS hf (by rw[Array.getElem?_eq_none (by omega)];exact q)) fun h' k=>hQ _ ⟨fun b o hb e=>k b o (fun z=>hb (by simp [z])) e,rfl,rfl,rfl,Nat.le_refl _⟩
 self:=fun _ _ _ _ st hQ=>qh st.1 hQ
theorem Q3(p:Nat):SetTable.below #[p] 0=0:=by simp [SetTable.below,SetTable.below.go]
theorem Q4(p:Nat):SetTable.below #[p] (p+1)=1:=by simp [SetTable.below,SetTable.below.go]
theorem ZE(hh:A.handled=none)(ht:w.params.followText "set-order"=false)(I S:Addr)(hIS:S≠I){oS:Obj}{es:Array (Int×Value)}{ep:Nat}{t:SetTable}(hdS:oS.data= .set es ep t)
  (hf:t.fits es.size=true) (hl:t.led=true) (hs:es.size<=1):
  WalksS prog w A I [I,S] [I] (fun a b=>b=a) es.size (ItAt es.toList)
   (fun i s=>(∃j:Nat,SetIt s.heap I (.int j 0) i S es.size ep/\(i=0->j=0)/\(i=1->∃p,t.place=#[p]/\j=p+1))/\s.heap.get? S=some oS) where
 sub:=fun b hb=>by simp at hb;simp [hb]
 grefl:=fun _=>rfl
 gtrans:=fun _ _ _ h1 h2=>h2.trans h1
 frame:=fun i s h' tk st _ k=>⟨let ⟨j,a,r⟩:=st.1;⟨j,a.at fun o e=>k I (by simp) o e,r⟩,k S (by simp) _ st.2⟩
 item:=fun i s Q E hi st hQ=>by
  obtain⟨⟨j,hit,j0,j1⟩,hS⟩:=st
  have e0:i=0:=by omega
  subst e0
  cases j0 rfl
  have e1:es.size=1:=by omega
  have hp:t.place.size=1:=by
   simp only[SetTable.fits,Bool.and_eq_true,beq_iff_eq]at hf
   omega
  obtain⟨p,ep'⟩:=Array.size_eq_one_iff.mp hp
  refine Kn (x:=(es[0]'(by omega)).2) (nx:=p+1) hit hS hdS hf (fun Q' E' q=>qV ht hS hdS hf hl hs (by rw[ep',Q3,Array.getElem?_eq_getElem (by omega)];exact q)) fun h' q sb=>?_
  refine hQ _ _ ⟨es[0]'(by omega),by rw[Array.getElem?_toList];exact Array.getElem?_eq_getElem (by omega),rfl⟩ ⟨⟨_,q,fun z=>by omega,fun _=>⟨p,ep',rfl⟩⟩,?_⟩ ⟨fun b o hb e=>?_,rfl,rfl,rfl,Nat.le_refl _⟩
  ·rw[sb.2 S hIS];exact hS
  ·rw[sb.2 b (fun z=>hb (by simp [z]))];exact e
 done:=fun s Q E st hQ=>by
  obtain⟨⟨j,hit,j0,j1⟩,hS⟩:=st
  refine zY hh hit hS hdS hf (fun Q' E' q=>qV ht hS hdS hf hl hs ?_) fun h' k=>hQ _ ⟨fun b o hb e=>k b o (fun z=>hb (by simp [z])) e,rfl,rfl,rfl,Nat.le_refl _⟩
  by_cases z:es.size=0
  ·rw[Array.getElem?_eq_none (show es.size<=_ by omega)];exact q
  ·have e1:es.size=1:=by omega
   obtain⟨p,e2,e3⟩:=j1 e1
   subst e3
   rw[e2,Q4,Array.getElem?_eq_none (show es.size<=1 by omega)];exact q
 self:=fun _ _ _ _ st hQ=>let ⟨⟨_,a,_⟩,_⟩:=st;qh a hQ
end
theorem zF{prog:Program}{w:World}{es:List (Int×Value)}(h:ElemsOf (PySem.strKind prog w) es)(i:Nat)(v:Value)(hv:ItAt es i v):∃x t,(es.map fun e=>txOf e.2)[i]?=some x/\v= .str x t:=by
 obtain⟨e,he,rfl⟩:=hv
 obtain⟨⟨k,hk,_⟩,_⟩:=h e (List.mem_of_getElem? he)
 obtain⟨t,et⟩:=Value.isStrOf_shape hk
 exact⟨k,t,by rw[List.getElem?_map,he];show some (txOf e.2)=_;rw[et];rfl,et⟩
def TxWalk(prog:Program)(w:World)(s s':Shared)(S I:Addr)(L:List Str):Prop:=
 ∃(fp:List Addr) (ss:List Str) (P:Nat->Value->Prop) (St:Nat->Shared->Prop),(∀b o,s.heap.get? b=some o->s'.heap.get? b=some o)/\s'.gens=s.gens/\s'.os=s.os/\s.toks<=s'.toks/\
  s.heap.objs.size<=I/\I < s'.heap.objs.size/\s'.TypeIs (.ref I) "set_iterator"/\(∀b∈fp,b=S∨s.heap.objs.size<=b)/\(∀A':Around,A'.handled=none->WalksS prog w A' I fp [I] (fun a b=>b=a) ss.length P St)/\St 0 s'/\
  (∀i v,P i v->∃x t,ss[i]?=some x/\v= .str x t)/\ss.Perm L
section
variable {prog:Program}{w:World}{A:Around}{E:Value->Shared->Prop}{s:Shared}
theorem Q5{S:Addr}{L:List Str}(hS:TxSet prog w s.heap S L){Q:Value->Shared->Prop}(h:∀s' I,TxWalk prog w s s' S I L->Q (.ref I) s'):wpAny (model prog w) A (pyIter (.ref S)) Q E s:=by
 obtain⟨o,es,ep,t,ho,hx,hd,hel,hp,hnd,hb,hf,hl,hpl⟩:=hS
 have hT:s.TypeIs (.ref S) "set":=⟨o,ho,hx.1⟩
 have hlt:S < s.heap.objs.size:=Heap.lt_size ho
 refine wpAny_pyIter_slot hT PySem.F.slot_set_iter (wpAny_call_entry PySem.F.slot_set_iter hT qZ ?_ (PySem.F.args_set_iter_1 _))
 unfold Builtin.«frozenset.__iter__»
 show wpAny _ _ (Builtin.Frozenset.sizeOf S >>= _) _ _ s
 unfold Builtin.Frozenset.sizeOf
 refine wpAny_bind (wpAny_bind (wpAny_setEntries_of ho hd hf (wpAny_pure ?_)))
 unfold setDrawn
 refine wpAny_bind (wpAny_bind (wpAny_setState_of ho hd hf ?_))
 dsimp only
 unfold setsByText
 refine wpAny_bind (wpAny_bind (wpAny_askSetting (wpAny_pure (wpAny_pure ?_))))
 split
 ·rename_i z
  have z':(!(w.params.followText "set-order")&&(!t.plain&&decide (es.size > 1)))=true:=z
  simp only[Bool.and_eq_true,decide_eq_true_eq]at z'
  refine wpAny_bind (Qq es.size (List.range es.size) s (by simp) fun ys d hy=>?_)
  have hyl:ys.length=es.size:=by rw[hy.length_eq,List.length_range]
  have hsz:((ys.map fun(i:Nat)=>rawInt i).length)<=sizeLine:=by rw[List.length_map,hyl];exact fits_of_scanBound hb
  refine wpAny_bind (wpAny_newTuple (s:={ s with drawn:=d }) ?_ hsz)
  refine wpAny_bind ?_
  unfold setEpoch
  refine wpAny_bind (wpAny_setState_of (Heap.get?_push_of_some _ ho) hd hf (wpAny_pure ?_))
  refine wpAny_bind (wpAny_newObj_type (wpAny_pure ⟨_,rfl,"set_iterator",_,⟨_,Heap.get?_push_size _ rfl,rfl⟩,jW.lookup,h _ _ ?_⟩))
  generalize hP:s.heap.push { cls:=.type "tuple",data:=.seq (ys.map fun(i:Nat)=>rawInt i).toArray }=H1
  have s1:H1.objs.size=s.heap.objs.size+1:=by rw[<- hP,Heap.size_push]
  have gP:H1.get? s.heap.objs.size=some { cls:=.type "tuple",data:=.seq (ys.map fun(i:Nat)=>rawInt i).toArray }:=by rw[<- hP];exact Heap.get?_push_size _ rfl
  have gS:H1.get? S=some o:=by rw[<- hP];exact Heap.get?_push_of_some _ ho
  refine⟨[H1.objs.size,S,s.heap.objs.size],(ys.map fun p=>(es[p]?).getD (0,.none)).map fun e=>txOf e.2,ItAt (ys.map fun p=>(es[p]?).getD (0,.none)),
   (fun i s'=>SetIt s'.heap H1.objs.size (.ref s.heap.objs.size) i S es.size ep/\s'.heap.get? S=some o/\s'.heap.get? s.heap.objs.size=some { cls:=.type "tuple",data:=.seq (ys.map fun(i:Nat)=>rawInt i).toArray }),fun b o e=>?_,rfl,rfl,Nat.le_refl _,?_,?_,⟨_,Heap.get?_push_size _ rfl,rfl⟩,fun b hb=>?_,
   fun A' hA=>?_,⟨⟨_,Heap.get?_push_size _ rfl,rfl,rfl⟩,Heap.get?_push_of_some _ gS,Heap.get?_push_of_some _ gP⟩,?_,?_⟩
  ·exact Heap.get?_push_of_some _ (by rw[<- hP];exact Heap.get?_push_of_some _ e)
  ·show s.heap.objs.size<=H1.objs.size
   omega
  ·show H1.objs.size < (H1.push _).objs.size
   rw[Heap.size_push];exact Nat.lt_succ_self _
  ·simp only[List.mem_cons,List.not_mem_nil,or_false]at hb
   rcases hb with e |e |e
   ·subst e;exact .inr (by omega)
   ·exact .inl e
   ·rw[e];exact .inr (Nat.le_refl _)
  ·have q:=Q2 (prog:=prog) (w:=w) hA H1.objs.size S s.heap.objs.size (Nat.ne_of_lt (by rw[s1];exact Nat.lt_succ_of_lt hlt)) (Nat.ne_of_lt (by rw[s1];exact Nat.lt_succ_self _)) hd hf (oP:={ cls:=.type "tuple",data:=.seq (ys.map fun(i:Nat)=>rawInt i).toArray }) (c:=0) rfl hy
   simpa [hyl] using q
  ·refine zF (prog:=prog) (w:=w) (hel.perm ?_)
   have q:=hy.map fun p=>(es[p]?).getD ((0:Int),Value.none)
   rwa [K7]at q
  ·have q:=hy.map fun p=>(es[p]?).getD ((0:Int),Value.none)
   rw[K7]at q
   exact(q.map _).trans hp
 ·rename_i z
  have z':¬(!(w.params.followText "set-order")&&(!t.plain&&decide (es.size > 1)))=true:=z
  refine wpAny_bind (wpAny_pure ?_)
  refine wpAny_bind ?_
  unfold setEpoch
  refine wpAny_bind (wpAny_setState_of ho hd hf (wpAny_pure ?_))
  refine wpAny_bind (wpAny_newObj_type (wpAny_pure ⟨_,rfl,"set_iterator",_,⟨_,Heap.get?_push_size _ rfl,rfl⟩,jW.lookup,h _ _ ?_⟩))
  have hmem:∀b∈[s.heap.objs.size,S],b=S∨s.heap.objs.size<=b:=fun b hb=>by
   simp only[List.mem_cons,List.not_mem_nil,or_false]at hb
   rcases hb with e |e
   ·subst e;exact .inr (Nat.le_refl _)
   ·exact .inl e
  have hlt2:∀o':Obj,s.heap.objs.size < (s.heap.push o').objs.size:=fun o'=>by rw[Heap.size_push];exact Nat.lt_succ_self _
  cases ht:w.params.followText "set-order" with
  |true=>
   have pl:(pickOrder (w.params.setOrder S ep) es).toList.length=es.size:=by rw[(j7 _ _).length_eq,Array.length_toList]
   refine⟨[s.heap.objs.size,S],(pickOrder (w.params.setOrder S ep) es).toList.map fun e=>txOf e.2,ItAt (pickOrder (w.params.setOrder S ep) es).toList,
    (fun i s'=>SetIt s'.heap s.heap.objs.size (.int (0:Nat) 0) i S es.size ep/\s'.heap.get? S=some o),fun b o e=>Heap.get?_push_of_some _ e,rfl,rfl,Nat.le_refl _,Nat.le_refl _,hlt2 _,⟨_,Heap.get?_push_size _ rfl,rfl⟩,hmem,
    fun A' hA=>?_,⟨⟨_,Heap.get?_push_size _ rfl,rfl,rfl⟩,Heap.get?_push_of_some _ ho⟩,?_,?_⟩
   ·have q:=Yn (prog:=prog) (w:=w) hA ht s.heap.objs.size S (Nat.ne_of_lt hlt) hd hf
    rw[List.length_map,pl];exact q
   ·exact zF (prog:=prog) (w:=w) (hel.perm (j7 _ _))
   ·exact((j7 _ _).map _).trans hp
  |false=>
   have hs:es.size<=1:=by
    rw[ht]at z'
    rcases hpl with e |e
    ·rw[e]at z'
     simp at z'
     exact z'
    ·omega
   refine⟨[s.heap.objs.size,S],es.toList.map fun e=>txOf e.2,ItAt es.toList,
    (fun i s'=>(∃j:Nat,SetIt s'.heap s.heap.objs.size (.int j 0) i S es.size ep/\(i=0->j=0)/\(i=1->∃p,t.place=#[p]/\j=p+1))/\s'.heap.get? S=some o),fun b o e=>Heap.get?_push_of_some _ e,rfl,rfl,Nat.le_refl _,Nat.le_refl _,hlt2 _,⟨_,Heap.get?_push_size _ rfl,rfl⟩,hmem,
    fun A' hA=>?_,⟨⟨0,⟨_,Heap.get?_push_size _ rfl,rfl,rfl⟩,fun _=>rfl,fun z=>by cases z⟩,Heap.get?_push_of_some _ ho⟩,?_,?_⟩
   ·have q:=ZE (prog:=prog) (w:=w) hA ht s.heap.objs.size S (Nat.ne_of_lt hlt) hd hf (by rw[hl,ht];rfl) hs
    rw[List.length_map,Array.length_toList];exact q
   ·exact zF (prog:=prog) (w:=w) hel
   ·exact hp
theorem zZ:∀(vs:List Value) (ss:List Str),vs.length=ss.length->(∀(i:Nat) (v:Value),vs[i]?=some v->∃x t,ss[i]?=some x/\v=Value.str x t)->StrsAre vs ss
 | [],[],_,_=>.nil
 | [],_::_,h,_=>by cases h
 |_::_,[],h,_=>by cases h
 |v::vs,y::ss,h,k=>by
  obtain⟨x,t,e,rfl⟩:=k 0 v rfl
  cases e
  exact .cons y t (zZ vs ss (by simpa using h) fun i u hu=>k (i+1) u (by simpa using hu))
theorem JW{S:Addr}{L:List Str}(hh:A.handled=none)(hS:TxSet prog w s.heap S L){Q:List Value->Shared->Prop}
  (h:∀s' vs ss,s.heap.objs.size<=s'.heap.objs.size->(∀b o,s.heap.get? b=some o->s'.heap.get? b=some o)->s'.gens=s.gens->s'.os=s.os->s.toks<=s'.toks->StrsAre vs ss->ss.Perm L->Q vs s'):wpAny (model prog w) A (collect (.ref S)) Q E s:=by
 have hlen:L.length < scanBound:=by
  obtain⟨o,es,ep,t,ho,hx,hd,hel,hp,hnd,hb,hf,hl,hpl⟩:=hS
  rw[<- hp.length_eq,List.length_map,Array.length_toList];exact hb
 unfold collect
 refine wpAny_bind (wpAny_runValue (codeAny_builtin PySem.F.entry_proto_collect ?_))
 rw[Around.under_plainId PySem.F.plain_proto_collect]
 show wpAny _ A.in1 (newList [] >>= fun l=>again (.builtin "list.__iadd__" ⟨[l,.ref S],[]⟩)) _ _ s
 refine wpAny_bind (wpAny_newObj_type (wpAny_pure ⟨plainId_quiet PySem.F.plain_list_iadd _,codeAny_builtin PySem.F.entry_list_iadd ?_⟩))
 rw[Around.under_plainId PySem.F.plain_list_iadd]
 show wpAny _ A.in1 (Builtin.List.listExtendWith (.ref s.heap.objs.size) (.ref S) (.ref s.heap.objs.size)) _ _ _
 unfold Builtin.List.listExtendWith
 have hlt:S < s.heap.objs.size:=by obtain⟨o,_,_,_,ho,_⟩:=hS;exact Heap.lt_size ho
 generalize hH:s.heap.push { cls:=.type "list",data:=.seq ([]:List Value).toArray }=H
 have gl:H.get? s.heap.objs.size=some { cls:=.type "list",data:=.seq ([]:List Value).toArray }:=by rw[<- hH];exact Heap.get?_push_size _ rfl
 have gs:TxSet prog w H S L:=hS.at fun o e=>by rw[<- hH];exact Heap.get?_push_of_some _ e
 have gk:∀b o,s.heap.get? b=some o->H.get? b=some o:=fun b o e=>by rw[<- hH];exact Heap.get?_push_of_some _ e
 have hT:Shared.TypeIs { s with heap:=H } (.ref S) "set":=by
  obtain⟨o,_,_,_,ho,hx,_⟩:=gs
  exact⟨o,ho,hx.1⟩
 refine wpAny_bind (wpAny_typeOf hT ?_)
 have n1:Builtin.List.listSameRef (.ref s.heap.objs.size) (.ref S)=false:=by
  simp only[Builtin.List.listSameRef,beq_eq_false_iff_ne]
  exact Nat.ne_of_gt hlt
 have n2:(Value.type "set"==Value.type "list")=false:=by decide
 have n3:(Value.type "set"==Value.type "tuple")=false:=by decide
 simp only[n1,n2,n3,Bool.or_false,Bool.false_eq_true,if_false]
 refine wpAny_bind (Q5 (s:={ s with heap:=H }) gs fun s1 I ⟨fp,ss,P,St,k1,kg,ko,kt,hI1,hI2,hIT,hfp,W,st,hv,hp⟩=>?_)
 have hSz:H.objs.size=s.heap.objs.size+1:=by rw[<- hH,Heap.size_push]
 have hT1:s1.TypeIs (.ref S) "set":=by
  obtain⟨o,ho,hc⟩:=hT
  exact⟨o,k1 _ _ ho,hc⟩
 refine wpAny_bind (wpAny_holding ?_)
 unfold Builtin.List.listLengthHint
 refine wpAny_bind (wpAny_specialOf hT1 PySem.F.slot_set_len.lookup ?_)
 wp_delta
 refine wpAny_bind (wpAny_isInstance (b:=true) hT1 sub_set_self ?_)
 show wpAny _ A.in1 (typeOf (Value.ref S) >>= _) _ _ _
 refine wpAny_bind (wpAny_typeOf hT1 (wpAny_pure ?_))
 rw[if_pos (by decide)]
 refine wpAny_bind (wpAny_rule ?_)
 have g1:=k1 _ _ gl
 refine wpAny_bind ?_
 show wpAny _ A.in1 (updateSeq s.heap.objs.size (·.push .none) >>= fun _=>updateSeq s.heap.objs.size (·.pop)) _ _ _
 refine wpAny_bind (wpAny_updateSeq g1 rfl ?_)
 have g2:=Heap.get?_update_self (Obj.mapSeq (·.push Value.none)) g1 rfl
 refine wpAny_updateSeq g2 rfl ?_
 have g3:=Heap.get?_update_self (Obj.mapSeq (·.pop)) g2 rfl
 have nfp:¬s.heap.objs.size∈fp:=fun m=>by
  rcases hfp _ m with e |e
  ·exact absurd hlt (by rw[<- e];exact Nat.lt_irrefl _)
  ·have e':H.objs.size<=s.heap.objs.size:=e
   omega
 have oth:∀b o,b≠s.heap.objs.size->s1.heap.get? b=some o->((s1.heap.update s.heap.objs.size (Obj.mapSeq (·.push Value.none))).update s.heap.objs.size (Obj.mapSeq (·.pop))).get? b=some o:=
  fun b o hb e=>(Heap.get?_update_other _ _ (Ne.symm hb)).trans ((Heap.get?_update_other _ _ (Ne.symm hb)).trans e)
 have W1:=W A.in1 (by simpa using hh)
 have hn:ss.length<=sizeLine:=by rw[hp.length_eq];exact fits_of_scanBound hlen
 refine wpAny_pure ⟨plainId_quiet PySem.F.plain_extend_loop _,codeAny_extend_loopS W1 hn _ nfp _ ss.length 0 _ _ _ rfl (Nat.zero_le _) (W1.frame 0 s1 _ s1.toks st (Nat.le_refl _) fun b hb o e=>oth b o (fun z=>nfp (z▸hb)) e) g3 (ItemsOf.nil P) fun s' acc c m gS hacc=>?_⟩
 show wpAny _ A (load s.heap.objs.size >>= _) _ _ s'
 refine wpAny_bind (wpAny_load gS (wpAny_pure (h s' acc.toList ss (Nat.le_of_lt (Heap.lt_size gS)) (fun b o e=>?_) ?_ ?_ ?_ ?_ hp)))
 ·have ne:b≠s.heap.objs.size:=Nat.ne_of_lt (Heap.lt_size e)
  refine m.heap b o ?_ (oth b o ne (k1 b o (gk b o e)))
  simp only[List.mem_cons,List.not_mem_nil,or_false,not_or]
  refine⟨ne,fun z=>?_⟩
  have q:s.heap.objs.size+1<=I:=hSz▸hI1
  have q2:=Heap.lt_size e
  rw[z]at q2
  exact absurd (Nat.lt_of_lt_of_le (Nat.lt_succ_of_lt q2) q) (Nat.lt_irrefl _)
 ·exact m.gens.trans kg
 ·exact m.os.trans ko
 ·exact Nat.le_trans kt m.toks
 ·refine zZ _ _ (by rw[Array.length_toList,hacc.1]) fun i v e=>hv i v (hacc.2 i v (by rwa [Array.getElem?_toList]at e))
end
section
variable {prog:Program}{w:World}{A:Around}{E:Value->Shared->Prop}{s:Shared}
theorem KM{S:Addr}{L:List Str}(hh:A.handled=none)(hS:TxSet prog w s.heap S L)(h64:L.length < 64){Q:Value->Shared->Prop}
  (h:∀s' a c vs ss,s.heap.objs.size<=a->(∀b o,s.heap.get? b=some o->s'.heap.get? b=some o)->s'.gens=s.gens->s'.os=s.os->s'.heap.get? a=some (seqObj "list" vs c)->StrsAre vs.toList ss->ss.Perm L->sortedS ss=true->Q (.ref a) s'):
  wpAny (model prog w) A (call (.builtin "sorted") [.ref S]) Q E s:=by
 refine Calls.call_function_entry kind_sorted plain_sorted entry_sorted (args_sorted1 _) ?_
 unfold Builtin.«sorted»
 refine wpAny_bind (m:=checkCount "sorted" 1 1 _) (wpAny_pure ?_)
 refine wpAny_bind (JW (by simpa using hh) hS fun s1 vs ss kz k kg ko kt hv hp=>?_)
 have hl:vs.length < 64:=by rw[<- L2.StrsAre.len hv,hp.length_eq];exact h64
 refine wpAny_bind (wpAny_newList ?_ (by have q:sizeLine=1000000000∨64<=sizeLine:=.inr (by decide);omega))
 have g:=Heap.get?_push_size s1.heap (o:=seqObj "list" vs.toArray 0) rfl
 refine wpAny_bind (wpAny_holding (wpAny_call_entry slot_list_sort ⟨_,g,rfl⟩ entry_list_sort (list_sort_treeK strKind_oneLt g hv.keysOf (fun v₁ v₂ rest e=>keyKind_strs (by rw[<- e];exact hv)) hl fun st' a1 a2=>⟨_,rfl,?_⟩) (args_list_sort _)))
 obtain⟨ss',q1,q2,q3⟩:=sorted_out_str hv a1 a2
 generalize (arrOf st').map (·.2)=out at q1 ⊢
 obtain⟨c,hc⟩:=sortedHeap_at (out:=out) g
 have kk:∀b o,s.heap.get? b=some o->(sortedHeap (s1.heap.push (seqObj "list" vs.toArray 0)) s1.heap.objs.size vs out).get? b=some o:=by
  intro b o e
  have e1:=k b o e
  have lt:b < s1.heap.objs.size:=Heap.lt_size e1
  have lt2:b < (s1.heap.push (seqObj "list" vs.toArray 0)).objs.size:=by rw[size_push'];exact Nat.lt_succ_of_lt lt
  rw[sortedHeap_old (Nat.ne_of_lt lt) lt2]
  exact Heap.get?_push_of_some _ e1
 exact wpAny_pure ⟨_,rfl,h { s1 with heap:=sortedHeap (s1.heap.push (seqObj "list" vs.toArray 0)) s1.heap.objs.size vs out } s1.heap.objs.size c out ss' kz kk kg ko hc q1 (q2.trans hp) q3⟩
end
theorem qz{vs:List Value}{ss:List Str}(h:StrsAre vs ss):Vals (ss.map V.str) vs:=by
 induction h with
 |nil=>exact .nil
 |cons y t _ ih=>exact .cons ⟨t,rfl⟩ ih
noncomputable def TsO(P:Program)(w:World)(a:Addr)(L:List Str):HO:=.ext fun h=>TxSet P w h a L
section
variable {X:Cx}
theorem zG(hc:X.calm=true):CallR X (.builtin "sorted") (fun xs H Q=>∃(p:Addr) (L:List Str),xs=[.ref p]/\H p=some (TsO X.prog X.w p L)/\L.length < 64/\
  ∀l ss,H l=none->ss.Perm L->L.Nodup->sortedS ss=true->Q (.ref l) (upd H l (.lst (ss.map V.str)))):=by
 intro pins s σ H xs us Q I r h
 obtain⟨p,L,rfl,hq,h64,q⟩:=h
 obtain⟨u,rfl,rx⟩:=vals1 r
 cases rx
 obtain⟨hS,_,_⟩:=I.hok p _ hq
 have hnd:L.Nodup:=by obtain⟨_,_,_,_,_,_,_,_,_,hnd,_⟩:=hS;exact hnd
 refine KM (I.ok.hd hc) hS h64 fun s' a c vs ss ha k kg ko hg hv hp hs=>?_
 have len:(ss.map V.str).length<=sizeLine:=by rw[List.length_map,hp.length_eq];exact Nat.le_trans (Nat.le_of_lt h64) (by decide)
 have new:ObjOk X.prog X.w (upd H a (.lst (ss.map V.str))) s'.heap a (.lst (ss.map V.str)):=⟨len,vs.toList,c,qz hv,hg⟩
 refine⟨.ref a,_,I.call' (ch:=[]) ko (Un.laid k ha (I.hok.fresh ha)) (I.hok.laid k ha new) (by rw[kg];exact I.bare) (fun _ z=>nomatch z),rfl,q _ _ (I.hok.fresh ha) hp hnd hs⟩
theorem KN:CallR X (.builtin "sorted") (fun xs H Q=>∃(p:Addr) (ss:List Str),xs=[.ref p]/\SqL X.K H p (ss.map V.str)/\ss.length < 64/\
  ∀l ss',H l=none->ss'.Perm ss->sortedS ss'=true->Q (.ref l) (upd H l (.lst (ss'.map V.str)))):=by
 intro pins s σ H xs us Q I r h
 obtain⟨p,ss,rfl,hq,h64,q⟩:=h
 obtain⟨u,rfl,rx⟩:=vals1 r
 cases rx
 obtain⟨its,r',pl,hz⟩:=I.list hq
 have hv:=zC r'
 have hn:its.length=ss.length:=(L2.StrsAre.len hv).symm
 refine sorted_strs pl.isList hv (by rw[hn];exact h64) fun out ss' a1 a2 a3=>?_
 obtain⟨c,hc⟩:=sortedAll_at s.heap its out
 have len:(ss'.map V.str).length<=sizeLine:=by rw[List.length_map,a2.length_eq];exact Nat.le_trans (Nat.le_of_lt h64) (by decide)
 refine⟨.ref (s.heap.objs.size+1),_,I.laid (t':=s.toks) (fun _ _ e=>sortedAll_old e) (Nat.le_succ _) (show ObjOk X.prog X.w _ _ _ (.lst (ss'.map V.str)) from ⟨len,out.toList,c,qz a1,hc⟩),rfl,q _ _ (I.hok.fresh (Nat.le_succ _)) a2 a3⟩
end
theorem Xy:mroOf (.type "reversed")=pure [.type "reversed",.type "object"]:=by rw[mroOf_type];kernel_rfl
theorem JJ:typeLookup (.type "reversed") "__new__"=pure (some (.builtin "reversed.__new__")):=by rw[typeLookup_type,builtinLookup_eq_fast];kernel_rfl
theorem JX:Slot "reversed" "__init__" "object.__init__":=by
 refine .of (owner:="object") (n:="__init__") ?_ (by decide+kernel) (by decide+kernel) (by decide+kernel) ?_ ?_
 ·rw[typeLookup_type,builtinLookup_eq_fast];kernel_rfl
 ·first |exact .inl (by decide+kernel) |exact .inr (by decide+kernel)
 ·rw[isSubtype_type];kernel_rfl
theorem Q6:TypeCalled "reversed" "reversed.__new__" "object.__init__":=by
 refine⟨by decide+kernel,by decide+kernel,⟨_,_,Xy⟩,madeBy_type Xy JJ (by decide+kernel),by decide+kernel,?_,JX⟩
 rw[isSubtype_type];kernel_rfl
theorem KO(a:Value):checkTypeCall "reversed" ⟨[a],[]⟩=pure ():=by kernel_rfl
theorem Qu(a:Value):checkBuiltinCall "reversed.__new__" ⟨[.type "reversed",a],[]⟩=pure ():=by kernel_rfl
theorem JY:entryFor table "reversed.__new__"=some Builtin.«reversed.__new__»:=entryFor_of_tree (by kernel_rfl)
theorem sub_rev:isSubtype (.type "reversed") (.type "reversed")=pure true:=by rw[isSubtype_type];kernel_rfl
theorem KP:typeLookup (.type "tuple") "__reversed__"=pure none:=by rw[typeLookup_type,builtinLookup_eq_fast];kernel_rfl
theorem JK:isSubtype (.type "tuple") (.type "dict")=pure false:=by rw[isSubtype_type];kernel_rfl
noncomputable def revObj(t:Addr)(n:Int):Obj:={ cls:=.type "reversed",data:=.fields #[.ref t,.int (n - 1) 0] }
section
variable {prog:Program}{w:World}{A:Around}{E:Value->Shared->Prop}{s:Shared}
theorem ZF{t:Addr}{items:Array Value}{Q:Value->Shared->Prop}(ht:IsTup s.heap t items)(hn:(items.size:Int) < 2 ^ 63)
  (h:Q (.ref s.heap.objs.size) { s with heap:=s.heap.push (revObj t items.size),toks:=s.toks+1+1 }):wpAny (model prog w) A (call (.type "reversed") [.ref t]) Q E s:=by
 refine callType_new (S:=fun _ R s'=>s'=s/\R (.ok (.ret (.ref s.heap.objs.size))) { s with heap:=s.heap.push (revObj t items.size),toks:=s.toks+1+1 }) Q6 (by decide) (KO _) (Qu _) (fun obj=>PySem.F.args_object_init_2 obj _) JY
  (.of_wp fun prog' w' A' R s' hs=>?_) ⟨rfl,⟨_,Heap.get?_push_size _ rfl,rfl⟩,h⟩
 obtain⟨rfl,hr⟩:=hs
 unfold Builtin.«reversed.__new__» Builtin.SmallTypes.newClass
 refine wpAny_bind ?_
 dsimp only
 refine wpAny_bind (wpAny_pure ?_)
 simp only[Bool.not_true,Bool.false_eq_true,if_false]
 refine wpAny_bind (wpAny_of_eq sub_rev ?_)
 simp only[Bool.not_true,Bool.false_eq_true,if_false]
 refine wpAny_pure ?_
 refine wpAny_bind (m:=Builtin.SmallTypes.refuseKeywords _ _ _) (wpAny_pure ?_)
 refine wpAny_bind (m:=checkCount "reversed" 1 1 _) (wpAny_pure ?_)
 dsimp only
 refine wpAny_bind (wpAny_specialOf ht.typeIs KP ?_)
 dsimp only
 refine wpAny_bind ?_
 show wpAny _ _ (isInstance (.ref t) (.type "dict") >>= _) _ _ _
 refine wpAny_bind (wpAny_isInstance (b:=false) ht.typeIs JK ?_)
 simp only[Bool.false_eq_true,if_false]
 refine wpAny_bind (wpAny_specialOf ht.typeIs PyProof.Rows.slot_tuple_getitem.lookup ?_)
 dsimp only
 rw[if_pos (by decide+kernel)]
 refine wpAny_pure ?_
 simp only[Bool.not_true,Bool.false_eq_true,if_false]
 refine wpAny_bind (len_tuple ht hn ?_)
 refine wpAny_bind (m:=asInt? _) (wpAny_pure ?_)
 dsimp only
 show wpAny _ _ (newObj (.type "reversed") (.fields [Value.ref t,rawInt ((items.size:Int) - 1)].toArray) >>= _) _ _ _
 exact wpAny_bind (wpAny_newObj_type (wpAny_pure ⟨_,rfl,hr⟩))
end
theorem zn:Slot "reversed" "__next__" "reversed.__next__":=by
 refine .of (owner:="reversed") (n:="__next__") ?_ (by decide+kernel) (by decide+kernel) (by decide+kernel) ?_ ?_
 ·rw[typeLookup_type,builtinLookup_eq_fast];kernel_rfl
 ·first |exact .inl (by decide+kernel) |exact .inr (by decide+kernel)
 ·rw[isSubtype_type];kernel_rfl
theorem z9:Slot "reversed" "__iter__" "reversed.__iter__":=by
 refine .of (owner:="reversed") (n:="__iter__") ?_ (by decide+kernel) (by decide+kernel) (by decide+kernel) ?_ ?_
 ·rw[typeLookup_type,builtinLookup_eq_fast];kernel_rfl
 ·first |exact .inl (by decide+kernel) |exact .inr (by decide+kernel)
 ·rw[isSubtype_type];kernel_rfl
theorem JL:entryFor table "reversed.__next__"=some Builtin.«reversed.__next__»:=entryFor_of_tree (by kernel_rfl)
theorem JM:entryFor table "reversed.__iter__"=some Builtin.«dict_keyiterator.__iter__»:=by
 refine entryFor_alias (id':="dict_keyiterator.__iter__") ?_ rfl (by decide+kernel) ?_<;>kernel_rfl
theorem JZ(a:Value):argsOk "reversed.__next__" ⟨[a],[]⟩:=by unfold argsOk;kernel_rfl
theorem J1(a:Value):argsOk "reversed.__iter__" ⟨[a],[]⟩:=by unfold argsOk;kernel_rfl
def RevAt(h:Heap)(I t:Addr)(k:Int):Prop:=∃o,h.get? I=some o/\o.cls= .type "reversed"/\o.data= .fields #[.ref t,.int k 0]
theorem RevAt.at{h h':Heap}{I t:Addr}{k:Int}(x:RevAt h I t k)(e:∀o,h.get? I=some o->h'.get? I=some o):RevAt h' I t k:=let ⟨o,ho,r⟩:=x;⟨o,e o ho,r⟩
theorem RevAt.is{s:Shared}{I t:Addr}{k:Int}(x:RevAt s.heap I t k):s.TypeIs (.ref I) "reversed":=let ⟨o,ho,hc,_⟩:=x;⟨o,ho,hc⟩
section
variable {prog:Program}{w:World}{A:Around}{E:Value->Shared->Prop}{s:Shared}
theorem K8{I t:Addr}{k:Int}{Q:Option Value->Shared->Prop}(hit:RevAt s.heap I t k)
  (h:wpAny (model prog w) A.in1 (Builtin.«reversed.__next__» ⟨[.ref I],[]⟩) (fun fin s'=>∃v,fin= .done (.ret v)/\Q (some v) s') (fun e s'=>s'.TypeIs e "StopIteration"/\Q none s') s):
  wpAny (model prog w) A (pyNext (.ref I)) Q E s:=by
 unfold pyNext
 refine wpAny_bind (wpAny_attempt (wpAny_callSpecial?_slot (name:=Str.ofString "__next__") hit.is zn (wpAny_call_entry zn hit.is JL ?_ (JZ _))))
 refine wpAny_mono h (fun fin s' q=>?_) fun e s' q=>?_
 ·obtain⟨v,e,q⟩:=q
  exact⟨v,e,wpAny_pure q⟩
 ·exact wpAny_bind (wpAny_isInstance (T:="StopIteration") (b:=true) q.1 isSubtype_stop (wpAny_pure q.2))
theorem nextR{I t:Addr}{k:Nat}{items:Array Value}{x:Value}{Q:Option Value->Shared->Prop}(hit:RevAt s.heap I t k)(ht:IsTup s.heap t items)(hx:items[k]?=some x)(h63:(items.size:Int) < 2 ^ 63)
  (hQ:∀h',RevAt h' I t ((k:Int) - 1)->Heap.SameBut I s.heap h'->Q (some x) { s with heap:=h',toks:=s.toks+1 }):wpAny (model prog w) A (pyNext (.ref I)) Q E s:=by
 refine K8 hit ?_
 obtain⟨o,ho,hc,hd⟩:=hit
 have hk:k < items.size:=(Array.getElem?_eq_some_iff.mp hx).1
 show wpAny _ _ (field (.ref I) 0 >>= _) _ _ s
 refine wpAny_bind (wpAny_field ho hd (x:=.ref t) rfl (wpAny_bind (wpAny_field ho hd (x:=.int k 0) rfl ?_)))
 dsimp only
 rw[if_neg (by omega)]
 refine wpAny_bind (wpAny_specialOf ht.typeIs PyProof.Rows.slot_tuple_getitem.lookup ?_)
 simp only[Option.isNone_some,Bool.false_eq_true,if_false]
 refine wpAny_bind (wpAny_mkInt (wpAny_bind (wpAny_attempt ?_)))
 refine getItem_tuple (s:={ s with toks:=s.toks+1 }) ht (by omega) (by omega) (j:=k) ?_ hx ?_
 ·unfold seqIndex?
  simp
  omega
 refine wpAny_bind (wpAny_field (s:={ s with toks:=s.toks+1 }) ho hd (x:=.int k 0) rfl ?_)
 dsimp only
 refine wpAny_bind (wpAny_setField ho hd (by simp) (wpAny_pure ⟨x,rfl,hQ _ ?_ (Heap.SameBut.update ..)⟩))
 exact⟨_,Heap.get?_update_self _ ho (Obj.isFreed_of_fields (Obj.data_mapFields hd _)),(Obj.cls_mapFields ..).trans hc,by rw[Obj.data_mapFields hd];simp [rawInt]⟩
theorem Yo(hh:A.handled=none){I t:Addr}{Q:Option Value->Shared->Prop}(hit:RevAt s.heap I t (-1))
  (hQ:∀h',(∀b o,b≠I->s.heap.get? b=some o->h'.get? b=some o)->Q none { s with heap:=h' }):wpAny (model prog w) A (pyNext (.ref I)) Q E s:=by
 refine K8 hit ?_
 obtain⟨o,ho,hc,hd⟩:=hit
 show wpAny _ _ (field (.ref I) 0 >>= _) _ _ s
 refine wpAny_bind (wpAny_field ho hd (x:=.ref t) rfl (wpAny_bind (wpAny_field ho hd (x:=.int (-1) 0) rfl ?_)))
 dsimp only
 rw[if_pos (by decide)]
 refine wpAny_bind (wpAny_rule (wpAny_bind ?_))
 show wpAny _ _ (setField (.ref I) 1 (rawInt (-1)) >>= fun _=>setField (.ref I) 0 .none) _ _ _
 refine wpAny_bind (wpAny_setField ho hd (by simp) ?_)
 refine wpAny_setField (Heap.get?_update_self _ ho (Obj.isFreed_of_fields (Obj.data_mapFields hd _))) (Obj.data_mapFields hd _) (by simp) ?_
 refine wpAny_bind ?_
 refine Jd (s:={ s with heap:=_ }) (by simpa using hh) fun h' e k te=>⟨te,hQ h' fun b o hb eb=>k b o ?_⟩
 exact(Heap.get?_update_other _ _ (Ne.symm hb)).trans ((Heap.get?_update_other _ _ (Ne.symm hb)).trans eb)
theorem iterR{I t:Addr}{k:Int}(hit:RevAt s.heap I t k){Q:Value->Shared->Prop}(h:Q (.ref I) s):wpAny (model prog w) A (pyIter (.ref I)) Q E s:=by
 refine wpAny_pyIter_slot hit.is z9 (wpAny_call_entry z9 hit.is JM ?_ (J1 _))
 show wpAny _ _ (ret (.ref I)) _ _ s
 exact wpAny_pure ⟨_,rfl,"reversed",_,hit.is,zn.lookup,h⟩
end
theorem qW:entryFor table "dict.update.loop"=some Builtin.«dict.update.loop»:=entryFor_of_tree (by kernel_rfl)
theorem zh:plainId "dict.update.loop"=true:=by decide+kernel
section
variable {X:Cx}{o lo hi:Expr}{to tl th:TE}{pos p2:Pos}
def gSl(to tl th:TE):TG:=fun v σ H Q=>to σ H fun ov H1=>tl σ H1 fun a H2=>th σ H2 fun c H3=>∃l b xs ys i j,ov= .ref l/\v= .ref b/\a= .int i/\c= .int j/\H3 l=some (.lst xs)/\H3 b=some (.lst ys)/\l≠b/\0<=i/\i<=j/\j<=(xs.length:Int)/\
 xs.length+ys.length<=sizeLine/\Q σ (upd H3 l (.lst (xs.take i.toNat++ys++xs.drop j.toNat)))
theorem ZG(ho:PE X o to)(hl:PE X lo tl)(hh:PE X hi th)
  (ha:∀v,assign (.Subscript o (.Slice (some lo) (some hi) none p2) pos) X.env v=(do
   let ov <- holding [v] (eval o X.env)
   let iv <- holding [v,ov] (eval (.Slice (some lo) (some hi) none p2) X.env)
   standAt pos
   holding [v,ov,iv] (setItem ov iv v)
   release [iv,v,ov] []):=by intro _;rfl):PG X (.Subscript o (.Slice (some lo) (some hi) none p2) pos) (gSl to tl th):=by
 intro pins s σ H v u Q I r h
 rw[ha]
 refine wpAny_bind (wpAny_holding (thn (ho pins s σ H _ I h) fun ov s1 ⟨x,H1,I1,r1,q1⟩=>?_))
 refine wpAny_bind (wpAny_holding ?_)
 refine wpAny_Slice (thn (hl pins s1 σ H1 _ I1 q1) fun vl s2 ⟨y,H2,I2,r2,q2⟩=>thn (hh pins s2 σ H2 _ I2 q2) fun vu s3 hq'=>?_)
 obtain⟨z,H3,I3,r3,l,b,xs,ys,i,j,e1,e2,e3,e4,h1,h2,hne,h0,hij,hj,hz,q⟩:=hq'
 subst e1 e2 e3 e4
 cases (show ov=Value.ref l from r1)
 cases (show u=Value.ref b from r)
 refine wpAny_pure ?_
 have I4:Inv X pins σ H3 { s3 with heap:=s3.heap.push { cls:=.type "slice",data:=.fields #[vl,vu,.none] } }:=I3.kept (t':=s3.toks) fun b o e=>Heap.get?_push_of_some _ e
 refine wpAny_bind (wpAny_standAt (wpAny_bind (wpAny_holding ?_)))
 exact Ya I4 h1 h2 hne (Heap.IsSliceOf.new s3.heap vl vu .none) r2 r3 h0 hij hj hz fun s5 I5=>wpAny_release ⟨σ,_,I5,q⟩
end
end L2
namespace L2
open PySem PySem.Spec PyProof.Rows Builtin Builtin.Str
section
variable {prog:Program}{w:World}{A:Around}{E:Value->Shared->Prop}{s:Shared}
theorem qB{t sl:Addr}{items:Array Value}{vl vu:Value}{lo hi:Option Int}{Q:Value->Shared->Prop}(ht:IsTup s.heap t items)(hs:s.heap.IsSliceOf sl vl vu .none)(pl:IsPart vl lo)(pu:IsPart vu hi)
  (hw:HT.sIx items.size 0 lo=0/\HT.sIx items.size items.size hi=items.size) (h:Q (.ref t) s):wpAny (model prog w) A (getItem (.ref t) (.ref sl)) Q E s:=by
 obtain⟨os,hos,hcs,hds⟩:=id hs
 have hTs:s.TypeIs (.ref sl) "slice":=⟨os,hos,hcs⟩
 unfold getItem
 try with_reducible refine wpAny_holding ?_
 first |refine wpAny_bind (wpAny_pure ?_) |skip
 refine wpAny_bind (wpAny_sequenceKey ht.typeIs (by decide) ?_)
 refine wpAny_bind (wpAny_callSpecial?_slot (name:=Str.ofString "__getitem__") ht.typeIs PyProof.Rows.slot_tuple_getitem
  (wpAny_call_entry PyProof.Rows.slot_tuple_getitem ht.typeIs PyProof.Rows.entry_tuple_getitem ?_ (PyProof.Rows.args_tuple_getitem _ _)))
 show wpAny _ _ (Builtin.Tuple.tupleItemsOf (.ref t) >>= _) _ _ s
 refine wpAny_bind (PyProof.Rows.tupleItemsOf_ ht ?_)
 refine wpAny_bind (wpAny_typeOf hTs ?_)
 rw[if_pos (by decide)]
 refine wpAny_bind (HT.sliceApplied_gen hs pl pu ?_)
 show wpAny _ _ (if (((HT.sIx items.size 0 lo:Nat):Int)==0&&(1:Int)==1&&(HT.sIx items.size items.size hi - HT.sIx items.size 0 lo)==items.size)=true then _ else _) _ _ s
 rw[hw.1,hw.2,if_pos (by simp)]
 unfold Builtin.Tuple.tupleIsExact
 refine wpAny_bind (wpAny_bind (wpAny_typeOf ht.typeIs (wpAny_pure ?_)))
 rw[if_pos (by decide)]
 first
  |exact wpAny_rule (wpAny_pure ⟨_,rfl,wpAny_pure h⟩)
  |exact wpAny_bind (wpAny_rule (wpAny_pure ⟨_,rfl,wpAny_pure h⟩))
  |exact wpAny_bind (wpAny_pure (wpAny_pure ⟨_,rfl,wpAny_pure h⟩))
end
section
variable {X:Cx}
def rCatH:R2:=fun x y H Q=>∃a b xs ys,x= .ref a/\y= .ref b/\H a=some (.tup xs)/\H b=some (.tup ys)/\xs.length+ys.length<=sizeLine/\∀r H',H' r=some (.tup (xs++ys))->Same H H'->Q (.ref r) H'
theorem kB:OpR X (binaryOp .Add) rCatH:=by
 intro pins s σ H x y v u Q I rx ry h
 obtain⟨a,b,xs,ys,rfl,rfl,ha',hb',hz,q⟩:=h
 have ha:=SqT.of (K:=X.K) ha'
 have hb:=SqT.of (K:=X.K) hb'
 by_cases hx:xs=[]
 ·subst hx
  cases rx
  cases ry
  obtain⟨its,r1,p1,_⟩:=I.tuple ha
  obtain⟨its2,r2,p2,_⟩:=I.tuple hb
  have e0:its=[]:=r1.nil_iff.mpr rfl
  subst e0
  obtain⟨⟨cls,dd,data,sl⟩,ho,hc,n,hd⟩:=id p1
  obtain⟨⟨cls2,dd2,data2,sl2⟩,ho2,hc2,n2,hd2⟩:=id p2
  simp only at hc hd hc2 hd2
  subst hc hd hc2 hd2
  exact concat_meets ⟨_,ho,rfl⟩ ⟨_,ho2,rfl⟩ noFill_tuple_add seq_tuple_add PySem.F.slot_tuple_add PySem.F.entry_tuple_add (PySem.F.args_tuple_add_2 _ _)
   (tuple_addW0 a b ([]:List Value).toArray its2.toArray n n2 dd dd2 sl sl2 rfl) ⟨ho,ho2,.ref b,H,I,rfl,q b H hb' (Same.refl H)⟩
 ·refine op_catT pins s σ H _ _ v u Q I rx ry ⟨a,b,xs,ys,rfl,rfl,ha,hb,hx,hz,fun e=>?_,fun _ p np=>?_⟩
  ·subst e
   exact q a H (by rw[List.append_nil];exact ha') (Same.refl H)
  ·exact q p _ jd fun c o e=>by rw[jm (jv e np)];exact e
def rSlA:V->Option Int->Option Int->Hp->VK->Prop:=fun x lo hi H Q=>∃a xs,x= .ref a/\H a=some (.tup xs)/\∀r H',H' r=some (.tup (cutV xs lo hi))->Same H H'->Q (.ref r) H'
theorem zT:SlR X rSlA:=by
 intro pins s σ H x v vl vu lo hi sl Q I rx hs pl pu h
 obtain⟨a,xs,rfl,hx',q⟩:=h
 have hx:=SqT.of (K:=X.K) hx'
 by_cases hw:HT.sIx xs.length 0 lo=0/\HT.sIx xs.length xs.length hi=xs.length
 ·cases rx
  obtain⟨its,r,ht,hz⟩:=I.tuple hx
  have hlen:its.toArray.size=xs.length:=by rw[List.size_toArray];exact r.length.symm
  refine⟨"tuple",_,PyProof.Rows.slot_tuple_getitem.lookup,ht.typeIs,?_⟩
  refine qB ht hs pl pu (by rw[hlen];exact hw) ⟨.ref a,H,I,rfl,q a H ?_ (Same.refl H)⟩
  rw[hx']
  unfold cutV
  rw[hw.1,hw.2,List.drop_zero,Nat.sub_zero,List.take_length]
 ·exact sl_tup pins s σ H _ v vl vu lo hi sl Q I rx hs pl pu ⟨a,xs,rfl,hx,hw,fun p np=>q p _ jd fun c o e=>by rw[jm (jv e np)];exact e⟩
def rSlS:V->Option Int->Option Int->Hp->VK->Prop:=fun x lo hi H Q=>∃y,x= .str y/\y.length<=sizeLine/\∀z:Str,z.length<=y.length->Q (.str z) H
theorem Y3:SlR X rSlS:=by
 intro pins s σ H x v vl vu lo hi sl Q I rx hs pl pu h
 obtain⟨y,rfl,hz,q⟩:=h
 obtain⟨tk,rfl⟩:=(show ∃t,v=Value.str y t from rx)
 obtain⟨os,hos,hcs,hds⟩:=id hs
 have part:∀{v:Value} {o:Option Int},IsPart v o->∃l:Option (Int×Tok),v=partValue l/\l.map (·.1)=o:=by
  intro v o h
  cases h with
  |none=>exact⟨none,rfl,rfl⟩
  |int i t=>exact⟨some (i,t),rfl,rfl⟩
 obtain⟨l,rfl,el⟩:=part pl
 obtain⟨u,rfl,eu⟩:=part pu
 refine⟨"str",_,F.slot_str_getitem.lookup,typeIs_str _ _ _,wpAny_getItem_str_slice (l:=l) (u:=u) (st:=none) ⟨os,hos,hcs,hds⟩ rfl ?_⟩
 have le:=Txt.slice_le y (l.map (·.1)) (u.map (·.1))
 show(if ((1:Int)==1&&(strSliceIndices (l.map (·.1)) (u.map (·.1)) 1 y.length).length==y.length)=true then Made.val (.str y tk) else Made.str ⟨((strSliceIndices (l.map (·.1)) (u.map (·.1)) 1 y.length).filterMap (y.cps[·]?)).toArray⟩).post _ s
 unfold Txt.slice at le
 refine post_val_or_str ?_
 revert le
 generalize (if ((1:Int)==1&&(strSliceIndices (l.map (·.1)) (u.map (·.1)) 1 y.length).length==y.length)=true then y else (⟨((strSliceIndices (l.map (·.1)) (u.map (·.1)) 1 y.length).filterMap (y.cps[·]?)).toArray⟩:Str))=zz
 intro le
 exact⟨Nat.le_trans le hz,fun t' k=>⟨.str zz,H,I.tok k,⟨t',rfl⟩,q zz le⟩⟩
end
end L2
namespace L2
open PySem PySem.Spec PyProof.Rows
theorem boolC{G:Bool->Hp->Prop}{b:Bool}{H:Hp}(y:G true H)(n:b=false->G b H):G b H:=by
 cases b
 ·exact n rfl
 ·exact y
theorem opq{A:Prop}(h:∀G:Prop,(A->G)->G):A:=h A fun z=>z
section
variable {t u:TS}{D:Ends}{σ:St}{H:Hp}
theorem seqE(h:∀E:Ends,(∀σ' H',u D σ' H'->E.nx σ' H')->t E σ H):tSeq t u D σ H:=h { D with nx:=u D } fun _ _ h=>h
theorem seqF(h:∀F:St->Hp->Prop,(∀σ' H',u D σ' H'->F σ' H')->t { D with nx:=F } σ H):tSeq t u D σ H:=h _ fun _ _ h=>h
theorem ifG{c:TT}(h:∀F:Bool->Hp->Prop,(∀b H',(if b=true then t D σ H' else u D σ H')->F b H')->c σ H F):tIfS c t u D σ H:=h _ fun _ _ x=>x
theorem ifE{c:TT}(h:∀F:Bool->Hp->Prop,(∀H',t D σ H'->F true H')->(∀H',u D σ H'->F false H')->c σ H F):tIfS c t u D σ H:=by
 refine h _ (fun H' x=>?_) fun H' x=>?_
 ·show if true=true then _ else _
  rw[if_pos rfl];exact x
 ·show if false=true then _ else _
  rw[if_neg (by decide)];exact x
theorem midE(R:St->Hp->Prop)(h1:∀E:Ends,E.rt=D.rt->(∀σ' H',R σ' H'->E.nx σ' H')->t E σ H)(h2:∀σ' H',R σ' H'->D.nx σ' H'):tMid t D σ H:=⟨R,h1 { D with nx:=R } rfl fun _ _ h=>h,h2⟩
theorem whileE{c:TT}{tb:TS}(W:Nat->St->Hp->Prop)(m0:Nat)(h0:W m0 σ H)
  (hs:∀m σ H,∀E:Ends,E.rt=D.rt->(∀m' σ' H',m' < m->W m' σ' H'->E.nx σ' H')->∀F:Bool->Hp->Prop,(∀H',tb E σ H'->F true H')->(∀H',D.nx σ H'->F false H')->∀G:Prop,(c σ H F->G)->W m σ H->G):tWhile c tb D σ H:=by
 refine⟨W,⟨m0,h0⟩,fun m σ H w=>?_⟩
 refine hs m σ H { D with nx:=fun σ' H'=>∃m',m' < m/\W m' σ' H',ct:=fun σ' H'=>∃m',m' < m/\W m' σ' H',bk:=D.nx } rfl (fun m' σ' H' l w'=>⟨m',l,w'⟩) _ (fun H' x=>?_) (fun H' x=>?_) _ (fun z=>z) w
 ·show if true=true then _ else _
  rw[if_pos rfl]
  exact⟨_,fun _ _ h=>h,x⟩
 ·show if false=true then _ else _
  rw[if_neg (by decide)];exact x
def ForW(J:It)(g:TG)(tb:TS)(D:Ends)(σ:St)(H:Hp):Prop:=∃W:Nat->Nat->St->Hp->Prop,(∃m,W 0 m σ H)/\∀i m σ H,W i m σ H->
 (J.stop i H/\D.nx σ H)∨(J.go i H/\∃N:St->Hp->Prop,(∀σ' H',N σ' H'->∃m',m' < m/\W (i+1) m' σ' H')/\∀x H',J.yld i H x H'->g x σ H' fun σ2 H2=>tb { D with nx:=N,ct:=N,bk:=D.nx } σ2 H2)
theorem forE{wi:TI}{g:TG}{tb:TS}(h:∀F:It->Hp->Prop,(∀J H',ForW J g tb D σ H'->F J H')->wi σ H F):tFor wi g tb D σ H:=h _ fun _ _ z=>z
theorem tgE{g:TG}{x:V}{Q:St->Hp->Prop}(h:∀F:St->Hp->Prop,(∀σ' H',Q σ' H'->F σ' H')->g x σ H F):g x σ H Q:=h _ fun _ _ z=>z
theorem kJ{lo:Int}{n:Nat}{g:TG}{tb:TS}{D:Ends}{σ:St}{H:Hp}(Pv:Nat->St->Hp->Prop)(h0:Pv 0 σ H)
  (hs:∀E:Ends,E.rt=D.rt->∀i σ H,i < n->(∀σ' H',Pv (i+1) σ' H'->E.nx σ' H')->∀G:Prop,((g (.int (lo+i)) σ H fun σ2 H2=>tb E σ2 H2)->G)->Pv i σ H->G) (hd:∀σ H,Pv n σ H->D.nx σ H):ForW (Itr lo n) g tb D σ H:=
 Kb Pv h0 (fun i σ H hi p=>hs { D with nx:=Pv (i+1),ct:=Pv (i+1),bk:=D.nx } rfl i σ H hi (fun _ _ h=>h) _ (fun z=>z) p) hd
theorem qK{K:Frag}{a:Addr}{xs:List V}{g:TG}{tb:TS}{D:Ends}{σ:St}{H:Hp}(Pv:Nat->St->Hp->Prop)(h0:Pv 0 σ H)(hl:∀i σ H,i<=xs.length->Pv i σ H->SqL K H a xs)
  (hs:∀E:Ends,E.rt=D.rt->∀i x σ H,xs[i]?=some x->(∀σ' H',Pv (i+1) σ' H'->E.nx σ' H')->∀G:Prop,((g x σ H fun σ2 H2=>tb E σ2 H2)->G)->Pv i σ H->G) (hd:∀σ H,Pv xs.length σ H->D.nx σ H):ForW (Itl K a) g tb D σ H:=
 Zm Pv h0 hl (fun i x σ H hi p=>hs { D with nx:=Pv (i+1),ct:=Pv (i+1),bk:=D.nx } rfl i x σ H hi (fun _ _ h=>h) _ (fun z=>z) p) hd
theorem Jz{K:Frag}{a:Addr}{xs:List V}{g:TG}{tb:TS}{D:Ends}{σ:St}{H:Hp}(Pv:Nat->St->Hp->Prop)(h0:Pv 0 σ H)(hl:∀i σ H,i<=xs.length->Pv i σ H->SqT K H a xs)
  (hs:∀E:Ends,E.rt=D.rt->∀i x σ H,xs[i]?=some x->(∀σ' H',Pv (i+1) σ' H'->E.nx σ' H')->∀G:Prop,((g x σ H fun σ2 H2=>tb E σ2 H2)->G)->Pv i σ H->G) (hd:∀σ H,Pv xs.length σ H->D.nx σ H):ForW (Itt K a) g tb D σ H:=
 for_tup Pv h0 hl (fun i x σ H hi p=>hs { D with nx:=Pv (i+1),ct:=Pv (i+1),bk:=D.nx } rfl i x σ H hi (fun _ _ h=>h) _ (fun z=>z) p) hd
end
end L2
namespace L2
open PySem PySem.Spec PyProof.Rows PySem.SeqAt
inductive Tr where
 |lf (v:V) |tp (l:Tr) |nil |cons (h t:Tr)
noncomputable def Tr.dep:Tr->Nat
 | .lf _=>0
 | .tp l=>l.dep+1
 | .nil=>0
 | .cons h t=>max h.dep t.dep
noncomputable def Tr.isL:Tr->Bool
 | .nil=>true
 | .cons _ _=>true
 |_=>false
noncomputable def okV:V->Bool
 | .byt _=>false
 | .flt _=>false
 |_=>true
def TrAt(K:Frag)(H:Hp):Tr->V->List V->Prop
 | .lf v,x,_=>x=v/\okV v=true
 | .tp l,x,_=>l.isL=true/\∃a xs,x= .ref a/\SqT K H a xs/\TrAt K H l .non xs
 | .nil,_,xs=>xs=[]
 | .cons h t,_,xs=>h.isL=false/\t.isL=true/\∃y ys,xs=y::ys/\TrAt K H h y []/\TrAt K H t .non ys
theorem Yp{A:Around}{s:Shared}{v:V}{u u':Value}(ok:okV v=true)(r:RelV v u)(r':RelV v u'):EqAt A s u u' true:=by
 cases v with
 |int a=>
  obtain⟨t,rfl⟩:=r
  obtain⟨t',rfl⟩:=r'
  have:=EqAt.int_int (A:=A) (s:=s) a t a t'
  rwa [beq_self_eq_true]at this
 |str a=>
  obtain⟨t,rfl⟩:=r
  obtain⟨t',rfl⟩:=r'
  have:=EqAt.str_str (A:=A) (s:=s) a t a t'
  rwa [beq_self_eq_true]at this
 |byt b=>cases ok
 |flt b=>cases ok
 |non=>cases r;cases r';exact EqAt.same _
 |bl b=>cases r;cases r';exact EqAt.same _
 |ref b=>cases r;cases r';exact EqAt.same _
 |ty b=>cases r;cases r';exact EqAt.same _
section
variable {X:Cx}
theorem Ko{n:Nat}:(List.range n).all (fun _=>true)=true:=by simp
theorem Xz{pins:List (Addr×Obj)}{σ:St}{H:Hp}{s:Shared}(I:Inv X pins σ H s){A:Around}{a b:Addr}{xs ys:List V}(ha:SqT X.K H a xs)(hb:SqT X.K H b ys)(hl:xs.length=ys.length)(hu:A.units < cLine)
  (h:∀(j:Nat) (x y:V) (u v:Value),xs[j]?=some x->ys[j]?=some y->RelV x u->RelV y v->EqAt A.in1 s u v true):RcAt A s (.ref a) (.ref b) true:=by
 obtain⟨ia,ra,pa,_⟩:=I.tuple ha
 obtain⟨ib,rb,pb,_⟩:=I.tuple hb
 have:=RcAt.tuples (A:=A) (e:=fun _=>true) (show s.heap.IsTuple a ia.toArray from pa) (show s.heap.IsTuple b ib.toArray from pb) hu (fun j h1 h2=>?_)
 ·rw[Ko,List.size_toArray,List.size_toArray,<- ra.length,<- rb.length,hl,beq_self_eq_true]at this
  exact this
 ·have la:=ra.length
  have lb:=rb.length
  have hj:j < xs.length:=by simp at h1;omega
  have hj':j < ys.length:=by omega
  obtain⟨u1,q1,r1⟩:=ra.get (List.getElem?_eq_getElem hj)
  obtain⟨u2,q2,r2⟩:=rb.get (List.getElem?_eq_getElem hj')
  have e1:ia.toArray[j]=u1:=by
   obtain⟨_,e⟩:=List.getElem?_eq_some_iff.mp q1
   simpa using e
  have e2:ib.toArray[j]=u2:=by
   obtain⟨_,e⟩:=List.getElem?_eq_some_iff.mp q2
   simpa using e
  rw[e1,e2]
  exact h j _ _ _ _ (List.getElem?_eq_getElem hj) (List.getElem?_eq_getElem hj') r1 r2
theorem tr_eq{pins:List (Addr×Obj)}{σ:St}{H:Hp}{s:Shared}(I:Inv X pins σ H s):∀(t:Tr) {A:Around},A.units+t.dep < cLine->∀{x y:V} {xs ys:List V},TrAt X.K H t x xs->TrAt X.K H t y ys->
  (t.isL=false->∀u v,RelV x u->RelV y v->EqAt A s u v true)/\(t.isL=true->xs.length=ys.length/\∀(j:Nat) (x' y':V) (u v:Value),xs[j]?=some x'->ys[j]?=some y'->RelV x' u->RelV y' v->EqAt A s u v true):=by
 intro t
 induction t with
 |lf w=>
  rintro A hu x y xs ys ⟨rfl,ok⟩ ⟨rfl,_⟩
  exact⟨fun _ u v r r'=>Yp ok r r',fun h=>by cases h⟩
 |tp l ih=>
  rintro A hu x y xs ys ⟨hl,a,as,rfl,ha,ta⟩ ⟨_,b,bs,rfl,hb,tb⟩
  refine⟨fun _ u v r r'=>?_,fun h=>by cases h⟩
  cases r
  cases r'
  have hd:A.units+(l.dep+1) < cLine:=hu
  have h2:=(ih (A:=A.in1) (by show A.units+1+l.dep < cLine;omega) ta tb).2 hl
  by_cases e:a=b
  ·rw[e];exact EqAt.same _
  ·exact EqAt.of_refs e (Xz I ha hb h2.1 (by omega) h2.2)
 |nil=>
  rintro A hu x y xs ys rfl rfl
  exact⟨(fun h=>by cases h),fun _=>⟨rfl,fun j x' y' u v h=>by simp at h⟩⟩
 |cons h t ihh iht=>
  rintro A hu x y xs ys ⟨hh,ht,x1,xs1,rfl,p1,p2⟩ ⟨_,_,y1,ys1,rfl,q1,q2⟩
  have hd:A.units+max h.dep t.dep < cLine:=hu
  have h1:=(ihh (A:=A) (by omega) p1 q1).1 hh
  have h2:=(iht (A:=A) (by omega) p2 q2).2 ht
  refine⟨(fun h=>by cases h),fun _=>⟨by rw[List.length_cons,List.length_cons,h2.1],fun j x' y' u v hx hy=>?_⟩⟩
  cases j with
  |zero=>cases hx;cases hy;exact h1 u v
  |succ j=>exact h2.2 j x' y' u v (by simpa using hx) (by simpa using hy)
def rEqTr(K:Frag)(d:Nat)(b:Bool):R2:=fun x y H Q=>∃l:Tr,l.dep < d/\TrAt K H (.tp l) x []/\TrAt K H (.tp l) y []/\Q (.bl b) H
theorem op_eqTr{d:Nat}(hu:X.A.units+d < cLine):OpR X (compareOp .Eq) (rEqTr X.K d true):=by
 intro pins s σ H x y v u Q I rx ry h
 obtain⟨l,hd,⟨hl,a,as,rfl,ha,ta⟩,⟨_,b,bs,rfl,hb,tb⟩,q⟩:=h
 cases rx
 cases ry
 have h2:=(tr_eq I l (A:=X.A.in1) (by show X.A.units+1+l.dep < cLine;omega) ta tb).2 hl
 exact Xz I ha hb h2.1 (by omega) h2.2 X.prog X.w _ _ ⟨.bl true,H,I,rfl,q⟩
theorem rcNe_tp{pins:List (Addr×Obj)}{σ:St}{H:Hp}{s:Shared}(I:Inv X pins σ H s){A:Around}{a b:Addr}{xs ys:List V}(ha:SqT X.K H a xs)(hb:SqT X.K H b ys)(hl:xs.length=ys.length)(hu:A.units < cLine)
  (h:∀(j:Nat) (x y:V) (u v:Value),xs[j]?=some x->ys[j]?=some y->RelV x u->RelV y v->EqAt A.in1 s u v true):RcNeAt A s (.ref a) (.ref b) false:=by
 obtain⟨ia,ra,pa,_⟩:=I.tuple ha
 obtain⟨ib,rb,pb,_⟩:=I.tuple hb
 have:=RcNeAt.tuples (A:=A) (e:=fun _=>true) (show s.heap.IsTuple a ia.toArray from pa) (show s.heap.IsTuple b ib.toArray from pb) hu (fun j h1 h2=>?_)
 ·rw[Ko,List.size_toArray,List.size_toArray,<- ra.length,<- rb.length,hl,beq_self_eq_true]at this
  exact this
 ·have la:=ra.length
  have lb:=rb.length
  have hj:j < xs.length:=by simp at h1;omega
  have hj':j < ys.length:=by omega
  obtain⟨u1,q1,r1⟩:=ra.get (List.getElem?_eq_getElem hj)
  obtain⟨u2,q2,r2⟩:=rb.get (List.getElem?_eq_getElem hj')
  have e1:ia.toArray[j]=u1:=by
   obtain⟨_,e⟩:=List.getElem?_eq_some_iff.mp q1
   simpa using e
  have e2:ib.toArray[j]=u2:=by
   obtain⟨_,e⟩:=List.getElem?_eq_some_iff.mp q2
   simpa using e
  rw[e1,e2]
  exact h j _ _ _ _ (List.getElem?_eq_getElem hj) (List.getElem?_eq_getElem hj') r1 r2
theorem op_neTr{d:Nat}(hu:X.A.units+d < cLine):OpR X (compareOp .NotEq) (rEqTr X.K d false):=by
 intro pins s σ H x y v u Q I rx ry h
 obtain⟨l,hd,⟨hl,a,as,rfl,ha,ta⟩,⟨_,b,bs,rfl,hb,tb⟩,q⟩:=h
 cases rx
 cases ry
 have h2:=(tr_eq I l (A:=X.A.in1) (by show X.A.units+1+l.dep < cLine;omega) ta tb).2 hl
 exact rcNe_tp I ha hb h2.1 (by omega) h2.2 X.prog X.w _ _ ⟨.bl false,H,I,rfl,q⟩
end
end L2
namespace L2
open PySem PySem.Spec PyProof.Rows
noncomputable def Itv(K:Frag)(a:Addr)(n:Nat):It:=
 ⟨fun i H=>∃xs x,SqT K H a xs/\xs.length=n/\xs.reverse[i]?=some x,fun i H x H'=>H'=H/\∀xs,SqT K H a xs->xs.reverse[i]?=some x,fun i H=>∃xs,SqT K H a xs/\xs.length=n/\i=n⟩
theorem ZH{P:Program}{w:World}{K:Frag}{tg:Expr}(a it:Addr)(n:Nat):Turn P w K tg (Itv K a n) [it] it (fun i h=>RevAt h it a ((n:Int) - 1 - i)) where
 mem:=by simp
 obj:=fun i h st b hb=>by
  have e:b=it:=by simpa using hb
  subst e
  obtain⟨o,e,c,d⟩:=st
  exact⟨o,e,fun v z=>by rw[d]at z;cases z⟩
 keep:=fun i h h' st k=>st.at fun o e=>k it (by simp) o e
 item:=by
  intro X hP hw hK hc i pins s σ H E I hf st hg
  subst hP hw hK
  obtain⟨xs,x,hq,hn,hx⟩:=hg
  obtain⟨its,rv,p,hz⟩:=I.tuple hq
  have hl:=rv.length
  have h63:=line63
  have hi:i < xs.length:=by
   rcases Nat.lt_or_ge i xs.length with z |z
   ·exact z
   ·rw[List.getElem?_eq_none (by simpa using z)]at hx;cases hx
  have hx':xs[xs.length - 1 - i]?=some x:=by rw[List.getElem?_reverse hi]at hx;exact hx
  obtain⟨u,hu,ru⟩:=rv.get hx'
  obtain⟨f0,f1,f2,f3,f4,f5⟩:=hf it (by simp)
  have e:((n:Int) - 1 - i)=((xs.length - 1 - i:Nat):Int):=by omega
  rw[e]at st
  refine nextR (items:=its.toArray) st (show IsTup s.heap a its.toArray from p) (x:=u) (by simpa using hu) (by simp only[List.size_toArray];omega) fun h' st' sb=>?_
  have I1:Inv X pins σ H { s with heap:=h',toks:=s.toks+1 }:=I.turned (t':=s.toks+1) (fun b o hb e=>(sb.2 b hb).trans e) f0 f1 f3 f4 f5
  obtain⟨o,e',c,d⟩:=id st'
  refine⟨u,rfl,Xl (s:={ s with heap:=h',toks:=s.toks+1 }) e' c d (by decide) ⟨x,H,I1,ru,⟨rfl,fun ys hy=>by rw[I.tuple_inj hy hq];exact hx⟩,?_,fun b hb=>(hf b hb).1⟩⟩
  have e2:((n:Int) - 1 - ((i+1:Nat):Int))=((xs.length - 1 - i:Nat):Int) - 1:=by omega
  show RevAt h' it a ((n:Int) - 1 - ((i+1:Nat):Int))
  rw[e2];exact st'
 done:=by
  intro X hP hw hK hc i pins s σ H E I hf st hg
  subst hP hw hK
  obtain⟨xs,hq,hn,hx⟩:=hg
  obtain⟨f0,f1,f2,f3,f4,f5⟩:=hf it (by simp)
  have e:((n:Int) - 1 - (i:Int))= -1:=by omega
  rw[e]at st
  exact Yo (I.ok.hd hc) st fun h' eb=>⟨rfl,I.turned (t':=s.toks) (fun b o hb e=>eb b o hb e) f0 f1 f3 f4 f5⟩
 self:=fun _ _ _ _ _ st h=>iterR st h
section
variable {X:Cx}{tg:Expr}
def iRev(K:Frag)(tl:TE):TI:=fun σ H R=>tl σ H fun x H1=>∃a xs,x= .ref a/\SqT K H1 a xs/\R (Itv K a xs.length) H1
theorem Y4{e:Expr}{tl:TE}{xr:Str}{p pos:Pos}(hgr:Gl X xr)(hmr:X.mg xr=none)(hvr:bootBuiltins xr=some (.type "reversed"))(hl:PE X e tl)(hnr:xr≠"__name__":=by decide)(hdr:(xr==("__debug__":Str))=false:=by decide)
  (h3:starEach [e] X.env=(false,eval e X.env)::starEach [] X.env:=by rfl) (h4:(backTo pos (starEach [] X.env)).any (·.1)=false:=by rfl):PI X tg (.Call (.Name xr p) [e] [] pos) (iRev X.K tl):=by
 intro pins s σ H R I h
 refine wpAny_Call_Name_kw (zi I hgr hmr hvr ?_ hnr hdr)
 refine PyProof.Rows.callWith_type1 ?_ h3 h4
 rw[h3]
 show wpAny _ _ (spliced ((false,eval e X.env)::backTo pos (starEach [] X.env))) _ _ s
 refine Calls.spliced_cons (thn (hl pins s σ H _ I h) fun u s1 ⟨x,H1,I1,r1,a,xs,ex,hq,q⟩=>?_)
 subst ex
 cases (show u=Value.ref a from r1)
 obtain⟨its,r',pl,hz⟩:=I1.tuple hq
 have hlen:=r'.length
 have h63:=line63
 refine Calls.spliced_nil (ZF (show IsTup s1.heap a its.toArray from pl) (by simp only[List.size_toArray];omega) ?_)
 have rv:RevAt (s1.heap.push (revObj a its.toArray.size)) s1.heap.objs.size a ((xs.length:Int) - 1 - ((0:Nat):Int)):=⟨_,Heap.get?_push_size _ rfl,rfl,by rw[List.size_toArray,<- hlen];simp [revObj]⟩
 refine iterR (s:={ s1 with heap:=s1.heap.push (revObj a its.toArray.size),toks:=s1.toks+1+1 }) rv ?_
 refine⟨s1.heap.objs.size,[s1.heap.objs.size],_,_,H1,rfl,I1.kept (t':=s1.toks+1+1) fun b o e=>Heap.get?_push_of_some _ e,ZH a _ xs.length,rv,fun b hb=>?_,q⟩
 have e:b=s1.heap.objs.size:=by simpa using hb
 subst e
 exact I1.fpOk (Nat.le_refl _) (I1.hok.fresh (Nat.le_refl _))
end
theorem K9{K:Frag}{a:Addr}{xs:List V}{g:TG}{tb:TS}{D:Ends}{σ:St}{H:Hp}(Pv:Nat->St->Hp->Prop)(h0:Pv 0 σ H)(hl:∀i σ H,i<=xs.length->Pv i σ H->SqT K H a xs)
  (hs:∀E:Ends,E.rt=D.rt->∀i x σ H,xs.reverse[i]?=some x->(∀σ' H',Pv (i+1) σ' H'->E.nx σ' H')->∀G:Prop,((g x σ H fun σ2 H2=>tb E σ2 H2)->G)->Pv i σ H->G) (hd:∀σ H,Pv xs.length σ H->D.nx σ H):ForW (Itv K a xs.length) g tb D σ H:=by
 refine⟨fun i m σ H=>m=xs.length - i/\i<=xs.length/\Pv i σ H,⟨xs.length,by simp,Nat.zero_le _,h0⟩,?_⟩
 rintro i m σ H ⟨rfl,hi,p⟩
 have q:=hl i σ H hi p
 by_cases hlt:i < xs.length
 ·refine .inr ⟨⟨xs,_,q,rfl,List.getElem?_eq_getElem (by simpa using hlt)⟩,Pv (i+1),fun σ' H' p'=>⟨xs.length - (i+1),by omega,rfl,hlt,p'⟩,fun x H' y=>?_⟩
  obtain⟨e,y⟩:=y
  subst e
  exact hs { D with nx:=Pv (i+1),ct:=Pv (i+1),bk:=D.nx } rfl i x σ _ (y xs q) (fun _ _ h=>h) _ (fun z=>z) p
 ·have e:i=xs.length:=by omega
  subst e
  exact .inl ⟨⟨xs,q,rfl,rfl⟩,hd σ H p⟩
theorem ZI:Slot "list_reverseiterator" "__length_hint__" "list_reverseiterator.__length_hint__":=by
 refine Slot.of (owner:="list_reverseiterator") (n:="__length_hint__") (by rw[typeLookup_type,builtinLookup_eq_fast];kernel_rfl) (by decide+kernel) (by decide+kernel) (by decide+kernel) ?_ (by rw[isSubtype_type];kernel_rfl)
 first |exact .inl (by decide+kernel) |exact .inr (by decide+kernel)
theorem Yq:typeLookup (.type "list_reverseiterator") "__len__"=pure none:=by rw[typeLookup_type,builtinLookup_eq_fast];kernel_rfl
theorem sub_lr:isSubtype (.type "list_reverseiterator") (.type "list_reverseiterator")=pure true:=by rw[isSubtype_type];kernel_rfl
section
variable {prog:Program}{w:World}{A:Around}{E:Value->Shared->Prop}{s:Shared}
theorem hintLr{I t:Addr}{k:Int}(hit:s.heap.IsRevIter I t k){Q:Bool->Shared->Prop}(h:Q false s):wpAny (model prog w) A (Builtin.List.listLengthHint (.ref I)) Q E s:=by
 unfold Builtin.List.listLengthHint
 refine wpAny_bind (wpAny_specialOf hit.typeIs Yq ?_)
 show wpAny _ A (specialOf (Value.ref I) (Str.ofString "__length_hint__") >>= _) _ _ _
 refine wpAny_bind (wpAny_specialOf hit.typeIs ZI.lookup ?_)
 have esp:splitId "list_reverseiterator.__length_hint__"=some ("list_reverseiterator","__length_hint__"):=by decide+kernel
 dsimp only
 rw[esp]
 dsimp only
 refine wpAny_bind (wpAny_isInstance (b:=true) hit.typeIs sub_lr ?_)
 simp only[Bool.not_true,Bool.false_eq_true,if_false]
 rw[if_pos (by decide+kernel),if_neg (by decide+kernel)]
 exact wpAny_pure h
theorem collectLr{I t:Addr}{items:Array Value}{Q:List Value->Shared->Prop}(hh:A.handled=none)(hit:s.heap.IsRevIter I t ((items.size:Int) - 1))(ht:s.heap.IsList t items)(hI:t≠I)(hn:items.size<=sizeLine)
  (hQ:∀s',(∀b o,b≠I->s.heap.get? b=some o->s'.heap.get? b=some o)->s.heap.objs.size<=s'.heap.objs.size->s'.gens=s.gens->s'.os=s.os->Q items.toList.reverse s'):wpAny (model prog w) A (collect (.ref I)) Q E s:=by
 have hIs:I < s.heap.objs.size:=by obtain⟨o,ho,_⟩:=hit;exact Heap.lt_size ho
 have hts:t < s.heap.objs.size:=by obtain⟨o,ho,_⟩:=ht;exact Heap.lt_size ho
 have nI:I≠s.heap.objs.size:=Nat.ne_of_lt hIs
 have nt:t≠s.heap.objs.size:=Nat.ne_of_lt hts
 unfold collect
 refine wpAny_bind (wpAny_runValue (codeAny_builtin PySem.F.entry_proto_collect (by
  rw[Around.under_plainId PySem.F.plain_proto_collect _]
  show wpAny _ A.in1 (newList [] >>= fun l=>again (.builtin "list.__iadd__" ⟨[l,.ref I],[]⟩)) _ _ s
  refine wpAny_bind (wpAny_newObj_type (wpAny_pure ⟨plainId_quiet PySem.F.plain_list_iadd _,codeAny_builtin PySem.F.entry_list_iadd ?_⟩))
  rw[Around.under_plainId PySem.F.plain_list_iadd _]
  generalize hH:s.heap.push { cls:=.type "list",data:=.seq ([]:List Value).toArray }=H
  have gl:H.get? s.heap.objs.size=some { cls:=.type "list",data:=.seq #[] }:=by rw[<- hH];exact Heap.get?_push_size _ rfl
  have gk:∀b o,s.heap.get? b=some o->H.get? b=some o:=fun b o e=>by rw[<- hH];exact Heap.get?_push_of_some _ e
  have hit2:H.IsRevIter I t ((items.size:Int) - 1):=hit.at fun o e=>gk I o e
  have ht2:H.IsList t items:=ht.at fun o e=>gk t o e
  show wpAny _ A.in1 (Builtin.List.listExtendWith (.ref s.heap.objs.size) (.ref I) (.ref s.heap.objs.size)) _ _ { s with heap:=H }
  unfold Builtin.List.listExtendWith
  refine wpAny_bind (wpAny_typeOf (s:={ s with heap:=H }) hit2.typeIs ?_)
  have n1:Builtin.List.listSameRef (.ref s.heap.objs.size) (.ref I)=false:=by
   simp only[Builtin.List.listSameRef,beq_eq_false_iff_ne]
   exact Ne.symm nI
  have n2:(Value.type "list_reverseiterator"==Value.type "list")=false:=by decide
  have n3:(Value.type "list_reverseiterator"==Value.type "tuple")=false:=by decide
  simp only[n1,n2,n3,Bool.or_false,Bool.false_eq_true,if_false]
  refine wpAny_bind (wpAny_pyIter_revIter (s:={ s with heap:=H }) hit2 (wpAny_bind (wpAny_holding (hintLr (s:={ s with heap:=H }) hit2 ?_))))
  have nfp:¬s.heap.objs.size∈[I,t]:=by simp only[List.mem_cons,List.not_mem_nil,or_false,not_or];exact⟨Ne.symm nI,Ne.symm nt⟩
  rw[if_neg (by decide+kernel)]
  refine wpAny_pure ⟨plainId_quiet PySem.F.plain_extend_loop _,?_⟩
  have W:=(Walks.listRev (prog:=prog) (w:=w) (A:=A.in1) (by simpa using hh) I t hI items).toS
  refine codeAny_extend_loopS W hn _ nfp _ items.size 0 _ #[] _ rfl (Nat.zero_le _) ⟨Nat.zero_le _,by simpa using hit2,ht2⟩ gl (ItemsOf.nil _) fun s' acc c' m gS hacc=>?_
  have ea:acc=items.toList.reverse.toArray:=by
   apply Array.ext'
   refine List.ext_getElem? fun i=>?_
   by_cases hi:i < items.size
   ·have hi':i < acc.size:=by rw[hacc.1];exact hi
    have q:=hacc.2 i acc[i] (by simp [hi'])
    rw[Array.getElem?_toList,Array.getElem?_eq_getElem hi',<- q]
    show items[items.size - 1 - i]?=items.toList.reverse[i]?
    rw[List.getElem?_reverse (by simpa using hi)]
    simp
   ·rw[List.getElem?_eq_none (by rw[Array.length_toList,hacc.1];omega),List.getElem?_eq_none (by simp;omega)]
  subst ea
  show wpAny _ A (load s.heap.objs.size >>= _) _ _ s'
  refine wpAny_bind (wpAny_load gS (wpAny_pure ?_))
  have eT:items.toList.reverse.toArray.toList=items.toList.reverse:=by simp
  rw[eT]
  refine hQ s' (fun b o hb e=>?_) ?_ m.gens m.os
  ·have ne:b≠s.heap.objs.size:=Nat.ne_of_lt (Heap.lt_size e)
   exact m.heap b o (by simp only[List.mem_cons,List.not_mem_nil,or_false,not_or];exact⟨ne,hb⟩) (gk b o e)
  ·exact Nat.le_of_lt (Heap.lt_size gS))))
end
section
variable {prog:Program}{w:World}{A:Around}{E:Value->Shared->Prop}{s:Shared}
theorem KQ{I t:Addr}{items:Array Value}{Q₁:Value->Shared->Prop}(hh:A.handled=none)(hit:s.heap.IsRevIter I t ((items.size:Int) - 1))(ht:s.heap.IsList t items)(hI:t≠I)(hn:items.size<=sizeLine)
  (h:∀s':Shared,(∀b o,b≠I->s.heap.get? b=some o->s'.heap.get? b=some o)->s.heap.objs.size<=s'.heap.objs.size->s'.gens=s.gens->s'.os=s.os->
   Q₁ (.ref s'.heap.objs.size) { s' with heap:=s'.heap.push { cls:=.type "tuple",data:=.seq items.toList.reverse.toArray } }):
  codeAny (model prog w) A (.call (.builtin "tuple.__new__") ⟨[.type "tuple",.ref I],[]⟩) (wants Q₁ E) s:=by
 refine codeAny_of_tree (show wpAny _ A.in1 (do checkBuiltinCall "tuple.__new__" ⟨[.type "tuple",.ref I],[]⟩;again (.builtin "tuple.__new__" ⟨[.type "tuple",.ref I],[]⟩)) _ _ s from ?_)
 refine wpAny_bind (wpAny_of_eq (PySem.F.newCall_tuple_1 _) (wpAny_pure ⟨plainId_quiet PySem.F.plain_tuple_new _,codeAny_builtin PySem.F.entry_tuple_new (by
  rw[Around.under_plainId PySem.F.plain_tuple_new _]
  have hsub:=sub_tuple_self
  have hinit:=init_tuple_lookup
  have hmh:=madeHere_tuple
  have hTI:=hit.typeIs
  wp_walk using wpAny_typeOf hTI,collectLr (by simpa using hh) hit ht hI hn
  intro s' k z1 z2 z3
  show wpAny _ _ (Builtin.Tuple.tupleExact items.toList.reverse.toArray >>= fun v=>ret v) _ _ _
  unfold Builtin.Tuple.tupleExact
  exact wpAny_bind (wpAny_newObj_type (wpAny_pure (h s' k z1 z2 z3)) (by show items.toList.reverse.toArray.size<=sizeLine;simpa using hn)))⟩))
theorem KR{I t:Addr}{items:Array Value}{Q:Value->Shared->Prop}(hh:A.handled=none)(hit:s.heap.IsRevIter I t ((items.size:Int) - 1))(ht:s.heap.IsList t items)(hI:t≠I)(hn:items.size<=sizeLine)
  (h:∀s':Shared,(∀b o,b≠I->s.heap.get? b=some o->s'.heap.get? b=some o)->s.heap.objs.size<=s'.heap.objs.size->s'.gens=s.gens->s'.os=s.os->
   Q (.ref s'.heap.objs.size) { s' with heap:=s'.heap.push { cls:=.type "tuple",data:=.seq items.toList.reverse.toArray } }):wpAny (model prog w) A (call (.type "tuple") [.ref I]) Q E s:=by
 refine callType_codes (Q₁:=fun ob s₁=>s₁.TypeIs ob "tuple"/\Q ob s₁) PySem.F.called_tuple (PySem.F.typeCall_tuple_1 _) PySem.F.entry_object_init (KQ (by simpa using hh) hit ht hI hn fun s' k z1 z2 z3=>⟨⟨_,Heap.get?_push_size _ rfl,rfl⟩,h s' k z1 z2 z3⟩) fun ob s₁ h₁=>?_
 exact⟨h₁.1,PySem.F.args_object_init_2 ob _,object_init_meets PySem.F.called_tuple.init.lookup PySem.F.called_tuple.made (by decide) prog w A.in1 _ s₁ ⟨h₁.1,rfl,h₁.2⟩⟩
end
section
variable {X:Cx}{e:Expr}{te:TE}{xl xr:Str}{p p2 pos pos2:Pos}
def tTupRev(K:Frag)(te:TE):TE:=fun σ H Q=>te σ H fun x H1=>∃a xs,x= .ref a/\SqL K H1 a xs/\∀l,H1 l=none->Q (.ref l) (upd H1 l (.tup xs.reverse))
theorem Yr(hc:X.calm=true)(hgl:Gl X xl)(hml:X.mg xl=none)(hvl:bootBuiltins xl=some (.type "tuple"))(hgr:Gl X xr)(hmr:X.mg xr=none)(hvr:bootBuiltins xr=some (.type "reversed"))(he:PE X e te)
  (hnl:xl≠"__name__":=by decide) (hdl:(xl==("__debug__":Str))=false:=by decide) (hnr:xr≠"__name__":=by decide) (hdr:(xr==("__debug__":Str))=false:=by decide)
  (h1:starEach [.Call (.Name xr p2) [e] [] pos2] X.env=(false,eval (.Call (.Name xr p2) [e] [] pos2) X.env)::starEach [] X.env:=by rfl) (h2:(backTo pos (starEach [] X.env)).any (·.1)=false:=by rfl)
  (h3:starEach [e] X.env=(false,eval e X.env)::starEach [] X.env:=by rfl) (h4:(backTo pos2 (starEach [] X.env)).any (·.1)=false:=by rfl):
  PE X (.Call (.Name xl p) [.Call (.Name xr p2) [e] [] pos2] [] pos) (tTupRev X.K te):=by
 intro pins s σ H Q I h
 refine wpAny_Call_Name_kw (zi I hgl hml hvl ?_ hnl hdl)
 refine PyProof.Rows.callWith_type1 ?_ h1 h2
 rw[h1]
 show wpAny _ _ (spliced ((false,eval (.Call (.Name xr p2) [e] [] pos2) X.env)::backTo pos (starEach [] X.env))) _ _ s
 refine Calls.spliced_cons ?_
 refine wpAny_Call_Name_kw (zi I hgr hmr hvr ?_ hnr hdr)
 refine PyProof.Rows.callWith_type1 ?_ h3 h4
 rw[h3]
 show wpAny _ _ (spliced ((false,eval e X.env)::backTo pos2 (starEach [] X.env))) _ _ s
 refine Calls.spliced_cons (thn (he pins s σ H _ I h) fun u s1 ⟨x,H1,I1,r1,a,xs,ex,hq,q⟩=>?_)
 subst ex
 cases (show u=Value.ref a from r1)
 obtain⟨its,r',pl,hz⟩:=I1.list hq
 have hlen:=r'.length
 refine Calls.spliced_nil (call_reversed_list pl.isList (Calls.spliced_nil ?_))
 have hlt:a < s1.heap.objs.size:=by obtain⟨o,ho,_⟩:=pl.isList;exact Heap.lt_size ho
 refine KR (s:={ s1 with heap:=s1.heap.push (PySem.revObj a ((its.toArray.size:Int) - 1)) }) (items:=its.toArray) (I.ok.hd hc) ⟨_,Heap.get?_push_size _ rfl,rfl,rfl⟩ (pl.isList.at fun o e=>Heap.get?_push_of_some _ e) (Nat.ne_of_lt hlt)
  (by simp only[List.size_toArray];omega) fun s' k hl kg ko=>?_
 have hsz:s1.heap.objs.size<=s'.heap.objs.size:=Nat.le_trans (by show _<=(s1.heap.push _).objs.size;rw[Heap.size_push];exact Nat.le_succ _) hl
 have k':∀b o,s1.heap.get? b=some o->(s'.heap.push { cls:=.type "tuple",data:=.seq its.toArray.toList.reverse.toArray }).get? b=some o:=fun b o e=>Heap.get?_push_of_some _ (k b o (Nat.ne_of_lt (Heap.lt_size e)) (Heap.get?_push_of_some _ e))
 have hg:(s'.heap.push { cls:=.type "tuple",data:=.seq its.toArray.toList.reverse.toArray }).get? s'.heap.objs.size=some { cls:=.type "tuple",data:=.seq its.toArray.toList.reverse.toArray }:=Heap.get?_push_size _ rfl
 have new:ObjOk X.prog X.w (upd H1 s'.heap.objs.size (.tup xs.reverse)) (s'.heap.push { cls:=.type "tuple",data:=.seq its.toArray.toList.reverse.toArray }) s'.heap.objs.size (.tup xs.reverse):=by
  refine⟨by rw[List.length_reverse];exact hz,its.reverse,Vals.reverse r',?_⟩
  have ee:its.toArray.toList.reverse.toArray=its.reverse.toArray:=by simp
  rw[<- ee]
  exact⟨_,hg,rfl,_,rfl⟩
 exact⟨.ref s'.heap.objs.size,_,I1.call' (ch:=[]) ko (Un.laid k' hsz (I1.hok.fresh hsz)) (I1.hok.laid k' hsz new) (by show AllBare s'.gens;rw[kg];exact I1.bare) (fun _ z=>nomatch z),rfl,q _ (I1.hok.fresh hsz)⟩
end
section
variable {prog:Program}{w:World}{A:Around}{E:Value->Shared->Prop}{s:Shared}
theorem Q7{J T:Addr}{i:Nat}{items:Array Value}{x:Value}{Q:Value->Shared->Prop}(hJ:s.heap.IsTupleIter J T i)(hT:s.heap.IsTuple T items)(hx:items[i]?=some x)
  (q:∀h',h'.IsTupleIter J T (i+1)->Heap.SameBut J s.heap h'->Q x { s with heap:=h' }):wpAny (model prog w) A (Builtin.SmallTypes.nextOf (.ref J)) Q E s:=by
 obtain⟨o,ho,hc,hd⟩:=id hJ
 obtain⟨ol,hol,_,nl,hdl⟩:=hT
 unfold Builtin.SmallTypes.nextOf
 refine wpAny_bind (wpAny_callSpecial?_slot (name:=Str.ofString "__next__") hJ.typeIs PySem.F.slot_tuple_iterator_next (wpAny_call_entry PySem.F.slot_tuple_iterator_next hJ.typeIs PySem.F.entry_tuple_iterator_next (show wpAny _ _ (field (.ref J) 0 >>= _) _ _ s from ?_) (PySem.F.args_tuple_iterator_next_1 _)))
 refine wpAny_bind (wpAny_field ho hd (x:=.ref T) rfl (show wpAny _ _ (if (Value.ref T==Value.none)=true then _ else _) _ _ s from ?_))
 rw[if_neg (show ¬((Value.ref T==Value.none)=true) from Bool.false_ne_true)]
 refine(show wpAny _ _ (field (.ref J) 1 >>= _) _ _ s from wpAny_bind (wpAny_field ho hd (x:=.int i 0) rfl (show wpAny _ _ (seqItems? (.ref T) >>= _) _ _ s from wpAny_bind (wpAny_seqItems hol hdl ?_))))
 simp only[Int.toNat_natCast,hx]
 refine wpAny_bind (wpAny_setField ho hd (by simp) (wpAny_pure ⟨x,rfl,wpAny_pure (q _ ⟨_,Heap.get?_update_self _ ho (Obj.isFreed_of_fields (Obj.data_mapFields hd _)),(Obj.cls_mapFields ..).trans hc,by rw[Obj.data_mapFields hd];simp [rawInt]⟩ (Heap.SameBut.update ..))⟩))
theorem Ys{J T:Addr}{i:Nat}{items:Array Value}{Q:Value->Shared->Prop}(hh:A.handled=none)(hJ:s.heap.IsTupleIter J T i)(hT:s.heap.IsTuple T items)(hx:items[i]?=none)
  (q:∀h' e,Heap.ExtBut J s.heap h'->Shared.TypeIs { s with heap:=h' } e "StopIteration"->E e { s with heap:=h' }):wpAny (model prog w) A (Builtin.SmallTypes.nextOf (.ref J)) Q E s:=by
 obtain⟨o,ho,hc,hd⟩:=id hJ
 obtain⟨ol,hol,_,nl,hdl⟩:=hT
 unfold Builtin.SmallTypes.nextOf
 refine wpAny_bind (wpAny_callSpecial?_slot (name:=Str.ofString "__next__") hJ.typeIs PySem.F.slot_tuple_iterator_next (wpAny_call_entry PySem.F.slot_tuple_iterator_next hJ.typeIs PySem.F.entry_tuple_iterator_next (show wpAny _ _ (field (.ref J) 0 >>= _) _ _ s from ?_) (PySem.F.args_tuple_iterator_next_1 _)))
 refine wpAny_bind (wpAny_field ho hd (x:=.ref T) rfl (show wpAny _ _ (if (Value.ref T==Value.none)=true then _ else _) _ _ s from ?_))
 rw[if_neg (show ¬((Value.ref T==Value.none)=true) from Bool.false_ne_true)]
 refine(show wpAny _ _ (field (.ref J) 1 >>= _) _ _ s from wpAny_bind (wpAny_field ho hd (x:=.int i 0) rfl (show wpAny _ _ (seqItems? (.ref T) >>= _) _ _ s from wpAny_bind (wpAny_seqItems hol hdl ?_))))
 simp only[Int.toNat_natCast,hx]
 refine wpAny_bind (wpAny_rule (wpAny_bind (wpAny_setField ho hd (by simp) ?_)))
 refine Jd (by simpa using hh) fun h' e k te=>q h' e (fun b o hb eb=>k b o ?_) te
 exact(Heap.get?_update_other _ _ (Ne.symm hb)).trans eb
end
def SIt(b:Bool)(h:Heap)(i l:Addr)(k:Nat):Prop:=match b with
 |true=>h.IsListIter i l k
 |false=>h.IsTupleIter i l k
def SSq(b:Bool)(h:Heap)(l:Addr)(xs:Array Value):Prop:=match b with
 |true=>h.IsList l xs
 |false=>h.IsTuple l xs
noncomputable def itCls:Bool->String
 |true=>"list_iterator"
 |false=>"tuple_iterator"
theorem SIt.kp{b:Bool}{h h':Heap}{i l:Addr}{k:Nat}(x:SIt b h i l k)(e:∀o,h.get? i=some o->h'.get? i=some o):SIt b h' i l k:=by
 cases b
 ·exact Heap.IsTupleIter.at x e
 ·obtain⟨o,ho,r⟩:=x;exact⟨o,e o ho,r⟩
theorem SSq.kp{b:Bool}{h h':Heap}{l:Addr}{xs:Array Value}(x:SSq b h l xs)(e:∀o,h.get? l=some o->h'.get? l=some o):SSq b h' l xs:=by
 cases b
 ·obtain⟨o,ho,r⟩:=x;exact⟨o,e o ho,r⟩
 ·exact Heap.IsList.at x e
theorem SIt.ob{b:Bool}{h:Heap}{i l:Addr}{k:Nat}(x:SIt b h i l k):∃o,h.get? i=some o/\o.cls= .type (itCls b)/\∀v,o.data≠ .cell v:=by
 cases b
 ·obtain⟨o,ho,c,d⟩:=x;exact⟨o,ho,c,fun v z=>by rw[d]at z;cases z⟩
 ·obtain⟨o,ho,c,d⟩:=x;exact⟨o,ho,c,fun v z=>by rw[d]at z;cases z⟩
section
variable {prog:Program}{w:World}{A:Around}{E:Value->Shared->Prop}{s:Shared}
theorem zD{b:Bool}{J T:Addr}{i:Nat}{items:Array Value}{x:Value}{Q:Value->Shared->Prop}(hJ:SIt b s.heap J T i)(hT:SSq b s.heap T items)(hx:items[i]?=some x)
  (q:∀h',SIt b h' J T (i+1)->Heap.SameBut J s.heap h'->Q x { s with heap:=h' }):wpAny (model prog w) A (Builtin.SmallTypes.nextOf (.ref J)) Q E s:=by
 cases b
 ·exact Q7 hJ hT hx q
 ·exact wpAny_nextOf_list_item hJ hT hx q
theorem Kq{b:Bool}{J T:Addr}{i:Nat}{items:Array Value}{Q:Value->Shared->Prop}(hh:A.handled=none)(hJ:SIt b s.heap J T i)(hT:SSq b s.heap T items)(hx:items[i]?=none)
  (q:∀h' e,Heap.ExtBut J s.heap h'->Shared.TypeIs { s with heap:=h' } e "StopIteration"->E e { s with heap:=h' }):wpAny (model prog w) A (Builtin.SmallTypes.nextOf (.ref J)) Q E s:=by
 cases b
 ·exact Ys hh hJ hT hx q
 ·exact wpAny_nextOf_list_end hh hJ hT hx fun h' e k ⟨o,ho,hc⟩=>q h' (.ref e) k ⟨o,ho,hc⟩
theorem iterS{b:Bool}{T:Addr}{items:Array Value}{Q:Value->Shared->Prop}(hT:SSq b s.heap T items)
  (q:Q (.ref s.heap.objs.size) { s with heap:=s.heap.push { cls:=.type (itCls b),data:=.fields #[.ref T,.int 0 0] } }):wpAny (model prog w) A (pyIter (.ref T)) Q E s:=by
 cases b
 ·exact wpAny_pyIter_tuple hT q
 ·exact wpAny_pyIter_list hT q
structure ZpA(z u v c d a b:Addr):Prop where
 uz:u≠z
 vz:v≠z
 cz:c≠z
 dz:d≠z
 uv:u≠v
 uc:u≠c
 ud:u≠d
 vc:v≠c
 vd:v≠d
 cd:c≠d
 az:a≠z
 av:a≠v
 ac:a≠c
 ad:a≠d
 bz:b≠z
 bv:b≠v
 bc:b≠c
 bd:b≠d
theorem XA{b1 b2:Bool}{z u v c d a b:Addr}{k:Nat}{xs ys:Array Value}{x y p q:Value}{Q:Option Value->Shared->Prop}(D:ZpA z u v c d a b)
  (hz:IsZip s.heap z u v .none) (hu:IsPair s.heap u (.ref c) (.ref d)) (hv:IsPair s.heap v p q) (h1:SIt b1 s.heap c a k) (h2:SIt b2 s.heap d b k) (g1:SSq b1 s.heap a xs) (g2:SSq b2 s.heap b ys) (hx:xs[k]?=some x) (hy:ys[k]?=some y)
  (hQ:∀h',IsZip h' z u v (rawInt s.heap.objs.size)->IsPair h' v x y->SIt b1 h' c a (k+1)->SIt b2 h' d b (k+1)->IsPair h' s.heap.objs.size x y->h'.objs.size=s.heap.objs.size+1->
   (∀e o,e≠z->e≠v->e≠c->e≠d->s.heap.get? e=some o->h'.get? e=some o)->Q (some (.ref s.heap.objs.size)) { s with heap:=h' }):wpAny (model prog w) A (pyNext (.ref z)) Q E s:=by
 have hT:s.TypeIs (.ref z) "zip":=⟨_,hz,rfl⟩
 unfold pyNext
 refine wpAny_bind (wpAny_attempt (wpAny_callSpecial?_slot (name:=Str.ofString "__next__") hT PySem.F.slot_zip_next (wpAny_call_entry PySem.F.slot_zip_next hT PySem.F.entry_zip_next (show wpAny _ _ (field (.ref z) 2 >>= _) _ _ _ from ?_) (PySem.F.args_zip_next_1 _))))
 refine wpAny_bind (wpAny_field hz rfl (x:=.bool false) rfl (show wpAny _ _ (field (.ref z) 3 >>= _) _ _ _ from wpAny_bind (wpAny_field hz rfl (x:=.ref u) rfl (wpAny_bind (wpAny_seqItems hu rfl ?_)))))
 refine(show wpAny _ _ (Builtin.SmallTypes.ownedTupleIsFree (.ref z) >>= _) _ _ _ from wpAny_bind ?_)
 unfold Builtin.SmallTypes.ownedTupleIsFree
 refine wpAny_bind (wpAny_field hz rfl (x:=.none) rfl (wpAny_pure ?_))
 simp only[if_true]
 refine wpAny_bind (wpAny_rule (wpAny_bind (wpAny_field hz rfl (x:=.ref v) rfl (wpAny_bind (wpAny_setField_rec hz (by simp) fun m1 z1 s1=>?_)))))
 replace z1:IsZip m1 z u v .ellipsis:=z1
 refine wpAny_bind ?_
 simp only[List.zipIdx_cons,List.zipIdx_nil,List.forIn_cons,List.forIn_nil]
 refine wpAny_bind (wpAny_bind (wpAny_onRaise (show wpAny _ _ (Builtin.SmallTypes.nextOf (.ref c) >>= _) _ _ _ from ?_)))
 refine wpAny_bind (zD (s:={ s with heap:=m1 }) (h1.kp fun o e=>s1.extBut _ _ D.cz e) (g1.kp fun o e=>s1.extBut _ _ D.az e) hx fun m2 i2 s2=>wpAny_pure ?_)
 have v2:IsPair m2 v p q:=s2.extBut _ _ D.vc (s1.extBut _ _ D.vz hv)
 refine wpAny_bind (wpAny_seqItems (s:={ s with heap:=m2 }) v2 rfl (wpAny_bind (wpAny_updateSeq_pair (s:={ s with heap:=m2 }) v2 fun m3 v3 s3=>?_)))
 replace v3:IsPair m3 v x q:=v3
 refine wpAny_bind (wpAny_letGo (wpAny_pure (wpAny_bind (wpAny_bind (wpAny_onRaise (show wpAny _ _ (Builtin.SmallTypes.nextOf (.ref d) >>= _) _ _ _ from ?_))))))
 have k3:∀e o,e≠z->e≠c->e≠v->s.heap.get? e=some o->m3.get? e=some o:=fun e o n1 n2 n3 w=>s3.extBut _ _ n3 (s2.extBut _ _ n2 (s1.extBut _ _ n1 w))
 refine wpAny_bind (zD (s:={ s with heap:=m3 }) (h2.kp fun o e=>k3 _ _ D.dz D.cd.symm D.vd.symm e) (g2.kp fun o e=>k3 _ _ D.bz D.bc D.bv e) hy fun m4 i4 s4=>wpAny_pure ?_)
 have v4:IsPair m4 v x q:=s4.extBut _ _ D.vd v3
 refine wpAny_bind (wpAny_seqItems (s:={ s with heap:=m4 }) v4 rfl (wpAny_bind (wpAny_updateSeq_pair (s:={ s with heap:=m4 }) v4 fun m5 v5 s5=>?_)))
 replace v5:IsPair m5 v x y:=v5
 refine wpAny_bind (wpAny_letGo (wpAny_pure (wpAny_pure (wpAny_bind (wpAny_seqItems (s:={ s with heap:=m5 }) v5 rfl (wpAny_bind (wpAny_newTuple ?_)))))))
 have e5:m5.objs.size=s.heap.objs.size:=by rw[s5.1,s4.1,s3.1,s2.1,s1.1]
 have k5:∀e o,e≠z->e≠v->e≠c->e≠d->s.heap.get? e=some o->m5.get? e=some o:=fun e o n1 n2 n3 n4 w=>s5.extBut _ _ n2 (s4.extBut _ _ n4 (k3 e o n1 n3 n2 w))
 have z5:IsZip m5 z u v .ellipsis:=s5.extBut _ _ D.vz.symm (s4.extBut _ _ D.dz.symm (s3.extBut _ _ D.vz.symm (s2.extBut _ _ D.cz.symm z1)))
 have j1:SIt b1 m5 c a (k+1):=i2.kp fun o e=>s5.extBut _ _ D.vc.symm (s4.extBut _ _ D.cd (s3.extBut _ _ D.vc.symm e))
 have j2:SIt b2 m5 d b (k+1):=i4.kp fun o e=>s5.extBut _ _ D.vd.symm e
 have lz:z < m5.objs.size:=Heap.lt_size z5
 refine(show wpAny _ _ (Builtin.SmallTypes.ownedTupleHandOut (.ref z) (.ref m5.objs.size) >>= _) _ _ _ from wpAny_bind ?_)
 unfold Builtin.SmallTypes.ownedTupleHandOut
 have z6:IsZip (m5.push { cls:=.type "tuple",data:=.seq #[x,y] }) z u v .ellipsis:=Heap.get?_push_of_some _ z5
 refine wpAny_bind (wpAny_setField_rec z6 (by simp) fun m7 z7 s7=>?_)
 replace z7:IsZip m7 z u v (rawInt m5.objs.size):=z7
 refine wpAny_setField_rec z7 (by simp) fun m8 z8 s8=>?_
 replace z8:IsZip m8 z u v (rawInt m5.objs.size):=z8
 have up:∀e o,e≠z->m5.get? e=some o->m8.get? e=some o:=fun e o n w=>s8.extBut _ _ n (s7.extBut _ _ n (Heap.get?_push_of_some _ w))
 have t8:IsPair m8 m5.objs.size x y:=s8.extBut _ _ (Nat.ne_of_gt lz) (s7.extBut _ _ (Nat.ne_of_gt lz) (Heap.get?_push_size _ rfl))
 have e8:m8.objs.size=m5.objs.size+1:=by rw[s8.1,s7.1,Heap.size_push]
 rw[e5]at z8 t8 e8
 refine wpAny_pure ⟨_,rfl,wpAny_pure ?_⟩
 show Q (some (.ref m5.objs.size)) _
 rw[e5]
 exact hQ m8 z8 (up _ _ D.vz v5) (j1.kp fun o e=>up _ o D.cz e) (j2.kp fun o e=>up _ o D.dz e) t8 e8 fun e o n1 n2 n3 n4 w=>up e o n1 (k5 e o n1 n2 n3 n4 w)
theorem Y5{b1 b2:Bool}{z u v c d a b:Addr}{k:Nat}{xs ys:Array Value}{p q:Value}{Q:Option Value->Shared->Prop}(hh:A.handled=none)(D:ZpA z u v c d a b)
  (hz:IsZip s.heap z u v .none) (hu:IsPair s.heap u (.ref c) (.ref d)) (h1:SIt b1 s.heap c a k) (g1:SSq b1 s.heap a xs) (hx:xs[k]?=none)
  (hQ:∀h',(∀e o,e≠z->e≠v->e≠c->e≠d->s.heap.get? e=some o->h'.get? e=some o)->Q none { s with heap:=h' }):wpAny (model prog w) A (pyNext (.ref z)) Q E s:=by
 have hT:s.TypeIs (.ref z) "zip":=⟨_,hz,rfl⟩
 unfold pyNext
 refine wpAny_bind (wpAny_attempt (wpAny_callSpecial?_slot (name:=Str.ofString "__next__") hT PySem.F.slot_zip_next (wpAny_call_entry PySem.F.slot_zip_next hT PySem.F.entry_zip_next (show wpAny _ _ (field (.ref z) 2 >>= _) _ _ _ from ?_) (PySem.F.args_zip_next_1 _))))
 refine wpAny_bind (wpAny_field hz rfl (x:=.bool false) rfl (show wpAny _ _ (field (.ref z) 3 >>= _) _ _ _ from wpAny_bind (wpAny_field hz rfl (x:=.ref u) rfl (wpAny_bind (wpAny_seqItems hu rfl ?_)))))
 refine(show wpAny _ _ (Builtin.SmallTypes.ownedTupleIsFree (.ref z) >>= _) _ _ _ from wpAny_bind ?_)
 unfold Builtin.SmallTypes.ownedTupleIsFree
 refine wpAny_bind (wpAny_field hz rfl (x:=.none) rfl (wpAny_pure ?_))
 simp only[if_true]
 refine wpAny_bind (wpAny_rule (wpAny_bind (wpAny_field hz rfl (x:=.ref v) rfl (wpAny_bind (wpAny_setField_rec hz (by simp) fun m1 z1 s1=>?_)))))
 replace z1:IsZip m1 z u v .ellipsis:=z1
 refine wpAny_bind ?_
 simp only[List.zipIdx_cons,List.zipIdx_nil,List.forIn_cons,List.forIn_nil]
 refine wpAny_bind (wpAny_bind (wpAny_onRaise (show wpAny _ _ (Builtin.SmallTypes.nextOf (.ref c) >>= _) _ _ _ from ?_)))
 refine wpAny_bind (Kq (s:={ s with heap:=m1 }) (by simpa using hh) (h1.kp fun o e=>s1.extBut _ _ D.cz e) (g1.kp fun o e=>s1.extBut _ _ D.az e) hx fun m2 e s2 te=>?_)
 have z2:IsZip m2 z u v .ellipsis:=s2 _ _ D.cz.symm z1
 refine wpAny_setField_rec (s:={ s with heap:=m2 }) z2 (by simp) fun m3 z3 s3=>?_
 have te3:Shared.TypeIs { s with heap:=m3 } e "StopIteration":=by
  cases e with
  |ref x=>
   obtain⟨o,ho,hc⟩:=te
   have nx:x≠z:=fun w=>by
    subst w
    have:=ho.symm.trans z2
    cases this
    injection hc with w
    exact absurd w (by decide)
   exact⟨o,s3.extBut _ _ nx ho,hc⟩
  |_=>exact te
 exact wpAny_bind (wpAny_isInstance (T:="StopIteration") (b:=true) te3 isSubtype_stop (wpAny_pure (hQ m3 fun e o n1 n2 n3 n4 w=>s3.extBut _ _ n1 (s2 _ _ n3 (s1.extBut _ _ n1 w)))))
theorem Y6{b1 b2:Bool}{a b:Addr}{xs ys:Array Value}{Q:Value->Shared->Prop}(g1:SSq b1 s.heap a xs)(g2:SSq b2 s.heap b ys)
  (h:∀h',IsZip h' (s.heap.objs.size+4) (s.heap.objs.size+2) (s.heap.objs.size+3) .none->IsPair h' (s.heap.objs.size+2) (.ref s.heap.objs.size) (.ref (s.heap.objs.size+1))->
   IsPair h' (s.heap.objs.size+3) .none .none->SIt b1 h' s.heap.objs.size a 0->SIt b2 h' (s.heap.objs.size+1) b 0->(∀e o,s.heap.get? e=some o->h'.get? e=some o)->Q (.ref (s.heap.objs.size+4)) { s with heap:=h' }):
  wpAny (model prog w) A (call (.type "zip") [.ref a,.ref b]) Q E s:=by
 refine callType_new (S:=fun _ R s'=>s'=s/\R (.ok (.ret (.ref (s.heap.objs.size+4)))) { s with heap:=((((s.heap.push { cls:=.type (itCls b1),data:=.fields #[.ref a,.int 0 0] }).push { cls:=.type (itCls b2),data:=.fields #[.ref b,.int 0 0] }).push { cls:=.type "tuple",data:=.seq #[.ref s.heap.objs.size,.ref (s.heap.objs.size+1)] }).push { cls:=.type "tuple",data:=.seq #[.none,.none] }).push { cls:=.type "zip",data:=.fields #[.none,.bool false,.bool false,.ref (s.heap.objs.size+2),.ref (s.heap.objs.size+3)] } })
  PySem.F.called_zip (by decide) (PySem.F.typeCall_zip_2 _ _) (PySem.F.newCall_zip_2 _ _) (fun ob=>PySem.F.args_object_init_3 ob _ _) PySem.F.entry_zip_new (.of_wp fun prog' w' A' R s' hs=>?_) ⟨rfl,?_⟩
 ·obtain⟨rfl,hr⟩:=hs
  obtain⟨hp,g,dr,tk,os⟩:=s'
  have hsub:=sub_zip
  have L1:SSq b1 (Shared.heap ⟨hp,g,dr,tk,os⟩) a xs:=g1
  have L2:SSq b2 (Shared.heap ⟨hp.push { cls:=.type (itCls b1),data:=.fields #[.ref a,.int 0 0] },g,dr,tk,os⟩) b ys:=g2.kp fun o e=>Heap.get?_push_of_some _ e
  wp_walk using iterS L1,iterS L2
  refine⟨_,rfl,?_⟩
  simp only[Heap.size_push]at hr ⊢
  exact hr
 ·have z (h:Heap) (o:Obj):(h.push o).objs.size=h.objs.size+1:=Heap.size_push ..
  generalize e1:s.heap.push { cls:=.type (itCls b1),data:=.fields #[.ref a,.int 0 0] }=m1
  generalize e2:m1.push { cls:=.type (itCls b2),data:=.fields #[.ref b,.int 0 0] }=m2
  generalize e3:m2.push { cls:=.type "tuple",data:=.seq #[.ref s.heap.objs.size,.ref (s.heap.objs.size+1)] }=m3
  generalize e4:m3.push { cls:=.type "tuple",data:=.seq #[.none,.none] }=m4
  generalize e5:m4.push { cls:=.type "zip",data:=.fields #[.none,.bool false,.bool false,.ref (s.heap.objs.size+2),.ref (s.heap.objs.size+3)] }=m5
  have n1:m1.objs.size=s.heap.objs.size+1:=by rw[<- e1,z]
  have n2:m2.objs.size=s.heap.objs.size+2:=by rw[<- e2,z,n1]
  have n3:m3.objs.size=s.heap.objs.size+3:=by rw[<- e3,z,n2]
  have n4:m4.objs.size=s.heap.objs.size+4:=by rw[<- e4,z,n3]
  have k5:∀e o,m4.get? e=some o->m5.get? e=some o:=fun e o w=>by rw[<- e5];exact Heap.get?_push_of_some _ w
  have k4:∀e o,m3.get? e=some o->m5.get? e=some o:=fun e o w=>k5 e o (by rw[<- e4];exact Heap.get?_push_of_some _ w)
  have k3:∀e o,m2.get? e=some o->m5.get? e=some o:=fun e o w=>k4 e o (by rw[<- e3];exact Heap.get?_push_of_some _ w)
  have k2:∀e o,m1.get? e=some o->m5.get? e=some o:=fun e o w=>k3 e o (by rw[<- e2];exact Heap.get?_push_of_some _ w)
  have k1:∀e o,s.heap.get? e=some o->m5.get? e=some o:=fun e o w=>k2 e o (by rw[<- e1];exact Heap.get?_push_of_some _ w)
  have q5:IsZip m5 (s.heap.objs.size+4) (s.heap.objs.size+2) (s.heap.objs.size+3) .none:=by rw[<- n4,<- e5];exact Heap.get?_push_size _ rfl
  have q4:IsPair m5 (s.heap.objs.size+3) .none .none:=k5 _ _ (by rw[<- n3,<- e4];exact Heap.get?_push_size _ rfl)
  have q3:IsPair m5 (s.heap.objs.size+2) (.ref s.heap.objs.size) (.ref (s.heap.objs.size+1)):=k4 _ _ (by rw[<- n2,<- e3];exact Heap.get?_push_size _ rfl)
  have q2:m5.get? (s.heap.objs.size+1)=some { cls:=.type (itCls b2),data:=.fields #[.ref b,.int 0 0] }:=k3 _ _ (by rw[<- n1,<- e2];exact Heap.get?_push_size _ rfl)
  have q1:m5.get? s.heap.objs.size=some { cls:=.type (itCls b1),data:=.fields #[.ref a,.int 0 0] }:=k2 _ _ (by rw[<- e1];exact Heap.get?_push_size _ rfl)
  refine⟨⟨_,q5,rfl⟩,h m5 q5 q3 q4 ?_ ?_ k1⟩
  ·cases b1<;>exact⟨_,q1,rfl,rfl⟩
  ·cases b2<;>exact⟨_,q2,rfl,rfl⟩
end
def SqB(K:Frag)(b:Bool)(H:Hp)(a:Addr)(xs:List V):Prop:=match b with
 |true=>SqL K H a xs
 |false=>SqT K H a xs
theorem Inv.sqB{X:Cx}{pins:List (Addr×Obj)}{σ:St}{H:Hp}{s:Shared}(I:Inv X pins σ H s){b:Bool}{a:Addr}{xs:List V}(h:SqB X.K b H a xs):∃its:List Value,Vals xs its/\SSq b s.heap a its.toArray:=by
 cases b
 ·obtain⟨its,r,p,_⟩:=I.tuple h;exact⟨its,r,p⟩
 ·obtain⟨its,r,p,_⟩:=I.list h;exact⟨its,r,p.isList⟩
theorem Inv.sqB_inj{X:Cx}{pins:List (Addr×Obj)}{σ:St}{H:Hp}{s:Shared}(I:Inv X pins σ H s){b:Bool}{a:Addr}{xs ys:List V}(h:SqB X.K b H a xs)(g:SqB X.K b H a ys):xs=ys:=by
 cases b
 ·exact I.tuple_inj h g
 ·exact I.list_inj h g
noncomputable def Itz(K : Frag)(b1 b2 : Bool)(a b : Addr) : It :=
  ⟨fun i H => ∃ xs ys x y, SqB K b1 H a xs /\ SqB K b2 H b ys /\ xs[i]? = some x /\ ys[i]? = some y,
   fun i H x H' => ∃ p v w, x = .ref p /\ H p = none /\ H' = upd H p (.tup [v, w]) /\ (∀ xs, SqB K b1 H a xs -> xs[i]? = some v) /\ ∀ ys, SqB K b2 H b ys -> ys[i]? = some w,
   fun i H => ∃ xs, SqB K b1 H a xs /\ xs.length <= i⟩
theorem ZJ{P:Program}{wd:World}{K:Frag}{elts:List Expr}{kx:Nat}{tp:Pos}{b1 b2:Bool}(z u v c d a b:Addr)(D:ZpA z u v c d a b):
  Turn P wd K (.Tuple elts kx tp) (Itz K b1 b2 a b) [z,u,v,c,d] z (fun i h=>IsZip h z u v .none/\IsPair h u (.ref c) (.ref d)/\(∃p q,IsPair h v p q)/\SIt b1 h c a i/\SIt b2 h d b i) where
 mem:=by simp
 obj:=fun i h st e he=>by
  obtain⟨hz,hu,⟨p,q,hv⟩,h1,h2⟩:=st
  rcases List.mem_cons.mp he with rfl |he
  ·exact⟨_,hz,fun v w=>by cases (show Data.fields _=Data.cell v from w)⟩
  rcases List.mem_cons.mp he with rfl |he
  ·exact⟨_,hu,fun v w=>by cases (show Data.seq _ _=Data.cell v from w)⟩
  rcases List.mem_cons.mp he with rfl |he
  ·exact⟨_,hv,fun v w=>by cases (show Data.seq _ _=Data.cell v from w)⟩
  rcases List.mem_cons.mp he with rfl |he
  ·obtain⟨o,ho,_,n⟩:=h1.ob;exact⟨o,ho,n⟩
  ·have q:e=d:=by simpa using he
   subst q
   obtain⟨o,ho,_,n⟩:=h2.ob;exact⟨o,ho,n⟩
 keep:=fun i h h' st k=>⟨k z (by simp) _ st.1,k u (by simp) _ st.2.1,let ⟨p,q,hv⟩:=st.2.2.1;⟨p,q,k v (by simp) _ hv⟩,st.2.2.2.1.kp fun o e=>k c (by simp) o e,st.2.2.2.2.kp fun o e=>k d (by simp) o e⟩
 item:=by
  intro X hP hw hK hc i pins s σ H E I hf st hg
  subst hP hw hK
  obtain⟨hz,hu,⟨p,q,hv⟩,h1,h2⟩:=st
  obtain⟨xs,ys,x,y,gx,gy,hx,hy⟩:=hg
  obtain⟨its,rv,g1⟩:=I.sqB gx
  obtain⟨jts,rw',g2⟩:=I.sqB gy
  obtain⟨ux,hux,rx⟩:=rv.get hx
  obtain⟨uy,huy,ry⟩:=rw'.get hy
  have lt:∀e∈[z,u,v,c,d],e < s.heap.objs.size:=fun e he=>by
   obtain⟨o,ho,_⟩:∃o,s.heap.get? e=some o/\True:=by
    rcases List.mem_cons.mp he with rfl |he
    ·exact⟨_,hz,trivial⟩
    rcases List.mem_cons.mp he with rfl |he
    ·exact⟨_,hu,trivial⟩
    rcases List.mem_cons.mp he with rfl |he
    ·exact⟨_,hv,trivial⟩
    rcases List.mem_cons.mp he with rfl |he
    ·obtain⟨o,ho,_⟩:=h1.ob;exact⟨o,ho,trivial⟩
    ·have w:e=d:=by simpa using he
     subst w
     obtain⟨o,ho,_⟩:=h2.ob;exact⟨o,ho,trivial⟩
   exact Heap.lt_size ho
  refine XA D hz hu hv h1 h2 g1 g2 (x:=ux) (y:=uy) (by simpa using hux) (by simpa using huy) fun h' z1 v1 i1 i2 t1 e1 k1=>⟨_,rfl,?_⟩
  have hn:H s.heap.objs.size=none:=I.hok.fresh (Nat.le_refl _)
  have I1:Inv X pins σ H { s with heap:=h',toks:=s.toks }:=I.turnedN hf fun e o he w=>k1 e o (fun q=>he (by simp [q])) (fun q=>he (by simp [q])) (fun q=>he (by simp [q])) (fun q=>he (by simp [q])) w
  have r2:Vals [x,y] [ux,uy]:=.cons rx (.cons ry .nil)
  have I2:Inv X pins σ (upd H s.heap.objs.size (.tup [x,y])) { s with heap:=h',toks:=s.toks }:=
   I1.track (I.fpOk (Nat.le_refl _) hn) I.sz ⟨by show 2<=sizeLine;decide,_,r2,_,t1,rfl,_,rfl⟩
  have hf2:∀e∈[z,u,v,c,d],FpOk X pins (upd H s.heap.objs.size (.tup [x,y])) e:=fun e he=>by
   obtain⟨f0,f1⟩:=hf e he
   refine⟨?_,f1⟩
   rw[jm (Nat.ne_of_lt (lt e he))]
   exact f0
  refine wpAny_letOwnedTupleGo_zip (s:={ s with heap:=h',toks:=s.toks }) z1 fun h'' z2 s2=>?_
  replace s2:Heap.SameBut z h' h'':=s2
  have I3:Inv X pins σ (upd H s.heap.objs.size (.tup [x,y])) { s with heap:=h'',toks:=s.toks }:=I2.turnedN hf2 fun e o he w=>(s2.2 e fun q=>he (by simp [q])).trans w
  have hu':IsPair h' u (.ref c) (.ref d):=k1 _ _ D.uz D.uv D.uc D.ud hu
  exact⟨.ref s.heap.objs.size,_,I3,rfl,⟨_,x,y,rfl,hn,rfl,fun ys' hy'=>by rw[I.sqB_inj hy' gx];exact hx,fun ys' hy'=>by rw[I.sqB_inj hy' gy];exact hy⟩,
   ⟨z2,(s2.2 u D.uz).trans hu',⟨ux,uy,(s2.2 v D.vz).trans v1⟩,i1.kp fun o w=>(s2.2 c D.cz).trans w,i2.kp fun o w=>(s2.2 d D.dz).trans w⟩,fun e he=>(hf2 e he).1⟩
 done:=by
  intro X hP hw hK hc i pins s σ H E I hf st hg
  subst hP hw hK
  obtain⟨hz,hu,⟨p,q,hv⟩,h1,h2⟩:=st
  obtain⟨xs,gx,hx⟩:=hg
  obtain⟨its,rv,g1⟩:=I.sqB gx
  have hl:=rv.length
  refine Y5 (b2:=b2) (p:=p) (q:=q) (ys:=#[]) (I.ok.hd hc) D hz hu h1 g1 (by simp;omega) fun h' k1=>⟨rfl,?_⟩
  exact I.turnedN (t':=s.toks) hf fun e o he w=>k1 e o (fun q=>he (by simp [q])) (fun q=>he (by simp [q])) (fun q=>he (by simp [q])) (fun q=>he (by simp [q])) w
 self:=fun _ _ _ _ _ st h=>wpAny_pyIter_zip st.1 h
theorem XB(n a b:Nat)(h1:a < n)(h2:b < n):ZpA (n+4) (n+2) (n+3) n (n+1) a b:=by
 refine⟨?_,?_,?_,?_,?_,?_,?_,?_,?_,?_,?_,?_,?_,?_,?_,?_,?_,?_⟩<;>(show(_:Nat)≠_;omega)
section
variable {X:Cx}{elts:List Expr}{kx:Nat}{tp:Pos}
def iZip(K:Frag)(b1 b2:Bool)(ta:TA):TI:=fun σ H R=>ta σ H fun vs H1=>∃a b,vs=[.ref a,.ref b]/\(∃xs,SqB K b1 H1 a xs)/\(∃ys,SqB K b2 H1 b ys)/\R (Itz K b1 b2 a b) H1
theorem pi_zip{e1 e2:Expr}{ta:TA}{p pos:Pos}{b1 b2:Bool}(hg:Gl X "zip")(hm:X.mg "zip"=none)(hv:bootBuiltins "zip"=some (.type "zip"))(ha:PA X [e1,e2] ta)(hs:starEach [e1,e2] X.env=(false,eval e1 X.env)::starEach [e2] X.env:=by rfl)(hp:(backTo pos (starEach [e2] X.env)).any (·.1)=false:=by rfl):
  PI X (.Tuple elts kx tp) (.Call (.Name "zip" p) [e1,e2] [] pos) (iZip X.K b1 b2 ta):=by
 intro pins s σ H R I h
 refine Call_ (zi I hg hm hv (PyProof.Rows.callWith_type1 (thn (ha pos pins s σ H _ I h) fun us s1 ⟨vs,H1,I1,r1,q1⟩=>?_) hs hp))
 obtain⟨a,b,e,⟨xs,gx⟩,⟨ys,gy⟩,q⟩:=q1
 subst e
 cases r1 with
 |cons r rr=>
  cases rr with
  |cons r' rr'=>
   cases rr'
   cases r
   cases r'
   obtain⟨its,rv,g1⟩:=I1.sqB gx
   obtain⟨jts,rw',g2⟩:=I1.sqB gy
   have la:a < s1.heap.objs.size:=by cases b1<;>(obtain⟨o,ho,_⟩:=g1;exact Heap.lt_size ho)
   have lb:b < s1.heap.objs.size:=by cases b2<;>(obtain⟨o,ho,_⟩:=g2;exact Heap.lt_size ho)
   refine Y6 g1 g2 fun h' z1 u1 v1 i1 i2 k=>wpAny_pyIter_zip z1 ?_
   have D:=XB s1.heap.objs.size a b la lb
   refine⟨s1.heap.objs.size+4,[s1.heap.objs.size+4,s1.heap.objs.size+2,s1.heap.objs.size+3,s1.heap.objs.size,s1.heap.objs.size+1],_,_,H1,rfl,I1.kept (t':=s1.toks) k,ZJ _ _ _ _ _ a b D,⟨z1,u1,⟨_,_,v1⟩,i1,i2⟩,fun e he=>?_,q⟩
   have he':s1.heap.objs.size<=e:=by
    rcases List.mem_cons.mp he with rfl |he
    ·exact Nat.le_add_right _ _
    rcases List.mem_cons.mp he with rfl |he
    ·exact Nat.le_add_right _ _
    rcases List.mem_cons.mp he with rfl |he
    ·exact Nat.le_add_right _ _
    rcases List.mem_cons.mp he with rfl |he
    ·exact Nat.le_refl _
    ·have w:e=s1.heap.objs.size+1:=by simpa using he
     subst w
     exact Nat.le_add_right _ _
   exact I1.fpOk he' (I1.hok.fresh he')
end
section
variable {prog:Program}{w:World}{A:Around}{E:Value->Shared->Prop}
theorem drawL{J l:Addr}{items:Array Value}(hne:l≠J):∀(n i:Nat) (s:Shared) (Q:List Value->Shared->Prop),s.heap.IsListIter J l i->s.heap.IsList l items->i+n<=items.size->
  (∀h',h'.IsListIter J l (i+n)->Heap.SameBut J s.heap h'->Q ((items.toList.drop i).take n) { s with heap:=h' })->wpAny (model prog w) A (draw (.ref J) n) Q E s
 |0,i,s,Q,hJ,_,_,q=>show wpAny _ _ (pure []) Q E s from wpAny_pure (by simpa using q s.heap hJ (Heap.SameBut.refl ..))
 |n+1,i,s,Q,hJ,hl,hle,q=>by
  have hlt:i < items.size:=by omega
  refine(show wpAny _ _ (pyNext (.ref J) >>= _) Q E s from wpAny_bind (wpAny_pyNext_list_item hJ hl (x:=items[i]) (by simp [hlt]) fun h1 j1 s1=>?_))
  refine wpAny_bind (wpAny_holding (drawL hne n (i+1) _ _ j1 (hl.extBut s1.extBut hne) (by omega) fun h2 j2 s2=>wpAny_pure ?_))
  have e:=q h2 (by rw[show i+(n+1)=i+1+n by omega];exact j2) (s1.trans s2)
  rwa [show items.toList.drop i=items[i]::items.toList.drop (i+1) by simp [List.drop_eq_getElem_cons,hlt],List.take_succ_cons]at e
theorem unpackL{s:Shared}{l:Addr}{items:Array Value}{n:Nat}{Q:List Value->Shared->Prop}(hh:A.handled=none)(hl:s.heap.IsList l items)(hn:items.size=n)
  (q:∀h',Heap.ExtBut s.heap.objs.size s.heap h'->Q items.toList { s with heap:=h' }):wpAny (model prog w) A (unpackItems (.ref l) n none) Q E s:=by
 have hne:l≠s.heap.objs.size:=by obtain⟨o,ho,_⟩:=hl;exact Nat.ne_of_lt (Heap.lt_size ho)
 unfold unpackItems
 refine wpAny_bind ?_
 unfold notIterableAtAll
 refine wpAny_bind (wpAny_specialOf hl.typeIs slot_list_iter.lookup ?_)
 refine wpAny_pure ?_
 simp only[Bool.false_eq_true,if_false]
 refine wpAny_bind (wpAny_holding (wpAny_pyIter_list hl ?_))
 have i0:(s.heap.push { cls:=.type "list_iterator",data:=.fields #[.ref l,.int 0 0] }).IsListIter s.heap.objs.size l 0:=⟨_,Heap.get?_push_size _ rfl,rfl,rfl⟩
 refine wpAny_bind (wpAny_holding (drawL hne n 0 _ _ i0 (hl.push _) (by omega) fun h1 j1 s1=>?_))
 have et:(items.toList.drop 0).take n=items.toList:=by rw[List.drop_zero,List.take_of_length_le (by simp [hn])]
 rw[et,if_neg (by simp [hn])]
 have l1:h1.IsList l items:=(hl.push _).extBut s1.extBut hne
 refine wpAny_bind (wpAny_holding (wpAny_pyNext_list_end hh j1 l1 (by simp [hn]) fun h3 e3=>?_))
 simp only[Option.isSome_none,Bool.false_eq_true,if_false]
 exact wpAny_pure (q h3 fun b o hb e=>e3 b o hb (s1.extBut b o hb (Heap.get?_push_of_some _ e)))
end
section
variable {X:Cx}{pos:Pos}
def gLn(K:Frag)(n:Nat)(t:TGs):TG:=fun v σ H Q=>∃a xs,v= .ref a/\SqL K H a xs/\xs.length=n/\t xs σ H Q
theorem XD{es:List Expr}{k n:Nat}{t:TGs}(hc:X.calm=true)(h:PGs X es t)
  (hn:(assignEach es X.env).length=n:=by rfl) (hst:(assignEach es X.env).findIdx? (·.1)=none:=by rfl):PG X (.Tuple es k pos) (gLn X.K n t):=by
 intro pins s σ H v u Q I r hw
 obtain⟨a,xs,e1,hq,hl,hw⟩:=hw
 subst e1
 cases r
 obtain⟨its,rv,p,hz⟩:=I.list hq
 rw[assign_Tuple]
 refine wpAny_bind (wpAny_standAt ?_)
 unfold unpack
 rw[hn,hst]
 refine wpAny_bind (wpAny_holding (unpackL (I.ok.hd hc) p.isList (by simp [<- hl,rv.length]) fun h' hx=>?_))
 have I1:Inv X pins σ H { s with heap:=h' }:=I.kept (t':=s.toks) fun b o e=>hx b o (Nat.ne_of_lt (Heap.lt_size e)) e
 exact h pins _ σ H xs _ Q I1 (by simpa using rv) hw
def tAsg3(K:Frag)(te:TE)(i j k:Nat):TS:=fun D σ H=>te σ H fun x H1=>∃a v1 v2 v3,x= .ref a/\SqT K H1 a [v1,v2,v3]/\D.nx (((σ.set k (some v3)).set j (some v2)).set i (some v1)) H1
theorem ps_asg3{tg e:Expr}{te:TE}{x y z:Str}{i j k:Nat}(hc:X.calm=true)(hN:X.N.Nodup)(hi:X.N[i]?=some x)(hj:X.N[j]?=some y)(hk:X.N[k]?=some z)(lx:Loc X.env.scope x)(ly:Loc X.env.scope y)(lz:Loc X.env.scope z)(he:PE X e te)
  (fx:X.fn x=true∨X.env.scope.names.lookup x=some .local:=by first |exact .inl rfl |exact .inr rfl) (fy:X.fn y=true∨X.env.scope.names.lookup y=some .local:=by first |exact .inl rfl |exact .inr rfl) (fz:X.fn z=true∨X.env.scope.names.lookup z=some .local:=by first |exact .inl rfl |exact .inr rfl)
  (hs:swapsWithSole [tg] e pos.line X.env=pure false:=by rfl) (hw:swappedStores [tg] e X.env=pure (some [x,y,z]):=by rfl):PS X (.Assign [tg] e pos) (tAsg3 X.K te i j k):=by
 intro pins s σ H D I h
 rw[exec_Assign_arm]
 refine wpAny_bind (wpAny_standAt ?_)
 rw[hs]
 refine wpAny_bind (wpAny_pure ?_)
 rw[if_neg (by decide)]
 refine wpAny_bind (thn (he pins s σ H _ I h) fun v s1 ⟨xv,H1,I1,r1,a,v1,v2,v3,e1,hq,q⟩=>?_)
 rw[hw]
 refine wpAny_bind (wpAny_pure ?_)
 subst e1
 cases r1
 obtain⟨its,rv,ht,hz⟩:=I1.tuple hq
 cases rv with
 |cons q1 rv=>
  cases rv with
  |cons q2 rv=>
   cases rv with
   |cons q3 rv=>
    cases rv
    rename_i u1 u2 u3
    unfold assignStores
    refine wpAny_bind (wpAny_rule (wpAny_bind (wpAny_unpackItems_tuple (items:=#[u1,u2,u3]) (I.ok.hd hc) ht fun h' hx=>?_)))
    have I2:Inv X pins σ H1 { s1 with heap:=h' }:=I1.kept (t':=s1.toks) fun b o e=>hx b o (Nat.ne_of_lt (Heap.lt_size e)) e
    refine wpAny_bind ?_
    show wpAny _ _ (assignInOrder [fun v=>bindName X.env z v,fun v=>bindName X.env y v,fun v=>bindName X.env x v] [u3,u2,u1]) _ _ _
    refine wpAny_bind (wpAny_holding (wpAny_bindName (kM I2 hN hk lz q3 (fun s2 I3=>?_) fz)))
    refine wpAny_bind (wpAny_holding (wpAny_bindName (kM I3 hN hj ly q2 (fun s3 I4=>?_) fy)))
    refine wpAny_bind (wpAny_holding (wpAny_bindName (kM I4 hN hi lx q1 (fun s4 I5=>?_) fx)))
    exact wpAny_pure (wpAny_pure ⟨_,H1,I5,q⟩)
end
theorem ext_tup(l b:Addr)(items items2:Array Value)(n n2:Nat)(dd:Option Addr)(sl:Array (Option Value))(w0:¬(!items.isEmpty&&Builtin.List.listTooLong (items.size+items2.size))=true)(w1:items.size<=sizeLine)(w2:items.size+items2.size<=sizeLine+1):
  Meets (Builtin.«list.extend» ⟨[.ref l,.ref b],[]⟩) (fun _ R s=>s.heap.get? l=some { cls:=.type "list",dict:=none,data:=.seq items n,slots:=#[] }/\s.heap.get? b=some ⟨.type "tuple",dd,.seq items2 n2,sl⟩/\R (.ok (.ret Value.none)) { s with heap:=s.heap.update l (Obj.mapSeq fun x=>x++items2),toks:=s.toks }):=by
 refine Meets.of_wp fun prog w A R s h=>?_
 obtain⟨hp,g,d,tk,os⟩:=s
 obtain⟨hl,hb,h⟩:=h
 have f1:=AutoSeq1.idx_int
 have f2:=AutoSeq1.sub_tuple_tuple
 have f3:=AutoSeq1.sub_list_list
 have f4:=AutoSeq1.sub_tuple_list
 have f5:=AutoSeq1.sub_list_tuple
 have hz:(items++items2).size<=sizeLine+1:=by rw[Array.size_append];exact w2
 wp_walk using (wpAny_updateSeq hl rfl (hz:=w1) (_hz':=hz)),AutoSeq1.wpAny_loadPart' hl,AutoSeq1.wpAny_loadPart' hb
 exact⟨_,rfl,h⟩
section
variable {X:Cx}
def rExtendT(K:Frag):V->List V->Hp->VK->Prop:=fun x vs H Q=>∃l b xs zs,x= .ref l/\vs=[.ref b]/\H l=some (.lst xs)/\SqT K H b zs/\xs.length+zs.length<=sizeLine/\Q .non (upd H l (.lst (xs++zs)))
theorem Q8:MtM X "list.extend" (rExtendT X.K):=by
 intro pins s σ H x vs v us Q I rx rv h
 obtain⟨l,b,xs,zs,rfl,rfl,hH,hB,hz,q⟩:=h
 cases rx
 obtain⟨u,rfl,ru⟩:=rv.one
 cases ru
 obtain⟨z,its,n,r,hl,e⟩:=I.lstM hH
 obtain⟨its2,r2,p2,z2⟩:=I.tuple hB
 have hl2:=r2.length
 have hsz:its.toArray.size+its2.toArray.size<=sizeLine:=by rw[List.size_toArray,List.size_toArray];omega
 have hlong:¬(!its.toArray.isEmpty&&Builtin.List.listTooLong (its.toArray.size+its2.toArray.size))=true:=by
  rw[notLongL hsz,Bool.and_false]
  exact Bool.false_ne_true
 obtain⟨⟨oc,od,da,sl⟩,ho,hc,n2,hd⟩:=p2
 cases hc
 cases hd
 refine call_meets F.slot_list_extend ⟨_,e,rfl⟩ F.entry_list_extend (F.args_list_extend_2 _ _) (ext_tup l b its.toArray its2.toArray n n2 od sl hlong (by rw[List.size_toArray];omega) (by omega)) ⟨e,ho,?_⟩
 refine⟨.non,_,I.lset (its':=its++its2) hH e (by simp) (r.append r2) (by rw[List.length_append];omega),rfl,q⟩
end
section
variable {prog:Program}{w:World}{A:Around}{E:Value->Shared->Prop}{s:Shared}
theorem qC{R:Result->Shared->Prop}{I:Addr}{fp wr:List Addr}{G:Array GenState->Array GenState->Prop}{n:Nat}{P:Nat->Value->Prop}{St:Nat->Shared->Prop}
  (W:WalksS prog w A.in1 I fp wr G n P St) (S:Addr) (hSf:¬S∈fp) (ss:List Str) (hn:ss.length=n) (hv:∀i v,P i v->∃x t,ss[i]?=some x/\v= .str x t) (hb:∀L:List Str,L.Nodup->(∀x∈L,x∈ss)->L.length+1 < scanBound):
  ∀(k i:Nat) (s:Shared) (L:List Str),n - i=k->i<=n->St i s->TxSet prog w s.heap S L->(∀x,x∈L↔x∈ss.take i)->L.length<=i->
   (∀s' L',Moved (S::wr) G s s'->TxSet prog w s'.heap S L'->(∀x,x∈L'↔x∈ss)->L'.length<=n->R (.ok (.ret .none)) s')->
   codeAny (model prog w) A (.builtin "set.update.loop" ⟨[.ref S,.ref I],[]⟩) R s:=by
 have hSw:¬S∈wr:=fun z=>hSf (W.sub _ z)
 have sub:∀b∈wr,b∈S::wr:=fun b z=>List.mem_cons_of_mem _ z
 intro k
 induction k with
 |zero=>
  intro i s L hk hi st hS hL hc hR
  have e:i=n:=by omega
  subst e
  refine codeAny_builtin PyProof.Rows.F.entry_set_update_loop ?_
  rw[Around.under_plainId PyProof.Rows.F.plain_set_update_loop]
  show wpAny _ A.in1 (pyNext (.ref I) >>= _) _ _ s
  refine wpAny_bind (W.done s _ _ st fun s' m=>?_)
  show wpAny _ A.in1 (ret Value.none) _ _ s'
  refine wpAny_pure (hR s' L (m.mono sub) (hS.at fun o e=>m.heap S o hSw e) (fun x=>?_) hc)
  rw[hL x,<- hn,List.take_length]
 |succ k ih=>
  intro i s L hk hi st hS hL hc hR
  have lt:i < n:=by omega
  refine codeAny_builtin PyProof.Rows.F.entry_set_update_loop ?_
  rw[Around.under_plainId PyProof.Rows.F.plain_set_update_loop]
  show wpAny _ A.in1 (pyNext (.ref I) >>= _) _ _ s
  refine wpAny_bind (W.item i s _ _ lt st fun v s' hP st' m=>?_)
  obtain⟨x,t,hx,rfl⟩:=hv i v hP
  show wpAny _ A.in1 (holding [Value.str x t] (setAdd S (.str x t)) >>= _) _ _ s'
  refine wpAny_bind (wpAny_holding ?_)
  have hnd:L.Nodup:=by obtain⟨_,_,_,_,_,_,_,_,_,hnd,_⟩:=hS;exact hnd
  refine Qr (hS.at fun o e=>m.heap S o hSw e) (hb L hnd fun x hx=>List.mem_of_mem_take ((hL x).mp hx)) fun b h' tk' sb S2 htk=>?_
  refine wpAny_pure ⟨plainId_quiet PyProof.Rows.F.plain_set_update_loop _,ih (i+1) _ _ (by omega) lt (W.frame _ s' _ _ st' htk fun b hb o e=>?_) S2 (fun y=>?_) ?_ fun s'' L' m'' S'' q1 q2=>?_⟩
  ·rw[sb.2 b (fun z:b=S=>hSf (by rw[<- z];exact hb))];exact e
  ·have tk:ss.take (i+1)=ss.take i++[x]:=by rw[List.take_succ,hx];rfl
   rw[tk,List.mem_append,List.mem_singleton,<- hL y]
   split
   ·rename_i hm
    exact⟨.inl,fun z=>z.elim id fun e=>e▸hm⟩
   ·rw[List.mem_append,List.mem_singleton]
  ·split
   ·omega
   ·rw[List.length_append,List.length_singleton];omega
  ·refine hR s'' L' (Moved.trans W.gtrans ((m.mono sub).then_heap htk fun b o hb e=>?_) m'') S'' q1 q2
   rw[sb.2 b (fun z:b=S=>hb (by rw[z];exact List.mem_cons_self))];exact e
end
section
variable {prog:Program}{w:World}{A:Around}{E:Value->Shared->Prop}{s:Shared}
set_option maxHeartbeats 3200000 in
theorem Jb{l:Addr}{items:Array Value}{ss:List Str}{Q:Value->Shared->Prop}
  (hh:A.handled=none) (hl:s.heap.IsList l items) (hi:StrsAre items.toList ss) (hb:∀L:List Str,L.Nodup->(∀x∈L,x∈ss)->L.length+1 < scanBound)
  (h:∀(h':Heap) (tk:Nat) L,TxSet prog w h' s.heap.objs.size L->(∀x,x∈L↔x∈ss)->L.length<=items.size->
   (∀b o,b < s.heap.objs.size->s.heap.get? b=some o->h'.get? b=some o)->s.toks<=tk->Q (.ref s.heap.objs.size) { s with heap:=h',toks:=tk }):
  wpAny (model prog w) A (call (.type "set") [.ref l]) Q E s:=by
 obtain⟨c,tl,mro⟩:=PySem.F.called_set.mro
 have made:=PySem.F.called_set.made
 have sb:=PySem.F.called_set.sub
 refine wpAny_call (codeAny_of_tree ?_)
 show wpAny _ _ (callAny (.type "set") _) _ _ _
 refine wpAny_pure ⟨Code.quiet_builtin _ (by decide+kernel),codeAny_builtin PySem.F.entry_type_call ?_⟩
 rw[Around.under_plain (weight_type_call_type "set" [.ref l] []) rfl]
 have n1:=PySem.F.called_set.notType
 have n2:=PySem.F.called_set.canCreate
 have ct:=PySem.F.typeCall_set_1 (.ref l)
 repeat (any_goals (first |assumption |wp_step))
 refine codeAny_mono (JV (.ref l) (E:=E) (G:=fun v s₁=>v= .ref s.heap.objs.size/\s₁={ s with heap:=s.heap.push (freshSet w) }) ⟨rfl,rfl⟩) fun r s₁ hr=>?_
 cases r with
 |error e=>exact hr
 |ok fl=>
  cases fl with
  |ret obj=>
   obtain⟨rfl,rfl⟩:=hr
   have hS:(s.heap.push (freshSet w)).get? s.heap.objs.size=some (freshSet w):=Heap.get?_push_size _ rfl
   have hT:Shared.TypeIs { s with heap:=s.heap.push (freshSet w) } (.ref s.heap.objs.size) "set":=⟨_,hS,rfl⟩
   have li:=PySem.F.called_set.init.lookup
   have bi:=PySem.F.called_set.init.bind (.ref s.heap.objs.size)
   repeat (any_goals (first |assumption |wp_step))
   refine codeAny_mono (codeAny_call_builtin (R:=wants (fun r s₂=>r= .none/\∃h' tk L,s₂={ s with heap:=h',toks:=tk }/\TxSet prog w h' s.heap.objs.size L/\(∀x,x∈L↔x∈ss)/\L.length<=items.size/\
     (∀b o,b < s.heap.objs.size->s.heap.get? b=some o->h'.get? b=some o)/\s.toks<=tk) E) PySem.F.called_set.init.plain PySem.F.entry_set_init (check_set_init_1 hT ?_)) fun r₂ s₂ hr₂=>?_
   ·obtain⟨ol,hol,hcl,nl,hdl⟩:=hl
    obtain⟨ocls,odict,odata,oslots⟩:=ol
    simp only at hcl hdl
    subst hcl
    subst hdl
    have hol':(s.heap.push (freshSet w)).get? l=some { cls:=.type "list",dict:=odict,data:=.seq items nl,slots:=oslots }:=Heap.get?_push_of_some _ hol
    have ns:=PySem.F.sub_list_set
    have nf:=PySem.F.sub_list_frozenset
    have ne:(Value.type "list"==Value.type "dict")=false:=by decide
    have hl1:(s.heap.push (freshSet w)).IsList l items:=⟨_,hol',rfl,nl,rfl⟩
    unfold freshSet at hS hT hol' hl1 ⊢
    unfold Builtin.«set.__init__» noKeywords Builtin.Frozenset.updateFrom
    generalize hPI:pyIter=PI
    wp_walk
    subst hPI
    refine wpAny_pyIter_list hl1 ?_
    refine wpAny_bind (wpAny_runValue ?_)
    have hlS:l < s.heap.objs.size:=Heap.lt_size hol
    have h3:A.in1.in1.in1.handled=none:=by simp [hh]
    have hne:l≠(s.heap.push (freshSet w)).objs.size:=by rw[Heap.size_push];exact Nat.ne_of_lt (Nat.lt_succ_of_lt hlS)
    have hSf:¬s.heap.objs.size∈[(s.heap.push (freshSet w)).objs.size,l]:=by
     rw[Heap.size_push]
     simp only[List.mem_cons,List.not_mem_nil,or_false,not_or]
     exact⟨Nat.ne_of_lt (Nat.lt_succ_self _),Nat.ne_of_gt hlS⟩
    have hlen:ss.length=items.size:=by rw[L2.StrsAre.len hi,Array.length_toList]
    refine qC ((Walks.list h3 _ l hne items).toS) s.heap.objs.size hSf ss hlen (fun i v hv=>StrsAre.at' hi i v (by rw[Array.getElem?_toList];exact hv)) hb (items.size - 0) 0 _ [] (by omega) (Nat.zero_le _)
     ⟨⟨_,Heap.get?_push_size _ rfl,rfl,rfl⟩,hl1.push _⟩ (Qs (Heap.get?_push_of_some _ hS)) (fun x=>by simp) (Nat.le_refl _) fun s' L m S' q1 q2=>?_
    obtain⟨h',g',d',tk',os'⟩:=s'
    have eg:g'=s.gens:=m.gens
    have ed:d'=s.drawn:=m.drawn
    have eo:os'=s.os:=m.os
    subst eg
    subst ed
    subst eo
    show wpAny _ _ _ _ _ _
    refine wpAny_pure ?_
    show wpAny _ _ (ret Value.none) _ _ _
    refine wpAny_pure ⟨rfl,h',tk',L,rfl,S',q1,q2,fun b o hb e=>?_,m.toks⟩
    have b1:b≠s.heap.objs.size:=Nat.ne_of_lt hb
    have b2:b≠(s.heap.push (freshSet w)).objs.size:=by rw[Heap.size_push];exact Nat.ne_of_lt (Nat.lt_succ_of_lt hb)
    exact m.heap b o (by simp only[List.mem_cons,List.not_mem_nil,or_false,not_or];exact⟨b1,b2⟩) (Heap.get?_push_of_some _ (Heap.get?_push_of_some _ e))
   ·cases r₂ with
    |error e=>exact hr₂
    |ok fl₂=>
     cases fl₂ with
     |ret r=>
      obtain⟨rfl,h',tk,L,rfl,S',q1,q2,hk',q3⟩:=hr₂
      repeat (any_goals (first |assumption |wp_step))
      exact h _ _ _ S' q1 q2 hk' q3
     |_=>exact hr₂.elim
  |_=>exact hr.elim
end
section
variable {X:Cx}
theorem qi(hc:X.calm=true):CallR X (.type "set") (fun xs H Q=>∃(p:Addr) (ss:List Str),xs=[.ref p]/\SqL X.K H p (ss.map V.str)/\(∀L:List Str,L.Nodup->(∀x∈L,x∈ss)->L.length+1 < scanBound)/\
  ∀l L,H l=none->L.Nodup->(∀x,x∈L↔x∈ss)->Q (.ref l) (upd H l (TsO X.prog X.w l L))):=by
 intro pins s σ H xs us Q I r h
 obtain⟨p,ss,rfl,hq,hb,q⟩:=h
 obtain⟨u,rfl,rx⟩:=vals1 r
 cases rx
 obtain⟨its,r',pl,hz⟩:=I.list hq
 have hv:=zC r'
 have hn:its.length=ss.length:=(L2.StrsAre.len hv).symm
 refine Jb (I.ok.hd hc) pl.isList (by simpa using hv) hb fun h' tk L hS hm hl k _=>?_
 have hnd:L.Nodup:=by obtain⟨_,_,_,_,_,_,_,_,_,hnd,_⟩:=hS;exact hnd
 have k':∀b o,s.heap.get? b=some o->h'.get? b=some o:=fun b o e=>k b o (Heap.lt_size e) e
 obtain⟨o,ho⟩:∃o,h'.get? s.heap.objs.size=some o:=let ⟨o,_,_,_,ho,_⟩:=hS;⟨o,ho⟩
 exact⟨.ref s.heap.objs.size,_,I.laid k' (Nat.le_refl _) (show ObjOk X.prog X.w _ h' _ (TsO X.prog X.w s.heap.objs.size L) from ⟨hS,⟨o,ho⟩,fun h1 h2 x e=>TxSet.at x e⟩),rfl,q _ _ (I.hok.fresh (Nat.le_refl _)) hnd hm⟩
end
abbrev IsZipB(h:Heap)(z u v T:Addr)(f:Bool):Prop:=
 h.get? z=some { cls:=.type "zip",dict:=none,data:=.fields #[rawInt T,.bool f,.bool false,.ref u,.ref v],slots:=#[] }
section
variable {prog:Program}{w:World}{A:Around}{E:Value->Shared->Prop}{s:Shared}
theorem Yt{M:Model}{a:Addr}{Q:Option Obj->Shared->Prop}(h:Q (s.heap.get? a) s):wpAny M A (loadIfAlive a) Q E s:=fun _ _ _=>h
theorem busy{z u v T:Addr}{f:Bool}{Q:Bool->Shared->Prop}(hz:IsZipB s.heap z u v T f)(hT:∃o,s.heap.get? T=some o)
  (q:∀h',IsZipB h' z u v T true->Heap.ExtBut z s.heap h'->h'.objs.size=s.heap.objs.size->Q false { s with heap:=h' }):wpAny (model prog w) A (Builtin.SmallTypes.ownedTupleIsFree (.ref z)) Q E s:=by
 unfold Builtin.SmallTypes.ownedTupleIsFree
 refine wpAny_bind (wpAny_field hz rfl (x:=rawInt T) rfl ?_)
 show wpAny _ _ (loadIfAlive ((T:Int).toNat) >>= _) _ _ s
 refine wpAny_bind (Yt ?_)
 obtain⟨o,ho⟩:=hT
 rw[Int.toNat_natCast,ho]
 simp only[Option.isNone_some,Bool.false_eq_true,if_false]
 refine wpAny_bind (wpAny_field hz rfl (x:=.bool f) rfl ?_)
 cases f with
 |true=>
  simp only[bne_self_eq_false,Bool.false_eq_true,if_false]
  exact wpAny_bind (wpAny_pure (wpAny_pure (q s.heap hz (fun b o _ e=>e) rfl)))
 |false=>
  rw[if_pos (by decide)]
  refine wpAny_bind (wpAny_setField_rec hz (by simp) fun h' z' sb=>wpAny_pure (q h' z' sb.extBut sb.1))
theorem zb_item{b1 b2 f:Bool}{z u v c d a b T:Addr}{k:Nat}{xs ys:Array Value}{x y:Value}{Q:Option Value->Shared->Prop}(D:ZpA z u v c d a b)
  (hz:IsZipB s.heap z u v T f) (hT:∃o,s.heap.get? T=some o) (hu:IsPair s.heap u (.ref c) (.ref d)) (h1:SIt b1 s.heap c a k) (h2:SIt b2 s.heap d b k) (g1:SSq b1 s.heap a xs) (g2:SSq b2 s.heap b ys) (hx:xs[k]?=some x) (hy:ys[k]?=some y)
  (hQ:∀h',IsZipB h' z u v T true->SIt b1 h' c a (k+1)->SIt b2 h' d b (k+1)->IsPair h' s.heap.objs.size x y->h'.objs.size=s.heap.objs.size+1->
   (∀e o,e≠z->e≠c->e≠d->s.heap.get? e=some o->h'.get? e=some o)->Q (some (.ref s.heap.objs.size)) { s with heap:=h' }):wpAny (model prog w) A (pyNext (.ref z)) Q E s:=by
 have hTy:s.TypeIs (.ref z) "zip":=⟨_,hz,rfl⟩
 unfold pyNext
 refine wpAny_bind (wpAny_attempt (wpAny_callSpecial?_slot (name:=Str.ofString "__next__") hTy PySem.F.slot_zip_next (wpAny_call_entry PySem.F.slot_zip_next hTy PySem.F.entry_zip_next (show wpAny _ _ (field (.ref z) 2 >>= _) _ _ _ from ?_) (PySem.F.args_zip_next_1 _))))
 refine wpAny_bind (wpAny_field hz rfl (x:=.bool false) rfl (show wpAny _ _ (field (.ref z) 3 >>= _) _ _ _ from wpAny_bind (wpAny_field hz rfl (x:=.ref u) rfl (wpAny_bind (wpAny_seqItems hu rfl ?_)))))
 refine(show wpAny _ _ (Builtin.SmallTypes.ownedTupleIsFree (.ref z) >>= _) _ _ _ from wpAny_bind (busy hz hT fun m1 z1 e1 n1=>?_))
 simp only[Bool.false_eq_true,if_false]
 refine wpAny_bind ?_
 simp only[List.forIn_toArray,List.forIn_cons,List.forIn_nil]
 refine wpAny_bind (wpAny_bind (wpAny_holding (show wpAny _ _ (Builtin.SmallTypes.nextOf (.ref c) >>= _) _ _ _ from ?_)))
 refine wpAny_bind (zD (s:={ s with heap:=m1 }) (h1.kp fun o e=>e1 _ _ D.cz e) (g1.kp fun o e=>e1 _ _ D.az e) hx fun m2 i2 s2=>wpAny_pure (wpAny_pure ?_))
 refine wpAny_bind (wpAny_bind (wpAny_holding (show wpAny _ _ (Builtin.SmallTypes.nextOf (.ref d) >>= _) _ _ _ from ?_)))
 have k2:∀e o,e≠z->e≠c->s.heap.get? e=some o->m2.get? e=some o:=fun e o n1 n2 w=>s2.extBut _ _ n2 (e1 _ _ n1 w)
 refine wpAny_bind (zD (s:={ s with heap:=m2 }) (h2.kp fun o e=>k2 _ _ D.dz D.cd.symm e) (g2.kp fun o e=>k2 _ _ D.bz D.bc e) hy fun m3 i3 s3=>wpAny_pure (wpAny_pure (wpAny_pure ?_)))
 show wpAny _ _ (newTuple [x,y] >>= _) _ _ _
 refine wpAny_bind (wpAny_newTuple (wpAny_pure ⟨_,rfl,wpAny_pure ?_⟩))
 have n3:m3.objs.size=s.heap.objs.size:=by rw[s3.1,s2.1];exact n1
 have z3:IsZipB m3 z u v T true:=s3.extBut _ _ D.dz.symm (s2.extBut _ _ D.cz.symm z1)
 show Q (some (.ref m3.objs.size)) _
 rw[n3]
 refine hQ _ (Heap.get?_push_of_some _ z3) (i2.kp fun o e=>Heap.get?_push_of_some _ (s3.extBut _ _ D.cd e)) (i3.kp fun o e=>Heap.get?_push_of_some _ e) (by rw[<- n3];exact Heap.get?_push_size _ rfl) (by rw[Heap.size_push,n3]) fun e o a1 a2 a3 w=>Heap.get?_push_of_some _ (s3.extBut _ _ a3 (k2 _ _ a1 a2 w))
theorem zb_end{b1 b2 f:Bool}{z u v c d a b T:Addr}{k:Nat}{xs ys:Array Value}{Q:Option Value->Shared->Prop}(hh:A.handled=none)(D:ZpA z u v c d a b)
  (hz:IsZipB s.heap z u v T f) (hT:∃o,s.heap.get? T=some o) (hu:IsPair s.heap u (.ref c) (.ref d)) (h1:SIt b1 s.heap c a k) (g1:SSq b1 s.heap a xs) (hx:xs[k]?=none)
  (hQ:∀h',(∀e o,e≠z->e≠c->e≠d->s.heap.get? e=some o->h'.get? e=some o)->Q none { s with heap:=h' }):wpAny (model prog w) A (pyNext (.ref z)) Q E s:=by
 have hTy:s.TypeIs (.ref z) "zip":=⟨_,hz,rfl⟩
 unfold pyNext
 refine wpAny_bind (wpAny_attempt (wpAny_callSpecial?_slot (name:=Str.ofString "__next__") hTy PySem.F.slot_zip_next (wpAny_call_entry PySem.F.slot_zip_next hTy PySem.F.entry_zip_next (show wpAny _ _ (field (.ref z) 2 >>= _) _ _ _ from ?_) (PySem.F.args_zip_next_1 _))))
 refine wpAny_bind (wpAny_field hz rfl (x:=.bool false) rfl (show wpAny _ _ (field (.ref z) 3 >>= _) _ _ _ from wpAny_bind (wpAny_field hz rfl (x:=.ref u) rfl (wpAny_bind (wpAny_seqItems hu rfl ?_)))))
 refine(show wpAny _ _ (Builtin.SmallTypes.ownedTupleIsFree (.ref z) >>= _) _ _ _ from wpAny_bind (busy hz hT fun m1 z1 e1 n1=>?_))
 simp only[Bool.false_eq_true,if_false]
 refine wpAny_bind ?_
 simp only[List.forIn_toArray,List.forIn_cons,List.forIn_nil]
 refine wpAny_bind (wpAny_bind (wpAny_holding (show wpAny _ _ (Builtin.SmallTypes.nextOf (.ref c) >>= _) _ _ _ from ?_)))
 refine wpAny_bind (Kq (s:={ s with heap:=m1 }) (by simpa using hh) (h1.kp fun o e=>e1 _ _ D.cz e) (g1.kp fun o e=>e1 _ _ D.az e) hx fun m2 e s2 te=>?_)
 exact wpAny_bind (wpAny_isInstance (T:="StopIteration") (b:=true) te isSubtype_stop (wpAny_pure (hQ m2 fun e o n1 n2 n3 w=>s2 _ _ n2 (e1 _ _ n1 w))))
end
theorem qN:typeLookup (.type "zip") "__getattr__"=pure none:=by rw[typeLookup_type,builtinLookup_eq_fast];kernel_rfl
theorem Qv:typeLookup (.type "zip") "keys"=pure none:=by rw[typeLookup_type,builtinLookup_eq_fast];kernel_rfl
theorem KS:entryFor table "zip.__getattribute__"=some Builtin.«object.__getattribute__»:=
 entryFor_alias (id':="object.__getattribute__") (by kernel_rfl) (by decide+kernel) (by decide+kernel) (by kernel_rfl)
theorem JN(a:Addr)(xs:Array Value)(sl:Array (Option Value))(u:Tok):
  Meets (Builtin.«object.__getattribute__» ⟨[.ref a,.str "keys" u],[]⟩) (fun A R s=>s.heap.get? a=some { cls:=.type "zip",dict:=none,data:=.fields xs,slots:=sl }/\raisesAttr (.ref a) "keys" A R s):=
 Meets.of_wp fun prog w A R s hs=>by
  obtain⟨hp,g,d,tk,os⟩:=s
  obtain⟨hx,hs⟩:=hs
  have hT:(⟨hp,g,d,tk,os⟩:Shared).TypeIs (.ref a) "zip":=⟨_,hx,rfl⟩
  have hmiss:=Qv
  have hname:(["__module__","__name__","__qualname__","__doc__","__annotations__"]:List Str).contains "keys"=false:=by decide+kernel
  unfold Builtin.«object.__getattribute__»
  repeat (any_goals (first |assumption |wp_step))
  try simp only[hname,Bool.false_eq_true,if_false]
  repeat (any_goals (first |assumption |wp_step))
  exact wpAny_raiseAttrError hs.1 hs.2 (attrMsg_fits (by decide+kernel) (by size_fits))
section
variable {prog:Program}{w:World}{A:Around}{E:Value->Shared->Prop}{s:Shared}
theorem noKeysZ{a:Addr}{xs:Array Value}{sl:Array (Option Value)}{Q:Option Value->Shared->Prop}(hx:s.heap.get? a=some { cls:=.type "zip",dict:=none,data:=.fields xs,slots:=sl })(hA:A.handled=none)
  (h:∀h' tk,(∀b o,s.heap.get? b=some o->h'.get? b=some o)->Q none { s with heap:=h',toks:=tk }):wpAny (model prog w) A (getAttr? (.ref a) "keys") Q E s:=by
 obtain⟨hp,g,d,tk,os⟩:=s
 have hT:∀tk',(⟨hp,g,d,tk',os⟩:Shared).TypeIs (.ref a) "zip":=fun _=>⟨_,hx,rfl⟩
 have f1:=sub_AttributeError
 have f3:=PySem.F.slot_zip_getattribute.lookup
 have f4:=PySem.F.slot_zip_getattribute.bind (.ref a)
 have f5:=qN
 unfold getAttr? getAttrBy? getAttrBy
 repeat (any_goals (first |assumption |exact hT _ | ((with_reducible show wpAny _ _ (call (Value.builtin "zip.__getattribute__") _ _) _ _ _);refine call_meets PySem.F.slot_zip_getattribute (hT _) KS (PySem.F.args_zip_getattribute_2 _ _) (JN a xs sl _) ⟨hx,by simpa using hA,fun h' tk' e hx'=>?_⟩) |wp_step))
 obtain⟨t',u',he⟩:=hx'.there
 show wpAny _ _ (getattributeRaised _ _ _ _ _ _ _) _ _ _
 unfold getattributeRaised
 repeat (any_goals (first |assumption |wp_step))
 exact h _ _ hx'.keeps
def ZSt(h:Heap)(z u v c d a b Dd:Addr)(xs ys:Array Value)(i:Nat):Prop:=
 ((IsZip h z u v .none/\∃p q,IsPair h v p q)∨∃T f o,IsZipB h z u v T f/\h.get? T=some o/\T≠z/\T≠c/\T≠d/\T≠Dd)/\IsPair h u (.ref c) (.ref d)/\SIt false h c a i/\SIt false h d b i/\SSq false h a xs/\SSq false h b ys
theorem zs_item{z u v c d a b Dd:Addr}{k:Nat}{xs ys:Array Value}{x y:Value}{Q:Option Value->Shared->Prop}(D:ZpA z u v c d a b)(ltD:Dd < s.heap.objs.size)(hs:ZSt s.heap z u v c d a b Dd xs ys k)(hx:xs[k]?=some x)(hy:ys[k]?=some y)
  (hQ:∀h',ZSt h' z u v c d a b Dd xs ys (k+1)->IsPair h' s.heap.objs.size x y->h'.objs.size=s.heap.objs.size+1->(∀e o,e≠z->e≠v->e≠c->e≠d->s.heap.get? e=some o->h'.get? e=some o)->Q (some (.ref s.heap.objs.size)) { s with heap:=h' }):wpAny (model prog w) A (pyNext (.ref z)) Q E s:=by
 obtain⟨hz,hu,h1,h2,g1,g2⟩:=hs
 obtain⟨oc,hoc,_⟩:=h1.ob
 obtain⟨od,hod,_⟩:=h2.ob
 rcases hz with ⟨hz,p,q,hv⟩ | ⟨T,f,o,hz,hT,t1,t2,t3,t4⟩
 ·refine XA D hz hu hv h1 h2 g1 g2 hx hy fun h' z1 v1 i1 i2 t1 e1 k1=>hQ h' ⟨.inr ⟨s.heap.objs.size,false,_,z1,t1,Nat.ne_of_gt (Heap.lt_size hz),Nat.ne_of_gt (Heap.lt_size hoc),Nat.ne_of_gt (Heap.lt_size hod),Nat.ne_of_gt ltD⟩,k1 _ _ D.uz D.uv D.uc D.ud hu,i1,i2,g1.kp fun o e=>k1 _ _ D.az D.av D.ac D.ad e,g2.kp fun o e=>k1 _ _ D.bz D.bv D.bc D.bd e⟩ t1 e1 k1
 ·refine zb_item D hz ⟨o,hT⟩ hu h1 h2 g1 g2 hx hy fun h' z1 i1 i2 p1 e1 k1=>hQ h' ⟨.inr ⟨T,true,o,z1,k1 _ _ t1 t2 t3 hT,t1,t2,t3,t4⟩,k1 _ _ D.uz D.uc D.ud hu,i1,i2,g1.kp fun o e=>k1 _ _ D.az D.ac D.ad e,g2.kp fun o e=>k1 _ _ D.bz D.bc D.bd e⟩ p1 e1 fun e o n1 n2 n3 n4 w=>k1 e o n1 n3 n4 w
theorem zs_end{z u v c d a b Dd:Addr}{k:Nat}{xs ys:Array Value}{Q:Option Value->Shared->Prop}(hh:A.handled=none)(D:ZpA z u v c d a b)(hs:ZSt s.heap z u v c d a b Dd xs ys k)(hx:xs[k]?=none)
  (hQ:∀h',(∀e o,e≠z->e≠v->e≠c->e≠d->s.heap.get? e=some o->h'.get? e=some o)->Q none { s with heap:=h' }):wpAny (model prog w) A (pyNext (.ref z)) Q E s:=by
 obtain⟨hz,hu,h1,h2,g1,g2⟩:=hs
 rcases hz with ⟨hz,p,q,hv⟩ | ⟨T,f,o,hz,hT,t1,t2,t3,t4⟩
 ·exact Y5 (b2:=false) (p:=p) (q:=q) (ys:=ys) hh D hz hu h1 g1 hx hQ
 ·exact zb_end (b2:=false) (ys:=ys) hh D hz ⟨o,hT⟩ hu h1 g1 hx fun h' k1=>hQ h' fun e o n1 n2 n3 n4 w=>k1 e o n1 n3 n4 w
structure Far(D z u v c d a b:Addr):Prop where
 z:D≠z
 u:D≠u
 v:D≠v
 c:D≠c
 d:D≠d
 a:D≠a
 b:D≠b
theorem ZSt.keep{h h':Heap}{z u v c d a b Dd:Addr}{xs ys:Array Value}{i:Nat}(F:Far Dd z u v c d a b)(k:∀e o,e≠Dd->h.get? e=some o->h'.get? e=some o)(st:ZSt h z u v c d a b Dd xs ys i):ZSt h' z u v c d a b Dd xs ys i:=by
 obtain⟨hz,hu,h1,h2,g1,g2⟩:=st
 refine⟨?_,k _ _ F.u.symm hu,h1.kp fun o e=>k _ _ F.c.symm e,h2.kp fun o e=>k _ _ F.d.symm e,g1.kp fun o e=>k _ _ F.a.symm e,g2.kp fun o e=>k _ _ F.b.symm e⟩
 rcases hz with ⟨hz,p,q,hv⟩ | ⟨T,f,o,hz,hT',t1,t2,t3,t4⟩
 ·exact .inl ⟨k _ _ F.z.symm hz,p,q,k _ _ F.v.symm hv⟩
 ·exact .inr ⟨T,f,o,k _ _ F.z.symm hz,k _ _ t4 hT',t1,t2,t3,t4⟩
theorem JO{K:Type}[DecidableEq K]{knd:KeyKind prog w K}{R:Result->Shared->Prop}{z u v c d a b Dd:Addr}{xs ys:Array Value}(hh:A.handled=none)(D:ZpA z u v c d a b)(F:Far Dd z u v c d a b)(more:List (K×Value))(hn:more.length=xs.size)(hsz:xs.size<=sizeLine)
  (hP:∀(i:Nat),i < xs.size->∃ku vu k,xs[i]?=some ku/\ys[i]?=some vu/\knd.is k ku=true/\more[i]?=some (k,vu)):
  ∀(j i:Nat) (s:Shared) (n:Int),xs.size - i=j->i<=xs.size->ZSt s.heap z u v c d a b Dd xs ys i->s.heap.DictOf knd Dd (merged [] (more.take i))->
   (∀h' tk,(∀e o,e≠Dd->e≠z->e≠v->e≠c->e≠d->s.heap.get? e=some o->h'.get? e=some o)->h'.DictOf knd Dd (merged [] more)->R (.ok (.ret .none)) { s with heap:=h',toks:=tk })->
   codeAny (model prog w) A (.builtin "dict.update.loop" ⟨[.ref Dd,.ref z,.int n 0,.none],[]⟩) R s:=by
 intro j
 induction j with
 |zero=>
  intro i s n hj hi st hS hR
  have e:i=xs.size:=by omega
  subst e
  refine codeAny_builtin qW ?_
  rw[Around.under_plainId zh]
  show wpAny _ A.in1 (pyNext (.ref z) >>= _) _ _ s
  refine wpAny_bind (zs_end (by simpa using hh) D st (by simp) fun h' k1=>?_)
  show wpAny _ A.in1 (Builtin.Dict.addKeywords Dd [] >>= fun _=>ret Value.none) _ _ { s with heap:=h' }
  refine wpAny_bind ?_
  unfold Builtin.Dict.addKeywords
  refine wpAny_pure (wpAny_pure (hR h' s.toks (fun e o _ n1 n2 n3 n4 w=>k1 e o n1 n2 n3 n4 w) ?_))
  rw[<- hn,List.take_length]at hS
  obtain⟨o,es,ep,ho,r⟩:=hS
  exact⟨o,es,ep,k1 _ _ F.z F.v F.c F.d ho,r⟩
 |succ j ih=>
  intro i s n hj hi st hS hR
  have lt:i < xs.size:=by omega
  obtain⟨ku,vu,k,hx,hy,hk,hm⟩:=hP i lt
  refine codeAny_builtin qW ?_
  rw[Around.under_plainId zh]
  show wpAny _ A.in1 (pyNext (.ref z) >>= _) _ _ s
  obtain⟨oD,esD,epD,hoD,rD⟩:=id hS
  have ltD:Dd < s.heap.objs.size:=Heap.lt_size hoD
  refine wpAny_bind (zs_item D ltD st hx hy fun h1 st1 p1 n1 k1=>?_)
  have hb:Shared.TypeIs { s with heap:=h1 } (.ref s.heap.objs.size) "tuple":=⟨_,p1,rfl⟩
  have hS':h1.DictOf knd Dd (merged [] (more.take i)):=⟨oD,esD,epD,k1 _ _ F.z F.v F.c F.d hoD,rD⟩
  dsimp only
  refine wpAny_bind (wpAny_holding ?_)
  refine wpAny_bind (wpAny_tryCatch ?_)
  unfold Builtin.Dict.pairItems
  refine wpAny_bind (wpAny_typeOf hb ?_)
  rw[if_pos (by decide)]
  refine wpAny_bind (wpAny_seqItems p1 rfl (wpAny_pure ?_))
  show wpAny _ A.in1 (holding [ku,vu] (dictSet Dd ku vu)) _ _ { s with heap:=h1 }
  unfold dictSet
  refine wpAny_holding (wpAny_holding (wpAny_bind (knd.pyHash hk ?_)))
  have hlen:(merged ([]:List (K×Value)) (more.take i)).length<=i:=by
   have:=merged_length_le ([]:List (K×Value)) (more.take i)
   rw[List.length_take]at this
   simp only[List.length_nil]at this
   omega
  refine wpAny_dictSetHashed_pairs (s:={ s with heap:=h1,toks:=s.toks+1 }) hk hS' (fun h' hd' sb=>?_) (by omega)
  rw[<- merged_take_succ [] more i (k,vu) hm]at hd'
  have kk:∀e o,e≠Dd->h1.get? e=some o->h'.get? e=some o:=fun e o ne w=>(sb.2 e ne).trans w
  refine wpAny_pure ⟨plainId_quiet zh _,ih (i+1) _ (n+1) (by omega) lt (st1.keep F kk) hd' fun h2 tk k2 d2=>hR h2 tk (fun e o n0 n1 n2 n3 n4 w=>k2 e o n0 n1 n2 n3 n4 (kk _ _ n0 (k1 e o n1 n2 n3 n4 w))) d2⟩
theorem J2{K:Type}[DecidableEq K]{knd:KeyKind prog w K}{z u v c d a b:Addr}{xs ys:Array Value}{more:List (K×Value)}{Q:Value->Shared->Prop}(hh:A.handled=none)(D:ZpA z u v c d a b)
  (hz:IsZip s.heap z u v .none) (hu:IsPair s.heap u (.ref c) (.ref d)) (hv:∃p q,IsPair s.heap v p q) (h1:SIt false s.heap c a 0) (h2:SIt false s.heap d b 0) (g1:SSq false s.heap a xs) (g2:SSq false s.heap b ys)
  (hn:more.length=xs.size) (hsz:xs.size<=sizeLine) (hP:∀(i:Nat),i < xs.size->∃ku vu k,xs[i]?=some ku/\ys[i]?=some vu/\knd.is k ku=true/\more[i]?=some (k,vu))
  (h:∀h' tk,h'.DictOf knd s.heap.objs.size (merged [] more)->(∀e o,e≠z->e≠v->e≠c->e≠d->s.heap.get? e=some o->h'.get? e=some o)->Q (.ref s.heap.objs.size) { s with heap:=h',toks:=tk }):
  wpAny (model prog w) A (call (.type "dict") [.ref z]) Q E s:=by
 refine callType_codes (Q₁:=fun obj s₁=>obj= .ref s.heap.objs.size/\s₁={ s with heap:=s.heap.push { cls:=.type "dict",data:=.dict #[] } }) PySem.F.kt_called_dict (PySem.F.kt_typeCall_dict_1 _) PySem.F.entry_dict_init (kt_code_dict_new _ ⟨rfl,rfl⟩) ?_
 rintro obj s₁ ⟨rfl,rfl⟩
 have hnew:(s.heap.push { cls:=.type "dict",data:=.dict #[] }).DictOf knd s.heap.objs.size []:=Heap.DictOf.new s.heap
 refine⟨hnew.typeIs,PySem.F.args_dict_init_2 _ _,?_⟩
 unfold Builtin.«dict.__init__»
 refine wpAny_bind ?_
 unfold Builtin.Dict.selfAndRest
 refine wpAny_bind (wpAny_notOrdered_dict hnew.typeIs ?_)
 show wpAny _ _ (pure (s.heap.objs.size,[Value.ref z])) _ _ _
 refine wpAny_pure ?_
 show wpAny _ _ (Builtin.Dict.updateFrom "dict.__init__" s.heap.objs.size (.ref z) [] .none) _ _ _
 unfold Builtin.Dict.updateFrom
 generalize hH:s.heap.push { cls:=.type "dict",data:=.dict #[] }=H at hnew ⊢
 have gk:∀b o,s.heap.get? b=some o->H.get? b=some o:=fun b o e=>by rw[<- hH];exact Heap.get?_push_of_some _ e
 refine wpAny_bind (wpAny_typeOf ⟨_,gk _ _ hz,rfl⟩ ?_)
 rw[if_pos (by decide)]
 refine wpAny_bind (noKeysZ (s:={ s with heap:=H }) (gk _ _ hz) (by simpa using hh) fun m1 tk k1=>?_)
 simp only[Option.isNone_none,if_true]
 refine wpAny_bind (wpAny_rule ?_)
 have kk:∀b o,s.heap.get? b=some o->m1.get? b=some o:=fun b o e=>k1 _ _ (gk _ _ e)
 refine wpAny_bind (wpAny_pyIter_zip (s:={ s with heap:=m1,toks:=tk }) (kk _ _ hz) ?_)
 obtain⟨oD,eD,epD,hoD,rD⟩:=hnew
 obtain⟨p,q,hv⟩:=hv
 obtain⟨oc,hoc,_⟩:=h1.ob
 obtain⟨od,hod,_⟩:=h2.ob
 obtain⟨oa,hoa,_⟩:=id g1
 obtain⟨ob,hob,_⟩:=id g2
 have F:Far s.heap.objs.size z u v c d a b:=⟨Nat.ne_of_gt (Heap.lt_size hz),Nat.ne_of_gt (Heap.lt_size hu),Nat.ne_of_gt (Heap.lt_size hv),Nat.ne_of_gt (Heap.lt_size hoc),Nat.ne_of_gt (Heap.lt_size hod),Nat.ne_of_gt (Heap.lt_size hoa),Nat.ne_of_gt (Heap.lt_size hob)⟩
 refine wpAny_pure ⟨plainId_quiet zh _,codeAny_mono (JO (knd:=knd) (A:=A.in1) (R:=fun r s'=>r= .ok (.ret .none)/\Q (.ref s.heap.objs.size) s') (by simpa using hh) D F more hn hsz hP xs.size 0 { s with heap:=m1,toks:=tk } 0 rfl (Nat.zero_le _)
  ⟨.inl ⟨kk _ _ hz,p,q,kk _ _ hv⟩,kk _ _ hu,h1.kp fun o e=>kk _ _ e,h2.kp fun o e=>kk _ _ e,g1.kp fun o e=>kk _ _ e,g2.kp fun o e=>kk _ _ e⟩ ⟨oD,eD,epD,k1 _ _ hoD,rD⟩ fun h' tk' k2 d2=>⟨rfl,?_⟩) fun r s' q=>?_⟩
 ·exact h h' tk' d2 fun e o n1 n2 n3 n4 w=>k2 e o (Nat.ne_of_lt (Heap.lt_size w)) n1 n2 n3 n4 (kk _ _ w)
 ·obtain⟨rfl,q⟩:=q
  exact⟨rfl,q⟩
end
section
variable {X:Cx}{e1 e2:Expr}{ta:TA}{p p2 pos pos2:Pos}
def tDz(K:Frag)(ta:TA):TE:=fun σ H Q=>ta σ H fun vs H1=>∃(a b:Addr) (ks:List Key) (ys:List V),vs=[.ref a,.ref b]/\SqT K H1 a (ks.map kV)/\SqT K H1 b ys/\ks.length=ys.length/\∀l,H1 l=none->Q (.ref l) (upd H1 l (.dK (mergeK [] (ks.zip ys))))
theorem XE{P:Program}{w:World}:∀{ks:List Key} {us:List Value},Vals (ks.map kV) us->∀(i:Nat) (k:Key),ks[i]?=some k->∃u,us[i]?=some u/\(mixKind P w).is k u=true
 | [],_,_,i,k,h=>by simp at h
 |k0::ks,_,.cons (b:=u) h t,0,k,e=>by
  have e':k0=k:=by simpa using e
  subst e'
  exact⟨u,rfl,YN h⟩
 |k0::ks,_,.cons h t,i+1,k,e=>by simpa using XE (P:=P) (w:=w) t i k (by simpa using e)
theorem Y7:∀{ks:List Key} {ys:List V} {us:List Value},Vals ys us->KV (ks.zip ys) (ks.zip us)
 | [],_,_,_=>by simp only[List.zip_nil_left];exact .nil
 |_::_,_,_,.nil=>by simp only[List.zip_nil_right];exact .nil
 |k::ks,_,_,.cons h t=>.cons ⟨rfl,h⟩ (Y7 t)
theorem XF(hgd:Gl X "dict")(hmd:X.mg "dict"=none)(hgz:Gl X "zip")(hmz:X.mg "zip"=none)(hc:X.calm=true)(ha:PA X [e1,e2] ta)
  (hs:starEach [e1,e2] X.env=(false,eval e1 X.env)::starEach [e2] X.env:=by rfl) (hp:(backTo pos2 (starEach [e2] X.env)).any (·.1)=false:=by rfl)
  (hs2:starEach [Expr.Call (.Name "zip" p2) [e1,e2] [] pos2] X.env=(false,eval (.Call (.Name "zip" p2) [e1,e2] [] pos2) X.env)::starEach [] X.env:=by rfl) (hp2:(backTo pos (starEach [] X.env)).any (·.1)=false:=by rfl):
  PE X (.Call (.Name "dict" p) [.Call (.Name "zip" p2) [e1,e2] [] pos2] [] pos) (tDz X.K ta):=by
 intro pins s σ H Q I h
 refine wpAny_Call_Name_kw (zi I hgd hmd PyProof.Rows.boot_dict ?_)
 refine PyProof.Rows.callWith_type1 ?_ hs2 hp2
 rw[hs2]
 show wpAny _ _ (spliced ((false,eval _ X.env)::backTo pos (starEach [] X.env))) _ _ s
 refine Calls.spliced_cons ?_
 refine wpAny_Call_Name_kw (zi I hgz hmz PyProof.Rows.boot_zip ?_)
 refine PyProof.Rows.callWith_type1 (thn (ha pos2 pins s σ H _ I h) fun us s1 ⟨vs,H1,I1,r1,q1⟩=>?_) hs hp
 obtain⟨a,b,ks,ys,e,gx,gy,hl,q⟩:=q1
 subst e
 cases r1 with
 |cons r rr=>
  cases rr with
  |cons r' rr'=>
   cases rr'
   cases r
   cases r'
   obtain⟨its,rv,g1,z1⟩:=I1.tuple gx
   obtain⟨jts,rw',g2,z2⟩:=I1.tuple gy
   have l1:=rv.length
   have l2:=rw'.length
   rw[List.length_map]at l1 z1
   have la:a < s1.heap.objs.size:=by obtain⟨o,ho,_⟩:=g1;exact Heap.lt_size ho
   have lb:b < s1.heap.objs.size:=by obtain⟨o,ho,_⟩:=g2;exact Heap.lt_size ho
   refine Y6 (b1:=false) (b2:=false) (xs:=its.toArray) (ys:=jts.toArray) g1 g2 fun h' z' u' v' i1 i2 k=>?_
   refine Calls.spliced_nil ?_
   have Dz:=XB s1.heap.objs.size a b la lb
   refine J2 (s:={ s1 with heap:=h' }) (knd:=mixKind X.prog X.w) (more:=ks.zip jts) (I1.ok.hd hc) Dz z' u' ⟨_,_,v'⟩ i1 i2 (SSq.kp (b:=false) g1 fun o e=>k _ _ e) (SSq.kp (b:=false) g2 fun o e=>k _ _ e) (by rw[List.length_zip,List.size_toArray];omega) (by rw[List.size_toArray];omega) (fun i hi=>?_) fun h2 tk dd k2=>?_
   ·rw[List.size_toArray]at hi
    have hk:i < ks.length:=by omega
    have hj:i < jts.length:=by omega
    obtain⟨u,hu,ku⟩:=XE rv i _ (List.getElem?_eq_getElem hk)
    refine⟨u,jts[i],ks[i],by simpa using hu,by simp [hj],ku,?_⟩
    rw[List.getElem?_zip_eq_some]
    exact⟨List.getElem?_eq_getElem hk,List.getElem?_eq_getElem hj⟩
   ·have rel:KV (mergeK [] (ks.zip ys)) (merged [] (ks.zip jts)):=KV.merge (Y7 rw') .nil
    have zl:(mergeK [] (ks.zip ys)).length<=sizeLine:=by
     rw[rel.length]
     have:=merged_length_le ([]:List (Key×Value)) (ks.zip jts)
     rw[List.length_zip]at this
     simp only[List.length_nil]at this
     omega
    have k3:∀e o,s1.heap.get? e=some o->h2.get? e=some o:=fun e o w=>by
     have lt:=Heap.lt_size w
     exact k2 e o (Nat.ne_of_lt (Nat.lt_of_lt_of_le lt (Nat.le_add_right _ _))) (Nat.ne_of_lt (Nat.lt_of_lt_of_le lt (Nat.le_add_right _ _))) (Nat.ne_of_lt lt) (Nat.ne_of_lt (Nat.lt_of_lt_of_le lt (Nat.le_add_right _ _))) (k _ _ w)
    have big:s1.heap.objs.size<=h'.objs.size:=Nat.le_of_lt (Nat.lt_of_le_of_lt (Nat.le_add_right _ 4) (Heap.lt_size z'))
    exact⟨.ref h'.objs.size,_,I1.laid k3 big (dk_new zl (beq_eq_false_iff_ne.mpr (Ne.symm (Nat.ne_of_lt (Nat.lt_of_lt_of_le I1.big big)))) rel dd),rfl,q _ (I1.hok.fresh big)⟩
end
section
variable {X:Cx}{st:Stmt}{ss:List Stmt}{e:Expr}{es:List Expr}
def sNo:TS:=fun _ _ _=>False
theorem pss_no:PSs X ss sNo:=fun _ _ _ _ _ _ h=>False.elim h
end
theorem XG:∀{ns:List String} {us:List Value},Vals (ns.map V.ty) us->us=ns.map Value.type
 | [],_,h=>by rw[List.map_nil]at h;cases h;rfl
 |c::r,_,h=>by
  rw[List.map_cons]at h
  cases h with
  |cons h1 h2=>rw[show _=Value.type c from h1,XG h2];rfl
theorem J3{X:Cx}:CallR X (.builtin "isinstance") (fun xs H Q=>∃(a tp:Addr) (zs:List V) (ns:List String) (b:Bool),xs=[.ref a,.ref tp]/\H a=some (.tup zs)/\H tp=some (.tup (ns.map V.ty))/\kitAny X.K (.type "tuple") (ns.map Value.type)=some b/\Q (.bl b) H):=by
 intro pins s σ H xs us Q I r h
 obtain⟨a,tp,zs,ns,b,rfl,ha,ht,e,q⟩:=h
 obtain⟨u,w',rfl,rx,ry⟩:=vals2 r
 cases (show u=Value.ref a from rx)
 cases (show w'=Value.ref tp from ry)
 obtain⟨_,its,rv,it⟩:=I.hok tp _ ht
 rw[XG rv]at it
 obtain⟨_,ia,_,o,h1,h2,_⟩:=I.hok a _ ha
 obtain⟨⟨c1,d1,da,sl⟩,e2,hc,n,hd⟩:=it
 cases (show c1=_ from hc)
 cases (show da=_ from hd)
 exact PySem.W.kia_tup PySem.W.kitx_tuple I.kIn ⟨o,h1,h2⟩ e2 e (fun z=>nomatch z) fun tk=>⟨.bl b,H,I.tok tk,rfl,q⟩
abbrev g2K(K:Frag)(i j:Nat):TG:=gTup K 2 (gCons (gName i) (gCons (gName j) gNil))
theorem len2'{ts:St}(h:ts.length=2):∃a b,ts=[a,b]:=by
 match ts,h with
 | [a,b],_=>exact⟨a,b,rfl⟩
theorem Yu{K:Frag}{a b:Addr}{xs ys:List V}{te:TE}{Qf:List V->Hp->Prop}{σt:St}{H:Hp}(hz:xs.length<=sizeLine)(hlen:xs.length=ys.length)(Pv:Nat->List V->Hp->Prop)(h0:Pv 0 [] H)
  (hk:∀i zs H',Pv i zs H'->SqB K false H' a xs/\SqB K false H' b ys/\zs.length<=i) (hs:∀i x y zs H' p,xs[i]?=some x->ys[i]?=some y->Pv i zs H'->H' p=none->te (some x::some y::σt) (upd H' p (.tup [x,y])) fun v H2=>Pv (i+1) (zs++[v]) H2) (hd:∀zs H',Pv xs.length zs H'->Qf zs H'):
  CompR (Itz K false false a b) 2 σt (g2K K 0 1) tAll te Qf H:=by
 refine⟨fun i m zs H'=>m=xs.length - i/\i<=xs.length/\Pv i zs H',⟨xs.length,by simp,Nat.zero_le _,h0⟩,?_⟩
 rintro i m zs H' ⟨rfl,hi,p⟩
 obtain⟨q1,q2,hy⟩:=hk i zs H' p
 by_cases hlt:i < xs.length
 ·refine .inr ⟨⟨xs,ys,xs[i],ys[i]'(hlen▸hlt),q1,q2,List.getElem?_eq_getElem hlt,List.getElem?_eq_getElem (hlen▸hlt)⟩,by omega,Pv (i+1),fun zs' H2 p'=>⟨xs.length - (i+1),by omega,rfl,hlt,p'⟩,fun v H2 ts hts y=>?_⟩
  obtain⟨r,v,w,rfl,hr,rfl,w1,w2⟩:=y
  obtain⟨t1,t2,rfl⟩:=len2' hts
  exact⟨r,_,rfl,SqT.of jd,rfl,_,_,rfl,_,_,rfl,rfl,⟨[some _,some _],rfl,rfl⟩,hs i v w zs H' r (w1 xs q1) (w2 ys q2) p hr⟩
 ·have e:i=xs.length:=by omega
  subst e
  exact .inl ⟨⟨xs,q1,Nat.le_refl _⟩,hd zs H' p⟩
theorem Qa:∀{cs:List Addr} {us:List Value},Vals (cs.map V.ref) us->us=cs.map Value.ref
 | [],_,h=>by rw[List.map_nil]at h;cases h;rfl
 |c::r,_,h=>by
  rw[List.map_cons]at h
  cases h with
  |cons h1 h2=>rw[show _=Value.ref c from h1,Qa h2];rfl
theorem J4{X:Cx}:CallR X (.builtin "isinstance") (fun xs H Q=>∃(a C:Addr) (fs:List (Str×V)) (tp:Addr) (cs:List Addr) (b:Bool),xs=[.ref a,.ref tp]/\H tp=some (.tup (cs.map V.ref))/\ExcC H a C fs/\XCls X.K C/\kitAny X.K (.ref C) (cs.map Value.ref)=some b/\Q (.bl b) H):=by
 intro pins s σ H xs us Q I r h
 obtain⟨a,C,fs,tp,cs,b,rfl,ht,ex,xc,e,q⟩:=h
 obtain⟨u,w',rfl,rx,ry⟩:=vals2 r
 cases (show u=Value.ref a from rx)
 cases (show w'=Value.ref tp from ry)
 obtain⟨_,its,rv,it⟩:=I.hok tp _ ht
 rw[Qa rv]at it
 obtain⟨ox,od,J,_⟩:=qJ I ex
 obtain⟨⟨c1,d1,da,sl⟩,e2,hc,n,hd⟩:=it
 cases (show c1=_ from hc)
 cases (show da=_ from hd)
 exact PySem.W.kia_tup (K6 xc) I.kIn ⟨ox,od,J⟩ e2 e (fun z=>nomatch z) fun tk=>⟨.bl b,H,I.tok tk,rfl,q⟩
end L2
namespace L2
open PySem PySem.Spec PyProof.Rows
theorem Room.m{j k:Nat}{A:Around}(r:Room k A)(h:j<=k:=by omega):Room j A:=r.mono h
theorem fsc{N P:List Str}{s:Scope}(a:s.kind=.function:=by rfl)(b:s.isCoroutine=false:=by rfl)(c:s.isGenerator=false:=by rfl)(d:N.Nodup:=by decide +kernel)(e:N.take P.length=P:=by rfl)(f:∀x∈P,s.names.lookup x=some .local ∨ s.names.lookup x=some .cell:=by decide +kernel)(g:∀y∈s.names,y.2≠.free:=by decide +kernel):FnScope N P s:=⟨a,b,c,d,e,f,g⟩
theorem csc{N:List Str}{s t:Scope}{M:List Str}{n:Nat}{i:List Nat}(a:∀y∈t.names,y.2≠.cell:=by decide +kernel)(b:t.kind=.function:=by rfl)(c:∀y∈t.names,y.2=.local->t.names.lookup y.1=some .local:=by decide +kernel)(d:∀y∈t.names,y.2=.free->s.names.lookup y.1=some .cell:=by decide +kernel)(e:M.drop n=i.map (fun i=>N.getD i Str.empty):=by decide +kernel)(f:M.length=n+i.length:=by rfl)(g:∀j∈i,t.names.lookup (N.getD j Str.empty)=some .free:=by decide +kernel):CompSc N s t M n i:=⟨a,b,c,d,e,f,g⟩
end L2
namespace K20
open PySem PySem.Spec PyProof.Rows L2
variable {P:Program}{w:World}{K:Frag}{mg:Str->Option Value}{base:Heap}
noncomputable def top(i:Nat):Stmt:=PySem.Challenge.pw_againbook_k20_deeds_of_cuts.main.body.getD i (.Pass ⟨0,0,0,0⟩)
noncomputable abbrev sBox:Stmt:=top 35
noncomputable abbrev sTake:Stmt:=top 36
noncomputable abbrev sNames:Stmt:=top 38
def But(p:Addr)(H H':Hp):Prop:=∀b o,b≠p->H b=some o->H' b=some o
theorem But.refl{p:Addr}{H:Hp}:But p H H:=fun _ _ _ h=>h
theorem But.trans{p:Addr}{H H1 H2:Hp}(a:But p H H1)(b:But p H1 H2):But p H H2:=fun c o n h=>b c o n (a c o n h)
theorem But.of_eq{p:Addr}{H H':Hp}(h:∀b,b≠p->H' b=H b):But p H H':=fun b o n e=>by rw[h b n];exact e
theorem But.upd_new{p r:Addr}{H H':Hp}{o:HO}(a:But p H H')(n:H' r=none):But p H (upd H' r o):=fun b u nb e=>by
 have q:=a b u nb e
 rw[jm (jv q n)];exact q
theorem But.upd_own{p r:Addr}{H H':Hp}{o:HO}(a:But p H H')(n:H r=none):But p H (upd H' r o):=fun b u nb e=>by
 rw[jm (jv e n)];exact a b u nb e
structure BoxAt(H:Hp)(p:Addr):Prop where
 ob:∃a b:Int,0<=a/\1<=b/\b<=2147483646/\H p=some (.lst [.int a,.int b])
theorem BoxAt.eq{H H':Hp}{p:Addr}(B:BoxAt H p)(e:H' p=H p):BoxAt H' p:=by
 refine opq fun Gq kq=>?_
 obtain⟨a,b,h1,h2,h3,h⟩:=B.ob
 refine kq ?_
 clear kq
 exact⟨a,b,h1,h2,h3,by rw[e];exact h⟩
theorem BoxAt.upd_new{H:Hp}{p r:Addr}{o:HO}(B:BoxAt H p)(n:H r=none):BoxAt (upd H r o) p:=by
 refine opq fun Gq kq=>?_
 obtain⟨a,b,h1,h2,h3,h⟩:=B.ob
 refine kq ?_
 clear kq
 exact B.eq (by rw[jm (jv h n)])
theorem BoxAt.ne{H:Hp}{p r:Addr}(B:BoxAt H p)(n:H r=none):r≠p:=by
 refine opq fun Gq kq=>?_
 obtain⟨a,b,h1,h2,h3,h⟩:=B.ob
 refine kq ?_
 clear kq
 exact Ne.symm (jv h n)
def spTake:Sp:=fun vs H Q _=>∃(p:Addr) (w:Int),vs=[.ref p,.int w]/\BoxAt H p/\0 < w/\w<=1000000000000000000/\
 ∀(d:Int) (H':Hp),0<=d->d < w->BoxAt H' p->(∀b,b≠p->H' b=H b)->Q (.int d) H'
def spBox(K:Frag):Sp:=fun vs H Q _=>∃(a:Addr) (ns:List Int) (k:Int),vs=[.ref a,.int k]/\SqL K H a (ns.map V.int)/\0<=k/\k < 1000/\
 ∀(r:Addr) (H':Hp),H r=none->BoxAt H' r->(∀b,b≠r->H' b=H b)->Q (.ref r) H'
theorem ten18:(10:Int) ^ (18:Int).toNat=1000000000000000000:=by decide
theorem Y8{ns:List Int}{k:Int}(h0:0<=k)(h1:k < (ns.length:Int)):∃v:Int,atI (ns.map V.int) k=some (.int v):=by
 have hk:k.toNat < ns.length:=by omega
 have ek:k=((k.toNat:Nat):Int):=by omega
 have q:atI (ns.map V.int) ((k.toNat:Nat):Int)=some (.int ns[k.toNat]):=jE (by rw[List.getElem?_map,List.getElem?_eq_getElem hk];rfl)
 rw[<- ek]at q
 exact⟨_,q⟩
structure Cl(P:Program)(w:World)(K:Frag)(mg:Str->Option Value)(base:Heap)(L:Nat)(f:Addr)(fd:FuncData)(ps:List Str)(sp:Sp)(py:Str):Prop where
 g:FnOk P w K mg base CX0 L f fd ps sp
 b:Binds K fd ps []
 k:keepIn K (.ref f)=true
 m:mg py=some (.ref f)
theorem scTake:FnScope ["_law_box_here","_law_wide","_law_digit","_law_one","_law_mixed"] ["_law_box_here","_law_wide"] (defScope sTake):=fsc
theorem ok_take{f:Addr}{fd:FuncData}(F:Fun K "_law_take" "_law_take" sTake f fd):FnOk P w K mg base CX0 1 f fd ["_law_box_here","_law_wide"] spTake:=by
 refine F.ok scTake (fun vs H Q E h=>?_) (fun cdv A outer s H vs Q E hr h=>?_)
 ·refine opq fun Gq kq=>?_
  obtain⟨p,w,rfl,_⟩:=h
  refine kq ?_
  clear kq
  rfl
 refine opq fun Gq kq=>?_
 obtain⟨p,wd,rfl,B,hw0,hw1,q⟩:=h
 refine kq ?_
 clear kq
 refine opq fun Gq kq=>?_
 obtain⟨a,b,ha,hb1,hb2,hp⟩:=B.ob
 refine kq ?_
 clear kq
 refine⟨_,je (jy (jl qO (jk ju (pv 0) jc (fun _ _=>rfl)) jc (nomark _))
   (je (jo (i:=2) scTake.nd rfl (Or.inl rfl) (jw kr (jk ju (pv 0) jc (fun _ _=>rfl)) (pv 1)))
   (je (kQ (jw qu (jk ju (pv 0) jc (fun _ _=>rfl)) (pv 1)) (qe (pv 0) jc zd))
   (jh (jp (pv 2))))) jr)
  (je (jo (i:=3) scTake.nd rfl (Or.inl rfl) (jw kr (jw kS (jk ju (pv 0) jc (fun _ _=>rfl)) jc) jc))
  (je (kQ (jw jS (jw kr (jw jS (jw kS (pv 3) jc) jc) jc) jc) (qe (pv 0) jc zd))
  (je (jo (i:=4) scTake.nd rfl (Or.inl rfl) (jw qu (jw jS (jw kS (pv 3) jc) (jk ju (pv 0) jc (fun _ _=>rfl))) jc))
  (je (jy (jl qO (pv 1) (jw Jr jc jc) (nomark _)) (jh (jo (i:=4) scTake.nd rfl (Or.inl rfl) (jw kS (pv 4) (pv 4)))) jr)
  (jh (jp (jw kr (pv 4) (pv 1)))))))),?_⟩
 refine⟨_,rfl,p,_,_,_,rfl,rfl,SqL.of hp,rfl,_,_,rfl,rfl,_,rfl,?_⟩
 refine ite2 (fun c=>?_) (fun c=>?_)
 ·have c':(0:Int) < a:=of_decide_eq_true c
  refine⟨_,rfl,p,_,_,_,rfl,rfl,SqL.of hp,rfl,_,rfl,_,_,rfl,rfl,hw0,?_⟩
  refine⟨_,rfl,p,_,_,_,rfl,rfl,SqL.of hp,rfl,_,rfl,_,_,rfl,rfl,⟨hw0,hw1⟩,_,rfl,p,_,_,0,rfl,rfl,hp,rfl,_,rfl,?_⟩
  refine q (a % wd) _ (Int.emod_nonneg _ (by omega)) (Int.emod_lt_of_pos _ hw0) ⟨a / wd,b,Int.ediv_nonneg ha (by omega),hb1,hb2,jd⟩ fun b n=>jm n
 ·have m0:0<=b*69621 % 2147483647:=Int.emod_nonneg _ (by decide)
  have m1:b*69621 % 2147483647 < 2147483647:=Int.emod_lt_of_pos _ (by decide)
  refine⟨_,rfl,p,_,_,_,rfl,rfl,SqL.of hp,rfl,_,_,rfl,rfl,.inr ⟨by decide,by decide⟩,_,_,rfl,rfl,(by show(0:Int) < 2147483647;decide),?_⟩
  refine⟨_,rfl,_,_,rfl,rfl,.inr ⟨by decide,by decide⟩,_,_,rfl,rfl,_,_,rfl,rfl,(by show(0:Int) < 2147483646;decide),_,_,rfl,rfl,_,rfl,p,_,_,1,rfl,rfl,hp,rfl,?_⟩
  generalize hone:b*69621 % 2147483647=one at*
  have n0:0<=(one*48271+30103) % 2147483646:=Int.emod_nonneg _ (by decide)
  have n1:(one*48271+30103) % 2147483646 < 2147483646:=Int.emod_lt_of_pos _ (by decide)
  generalize htwo:(one*48271+30103) % 2147483646=two at*
  refine⟨_,rfl,_,_,rfl,rfl,.inr ⟨by decide,by decide⟩,_,rfl,p,_,_,_,rfl,rfl,SqL.of jd,rfl,_,_,rfl,rfl,_,_,rfl,rfl,⟨by decide,by decide⟩,?_⟩
  have x0:0<=(one*2147483647+(two+1)) / 8191:=by omega
  have x1:(one*2147483647+(two+1)) / 8191 < 18446744073709551616:=by omega
  generalize hmix:(one*2147483647+(two+1)) / 8191=mix at*
  refine⟨_,rfl,_,_,rfl,rfl,⟨by decide,by decide,by decide⟩,_,_,rfl,rfl,_,rfl,?_⟩
  have B2:BoxAt (upd H p (.lst [.int a,.int (two+1)])) p:=⟨a,two+1,ha,by omega,by omega,jd⟩
  refine ite2 (fun c2=>?_) (fun c2=>?_)
  ·refine⟨_,rfl,_,rfl,_,_,rfl,rfl,.inl ⟨by omega,by omega⟩,?_⟩
   refine⟨_,rfl,_,rfl,_,_,rfl,rfl,hw0,?_⟩
   exact q _ _ (Int.emod_nonneg _ (by omega)) (Int.emod_lt_of_pos _ hw0) B2 fun b n=>jm n
  ·refine⟨_,rfl,_,rfl,_,_,rfl,rfl,hw0,?_⟩
   exact q _ _ (Int.emod_nonneg _ (by omega)) (Int.emod_lt_of_pos _ hw0) B2 fun b n=>jm n
theorem scBox:FnScope ["_law_script","_law_k","_law_cell","_law_seed"] ["_law_script","_law_k"] (defScope sBox):=fsc
theorem ok_box{f:Addr}{fd:FuncData}(F:Fun K "_law_box" "_law_box" sBox f fd)(ml:mg "len"=none)(mi:mg "int"=none):FnOk P w K mg base CX0 1 f fd ["_law_script","_law_k"] (spBox K):=by
 refine F.ok scBox (fun vs H Q E h=>?_) (fun cdv A outer s H vs Q E hr h=>?_)
 ·refine opq fun Gq kq=>?_
  obtain⟨a,ns,k,rfl,_⟩:=h
  refine kq ?_
  clear kq
  rfl
 refine opq fun Gq kq=>?_
 obtain⟨a,ns,k,rfl,hS,hk0,hk1,q⟩:=h
 refine kq ?_
 clear kq
 refine⟨_,je (jo (i:=2) scBox.nd rfl (Or.inl rfl) (jw jS (jw kS jc (pv 1)) jc))
  (je (jy (jl Jj (pv 1) (jB jL rfl ml PySem.boot_len (ja (pv 0) jb)) (nomark _))
   (jh (jo (i:=2) scBox.nd rfl (Or.inl rfl) (jk ju (pv 0) (pv 1) (fun _ _=>rfl))))
   (jh (jy (jl qO (jB jL rfl ml PySem.boot_len (ja (pv 0) jb)) jc (nomark _))
    (jh (jo (i:=2) scBox.nd rfl (Or.inl rfl) (jw jS (pv 2) (jw kS (jw kr (jk ju (pv 0) (jw kr (pv 1) (jB jL rfl ml PySem.boot_len (ja (pv 0) jb))) (fun _ _=>rfl)) jc) jc)))) jr)))
  (je (jo (i:=3) scBox.nd rfl (Or.inl rfl) (jw jS (jw kr (jw jS (jw kS (jw kr (pv 2) jc) jc) (jw kS jc (pv 1))) jc) jc))
  (jh (jp (jH (ja (jw kS (pv 2) (jC kE rfl mi boot_int (ja (ky op_ge (pv 2) (jw Jr jc jc) (nomark _)) jb))) (ja (pv 3) jb))))))),?_⟩
 have hl:(ns.map V.int).length=ns.length:=List.length_map _
 have tail:∀c:Int,∃v:V,∃x:Int,v= .int x/\1<=x/\x<=2147483646/\v= .int ((c % 2147483629*48271+40692*k) % 2147483646+1):=fun c=>by
  have n0:0<=(c % 2147483629*48271+40692*k) % 2147483646:=Int.emod_nonneg _ (by decide)
  have n1:(c % 2147483629*48271+40692*k) % 2147483646 < 2147483646:=Int.emod_lt_of_pos _ (by decide)
  exact⟨_,_,rfl,by omega,by omega,rfl⟩
 have fin:∀(c:Int) (r:Addr),H r=none->Q (.ref r) (upd H r (.lst [.int (c*(if decide ((10:Int) ^ (18:Int).toNat<=c)=true then 1 else 0)),.int ((c % 2147483629*48271+40692*k) % 2147483646+1)])):=fun c r hn=>by
  refine q r _ hn ⟨_,_,?_,?_,?_,jd⟩ fun b n=>jm n
  ·rw[ten18]
   by_cases h:(1000000000000000000:Int)<=c
   ·rw[decide_eq_true h,if_pos rfl];omega
   ·rw[decide_eq_false h,if_neg Bool.false_ne_true];omega
  ·have n0:0<=(c % 2147483629*48271+40692*k) % 2147483646:=Int.emod_nonneg _ (by decide)
   omega
  ·have n1:(c % 2147483629*48271+40692*k) % 2147483646 < 2147483646:=Int.emod_lt_of_pos _ (by decide)
   omega
 have bnd:∀c:Int,CMul c (if decide ((10:Int) ^ (18:Int).toNat<=c)=true then 1 else 0):=fun c=>.inr (by split<;>decide)
 try dsimp only[cxOf,Cx.nox,Cx.wish]
 refine seqF fun F0 f0=>⟨_,rfl,_,_,rfl,rfl,.inl ⟨by decide,by decide⟩,_,_,rfl,rfl,f0 _ _ ?_⟩
 clear f0
 refine seqF fun F1 f1=>?_
 have go:∀c:Int,F1 [some (.ref a),some (.int k),some (.int c),none] H:=fun c=>f1 _ _ (seqF fun F2 f2=>⟨_,rfl,_,_,rfl,rfl,(by show(0:Int) < 2147483629;decide),_,_,rfl,rfl,.inr ⟨by decide,by decide⟩,_,rfl,_,_,rfl,rfl,.inl ⟨by decide,by decide⟩,_,_,rfl,rfl,_,_,rfl,rfl,(by show(0:Int) < 2147483646;decide),_,_,rfl,rfl,f2 _ _ (⟨_,rfl,_,rfl,_,_,rfl,rfl,⟨by decide,by decide,by decide⟩,_,_,rfl,rfl,.inr ⟨_,rfl,_,_,rfl,rfl,bnd c,_,rfl,sz2,fin c⟩⟩)⟩)
 clear f1
 refine ifG fun G g'=>⟨_,rfl,_,rfl,a,_,rfl,.inl hS,_,_,rfl,rfl,_,rfl,g' _ _ ?_⟩
 clear g'
 refine ite2 (fun c=>?_) (fun c=>?_)
 ·have c':k < (((ns.map V.int).length:Nat):Int):=of_decide_eq_true c
  rw[hl]at c'
  obtain⟨v,hv⟩:=Y8 (ns:=ns) hk0 c'
  exact⟨_,rfl,_,rfl,a,_,_,_,rfl,rfl,hS,hv,go v⟩
 ·have c':¬k < (((ns.map V.int).length:Nat):Int):=of_decide_eq_false (Bool.eq_false_iff.mpr c)
  rw[hl]at c'
  refine ifG fun G g'=>⟨_,rfl,a,_,rfl,.inl hS,_,_,rfl,rfl,_,rfl,g' _ _ ?_⟩
  clear g'
  refine ite2 (fun c2=>?_) (fun c2=>?_)
  ·have c3:(0:Int) < (((ns.map V.int).length:Nat):Int):=of_decide_eq_true c2
   obtain⟨v,hv⟩:=Y8 (ns:=ns) (k:=k % (((ns.map V.int).length:Nat):Int)) (Int.emod_nonneg _ (by omega)) (by have:=Int.emod_lt_of_pos k c3;rw[hl]at this;rw[hl];exact this)
   exact⟨_,rfl,_,rfl,_,rfl,_,rfl,a,_,rfl,.inl hS,_,_,rfl,rfl,c3,a,_,_,_,rfl,rfl,hS,hv,_,_,rfl,rfl,(by show(0:Int) < 2147483629;decide),_,_,rfl,rfl,.inr ⟨by decide,by decide⟩,_,_,rfl,rfl,go _⟩
  ·exact go _
theorem slen(i j:Str):(i++j).length=i.length+j.length:=by
 show(i.cps++j.cps).size=i.cps.size+j.cps.size
 exact Array.size_append
theorem ze:1000000<=sizeLine:=by rw[sizeLine_eq];decide
theorem keepN{H:Hp}{r b:Addr}{o u:HO}(h:H b=some u)(n:H r=none):upd H r o b=some u:=by rw[jm (jv h n)];exact h
theorem Y9{z:Str}{k:Int}(h0:0<=k)(h1:k < (z.length:Int)):∃c:Nat,atI z.cps.toList k=some c:=by
 have hl:z.cps.toList.length=z.length:=Array.length_toList
 have hk:k.toNat < z.cps.toList.length:=by omega
 have ek:k=((k.toNat:Nat):Int):=by omega
 have q:atI z.cps.toList ((k.toNat:Nat):Int)=some z.cps.toList[k.toNat]:=jE (List.getElem?_eq_getElem hk)
 rw[<- ek]at q
 exact⟨_,q⟩
theorem Jt{ys:List Str}{k:Int}(h0:0<=k)(h1:k < (ys.length:Int)):∃y∈ys,atI (ys.map V.str) k=some (.str y):=by
 have hk:k.toNat < ys.length:=by omega
 have ek:k=((k.toNat:Nat):Int):=by omega
 have q:atI (ys.map V.str) ((k.toNat:Nat):Int)=some (.str ys[k.toNat]):=jE (by rw[List.getElem?_map,List.getElem?_eq_getElem hk];rfl)
 rw[<- ek]at q
 exact⟨_,List.getElem_mem hk,q⟩
noncomputable def cutS(ss:List Str)(lo hi:Option Int):List Str:=(ss.drop (HT.sIx ss.length 0 lo)).take (HT.sIx ss.length ss.length hi - HT.sIx ss.length 0 lo)
theorem zf(ss:List Str)(lo hi:Option Int):cutV (ss.map V.str) lo hi=(cutS ss lo hi).map V.str:=by
 unfold cutV cutS
 rw[List.length_map,List.map_take,List.map_drop]
theorem zo{ss:List Str}{lo hi:Option Int}{y:Str}(h:y∈cutS ss lo hi):y∈ss:=List.mem_of_mem_drop (List.mem_of_mem_take h)
theorem zO(ss:List Str)(lo hi:Option Int):(cutS ss lo hi).length<=ss.length:=by
 unfold cutS
 rw[List.length_take,List.length_drop]
 omega
theorem qm:∀{ys:List Str},(∀y∈ys,y.length<=1)->(ys.map (·.length)).sum<=ys.length
 | [],_=>Nat.le_refl _
 |y::r,h=>by
  have h1:=h y List.mem_cons_self
  have h2:=qm (ys:=r) fun z hz=>h z (List.mem_cons_of_mem _ hz)
  rw[List.map_cons,List.sum_cons,List.length_cons]
  omega
theorem qo{z:Str}{ys:List Str}(hz:z.length=0)(h:∀y∈ys,y.length<=1):(Txt.join z ys).length<=ys.length:=by
 show(Builtin.Str.glued z ys).length<=_
 rw[size_glued,hz,Nat.mul_zero,Nat.add_zero]
 exact qm h
noncomputable def letters:Str:="abcdefghijklmnopqrstuvwxyz"
theorem qX:letters.length=26:=by decide+kernel
noncomputable def lett(d4:Int)(k:Nat):Nat:=97+((d4+5*(0+(k:Int))) % 26).toNat
theorem lett_ne{d4:Int}{i j:Nat}(hi:i < 20)(hj:j < 20)(h:lett d4 i=lett d4 j):i=j:=by
 unfold lett at h
 omega
theorem let_at{k:Int}{c:Nat}(h0:0<=k)(h1:k < 26)(h:atI letters.cps.toList k=some c):c=97+k.toNat:=by
 have q:∀m:Fin 26,atI letters.cps.toList (m.val:Int)=some (97+m.val):=by decide+kernel
 have e:=q ⟨k.toNat,by omega⟩
 have ek:((k.toNat:Nat):Int)=k:=by omega
 dsimp only at e
 rw[ek,h]at e
 injection e
def Sh(A S:Str)(d5:Int)(c:Nat)(w:Str):Prop:=if d5=2 then ∃R:Str,w=R++⟨#[c]⟩ else w=A++⟨#[c]⟩++S∨w=A++⟨#[c]⟩++S++"z"∨w="qqqqqqq"++⟨#[c]⟩
theorem kj(a b:Str):(a++b).cps.toList=a.cps.toList++b.cps.toList:=by
 show(a.cps++b.cps).toList=_
 exact Array.toList_append
theorem Qb{R R':Str}{c c':Nat}(h:R++(⟨#[c]⟩:Str)=R'++⟨#[c']⟩):c=c':=by
 have e:=congrArg (Array.toList ∘ Str.cps) h
 have e:(R++(⟨#[c]⟩:Str)).cps.toList=(R'++(⟨#[c']⟩:Str)).cps.toList:=e
 rw[kj,kj]at e
 have:=List.append_inj_right' e rfl
 injection this
theorem mid_inj{A S:Str}{c c':Nat}(h:A++(⟨#[c]⟩:Str)++S=A++⟨#[c']⟩++S):c=c':=by
 have e:=congrArg (Array.toList ∘ Str.cps) h
 have e:(A++(⟨#[c]⟩:Str)++S).cps.toList=(A++(⟨#[c']⟩:Str)++S).cps.toList:=e
 rw[kj,kj,kj,kj]at e
 have:=List.append_cancel_left (List.append_cancel_right e)
 injection this
theorem sh_eq{A S:Str}{d5:Int}{c c':Nat}{w:Str}(hA:A.length+S.length<=5)(h:Sh A S d5 c w)(h':Sh A S d5 c' w):c=c':=by
 unfold Sh at h h'
 have l1:∀c:Nat,(⟨#[c]⟩:Str).length=1:=fun _=>rfl
 have lz:(Str.ofString "z").length=1:=by decide+kernel
 have lq:(Str.ofString "qqqqqqq").length=7:=by decide+kernel
 split at h
 ·rename_i e5
  rw[if_pos e5]at h'
  obtain⟨R,rfl⟩:=h
  obtain⟨R',e⟩:=h'
  exact Qb e
 ·rename_i e5
  rw[if_neg e5]at h'
  rcases h with rfl |rfl |rfl<;>rcases h' with e |e |e
  ·exact mid_inj e
  all_goals first
   |exact Qb e
   | (have e':=congrArg Str.length e;simp only[slen,l1,lz,lq]at e';omega)
   |skip
  have e2:=congrArg (Array.toList ∘ Str.cps) e
  have e2:(A++(⟨#[c]⟩:Str)++S++("z":Str)).cps.toList=(A++(⟨#[c']⟩:Str)++S++("z":Str)).cps.toList:=e2
  rw[kj,kj (A++_++S)]at e2
  have e3:=List.append_cancel_right e2
  rw[kj,kj,kj,kj]at e3
  have:=List.append_cancel_left (List.append_cancel_right e3)
  injection this
theorem JA{ys:List Str}:ys.Nodup↔∀i j:Nat,i < j->j < ys.length->ys[i]?≠ys[j]?:=by
 unfold List.Nodup
 rw[List.pairwise_iff_getElem]
 refine⟨fun h i j hij hj e=>?_,fun h i j hi hj hij e=>h i j hij hj ?_⟩
 ·rw[List.getElem?_eq_getElem (by omega:i < ys.length),List.getElem?_eq_getElem hj]at e
  injection e with e
  exact h i j (by omega) hj hij e
 ·rw[List.getElem?_eq_getElem hi,List.getElem?_eq_getElem hj,e]
theorem ZK{A S:Str}{d4 d5:Int}{ys:List Str}(hA:A.length+S.length<=5)(hl:ys.length<=20)(h:∀j y,ys[j]?=some y->Sh A S d5 (lett d4 j) y):ys.Nodup:=by
 rw[JA]
 intro i j hij hj e
 have h1:=h i _ (List.getElem?_eq_getElem (by omega:i < ys.length))
 have h2:=h j _ (List.getElem?_eq_getElem hj)
 rw[List.getElem?_eq_getElem (by omega:i < ys.length),List.getElem?_eq_getElem hj]at e
 injection e with e
 rw[e]at h1
 have:=lett_ne (by omega) (by omega) (sh_eq hA h1 h2)
 omega
theorem Yv{ys:List Str}{n:Nat}{a:Str}(h:ys.Nodup)(ha:a∉ys):(ys.set n a).Nodup:=by
 rw[JA]at h ⊢
 intro i j hij hj e
 rw[List.length_set]at hj
 by_cases hi:n=i
 ·rw[hi,List.getElem?_set_self (by omega),List.getElem?_set_ne (by omega)]at e
  exact ha (List.mem_of_getElem? e.symm)
 ·by_cases hn:n=j
  ·rw[hn,List.getElem?_set_self (by omega),List.getElem?_set_ne (by omega)]at e
   exact ha (List.mem_of_getElem? e)
  ·rw[List.getElem?_set_ne hi,List.getElem?_set_ne hn]at e
   exact h i j hij hj e
theorem not_inV{ys:List Str}{a:Str}(h:inV (.str a) (ys.map V.str)=false):a∉ys:=fun m=>by
 unfold inV at h
 rw[List.any_eq_false]at h
 exact h (.str a) (List.mem_map.mpr ⟨a,m,rfl⟩) (by simp [eqV])
theorem cut_fit{ss:List Str}{d1 d2:Int}(hs:ss.length=(1+d1).toNat)(h0:0<=d2)(h1:d2 < 1+d1):(cutS ss none (some d2)).length+(cutS ss (some (d2+1)) none).length<=d1.toNat:=by
 unfold cutS HT.sIx
 dsimp only
 rw[if_neg (by omega),if_neg (by omega)]
 simp only[List.length_take,List.length_drop]
 omega
theorem sh_q{A S:Str}{d5:Int}{c:Nat}:Sh A S d5 c ("qqqqqqq"++⟨#[c]⟩):=by
 unfold Sh
 split
 ·exact⟨_,rfl⟩
 ·exact .inr (.inr rfl)
theorem sh_w{A S:Str}{d5:Int}{c:Nat}{w:Str}(h:if d5=2 then ∃R:Str,w=R++⟨#[c]⟩ else w=A++⟨#[c]⟩++S∨w=A++⟨#[c]⟩++S++"z"):Sh A S d5 c w:=by
 unfold Sh
 split at h
 ·rename_i e;rw[if_pos e];exact h
 ·rename_i e;rw[if_neg e];exact h.elim .inl fun z=>.inr (.inl z)
noncomputable def pre(ss:List Str)(d2:Int):Str:=Txt.join "" (cutS ss none (some d2))
noncomputable def suf(ss:List Str)(d2:Int):Str:=Txt.join "" (cutS ss (some (d2+1)) none)
def spNames:Sp:=fun vs H Q _=>∃(p:Addr) (n:Int),vs=[.ref p,.int n]/\BoxAt H p/\1<=n/\n<=20/\
 ∀(r:Addr) (ys:List Str) (H':Hp),H r=none->H' r=some (.lst (ys.map V.str))->(ys.length:Int)=n->(∀y∈ys,y.length<=20)/\ys.Nodup->BoxAt H' p->But p H H'->Q (.ref r) H'
theorem scNames:FnScope ["_law_box_here","_law_total","_law_letters","_law_wide","_law_spot_here","_law_signs","_law_first","_law_form","_law_found","_law_k","_law_one","_law_word","_law_some","_law_odd"] ["_law_box_here","_law_total"] (defScope sNames):=fsc
noncomputable def J5:Scope:=⟨.function,[(".0",.local),("_law_k",.local),("_law_take",.globalImplicit),("_law_box_here",.free),("_law_letters",.free)],false,false,[]⟩
theorem Q9:(["_law_k","_law_box_here","_law_letters"]:List Str).Nodup:=by decide+kernel
theorem Xa:CompSc ["_law_box_here","_law_total","_law_letters","_law_wide","_law_spot_here","_law_signs","_law_first","_law_form","_law_found","_law_k","_law_one","_law_word","_law_some","_law_odd"] (defScope sNames) J5 ["_law_k","_law_box_here","_law_letters"] 1 [0,2]:=csc
noncomputable def J6:Scope:=⟨.function,[(".0",.local),("_law_j",.local),("_law_take",.globalImplicit),("_law_box_here",.free),("_law_letters",.free)],false,false,[]⟩
theorem Xb:(["_law_j","_law_box_here","_law_letters"]:List Str).Nodup:=by decide+kernel
theorem Xc:CompSc ["_law_box_here","_law_total","_law_letters","_law_wide","_law_spot_here","_law_signs","_law_first","_law_form","_law_found","_law_k","_law_one","_law_word","_law_some","_law_odd"] (defScope sNames) J6 ["_law_j","_law_box_here","_law_letters"] 1 [0,2]:=csc
theorem qA{p:Addr}{n:Nat}{H0:Hp}{Qf:List V->Hp->Prop}(hn:n<=20)(B:BoxAt H0 p)
  (hd:∀(ss:List Str) (H':Hp),ss.length=n->(∀s∈ss,s.length<=1)->BoxAt H' p->(∀b,b≠p->H' b=H0 b)->Qf (ss.map V.str) H'):
  CompR (Itr 0 n) 1 [some (.ref p),some (.str letters)] (gName 0) tAll (tOp rIxS (tVar 2) (tCall spTake [] E0 (tCons (tVar 1) (tCons (tC (.int 26)) tNil)))) Qf H0:=by
 refine Qn (fun i ys H'=>∃ss:List Str,ys=ss.map V.str/\ss.length=i/\(∀s∈ss,s.length<=1)/\BoxAt H' p/\∀b,b≠p->H' b=H0 b)
  ⟨[],rfl,rfl,(fun _ h=>nomatch h),B,fun _ _=>rfl⟩ (Nat.le_trans hn (by decide)) (fun i ys H' ⟨ss,e,l,_⟩=>by rw[e,List.length_map,l];exact Nat.le_refl _) ?_ ?_
 ·intro i ys H' hi hq'
  refine opq fun Gq kq=>?_
  obtain⟨ss,rfl,hl,h1,B',e'⟩:=hq'
  refine kq ?_
  clear kq
  refine⟨_,rfl,_,rfl,p,26,rfl,B',by decide,by decide,fun d H2 d0 d1 B2 e2=>?_⟩
  obtain⟨c,hc⟩:=Y9 (z:=letters) d0 (by rw[qX];exact d1)
  refine⟨_,_,c,rfl,rfl,by decide,hc,ss++[⟨#[c]⟩],by rw[List.map_append];rfl,by rw[List.length_append,hl];rfl,fun s hs=>?_,B2,fun b nb=>(e2 b nb).trans (e' b nb)⟩
  rcases List.mem_append.mp hs with hs |hs
  ·exact h1 s hs
  ·rw[List.mem_singleton.mp hs];exact Nat.le_refl 1
 ·intro ys H' hq'
  refine opq fun Gq kq=>?_
  obtain⟨ss,rfl,hl,h1,B',e'⟩:=hq'
  refine kq ?_
  clear kq
  exact hd ss H' hl h1 B' e'
def Rw(p g r:Addr)(n d1 d2 d4 d5:Int)(i c:Nat)(ss ys:List Str)(H:Hp)(L:Nat)(Z:Str->Prop):L2.St->Hp->Prop:=fun σ' H'=>∃w1:Str,(w1.length<=L/\Z w1)/\
 σ'=[some (.ref p),some (.int n),some (.str letters),some (.int (1+d1)),some (.int d2),some (.ref g),some (.int d4),some (.int d5),some (.ref r),some (.int (0+(i:Int))),some (.str ⟨#[c]⟩),some (.str w1),none,none]/\
 H' g=some (.lst (ss.map V.str))/\H' r=some (.lst (ys.map V.str))/\BoxAt H' p/\But p H H'
def Rf(p r:Addr)(n:Int)(H:Hp):L2.St->Hp->Prop:=fun σ' H'=>σ'[8]?=some (some (.ref r))/\∃ys:List Str,H' r=some (.lst (ys.map V.str))/\(ys.length:Int)=n/\((∀y∈ys,y.length<=20)/\ys.Nodup)/\BoxAt H' p/\But p H H'
theorem Kr(ys:List Str):(ys.map V.str).all flatV=true:=by
 rw[List.all_eq_true]
 intro v hv
 obtain⟨y,_,rfl⟩:=List.mem_map.mp hv
 rfl
theorem ZL(ys:List Str)(j:Nat)(y:Str):(ys.map V.str).set j (V.str y)=(ys.set j y).map V.str:=(List.map_set ..).symm
inductive NI(p g r:Addr)(n d1 d2 d4 d5:Int)(ss:List Str)(H:Hp)(i:Nat)(σ:L2.St)(H':Hp):Prop
 |mk (ok oo ow:Option V) (ys:List Str) (e0:σ=[some (.ref p),some (.int n),some (.str letters),some (.int (1+d1)),some (.int d2),some (.ref g),some (.int d4),some (.int d5),some (.ref r),ok,oo,ow,none,none]) (e1:H' g=some (.lst (ss.map V.str))) (e2:H' r=some (.lst (ys.map V.str))) (e3:ys.length=i) (e4:(∀y∈ys,y.length<=20)/\∀j y,ys[j]?=some y->Sh (pre ss d2) (suf ss d2) d5 (lett d4 j) y) (e5:BoxAt H' p) (e6:But p H H'):NI p g r n d1 d2 d4 d5 ss H i σ H'
theorem ZM{f fT:Addr}{fd fdT:FuncData}(F:Fun K "_law_names" "_law_names" sNames f fd)(GT:FnOk P w K mg base CX0 1 fT fdT ["_law_box_here","_law_wide"] spTake)(bT:Binds K fdT ["_law_box_here","_law_wide"] [])(kT:keepIn K (.ref fT)=true)
  (mT:mg "_law_take"=some (.ref fT)) (mr:mg "range"=none):FnOk P w K mg base CX0 2 f fd ["_law_box_here","_law_total"] spNames:=by
 refine F.ok scNames (fun vs H Q E h=>?_) (fun cdv A outer s H vs Q E hr h=>?_)
 ·refine opq fun Gq kq=>?_
  obtain⟨p,n,rfl,_⟩:=h
  refine kq ?_
  clear kq
  rfl
 refine opq fun Gq kq=>?_
 obtain⟨p,n,rfl,B,hn0,hn1,q⟩:=h
 refine kq ?_
 clear kq
 refine⟨_,(@je _ _ _ _ _ (@jo _ _ (2) _ _ _ _ scNames.nd rfl (Or.inr rfl) (@ji _ _ _ _) (by rfl) (.inl rfl)) (@je _ _ _ _ _ (@jo _ _ (3) _ _ _ _ scNames.nd rfl (Or.inl rfl) (@jw _ _ _ _ _ _ _ _ jS (@jc _ _ _ _) (@jg _ _ _ _ _ _ _ _ _ _ _ _ _ _ _ _ GT hr rfl mT kT bT .nil pass0 (@ja _ _ _ _ _ (@pv _ 0 _ _ (by rfl) (.inr (.inl rfl)) (by decide) (by decide)) (@ja _ _ _ _ _ (@jc _ _ _ _) (@jb _) (by rfl)) (by rfl)) (by decide) (by rfl) (by rfl))) (by rfl) (.inl rfl)) (@je _ _ _ _ _ (@jo _ _ (4) _ _ _ _ scNames.nd rfl (Or.inl rfl) (@jg _ _ _ _ _ _ _ _ _ _ _ _ _ _ _ _ GT hr rfl mT kT bT .nil pass0 (@ja _ _ _ _ _ (@pv _ 0 _ _ (by rfl) (.inr (.inl rfl)) (by decide) (by decide)) (@ja _ _ _ _ _ (@pv _ 3 _ _ (by rfl) (.inl rfl) (by decide) (by decide)) (@jb _) (by rfl)) (by rfl)) (by decide) (by rfl) (by rfl)) (by rfl) (.inl rfl)) (@je _ _ _ _ _ (@Xx _ _ _ _ _ _ _ _ _ _ (5) (["_law_k","_law_box_here","_law_letters"]) (1) ([0,2]) _ _ _ _ scNames.nd rfl (Or.inl rfl) rfl (@ke _ _ _ _ _ _ rfl mr (@ja _ _ _ _ _ (@pv _ 3 _ _ (by rfl) (by first |exact Or.inl rfl |exact Or.inr (Or.inl rfl) |exact Or.inr (Or.inr rfl)) (by decide) (by decide)) (@jb _) (by rfl)) (by rfl)) Xa (fun _ _ _ _ _=>(@jx _ _ (0) _ Q9 rfl (Or.inl rfl) (by first |exact .inl rfl |exact .inr rfl))) (fun _ _ _ _ _=>(@kU _)) (fun _ _ _ _ _=>(@jk _ _ _ _ _ _ _ Js (@pv _ 2 _ _ (by rfl) (by first |exact Or.inl rfl |exact Or.inr (Or.inl rfl) |exact Or.inr (Or.inr rfl)) (by decide) (by decide)) (@jg _ _ _ _ _ _ _ _ _ _ _ _ _ _ _ _ GT hr rfl mT kT bT .nil pass0 (@ja _ _ _ _ _ (@pv _ 1 _ _ (by rfl) (by first |exact Or.inl rfl |exact Or.inr (Or.inl rfl) |exact Or.inr (Or.inr rfl)) (by decide) (by decide)) (@ja _ _ _ _ _ (@jc _ _ _ _) (@jb _) (by rfl)) (by rfl)) (by decide) (by rfl) (by rfl)) (fun _ _=>rfl))) (by rfl) (by first |exact .inl rfl |exact .inr rfl) (by intro _;rfl)) (@je _ _ _ _ _ (@jo _ _ (6) _ _ _ _ scNames.nd rfl (Or.inl rfl) (@jg _ _ _ _ _ _ _ _ _ _ _ _ _ _ _ _ GT hr rfl mT kT bT .nil pass0 (@ja _ _ _ _ _ (@pv _ 0 _ _ (by rfl) (.inr (.inl rfl)) (by decide) (by decide)) (@ja _ _ _ _ _ (@jc _ _ _ _) (@jb _) (by rfl)) (by rfl)) (by decide) (by rfl) (by rfl)) (by rfl) (.inl rfl)) (@je _ _ _ _ _ (@jo _ _ (7) _ _ _ _ scNames.nd rfl (Or.inl rfl) (@jg _ _ _ _ _ _ _ _ _ _ _ _ _ _ _ _ GT hr rfl mT kT bT .nil pass0 (@ja _ _ _ _ _ (@pv _ 0 _ _ (by rfl) (.inr (.inl rfl)) (by decide) (by decide)) (@ja _ _ _ _ _ (@jc _ _ _ _) (@jb _) (by rfl)) (by rfl)) (by decide) (by rfl) (by rfl)) (by rfl) (.inl rfl)) (@je _ _ _ _ _ (@jo _ _ (8) _ _ _ _ scNames.nd rfl (Or.inl rfl) (@jH _ _ _ _ (@jb _)) (by rfl) (.inl rfl)) (@je _ _ _ _ _ (@kl _ _ _ _ _ _ _ _ PassesOwn.never rfl (@ke _ _ _ _ _ _ rfl mr (@ja _ _ _ _ _ (@pv _ 1 _ _ (by rfl) (.inl rfl) (by decide) (by decide)) (@jb _) (by rfl)) (by rfl)) (@jx _ _ (9) _ scNames.nd rfl (Or.inl rfl) (.inl rfl)) (@je _ _ _ _ _ (@jo _ _ (10) _ _ _ _ scNames.nd rfl (Or.inl rfl) (@jk _ _ _ _ _ _ _ Js (@pv _ 2 _ _ (by rfl) (.inr (.inl rfl)) (by decide) (by decide)) (@jw _ _ _ _ _ _ _ _ kr (@jw _ _ _ _ _ _ _ _ jS (@pv _ 6 _ _ (by rfl) (.inl rfl) (by decide) (by decide)) (@jw _ _ _ _ _ _ _ _ kS (@jc _ _ _ _) (@pv _ 9 _ _ (by rfl) (.inl rfl) (by decide) (by decide)))) (@jc _ _ _ _)) (fun _ _=>rfl)) (by rfl) (.inl rfl)) (@je _ _ _ _ _ (@jT _ _ _ (@jo _ _ (11) _ _ _ _ scNames.nd rfl (Or.inl rfl) (@jw _ _ _ _ _ _ _ _ km (@jw _ _ _ _ _ _ _ _ km (@kD _ _ _ _ _ _ _ _ _ _ _ _ PySem.F.plainAttrs_str PySem.F.slot_str_join PySem.F.type_str_join KD (@ji _ _ _ _) (@ja _ _ _ _ _ (@jK _ _ _ _ _ _ _ _ _ _ j8 (@pv _ 5 _ _ (by rfl) (.inl rfl) (by decide) (by decide)) (@jZ _) (@jF _ _ _ (@pv _ 4 _ _ (by rfl) (.inl rfl) (by decide) (by decide)))) (@jb _) (by rfl)) (by rfl) (by rfl) (by rfl) (by rfl) (by rfl)) (@pv _ 10 _ _ (by rfl) (.inl rfl) (by decide) (by decide))) (@kD _ _ _ _ _ _ _ _ _ _ _ _ PySem.F.plainAttrs_str PySem.F.slot_str_join PySem.F.type_str_join KD (@ji _ _ _ _) (@ja _ _ _ _ _ (@jK _ _ _ _ _ _ _ _ _ _ j8 (@pv _ 5 _ _ (by rfl) (.inl rfl) (by decide) (by decide)) (@jF _ _ _ (@jw _ _ _ _ _ _ _ _ jS (@pv _ 4 _ _ (by rfl) (.inl rfl) (by decide) (by decide)) (@jc _ _ _ _))) (@jZ _)) (@jb _) (by rfl)) (by rfl) (by rfl) (by rfl) (by rfl) (by rfl))) (by rfl) (.inl rfl))) (@je _ _ _ _ _ (@jT _ _ _ (@jy _ _ _ _ _ _ _ _ (@PW.pt _ _ _ (@qD _ _ _ _ _ _ _ (@jl _ _ _ _ _ _ _ _ jz (@pv _ 7 _ _ (by rfl) (.inl rfl) (by decide) (by decide)) (@jc _ _ _ _) (nomark _)) (@zR _ _ _ _ (@jl _ _ _ _ _ _ _ _ jz (@jw _ _ _ _ _ _ _ _ kr (@pv _ 9 _ _ (by rfl) (.inl rfl) (by decide) (by decide)) (@jc _ _ _ _)) (@jc _ _ _ _) (nomark _))))) (@jh _ _ _ (@jo _ _ (11) _ _ _ _ scNames.nd rfl (Or.inl rfl) (@jw _ _ _ _ _ _ _ _ km (@pv _ 11 _ _ (by rfl) (.inl rfl) (by decide) (by decide)) (@ji _ _ _ _)) (by rfl) (.inl rfl))) (@jr _))) (@je _ _ _ _ _ (@jT _ _ _ (@jy _ _ _ _ _ _ _ _ (@jl _ _ _ _ _ _ _ _ jz (@pv _ 7 _ _ (by rfl) (.inl rfl) (by decide) (by decide)) (@jc _ _ _ _) (nomark _)) (@jh _ _ _ (@jo _ _ (11) _ _ _ _ scNames.nd rfl (Or.inl rfl) (@jw _ _ _ _ _ _ _ _ km (@kD _ _ _ _ _ _ _ _ _ _ _ _ PySem.F.plainAttrs_str PySem.F.slot_str_join PySem.F.type_str_join KD (@ji _ _ _ _) (@ja _ _ _ _ _ (@kA _ _ _ _ _ _ _ (["_law_j","_law_box_here","_law_letters"]) (1) ([0,2]) _ _ _ _ rfl (@ke _ _ _ _ _ _ rfl mr (@ja _ _ _ _ _ (@jg _ _ _ _ _ _ _ _ _ _ _ _ _ _ _ _ GT hr rfl mT kT bT .nil pass0 (@ja _ _ _ _ _ (@pv _ 0 _ _ (by rfl) (by first |exact Or.inl rfl |exact Or.inr (Or.inl rfl) |exact Or.inr (Or.inr rfl)) (by decide) (by decide)) (@ja _ _ _ _ _ (@jc _ _ _ _) (@jb _) (by rfl)) (by rfl)) (by decide) (by rfl) (by rfl)) (@jb _) (by rfl)) (by rfl)) Xc (fun _ _ _ _ _=>(@jx _ _ (0) _ Xb rfl (Or.inl rfl) (by first |exact .inl rfl |exact .inr rfl))) (fun _ _ _ _ _=>(@kU _)) (fun _ _ _ _ _=>(@jk _ _ _ _ _ _ _ Js (@pv _ 2 _ _ (by rfl) (by first |exact Or.inl rfl |exact Or.inr (Or.inl rfl) |exact Or.inr (Or.inr rfl)) (by decide) (by decide)) (@jg _ _ _ _ _ _ _ _ _ _ _ _ _ _ _ _ GT hr rfl mT kT bT .nil pass0 (@ja _ _ _ _ _ (@pv _ 1 _ _ (by rfl) (by first |exact Or.inl rfl |exact Or.inr (Or.inl rfl) |exact Or.inr (Or.inr rfl)) (by decide) (by decide)) (@ja _ _ _ _ _ (@jc _ _ _ _) (@jb _) (by rfl)) (by rfl)) (by decide) (by rfl) (by rfl)) (fun _ _=>rfl))) (by intro _;rfl)) (@jb _) (by rfl)) (by rfl) (by rfl) (by rfl) (by rfl) (by rfl)) (@pv _ 10 _ _ (by rfl) (.inl rfl) (by decide) (by decide))) (by rfl) (.inl rfl))) (@jr _))) (@je _ _ _ _ _ (@jT _ _ _ (@jy _ _ _ _ _ _ _ _ (@jl _ _ _ _ _ _ _ _ zq (@pv _ 11 _ _ (by rfl) (.inl rfl) (by decide) (by decide)) (@jj _ _ _ _ _ (@KE _ _ (by rfl))) rfl) (@jh _ _ _ (@jo _ _ (11) _ _ _ _ scNames.nd rfl (Or.inl rfl) (@jw _ _ _ _ _ _ _ _ km (@ji _ _ _ _) (@pv _ 10 _ _ (by rfl) (.inl rfl) (by decide) (by decide))) (by rfl) (.inl rfl))) (@jr _))) (@jh _ _ _ (@jY _ _ _ _ (@kD _ _ _ _ _ _ _ _ _ _ _ _ PySem.F.plainAttrs_list PySem.F.slot_list_append PySem.F.type_list_append jP (@pv _ 8 _ _ (by rfl) (.inl rfl) (by decide) (by decide)) (@ja _ _ _ _ _ (@pv _ 11 _ _ (by rfl) (.inl rfl) (by decide) (by decide)) (@jb _) (by rfl)) (by rfl) (by rfl) (by rfl) (by rfl) (by rfl)) (by rfl)))))))) (by intro _;rfl)) (@je _ _ _ _ _ (@jT _ _ _ (@jy _ _ _ _ _ _ _ _ (@jl _ _ _ _ _ _ _ _ jz (@jg _ _ _ _ _ _ _ _ _ _ _ _ _ _ _ _ GT hr rfl mT kT bT .nil pass0 (@ja _ _ _ _ _ (@pv _ 0 _ _ (by rfl) (.inr (.inl rfl)) (by decide) (by decide)) (@ja _ _ _ _ _ (@jc _ _ _ _) (@jb _) (by rfl)) (by rfl)) (by decide) (by rfl) (by rfl)) (@jc _ _ _ _) (nomark _)) (@je _ _ _ _ _ (@jo _ _ (12) _ _ _ _ scNames.nd rfl (Or.inl rfl) (@jH _ _ _ _ (@KE _ _ (by rfl))) (by rfl) (.inl rfl)) (@je _ _ _ _ _ (@jo _ _ (13) _ _ _ _ scNames.nd rfl (Or.inl rfl) (@jk _ _ _ _ _ _ _ ju (@pv _ 12 _ _ (by rfl) (.inl rfl) (by decide) (by decide)) (@jg _ _ _ _ _ _ _ _ _ _ _ _ _ _ _ _ GT hr rfl mT kT bT .nil pass0 (@ja _ _ _ _ _ (@pv _ 0 _ _ (by rfl) (.inr (.inl rfl)) (by decide) (by decide)) (@ja _ _ _ _ _ (@jc _ _ _ _) (@jb _) (by rfl)) (by rfl)) (by decide) (by rfl) (by rfl)) (fun _ _=>rfl)) (by rfl) (.inl rfl)) (@jh _ _ _ (@jy _ _ _ _ _ _ _ _ (@jl _ _ _ _ _ _ _ _ zE (@pv _ 13 _ _ (by rfl) (.inl rfl) (by decide) (by decide)) (@pv _ 8 _ _ (by rfl) (.inl rfl) (by decide) (by decide)) rfl) (@jh _ _ _ (@kQ _ _ _ _ _ _ (@pv _ 13 _ _ (by rfl) (.inl rfl) (by decide) (by decide)) (@qe _ _ _ _ _ _ _ (@pv _ 8 _ _ (by rfl) (.inl rfl) (by decide) (by decide)) (@jg _ _ _ _ _ _ _ _ _ _ _ _ _ _ _ _ GT hr rfl mT kT bT .nil pass0 (@ja _ _ _ _ _ (@pv _ 0 _ _ (by rfl) (.inr (.inl rfl)) (by decide) (by decide)) (@ja _ _ _ _ _ (@pv _ 1 _ _ (by rfl) (.inl rfl) (by decide) (by decide)) (@jb _) (by rfl)) (by rfl)) (by decide) (by rfl) (by rfl)) zd (by intro _;rfl)) (by rfl) (by rfl) (by rfl))) (@jr _))))) (@jr _))) (@jh _ _ _ (@jp _ _ _ _ (@pv _ 8 _ _ (by rfl) (.inl rfl) (by decide) (by decide))))))))))))),?_⟩
 try dsimp only[cxOf,Cx.nox,Cx.wish]
 refine seqE fun E0 f0=>f0 _ _ ?_
 refine seqE fun E1 f1=>⟨_,rfl,p,6,rfl,B,by decide,by decide,fun d1 H1 d10 d11 B1 e1=>⟨_,_,rfl,rfl,f1 _ _ ?_⟩⟩
 refine seqE fun E2 f2=>⟨_,rfl,_,rfl,p,_,rfl,B1,by omega,by omega,fun d2 H2 d20 d21 B2 e2=>f2 _ _ ?_⟩
 clear f0 f1 f2
 refine seqE fun E1 f1=>⟨_,rfl,_,rfl,by omega,by omega,?_⟩
 refine qA (p:=p) (by omega) B2 fun ss H3 hss1 hss2 B3 e3 g hg=>f1 _ _ ?_
 clear f1
 have k3:But p H H3:=(But.of_eq e1).trans ((But.of_eq e2).trans (But.of_eq e3))
 have hgp:g≠p:=B3.ne hg
 refine seqE fun E1 f1=>⟨_,rfl,p,26,rfl,B3.upd_new hg,by decide,by decide,fun d4 H4 d40 d41 B4 e4=>f1 _ _ ?_⟩
 refine seqE fun E2 f2=>⟨_,rfl,p,3,rfl,B4,by decide,by decide,fun d5 H5 d50 d51 B5 e5=>f2 _ _ ?_⟩
 clear f1 f2
 have hg5:H5 g=some (.lst (ss.map V.str)):=by rw[e5 g hgp,e4 g hgp];exact jd
 have k5:But p H H5:=(k3.upd_new hg).trans ((But.of_eq e4).trans (But.of_eq e5))
 refine seqE fun E1 f1=>⟨(by decide),fun r hr5=>f1 _ _ ?_⟩
 clear f1
 have hrp:r≠p:=B5.ne hr5
 have hrg:g≠r:=jv hg5 hr5
 have nog:H g=none:=by
  cases z:H g with
  |none=>rfl
  |some o=>have:=k3 g o hgp z;rw[hg]at this;cases this
 have nor:H r=none:=by
  cases z:H r with
  |none=>rfl
  |some o=>have:=k5 r o hrp z;rw[hr5]at this;cases this
 have big:=ze
 refine seqE fun E1 f1=>forE fun J j=>⟨_,rfl,_,rfl,by omega,by omega,j _ _ ?_⟩
 clear j
 refine kJ (lo:=0) (NI p g r n d1 d2 d4 d5 ss H) ⟨none,none,none,[],rfl,keepN hg5 hr5,jd,rfl,⟨(fun _ h=>nomatch h),(fun _ _ h=>nomatch h)⟩,B5.upd_new hr5,k5.upd_new hr5⟩ ?_ ?_
 ·intro E0 _ i σ H' hi fE Gq kq hq'
  obtain⟨ok,oo,ow,ys,rfl,hg',hr',hyl,hy,B',k'⟩:=hq'
  clear f1
  obtain⟨c,hc⟩:=Y9 (z:=letters) (k:=(d4+5*(0+(i:Int))) % 26) (Int.emod_nonneg _ (by decide)) (by rw[qX];exact Int.emod_lt_of_pos _ (by decide))
  refine kq ?_
  clear kq
  show tSeq (tAsg _ _) _ E0 _ _
  refine seqE fun E1 f1=>⟨_,rfl,_,rfl,_,rfl,_,_,rfl,rfl,.inl ⟨by decide,by decide⟩,_,_,rfl,rfl,_,_,rfl,rfl,(by show(0:Int) < 26;decide),_,_,c,rfl,rfl,by decide,hc,f1 _ _ ?_⟩
  clear f1
  have h1c:(⟨#[c]⟩:Str).length=1:=rfl
  have hcl:c=lett d4 i:=let_at (Int.emod_nonneg _ (by decide)) (Int.emod_lt_of_pos _ (by decide)) hc
  refine seqE fun E1 f1=>midE (Rw p g r n d1 d2 d4 d5 i c ss ys H 13 (·=pre ss d2++⟨#[c]⟩++suf ss d2)) (fun E2 _ fm=>?_) fun σ' H1 hq'=>?_
  ·clear f1 fE
   refine⟨rfl,_,rfl,_,rfl,_,rfl,g,_,rfl,SqL.of hg',fun s1 n1=>?_⟩
   have z1:=qm (ys:=cutS ss none (some d2)) fun y hy=>hss2 y (zo hy)
   have z2:=zO ss none (some d2)
   refine⟨_,s1,cutS ss none (some d2),rfl,rfl,SqL.of (by rw[jd,zf]),by decide,by omega,?_⟩
   have j1:=qo (z:="") (ys:=cutS ss none (some d2)) (by decide+kernel) fun y hy=>hss2 y (zo hy)
   refine⟨_,rfl,_,_,rfl,rfl,by omega,?_⟩
   refine⟨rfl,_,rfl,_,rfl,_,_,rfl,rfl,_,rfl,g,_,rfl,SqL.of (keepN hg' n1),fun s2 n2=>?_⟩
   have z3:=qm (ys:=cutS ss (some (d2+1)) none) fun y hy=>hss2 y (zo hy)
   have z4:=zO ss (some (d2+1)) none
   refine⟨_,s2,cutS ss (some (d2+1)) none,rfl,rfl,SqL.of (by rw[jd,zf]),by decide,by omega,?_⟩
   have j2:=qo (z:="") (ys:=cutS ss (some (d2+1)) none) (by decide+kernel) fun y hy=>hss2 y (zo hy)
   refine⟨_,_,rfl,rfl,by rw[slen];omega,?_⟩
   exact fm _ _ ⟨_,⟨by show(Txt.join ("":Str) (cutS ss none (some d2))++(⟨#[c]⟩:Str)++Txt.join ("":Str) (cutS ss (some (d2+1)) none)).length<=13;rw[slen,slen];omega,rfl⟩,rfl,keepN (keepN hg' n1) n2,keepN (keepN hr' n1) n2,(B'.upd_new n1).upd_new n2,(k'.upd_new n1).upd_new n2⟩
  obtain⟨w1,⟨hw1,z1⟩,rfl,g1,r1,B1,k1⟩:=hq'
  refine f1 _ _ ?_
  clear f1
  refine seqE fun E1 f1=>midE (Rw p g r n d1 d2 d4 d5 i c ss ys H 14 (fun w=>w=pre ss d2++⟨#[c]⟩++suf ss d2∨w=pre ss d2++⟨#[c]⟩++suf ss d2++"z")) (fun E2 _ fm=>?_) fun σ' H2 hq'=>?_
  ·clear f1 fE
   refine⟨_,rfl,rfl,_,rfl,?_⟩
   refine ite2 (fun ca=>?_) (fun ca=>?_)
   ·refine⟨_,rfl,_,_,rfl,rfl,(by show(0:Int) < 2;decide),rfl,_,rfl,?_⟩
    refine ite2 (fun cb=>?_) (fun cb=>?_)
    ·have hz:(Str.ofString "z").length=1:=by decide+kernel
     refine⟨_,rfl,_,_,rfl,rfl,by rw[hz];omega,?_⟩
     exact fm _ _ ⟨_,⟨by rw[slen,hz];omega,.inr (by rw[z1])⟩,rfl,g1,r1,B1,k1⟩
    ·exact fm _ _ ⟨w1,⟨by omega,.inl z1⟩,rfl,g1,r1,B1,k1⟩
   ·exact iteF (fm _ _ ⟨w1,⟨by omega,.inl z1⟩,rfl,g1,r1,B1,k1⟩)
  obtain⟨w2,⟨hw2,z2⟩,rfl,g2,r2,B2,k2⟩:=hq'
  refine f1 _ _ ?_
  clear f1
  refine seqE fun E1 f1=>midE (Rw p g r n d1 d2 d4 d5 i c ss ys H 14 (fun w=>if d5=2 then ∃R:Str,w=R++⟨#[c]⟩ else w=pre ss d2++⟨#[c]⟩++suf ss d2∨w=pre ss d2++⟨#[c]⟩++suf ss d2++"z")) (fun E2 _ fm=>?_) fun σ' H3 hq'=>?_
  ·clear f1 fE
   refine⟨_,rfl,rfl,_,rfl,?_⟩
   refine ite2 (fun ca=>?_) (fun ca=>?_)
   ·refine⟨rfl,_,rfl,p,8,rfl,B2,by decide,by decide,fun d6 H6 d60 d61 B6 e6=>?_⟩
    refine⟨_,rfl,by omega,by omega,?_⟩
    refine qA (p:=p) (by omega) B6 fun tt H7 ht1 ht2 B7 e7 g7 n7=>?_
    have jt:=qo (z:="") (ys:=tt) (by decide+kernel) ht2
    have zt:=qm ht2
    refine⟨_,g7,tt,rfl,rfl,SqL.of jd,by decide,by omega,?_⟩
    refine⟨_,rfl,_,_,rfl,rfl,by omega,?_⟩
    have g8:H7 g=some (.lst (ss.map V.str)):=by rw[e7 g hgp,e6 g hgp];exact g2
    have r8:H7 r=some (.lst (ys.map V.str)):=by rw[e7 r hrp,e6 r hrp];exact r2
    have e5:d5=2:=by injection of_decide_eq_true ca
    exact fm _ _ ⟨_,⟨by rw[slen];omega,(if_pos e5).mpr ⟨_,rfl⟩⟩,rfl,keepN g8 n7,keepN r8 n7,B7.upd_new n7,(k2.trans ((But.of_eq e6).trans (But.of_eq e7))).upd_new n7⟩
   ·have e5:d5≠2:=fun z=>ca (by rw[z];exact decide_eq_true rfl)
    exact fm _ _ ⟨w2,⟨by omega,(if_neg e5).mpr z2⟩,rfl,g2,r2,B2,k2⟩
  obtain⟨w3,⟨hw3,z3⟩,rfl,g3,r3,B3,k3⟩:=hq'
  refine f1 _ _ ?_
  clear f1
  refine seqE fun E1 f1=>midE (Rw p g r n d1 d2 d4 d5 i c ss ys H 14 (Sh (pre ss d2) (suf ss d2) d5 c)) (fun E2 _ fm=>?_) fun σ' H4 hq'=>?_
  ·clear f1 fE
   refine⟨_,rfl,by decide,fun t0 n0=>?_⟩
   refine⟨t0,_,rfl,.inr (SqT.of jd),rfl,Yf (by rfl),_,rfl,?_⟩
   refine ite2 (fun ca=>?_) (fun ca=>?_)
   ·have hq:(Str.ofString "qqqqqqq").length=7:=by decide+kernel
    refine⟨_,rfl,_,_,rfl,rfl,by rw[hq];omega,?_⟩
    exact fm _ _ ⟨_,⟨by rw[slen,hq];omega,sh_q⟩,rfl,keepN g3 n0,keepN r3 n0,B3.upd_new n0,k3.upd_new n0⟩
   ·exact fm _ _ ⟨w3,⟨by omega,sh_w z3⟩,rfl,keepN g3 n0,keepN r3 n0,B3.upd_new n0,k3.upd_new n0⟩
  obtain⟨w4,⟨hw4,z4⟩,rfl,g4,r4,B4,k4⟩:=hq'
  refine f1 _ _ ?_
  clear f1
  refine⟨_,rfl,.inl ⟨rfl,_,SqL.of r4⟩,_,rfl,r,_,_,rfl,rfl,r4,by rw[List.length_map];omega,?_⟩
  refine fE _ _ ⟨_,_,_,ys++[w4],rfl,by rw[jm hrg];exact g4,by rw[jd,List.map_append];rfl,by rw[List.length_append,hyl];rfl,⟨fun y hm=>?_,fun j y hj=>?_⟩,B4.eq (jm (Ne.symm hrp)),k4.upd_own nor⟩
  ·rcases List.mem_append.mp hm with hm |hm
   ·exact hy.1 y hm
   ·rw[List.mem_singleton.mp hm];omega
  ·by_cases hjl:j < ys.length
   ·rw[List.getElem?_append_left hjl]at hj
    exact hy.2 j y hj
   ·have lj:=(List.getElem?_eq_some_iff.mp hj).1
    rw[List.length_append,List.length_singleton]at lj
    have ej:j=ys.length:=by omega
    rw[ej,List.getElem?_append_right (Nat.le_refl _),Nat.sub_self]at hj
    injection hj with hj
    rw[<- hj,ej,hyl,<- hcl]
    exact z4
 ·intro σ H' hq'
  refine opq fun Gq kq=>?_
  obtain⟨ok,oo,ow,ys,rfl,hg',hr',hyl,hy,B',k'⟩:=hq'
  refine kq ?_
  clear kq
  have hyn:(ys.length:Int)=n:=by omega
  have fit:=cut_fit (ss:=ss) (d1:=d1) (d2:=d2) (by omega) (by omega) (by omega)
  have j1:(pre ss d2).length<=_:=qo (z:="") (ys:=cutS ss none (some d2)) (by decide+kernel) fun y hy=>hss2 y (zo hy)
  have j2:(suf ss d2).length<=_:=qo (z:="") (ys:=cutS ss (some (d2+1)) none) (by decide+kernel) fun y hy=>hss2 y (zo hy)
  have nd:=ZK (by omega) (by omega) hy.2
  have hy:=hy.1
  refine f1 _ _ ?_
  clear f1
  refine seqF fun F1 f1=>midE (Rf p r n H) (fun E2 _ fm=>?_) fun σ' H1 hq'=>?_
  ·clear f1
   refine ifG fun G' g'=>⟨_,rfl,p,6,rfl,B',by decide,by decide,fun d6 H6 d60 d61 B6 e6=>⟨rfl,_,rfl,g' _ _ ?_⟩⟩
   clear g'
   have r6:H6 r=some (.lst (ys.map V.str)):=by rw[e6 r hrp];exact hr'
   have k6:But p H H6:=k'.trans (But.of_eq e6)
   refine ite2 (fun ca=>?_) (fun ca=>?_)
   ·refine seqE fun E3 f3=>⟨by decide,fun t0 n0=>f3 _ _ ?_⟩
    clear f3
    have t0p:t0≠p:=B6.ne n0
    refine seqE fun E4 f3=>⟨_,rfl,_,rfl,p,13,rfl,B6.upd_new n0,by decide,by decide,fun d7 H7 d70 d71 B7 e7=>?_⟩
    have t7:H7 t0=some (.lst ((["num","var","op","go","ask","back","chain","sets","iff","ends","calls","reads","gives"]:List Str).map V.str)):=((e7 t0 t0p).trans jd).trans (congrArg (fun l=>some (HO.lst l)) (by decide+kernel))
    have r7:H7 r=some (.lst (ys.map V.str)):=by rw[e7 r hrp];exact keepN r6 n0
    have k7:But p H H7:=(k6.upd_new n0).trans (But.of_eq e7)
    obtain⟨od,hod,hat⟩:=Jt (ys:=(["num","var","op","go","ask","back","chain","sets","iff","ends","calls","reads","gives"]:List Str)) d70 (by simpa using d71)
    refine⟨t0,_,_,_,rfl,rfl,SqL.of t7,hat,f3 _ _ ?_⟩
    clear f3
    have hol:od.length<=20:=by
     have:∀y∈(["num","var","op","go","ask","back","chain","sets","iff","ends","calls","reads","gives"]:List Str),y.length<=20:=by decide+kernel
     exact this od hod
    refine ifG fun G' g'=>⟨_,rfl,_,rfl,r,_,rfl,.inl (SqL.of r7),rfl,Kr _,_,rfl,g' _ _ ?_⟩
    clear g'
    refine ite2 (fun cb=>?_) (fun cb=>?_)
    ·refine⟨_,rfl,_,rfl,_,rfl,_,rfl,p,n,rfl,B7,by omega,by omega,fun d8 H8 d80 d81 B8 e8=>?_⟩
     have r8:H8 r=some (.lst (ys.map V.str)):=by rw[e8 r hrp];exact r7
     have k8:But p H H8:=k7.trans (But.of_eq e8)
     refine⟨r,_,d8,d8.toNat,rfl,rfl,r8,?_,?_⟩
     ·unfold ixN
      rw[if_pos d80,List.length_map,if_pos (by omega)]
     refine fm _ _ ⟨rfl,ys.set d8.toNat od,by rw[jd,ZL],by rw[List.length_set];exact hyn,⟨fun y hm=>?_,Yv nd (not_inV (by have cb':(!inV (.str od) (ys.map V.str))=true:=cb;rw[Bool.not_eq_true']at cb';exact cb'))⟩,B8.eq (jm (Ne.symm hrp)),k8.upd_own nor⟩
     rcases List.mem_or_eq_of_mem_set hm with hm |hm
     ·exact hy y hm
     ·rw[hm];exact hol
    ·exact fm _ _ ⟨rfl,ys,r7,hyn,⟨hy,nd⟩,B7,k7⟩
   ·exact fm _ _ ⟨rfl,ys,r6,hyn,⟨hy,nd⟩,B6,k6⟩
  obtain⟨hs8,ys1,r1,l1,y1,B1,k1⟩:=hq'
  refine f1 _ _ ?_
  exact⟨_,hs8,q r ys1 H1 nor r1 l1 y1 B1 k1⟩
def TMono(H H':Hp):Prop:=∀b xs,H b=some (.tup xs)->H' b=some (.tup xs)
theorem Same.tm{H H':Hp}(a:Same H H'):TMono H H':=fun b xs h=>a b _ h
theorem jf{H:Hp}{p:Addr}{o:HO}(n:H p=none):Same H (upd H p o):=fun b u e=>keepN e n
theorem ifY{b:Bool}{A B:Prop}(h:b=true)(x:A):if b=true then A else B:=by rw[if_pos h];exact x
theorem ifX{b:Bool}{A B:Prop}(h:b=false)(x:B):if b=true then A else B:=by rw[h,if_neg Bool.false_ne_true];exact x
theorem line24:sizeLine=16777216:=by rw[sizeLine_eq]
theorem BoxAt.same{H H':Hp}{p:Addr}(B:BoxAt H p)(s:Same H H'):BoxAt H' p:=by
 refine opq fun Gq kq=>?_
 obtain⟨a,b,h1,h2,h3,h⟩:=B.ob
 refine kq ?_
 clear kq
 exact⟨a,b,h1,h2,h3,s _ _ h⟩
theorem But.of_same{p:Addr}{H H':Hp}(s:Same H H'):But p H H':=fun b o _ e=>s _ _ e
theorem But.tm{p:Addr}{H H':Hp}(k:But p H H')(B:BoxAt H p):TMono H H':=fun b xs e=>by
 refine opq fun Gq kq=>?_
 obtain⟨a,c,_,_,_,hp⟩:=B.ob
 refine kq ?_
 clear kq
 exact k b _ (kf e hp (by intro w;cases w)) e
theorem But.none{p r:Addr}{H H':Hp}(k:But p H H')(B:BoxAt H' p)(n:H' r=none):H r=none:=by
 cases z:H r with
 |none=>rfl
 |some o=>have:=k _ _ (B.ne n) z;rw[n]at this;cases this
theorem Yw{K:Frag}{a:Addr}{xs:List V}{te:TE}{Qf:List V->Hp->Prop}{σt:L2.St}{H:Hp}(hz:xs.length<=sizeLine)(Pv:Nat->List V->Hp->Prop)(h0:Pv 0 [] H)
  (hk:∀i ys H',Pv i ys H'->SqL K H' a xs/\ys.length<=i) (hs:∀i x ys H',xs[i]?=some x->Pv i ys H'->te (some x::σt) H' fun y H2=>Pv (i+1) (ys++[y]) H2) (hd:∀ys H',Pv xs.length ys H'->Qf ys H'):
  CompR (Itl K a) 1 σt (gName 0) tAll te Qf H:=by
 refine⟨fun i m ys H'=>m=xs.length - i/\i<=xs.length/\Pv i ys H',⟨xs.length,by simp,Nat.zero_le _,h0⟩,?_⟩
 intro i m ys H' hq'
 refine opq fun Gq kq=>?_
 obtain⟨rfl,hi,p⟩:=hq'
 refine kq ?_
 clear kq
 obtain⟨hq,hy⟩:=hk i ys H' p
 by_cases hlt:i < xs.length
 ·refine .inr ⟨⟨xs,xs[i],hq,List.getElem?_eq_getElem hlt⟩,by omega,Pv (i+1),fun ys' H2 p'=>⟨xs.length - (i+1),by omega,rfl,hlt,p'⟩,fun v H2 ts hts y=>?_⟩
  obtain⟨e,y⟩:=y
  subst e
  obtain⟨w,rfl⟩:=len1 hts
  exact⟨⟨[some _],rfl,rfl⟩,hs i v ys H2 (y xs hq) p⟩
 ·have e:i=xs.length:=by omega
  subst e
  exact .inl ⟨⟨xs,hq,Nat.le_refl _⟩,hd ys H' p⟩
theorem za{K:Frag}{a:Addr}{xs:List V}{te:TE}{Qf:List V->Hp->Prop}{σt:L2.St}{H:Hp}(hz:xs.length<=sizeLine)(Pv:Nat->List V->Hp->Prop)(h0:Pv 0 [] H)
  (hk:∀i ys H',Pv i ys H'->SqT K H' a xs/\ys.length<=i) (hs:∀i x ys H',xs[i]?=some x->Pv i ys H'->te (some x::σt) H' fun y H2=>Pv (i+1) (ys++[y]) H2) (hd:∀ys H',Pv xs.length ys H'->Qf ys H'):
  CompR (Itt K a) 1 σt (gName 0) tAll te Qf H:=by
 refine⟨fun i m ys H'=>m=xs.length - i/\i<=xs.length/\Pv i ys H',⟨xs.length,by simp,Nat.zero_le _,h0⟩,?_⟩
 intro i m ys H' hq'
 refine opq fun Gq kq=>?_
 obtain⟨rfl,hi,p⟩:=hq'
 refine kq ?_
 clear kq
 obtain⟨hq,hy⟩:=hk i ys H' p
 by_cases hlt:i < xs.length
 ·refine .inr ⟨⟨xs,xs[i],hq,List.getElem?_eq_getElem hlt⟩,by omega,Pv (i+1),fun ys' H2 p'=>⟨xs.length - (i+1),by omega,rfl,hlt,p'⟩,fun v H2 ts hts y=>?_⟩
  obtain⟨e,y⟩:=y
  subst e
  obtain⟨w,rfl⟩:=len1 hts
  exact⟨⟨[some _],rfl,rfl⟩,hs i v ys H2 (y xs hq) p⟩
 ·have e:i=xs.length:=by omega
  subst e
  exact .inl ⟨⟨xs,hq,Nat.le_refl _⟩,hd ys H' p⟩
noncomputable abbrev sNumber:Stmt:=top 37
noncomputable abbrev sTerm:Stmt:=top 39
inductive Tm where
 |num (n:Int) |var (x:Str) |op (i:Nat) (a b:Tm)
noncomputable def Tm.depth:Tm->Nat
 | .num _=>0
 | .var _=>0
 | .op _ a b=>max a.depth b.depth+1
noncomputable def sgns:Str:="+-*/<="
theorem ZN:sgns.length=6:=by decide+kernel
noncomputable def sgn(i:Nat):Str:=⟨#[sgns.cps.toList.getD i 0]⟩
theorem sgn_at{d:Int}(h0:0<=d)(h1:d < 6):atI sgns.cps.toList d=some (sgns.cps.toList.getD d.toNat 0):=by
 have hl:sgns.cps.toList.length=6:=by decide+kernel
 have hk:d.toNat < sgns.cps.toList.length:=by omega
 have ek:d=((d.toNat:Nat):Int):=by omega
 have q:atI sgns.cps.toList ((d.toNat:Nat):Int)=some (sgns.cps.toList.getD d.toNat 0):=jE (by rw[List.getD_eq_getElem?_getD,List.getElem?_eq_getElem hk];rfl)
 rw[<- ek]at q
 exact q
def Tm.Good(ys:List Str):Tm->Prop
 | .num n=>0<=n/\n < 1000000000000000000
 | .var x=>x∈ys
 | .op i a b=>i < 6/\a.Good ys/\b.Good ys
def TmAt(H:Hp):Tm->Addr->Prop
 | .num n,p=>H p=some (.tup [.str "num",.int n])
 | .var x,p=>H p=some (.tup [.str "var",.str x])
 | .op i a b,p=>∃q r,H p=some (.tup [.str "op",.str (sgn i),.ref q,.ref r])/\TmAt H a q/\TmAt H b r
theorem TmAt.mono{H H':Hp}(h:∀b xs,H b=some (.tup xs)->H' b=some (.tup xs)):∀{t:Tm} {p:Addr},TmAt H t p->TmAt H' t p
 | .num _,_,e=>h _ _ e
 | .var _,_,e=>h _ _ e
 | .op _ _ _,_,⟨q,r,e,e1,e2⟩=>⟨q,r,h _ _ e,TmAt.mono h e1,TmAt.mono h e2⟩
theorem TmAt.same{H H':Hp}(h:Same H H'){t:Tm}{p:Addr}(e:TmAt H t p):TmAt H' t p:=e.mono fun b xs z=>h b _ z
theorem TmAt.but{H H':Hp}{p:Addr}(B:BoxAt H p)(k:But p H H'){t:Tm}{a:Addr}(e:TmAt H t a):TmAt H' t a:=e.mono fun b xs z=>by
 refine opq fun Gq kq=>?_
 obtain⟨x,y,_,_,_,hp⟩:=B.ob
 refine kq ?_
 clear kq
 exact k b _ (kf z hp (by intro q;cases q)) z
theorem TmAt.new{H:Hp}{r:Addr}{o:HO}(n:H r=none){t:Tm}{a:Addr}(e:TmAt H t a):TmAt (upd H r o) t a:=e.mono fun b xs z=>keepN z n
def spNum:Sp:=fun vs H Q _=>∃p:Addr,vs=[.ref p]/\BoxAt H p/\∀(d:Int) (H':Hp),0<=d->d < 1000000000000000000->BoxAt H' p->(∀b,b≠p->H' b=H b)->Q (.int d) H'
def spTerm(n:Nat):Sp:=fun vs H Q _=>∃(p g:Addr) (d:Int) (ys:List Str),vs=[.ref p,.ref g,.int d]/\BoxAt H p/\H g=some (.lst (ys.map V.str))/\1<=ys.length/\ys.length<=20/\0<=d/\d < (n:Int)/\
 ∀(r:Addr) (T:Tm) (H':Hp),TmAt H' T r->(T.depth:Int)<=d->T.Good ys->BoxAt H' p->But p H H'->Q (.ref r) H'
theorem zL{H:Hp}{p g:Addr}{ys:List Str}(B:BoxAt H p)(h:H g=some (.lst (ys.map V.str))):g≠p:=by
 refine opq fun Gq kq=>?_
 obtain⟨x,y,_,_,_,hp⟩:=B.ob
 refine kq ?_
 clear kq
 refine kf h hp fun z=>?_
 injection z with z
 match ys,z with
 |a::r,z=>injection z with z1 _;cases z1
theorem scNumber:FnScope ["_law_box_here"] ["_law_box_here"] (defScope sNumber):=fsc
theorem Yx{f:Addr}{fd:FuncData}(F:Fun K "_law_number" "_law_number" sNumber f fd)(cT:Cl P w K mg base 1 fT fdT ["_law_box_here","_law_wide"] spTake "_law_take"):FnOk P w K mg base CX0 2 f fd ["_law_box_here"] spNum:=by
 refine F.ok scNumber (fun vs H Q E h=>?_) (fun cdv A outer s H vs Q E hr h=>?_)
 ·obtain⟨p,rfl,_⟩:=h
  rfl
 refine opq fun Gq kq=>?_
 obtain⟨p,rfl,B,q⟩:=h
 refine kq ?_
 clear kq
 refine⟨_,(je (jy (@jl _ _ _ _ _ _ _ _ jz (jg cT.g hr rfl cT.m cT.k cT.b .nil pass0 (ja (pv 0) (ja jc jb))) jc (nomark _)) (jh (jp (jg cT.g hr rfl cT.m cT.k cT.b .nil pass0 (ja (pv 0) (ja (jw Jr jc jc) jb))))) jr) (jh (jp (jg cT.g hr rfl cT.m cT.k cT.b .nil pass0 (ja (pv 0) (ja jc jb)))))),?_⟩
 try dsimp only[cxOf,Cx.nox,Cx.wish]
 refine⟨_,rfl,p,4,rfl,B,by decide,by decide,fun d1 H1 d10 d11 B1 e1=>⟨rfl,_,rfl,?_⟩⟩
 refine ite2 (fun c=>?_) (fun c=>?_)
 ·refine⟨_,rfl,_,_,rfl,rfl,⟨by decide,by decide,by decide⟩,p,_,rfl,B1,by decide,by decide,fun d2 H2 d20 d21 B2 e2=>?_⟩
  have z:=ten18
  exact q d2 H2 d20 (by omega) B2 fun b n=>(e2 b n).trans (e1 b n)
 ·refine⟨_,rfl,p,9,rfl,B1,by decide,by decide,fun d2 H2 d20 d21 B2 e2=>?_⟩
  exact q d2 H2 d20 (by omega) B2 fun b n=>(e2 b n).trans (e1 b n)
theorem scTerm:FnScope ["_law_box_here","_law_names_here","_law_deep","_law_kind","_law_one"] ["_law_box_here","_law_names_here","_law_deep"] (defScope sTerm):=fsc
theorem ok_term{f:Addr}{fd:FuncData}(F:Fun K "_law_term" "_law_term" sTerm f fd){n:Nat}(cF:Cl P w K mg base (n+2) f fd ["_law_box_here","_law_names_here","_law_deep"] (spTerm n) "_law_term")(cT:Cl P w K mg base 1 fT fdT ["_law_box_here","_law_wide"] spTake "_law_take")(cN:Cl P w K mg base 2 fN fdN ["_law_box_here"] spNum "_law_number")(ml:mg "len"=none):FnOk P w K mg base CX0 (n+3) f fd ["_law_box_here","_law_names_here","_law_deep"] (spTerm (n+1)):=by
 refine F.ok scTerm (fun vs H Q E h=>?_) (fun cdv A outer s H vs Q E hr h=>?_)
 ·refine opq fun Gq kq=>?_
  obtain⟨p,g,d,ys,rfl,_⟩:=h
  refine kq ?_
  clear kq
  rfl
 refine opq fun Gq kq=>?_
 obtain⟨p,g,d,ys,rfl,B,hg,hy1,hy2,hd0,hd1,q⟩:=h
 refine kq ?_
 clear kq
 refine⟨_,(je (jo (i:=3) scTerm.nd rfl (Or.inl rfl) (jg cT.g hr.m rfl cT.m cT.k cT.b .nil pass0 (ja (pv 0) (ja jc jb)))) (je (jT (jy (@PW.pt _ _ _ (@KU _ _ _ _ _ _ _ (@jl _ _ _ _ _ _ _ _ Jj (pv 3) jc (nomark _)) (@Jq _ _ _ _ (@PW.pt _ _ _ (@qD _ _ _ _ _ _ _ (@jl _ _ _ _ _ _ _ _ qO (pv 3) jc (nomark _)) (@zR _ _ _ _ (@jl _ _ _ _ _ _ _ _ jz (pv 2) jc (nomark _)))))))) (jh (jp (jj (ja ji (ja (jg cN.g hr.m rfl cN.m cN.k cN.b .nil pass0 (ja (pv 0) jb)) jb))))) jr)) (je (jy (@jl _ _ _ _ _ _ _ _ Jj (pv 3) jc (nomark _)) (jh (jp (jj (ja ji (ja (@jk _ _ _ _ _ _ _ ju (pv 1) (jg cT.g hr.m rfl cT.m cT.k cT.b .nil pass0 (ja (pv 0) (ja (@jB _ _ _ _ _ _ _ _ _ jL rfl ml PySem.boot_len (ja (pv 1) jb) (by decide) (by decide) (by rfl) (by rfl)) jb))) (fun _ _=>rfl)) jb))))) jr) (je (jo (i:=4) scTerm.nd rfl (Or.inl rfl) (jg cF.g hr rfl cF.m cF.k cF.b .nil pass0 (ja (pv 0) (ja (pv 1) (ja (jw kR (pv 2) jc) jb))))) (jh (jp (jj (ja ji (ja (@jk _ _ _ _ _ _ _ Js ji (jg cT.g hr.m rfl cT.m cT.k cT.b .nil pass0 (ja (pv 0) (ja jc jb))) (fun _ _=>rfl)) (ja (pv 4) (ja (jg cF.g hr rfl cF.m cF.k cF.b .nil pass0 (ja (pv 0) (ja (pv 1) (ja (jw kR (pv 2) jc) jb)))) jb))))))))))),?_⟩
 try dsimp only[cxOf,Cx.nox,Cx.wish]
 have big:=ze
 have hgp:g≠p:=zL B hg
 refine seqF fun F1 f1=>⟨_,rfl,p,6,rfl,B,by decide,by decide,fun kd H1 k0 k1 B1 e1=>f1 _ _ ?_⟩
 clear f1
 have hg1:H1 g=some (.lst (ys.map V.str)):=by rw[e1 g hgp];exact hg
 have K1:But p H H1:=But.of_eq e1
 have num:∀(d2:Int) (H2:Hp) (r:Addr),0<=d2->d2 < 1000000000000000000->BoxAt H2 p->(∀b,b≠p->H2 b=H1 b)->H2 r=none->Q (.ref r) (upd H2 r (.tup [.str "num",.int d2])):=fun d2 H2 r d0 d1 B2 e2 nr=>
  q r (.num d2) _ jd (by show((0:Nat):Int)<=d;omega) ⟨d0,d1⟩ (B2.upd_new nr) ((K1.trans (But.of_eq e2)).upd_new nr)
 refine seqF fun F1 f1=>midE (fun σ' H'=>σ'=[some (.ref p),some (.ref g),some (.int d),some (.int kd),none]/\H'=H1/\(kd<=3∨d≠0)) (fun E2 eR fm=>?_) fun σ' H' hq'=>?_
 ·clear f1
  refine ifG fun G' g'=>⟨_,rfl,_,_,rfl,rfl,_,rfl,?_⟩
  refine ite2 (fun c=>?_) (fun c=>?_)
  ·refine g' _ _ (iteT ?_)
   show tRet _ E2 _ _
   unfold tRet
   rw[eR]
   exact⟨_,rfl,p,rfl,B1,fun d2 H2 d0 d1 B2 e2=>⟨sz2,fun r nr=>num d2 H2 r d0 d1 B2 e2 nr⟩⟩
  refine⟨_,rfl,_,_,rfl,rfl,_,rfl,?_⟩
  refine ite2 (fun c2=>?_) (fun c2=>?_)
  ·refine⟨_,rfl,rfl,_,rfl,g' _ _ ?_⟩
   refine ite2 (fun c3=>?_) (fun c3=>?_)
   ·show tRet _ E2 _ _
    unfold tRet
    rw[eR]
    exact⟨_,rfl,p,rfl,B1,fun d2 H2 d0 d1 B2 e2=>⟨sz2,fun r nr=>num d2 H2 r d0 d1 B2 e2 nr⟩⟩
   ·exact fm _ _ ⟨rfl,rfl,.inr fun z=>c3 (by rw[z];rfl)⟩
  ·have c2':¬(3:Int) < kd:=of_decide_eq_false (Bool.eq_false_iff.mpr c2)
   exact g' _ _ (iteF (fm _ _ ⟨rfl,rfl,.inl (by omega)⟩))
 obtain⟨rfl,eH,hk⟩:=hq'
 rw[eH]
 refine f1 _ _ ?_
 clear f1
 refine seqF fun F1 f1=>ifG fun G' g'=>⟨_,rfl,_,_,rfl,rfl,_,rfl,g' _ _ ?_⟩
 clear g'
 refine ite2 (fun c=>?_) (fun c=>f1 _ _ ?_)
 ·-- a variable
  refine⟨_,rfl,_,rfl,_,rfl,g,_,rfl,.inl (SqL.of hg1),p,_,rfl,B1,by rw[List.length_map];omega,by rw[List.length_map];omega,fun d2 H2 d20 d21 B2 e2=>?_⟩
  rw[List.length_map]at d21
  obtain⟨y,hy,hat⟩:=Jt (ys:=ys) d20 d21
  have hg2:H2 g=some (.lst (ys.map V.str)):=by rw[e2 g hgp];exact hg1
  refine⟨g,_,_,_,rfl,rfl,SqL.of hg2,hat,sz2,fun r nr=>?_⟩
  exact q r (.var y) _ jd (by show((0:Nat):Int)<=d;omega) hy (B2.upd_new nr) ((K1.trans (But.of_eq e2)).upd_new nr)
 ·have c':¬kd < (4:Int):=of_decide_eq_false (Bool.eq_false_iff.mpr c)
  have hd:d≠0:=hk.resolve_left (by omega)
  refine⟨_,rfl,_,rfl,_,rfl,_,_,rfl,rfl,p,g,d - 1,ys,rfl,B1,hg1,hy1,hy2,by omega,by omega,fun r1 T1 H2 t1 dp1 gd1 B2 k2=>?_⟩
  have hg2:H2 g=some (.lst (ys.map V.str)):=k2 g _ hgp hg1
  refine⟨_,rfl,p,6,rfl,B2,by decide,by decide,fun s3 H3 s30 s31 B3 e3=>?_⟩
  have hg3:H3 g=some (.lst (ys.map V.str)):=by rw[e3 g hgp];exact hg2
  have k3:But p H2 H3:=But.of_eq e3
  refine⟨sgns,_,_,rfl,rfl,(by rw[ZN];omega),sgn_at s30 s31,?_⟩
  refine⟨_,rfl,_,rfl,_,rfl,_,rfl,_,_,rfl,rfl,p,g,d - 1,ys,rfl,B3,hg3,hy1,hy2,by omega,by omega,fun r2 T2 H4 t2 dp2 gd2 B4 k4=>?_⟩
  refine⟨sz4,fun r nr=>?_⟩
  have t1':TmAt H4 T1 r1:=(t1.but B2 k3).but B3 k4
  refine q r (.op s3.toNat T1 T2) _ ⟨r1,r2,jd,t1'.new nr,t2.new nr⟩ ?_ ⟨by omega,gd1,gd2⟩ (B4.upd_new nr) (((K1.trans k2).trans (k3.trans k4)).upd_new nr)
  show((max T1.depth T2.depth+1:Nat):Int)<=d
  omega
theorem no_term{f:Addr}{fd:FuncData}:FnOk P w K mg base CX0 2 f fd ["_law_box_here","_law_names_here","_law_deep"] (spTerm 0):=by
 have no:∀vs H Q E,¬spTerm 0 vs H Q E:=fun vs H Q E h=>by
  refine opq fun Gq kq=>?_
  obtain⟨p,g,d,ys,_,_,_,_,_,h0,h1,_⟩:=h
  refine kq ?_
  clear kq
  have h1':d < ((0:Nat):Int):=h1
  omega
 exact⟨fun vs H Q E h=>absurd h (no vs H Q E),fun A outer s H args us vs Q E _ _ _ _ h=>absurd h (no vs H Q E)⟩
theorem terms{f fT fN:Addr}{fd fdT fdN:FuncData}(F:Fun K "_law_term" "_law_term" sTerm f fd)(bF:Binds K fd ["_law_box_here","_law_names_here","_law_deep"] [])(mF:mg "_law_term"=some (.ref f))(cT:Cl P w K mg base 1 fT fdT ["_law_box_here","_law_wide"] spTake "_law_take")(cN:Cl P w K mg base 2 fN fdN ["_law_box_here"] spNum "_law_number")(ml:mg "len"=none):
  ∀n:Nat,FnOk P w K mg base CX0 (n+2) f fd ["_law_box_here","_law_names_here","_law_deep"] (spTerm n)
 |0=>no_term
 |n+1=>ok_term F ⟨(terms F bF mF cT cN ml n),bF,F.kp,mF⟩ cT cN ml
end K20
namespace K20
open PySem PySem.Spec PyProof.Rows L2
variable {P:Program}{w:World}{K:Frag}{mg:Str->Option Value}{base:Heap}
noncomputable def Tm.vars:Tm->List Str
 | .num _=>[]
 | .var x=>[x]
 | .op _ a b=>a.vars++b.vars
theorem j3{ys:List Str}:∀{t:Tm},t.Good ys->∀x∈t.vars,x∈ys
 | .num _,_,_,h=>nomatch h
 | .var _,g,_,h=>by rw[List.mem_singleton.mp h];exact g
 | .op _ _ _,g,_,h=>(List.mem_append.mp h).elim (j3 g.2.1 _) (j3 g.2.2 _)
theorem jX:∀{l m:List Str},l.Nodup->(∀x∈l,x∈m)->l.length<=m.length
 | [],_,_,_=>Nat.zero_le _
 |x::l,m,nd,h=>by
  rw[List.nodup_cons]at nd
  have hx:=h x List.mem_cons_self
  have q:=jX (l:=l) (m:=m.erase x) nd.2 fun y hy=>(List.mem_erase_of_ne (fun e=>nd.1 (by rw[<- e];exact hy))).mpr (h y (List.mem_cons_of_mem _ hy))
  rw[List.length_erase_of_mem hx]at q
  have:0 < m.length:=List.length_pos_of_mem hx
  rw[List.length_cons]
  omega
theorem JG:∀{l m:List Str},l.Nodup->m.Nodup->(∀x,x∈l↔x∈m)->l.Perm m
 | [],[],_,_,_=>.nil
 | [],y::m,_,_,h=>absurd ((h y).mpr List.mem_cons_self) (by simp)
 |x::l,m,n1,n2,h=>by
  rw[List.nodup_cons]at n1
  have hx:x∈m:=(h x).mp List.mem_cons_self
  refine(List.Perm.cons x (JG n1.2 (n2.erase x) fun y=>?_)).trans (List.perm_cons_erase hx).symm
  rw[n2.mem_erase_iff]
  constructor
  ·intro hy
   exact⟨fun e=>n1.1 (by rw[<- e];exact hy),(h y).mp (List.mem_cons_of_mem _ hy)⟩
  ·rintro ⟨ne,hy⟩
   exact(List.mem_cons.mp ((h y).mpr hy)).resolve_left ne
theorem Ks:∀{p:Str} {l:List Str},risingS p l=true->(p::l).Pairwise fun a b=>a.cps.toList<=b.cps.toList
 |p,[],_=>by simp
 |p,x::r,h=>by
  have h':(!ltCps x.cps.toList p.cps.toList&&risingS x r)=true:=h
  rw[Bool.and_eq_true]at h'
  have ih:=Ks h'.2
  have hx:p.cps.toList<=x.cps.toList:=by
   have z:=h'.1
   rw[ltCps_eq]at z
   simpa using z
  rw[List.pairwise_cons]at ih ⊢
  refine⟨fun y hy=>?_,List.pairwise_cons.mpr ih⟩
  rcases List.mem_cons.mp hy with rfl |hy
  ·exact hx
  ·exact List.le_trans hx (ih.1 y hy)
theorem Ku{l:List Str}(h:sortedS l=true):l.Pairwise fun a b=>a.cps.toList<=b.cps.toList:=by
 cases l with
 |nil=>exact .nil
 |cons x r=>exact Ks h
theorem Qw{l m:List Str}(p:l.Perm m)(h1:sortedS l=true)(h2:sortedS m=true):l=m:=by
 refine List.Perm.eq_of_pairwise (fun a b _ _ x y=>?_) (Ku h1) (Ku h2) p
 have e:=List.le_antisymm x y
 cases a
 cases b
 exact congrArg Str.mk (Array.toList_inj.mp e)
inductive Lf where
 |rd (x:Str) (t:Addr) (T:Tm)
 |st (x:Str) (t:Addr) (T:Tm)
 |wr (t u:Addr) (T U:Tm)
 |cl (x f:Str) (q:Addr) (ts:List (Addr×Tm))
 |gv (t:Addr) (T:Tm)
def LfV(H:Hp):Lf->List V->Prop
 | .rd x t T,vs=>vs=[.str "read",.str x,.ref t]/\TmAt H T t
 | .st x t T,vs=>vs=[.str "set",.str x,.ref t]/\TmAt H T t
 | .wr t u T U,vs=>vs=[.str "write",.ref t,.ref u]/\TmAt H T t/\TmAt H U u
 | .cl x f q ts,vs=>vs=[.str "call",.str x,.str f,.ref q]/\H q=some (.tup (ts.map fun c=>V.ref c.1))/\∀c∈ts,TmAt H c.2 c.1
 | .gv t T,vs=>vs=[.str "give",.ref t]/\TmAt H T t
theorem LfV.mono{H H':Hp}(k:TMono H H'){l:Lf}{vs:List V}(h:LfV H l vs):LfV H' l vs:=by
 cases l with
 |rd x t T=>exact⟨h.1,h.2.mono k⟩
 |st x t T=>exact⟨h.1,h.2.mono k⟩
 |wr t u T U=>exact⟨h.1,h.2.1.mono k,h.2.2.mono k⟩
 |cl x f q ts=>exact⟨h.1,k _ _ h.2.1,fun c hc=>(h.2.2 c hc).mono k⟩
 |gv t T=>exact⟨h.1,h.2.mono k⟩
inductive Bd where
 |nil
 |lf (p:Addr) (l:Lf) (r:Bd)
 |ite (p t:Addr) (T:Tm) (a b r:Bd)
 |loop (p t:Addr) (T:Tm) (a r:Bd)
noncomputable def Bd.app:Bd->Bd->Bd
 | .nil,s=>s
 | .lf p l r,s=>.lf p l (r.app s)
 | .ite p t T a b r,s=>.ite p t T a b (r.app s)
 | .loop p t T a r,s=>.loop p t T a (r.app s)
noncomputable def Bd.size:Bd->Nat
 | .nil=>0
 | .lf _ _ r=>r.size+1
 | .ite _ _ _ a b r=>a.size+b.size+r.size+1
 | .loop _ _ _ a r=>a.size+r.size+1
noncomputable def Bd.dep:Bd->Nat
 | .nil=>0
 | .lf _ _ r=>r.dep
 | .ite _ _ _ a b r=>max (max a.dep b.dep+1) r.dep
 | .loop _ _ _ a r=>max (a.dep+1) r.dep
def TmOk(ys:List Str)(T:Tm):Prop:=T.Good ys/\T.depth < 6
def Lf.Ok(ys:List Str):Lf->Prop
 | .rd x _ T=>x∈ys/\TmOk ys T
 | .st x _ T=>x∈ys/\TmOk ys T
 | .wr _ _ T U=>TmOk ys T/\TmOk ys U
 | .cl x _ _ ts=>x∈ys/\ts.length<=6/\∀c∈ts,TmOk ys c.2
 | .gv _ T=>TmOk ys T
def Bd.Ok(ys:List Str):Bd->Prop
 | .nil=>True
 | .lf _ l r=>l.Ok ys/\r.Ok ys
 | .ite _ _ T a b r=>TmOk ys T/\a.Ok ys/\b.Ok ys/\r.Ok ys
 | .loop _ _ T a r=>TmOk ys T/\a.Ok ys/\r.Ok ys
theorem jQ:∀(a b:Bd),(a.app b).size=a.size+b.size
 | .nil,b=>by show b.size=0+b.size;omega
 | .lf _ _ r,b=>by have:=jQ r b;show(r.app b).size+1=r.size+1+b.size;omega
 | .ite _ _ _ x y r,b=>by have:=jQ r b;show x.size+y.size+(r.app b).size+1=x.size+y.size+r.size+1+b.size;omega
 | .loop _ _ _ x r,b=>by have:=jQ r b;show x.size+(r.app b).size+1=x.size+r.size+1+b.size;omega
theorem kX:∀(a b:Bd),(a.app b).dep=max a.dep b.dep
 | .nil,b=>(Nat.zero_max b.dep).symm
 | .lf _ _ r,b=>kX r b
 | .ite _ _ _ x y r,b=>by show max _ (r.app b).dep=max (max _ r.dep) b.dep;rw[kX r b,Nat.max_assoc]
 | .loop _ _ _ x r,b=>by show max _ (r.app b).dep=max (max _ r.dep) b.dep;rw[kX r b,Nat.max_assoc]
theorem Ju{ys:List Str}:∀{a b:Bd},a.Ok ys->b.Ok ys->(a.app b).Ok ys
 | .nil,_,_,h=>h
 | .lf _ _ _,_,g,h=>⟨g.1,Ju g.2 h⟩
 | .ite _ _ _ _ _ _,_,g,h=>⟨g.1,g.2.1,g.2.2.1,Ju g.2.2.2 h⟩
 | .loop _ _ _ _ _,_,g,h=>⟨g.1,g.2.1,Ju g.2.2 h⟩
def BdV(H:Hp):Bd->List V->Prop
 | .nil,xs=>xs=[]
 | .lf p l r,xs=>∃vs ys,xs= .ref p::ys/\H p=some (.tup vs)/\LfV H l vs/\BdV H r ys
 | .ite p t T a b r,xs=>∃qa qb as bs ys,xs= .ref p::ys/\H p=some (.tup [.str "if",.ref t,.ref qa,.ref qb])/\TmAt H T t/\H qa=some (.tup as)/\H qb=some (.tup bs)/\BdV H a as/\BdV H b bs/\BdV H r ys
 | .loop p t T a r,xs=>∃qa as ys,xs= .ref p::ys/\H p=some (.tup [.str "while",.ref t,.ref qa])/\TmAt H T t/\H qa=some (.tup as)/\BdV H a as/\BdV H r ys
theorem BdV.mono{H H':Hp}(k:TMono H H'){a:Bd}:∀{xs:List V},BdV H a xs->BdV H' a xs:=by
 induction a with
 |nil=>exact fun h=>h
 |lf p l r ih=>rintro xs ⟨vs,ys,e,h1,h2,h3⟩;exact⟨vs,ys,e,k _ _ h1,h2.mono k,ih h3⟩
 |ite p t T a b r ia ib ir=>rintro xs ⟨qa,qb,as,bs,ys,e,h1,h0,h2,h3,h4,h5,h6⟩;exact⟨qa,qb,as,bs,ys,e,k _ _ h1,h0.mono k,k _ _ h2,k _ _ h3,ia h4,ib h5,ir h6⟩
 |loop p t T a r ia ir=>rintro xs ⟨qa,as,ys,e,h1,h0,h2,h3,h4⟩;exact⟨qa,as,ys,e,k _ _ h1,h0.mono k,k _ _ h2,ia h3,ir h4⟩
theorem BdV.app{H:Hp}{b:Bd}{ys:List V}(hb:BdV H b ys){a:Bd}:∀{xs:List V},BdV H a xs->BdV H (a.app b) (xs++ys):=by
 induction a with
 |nil=>intro xs h;have e:xs=[]:=h;rw[e];exact hb
 |lf p l r ih=>rintro xs ⟨vs,zs,e,h1,h2,h3⟩;exact⟨vs,zs++ys,by rw[e];rfl,h1,h2,ih h3⟩
 |ite p t T a b r _ _ ir=>rintro xs ⟨qa,qb,as,bs,zs,e,h1,h0,h2,h3,h4,h5,h6⟩;exact⟨qa,qb,as,bs,zs++ys,by rw[e];rfl,h1,h0,h2,h3,h4,h5,ir h6⟩
 |loop p t T a r _ ir=>rintro xs ⟨qa,as,zs,e,h1,h0,h2,h3,h4⟩;exact⟨qa,as,zs++ys,by rw[e];rfl,h1,h0,h2,h3,ir h4⟩
theorem BdV.len{H:Hp}{a:Bd}:∀{xs:List V},BdV H a xs->xs.length<=a.size:=by
 induction a with
 |nil=>intro xs h;have e:xs=[]:=h;rw[e];exact Nat.le_refl 0
 |lf p l r ih=>rintro xs ⟨vs,ys,e,h1,h2,h3⟩;rw[e];exact Nat.succ_le_succ (ih h3)
 |ite p t T a b r _ _ ir=>rintro xs ⟨qa,qb,as,bs,ys,e,h1,h0,h2,h3,h4,h5,h6⟩;rw[e];exact Nat.succ_le_succ (Nat.le_trans (ir h6) (Nat.le_add_left _ _))
 |loop p t T a r _ ir=>rintro xs ⟨qa,as,ys,e,h1,h0,h2,h3,h4⟩;rw[e];exact Nat.succ_le_succ (Nat.le_trans (ir h4) (Nat.le_add_left _ _))
inductive StV(H:Hp):V->Bd->Prop
 |lf (p:Addr) (l:Lf) (vs:List V) (h1:H p=some (.tup vs)) (h2:LfV H l vs):StV H (.ref p) (.lf p l .nil)
 |ite (p t:Addr) (T:Tm) (a b:Bd) (qa qb:Addr) (as bs:List V) (h1:H p=some (.tup [.str "if",.ref t,.ref qa,.ref qb])) (h0:TmAt H T t) (h2:H qa=some (.tup as)) (h3:H qb=some (.tup bs)) (h4:BdV H a as) (h5:BdV H b bs):StV H (.ref p) (.ite p t T a b .nil)
 |loop (p t:Addr) (T:Tm) (a:Bd) (qa:Addr) (as:List V) (h1:H p=some (.tup [.str "while",.ref t,.ref qa])) (h0:TmAt H T t) (h2:H qa=some (.tup as)) (h3:BdV H a as):StV H (.ref p) (.loop p t T a .nil)
theorem StV.bd{H:Hp}{v:V}{s:Bd}(h:StV H v s):BdV H s [v]:=by
 cases h with
 |lf p l vs h1 h2=>exact⟨vs,[],rfl,h1,h2,rfl⟩
 |ite p t T a b qa qb as bs h1 h0 h2 h3 h4 h5=>exact⟨qa,qb,as,bs,[],rfl,h1,h0,h2,h3,h4,h5,rfl⟩
 |loop p t T a qa as h1 h0 h2 h3=>exact⟨qa,as,[],rfl,h1,h0,h2,h3,rfl⟩
theorem StV.mono{H H':Hp}(k:TMono H H'){v:V}{s:Bd}(h:StV H v s):StV H' v s:=by
 cases h with
 |lf p l vs h1 h2=>exact .lf p l vs (k _ _ h1) (h2.mono k)
 |ite p t T a b qa qb as bs h1 h0 h2 h3 h4 h5=>exact .ite p t T a b qa qb as bs (k _ _ h1) (h0.mono k) (k _ _ h2) (k _ _ h3) (h4.mono k) (h5.mono k)
 |loop p t T a qa as h1 h0 h2 h3=>exact .loop p t T a qa as (k _ _ h1) (h0.mono k) (k _ _ h2) (h3.mono k)
theorem BdV.last{H:Hp}{a:Bd}:∀{xs:List V},BdV H a xs->xs=[]/\a= .nil∨∃zs v b s,xs=zs++[v]/\a=b.app s/\BdV H b zs/\StV H v s:=by
 induction a with
 |nil=>exact fun h=>.inl ⟨h,rfl⟩
 |lf p l r ih=>
  rintro xs ⟨vs,ys,e,h1,h2,h3⟩
  rcases ih h3 with ⟨e1,e2⟩ | ⟨zs,v,b,s,e1,e2,h4,h5⟩
  ·exact .inr ⟨[],.ref p,.nil,.lf p l .nil,by rw[e,e1];rfl,by rw[e2];rfl,rfl,.lf p l vs h1 h2⟩
  ·exact .inr ⟨.ref p::zs,v,.lf p l b,s,by rw[e,e1];rfl,by rw[e2];rfl,⟨vs,zs,rfl,h1,h2,h4⟩,h5⟩
 |ite p t T a b r _ _ ih=>
  rintro xs ⟨qa,qb,as,bs,ys,e,h1,h0,h2,h3,g1,g2,h6⟩
  rcases ih h6 with ⟨e1,e2⟩ | ⟨zs,v,c,s,e1,e2,h4,h5⟩
  ·exact .inr ⟨[],.ref p,.nil,.ite p t T a b .nil,by rw[e,e1];rfl,by rw[e2];rfl,rfl,.ite p t T a b qa qb as bs h1 h0 h2 h3 g1 g2⟩
  ·exact .inr ⟨.ref p::zs,v,.ite p t T a b c,s,by rw[e,e1];rfl,by rw[e2];rfl,⟨qa,qb,as,bs,zs,rfl,h1,h0,h2,h3,g1,g2,h4⟩,h5⟩
 |loop p t T a r _ ih=>
  rintro xs ⟨qa,as,ys,e,h1,h0,h2,g1,h6⟩
  rcases ih h6 with ⟨e1,e2⟩ | ⟨zs,v,c,s,e1,e2,h4,h5⟩
  ·exact .inr ⟨[],.ref p,.nil,.loop p t T a .nil,by rw[e,e1];rfl,by rw[e2];rfl,rfl,.loop p t T a qa as h1 h0 h2 g1⟩
  ·exact .inr ⟨.ref p::zs,v,.loop p t T a c,s,by rw[e,e1];rfl,by rw[e2];rfl,⟨qa,as,zs,rfl,h1,h0,h2,g1,h4⟩,h5⟩
theorem zk{ys:List Str}:∀{a b:Bd},(a.app b).Ok ys->a.Ok ys/\b.Ok ys
 | .nil,_,h=>⟨trivial,h⟩
 | .lf _ _ _,_,h=>⟨⟨h.1,(zk h.2).1⟩,(zk h.2).2⟩
 | .ite _ _ _ _ _ _,_,h=>⟨⟨h.1,h.2.1,h.2.2.1,(zk h.2.2.2).1⟩,(zk h.2.2.2).2⟩
 | .loop _ _ _ _ _,_,h=>⟨⟨h.1,h.2.1,(zk h.2.2).1⟩,(zk h.2.2).2⟩
structure Nm(ss:List Str)(M:Str->Prop):Prop where
 nd:ss.Nodup
 so:sortedS ss=true
 mem:∀x,x∈ss↔M x
theorem Nm.uniq{ss ss':List Str}{M:Str->Prop}(h:Nm ss M)(g:Nm ss' M):ss=ss':=Qw (JG h.nd g.nd fun x=>(h.mem x).trans (g.mem x).symm) h.so g.so
open Classical in
noncomputable def canon(M:Str->Prop):List Str:=if h:∃ss,Nm ss M then Classical.choose h else []
theorem Nm.canon{ss:List Str}{M:Str->Prop}(h:Nm ss M):ss=canon M:=by
 have e:∃ss,Nm ss M:=⟨ss,h⟩
 unfold K20.canon
 rw[dif_pos e]
 exact h.uniq (Classical.choose_spec e)
theorem Nm.len{ss ys:List Str}{M:Str->Prop}(h:Nm ss M)(hs:∀x,M x->x∈ys):ss.length<=ys.length:=jX h.nd fun x hx=>hs x ((h.mem x).mp hx)
def Lf.use(M:Str->Prop):Lf->Str->Prop
 | .rd x _ T,y=>(M y/\y≠x)∨y∈T.vars
 | .st x _ T,y=>(M y/\y≠x)∨y∈T.vars
 | .wr _ _ T U,y=>M y∨y∈T.vars∨y∈U.vars
 | .cl x _ _ ts,y=>(M y/\y≠x)∨∃c∈ts,y∈c.2.vars
 | .gv _ T,y=>y∈T.vars
def Bd.use:Bd->(Str->Prop)->Str->Prop
 | .nil,M=>M
 | .lf _ l r,M=>l.use (r.use M)
 | .ite _ _ T a b r,M=>fun y=>(a.use (r.use M) y∨b.use (r.use M) y)∨y∈T.vars
 | .loop _ _ T a r,M=>fun y=>(a.use (fun _=>False) y∨r.use M y)∨y∈T.vars
theorem Jf:∀(a b:Bd) (M:Str->Prop),(a.app b).use M=a.use (b.use M)
 | .nil,_,_=>rfl
 | .lf _ l r,b,M=>by show l.use ((r.app b).use M)=l.use (r.use (b.use M));rw[Jf r b M]
 | .ite _ _ T x y r,b,M=>by show(fun z=>(x.use ((r.app b).use M) z∨y.use ((r.app b).use M) z)∨z∈T.vars)=fun z=>(x.use (r.use (b.use M)) z∨y.use (r.use (b.use M)) z)∨z∈T.vars;rw[Jf r b M]
 | .loop _ _ T x r,b,M=>by show(fun z=>(x.use (fun _=>False) z∨(r.app b).use M z)∨z∈T.vars)=fun z=>(x.use (fun _=>False) z∨r.use (b.use M) z)∨z∈T.vars;rw[Jf r b M]
theorem Lf.use_in{ys:List Str}{M:Str->Prop}{l:Lf}(h:l.Ok ys)(hM:∀x,M x->x∈ys):∀y,l.use M y->y∈ys:=by
 intro y hy
 cases l with
 |rd x t T=>exact hy.elim (fun z=>hM y z.1) (j3 h.2.1 y)
 |st x t T=>exact hy.elim (fun z=>hM y z.1) (j3 h.2.1 y)
 |wr t u T U=>exact hy.elim (hM y) fun z=>z.elim (j3 h.1.1 y) (j3 h.2.1 y)
 |cl x f q ts=>exact hy.elim (fun z=>hM y z.1) fun⟨c,hc,z⟩=>j3 (h.2.2 c hc).1 y z
 |gv t T=>exact j3 h.1 y hy
theorem Bd.use_in{ys:List Str}:∀{b:Bd} {M:Str->Prop},b.Ok ys->(∀x,M x->x∈ys)->∀y,b.use M y->y∈ys
 | .nil,_,_,hM,y,hy=>hM y hy
 | .lf _ l r,_,h,hM,y,hy=>Lf.use_in h.1 (Bd.use_in h.2 hM) y hy
 | .ite _ _ T a b r,_,h,hM,y,hy=>hy.elim (fun z=>z.elim (Bd.use_in h.2.1 (Bd.use_in h.2.2.2 hM) y) (Bd.use_in h.2.2.1 (Bd.use_in h.2.2.2 hM) y)) (j3 h.1.1 y)
 | .loop _ _ T a r,_,h,hM,y,hy=>hy.elim (fun z=>z.elim (Bd.use_in h.2.1 (fun _ w=>w.elim) y) (Bd.use_in h.2.2 hM y)) (j3 h.1.1 y)
end K20
namespace K20
open PySem PySem.Spec PyProof.Rows L2
variable {P:Program}{w:World}{K:Frag}{mg:Str->Option Value}{base:Heap}
noncomputable abbrev sNamesIn:Stmt:=top 4
noncomputable abbrev sOwn:Stmt:=top 19
noncomputable abbrev sUbt:Stmt:=top 20
noncomputable abbrev sUof:Stmt:=top 21
noncomputable abbrev sUah:Stmt:=top 22
def spNmIn(n:Nat):Sp:=fun vs H Q _=>∃(a:Addr) (T:Tm) (ys:List Str),vs=[.ref a]/\TmAt H T a/\T.depth < n/\T.Good ys/\ys.length<=21/\
 ∀(r:Addr) (ss:List Str) (H':Hp),H r=none->H' r=some (.lst (ss.map V.str))->ss.Nodup->(∀x,x∈ss↔x∈T.vars)->sortedS ss=true->Same H H'->Q (.ref r) H'
theorem scNmIn:FnScope ["term"] ["term"] (defScope sNamesIn):=fsc
theorem ok_nmin{f:Addr}{fd:FuncData}(F:Fun K "names_in" "names_in" sNamesIn f fd){n:Nat}(cF:Cl P w K mg base (n+1) f fd ["term"] (spNmIn n) "names_in")(mse:mg "set"=none)(mso:mg "sorted"=none):FnOk P w K mg base CX0 (n+2) f fd ["term"] (spNmIn (n+1)):=by
 refine F.ok scNmIn (fun vs H Q E h=>?_) (fun cdv A outer s H vs Q E hr h=>?_)
 ·obtain⟨a,T,ys,rfl,_⟩:=h
  rfl
 obtain⟨a,T,ys,rfl,ta,dp,gd,hy,q⟩:=h
 refine⟨_,(je (jy (@jl _ _ _ _ _ _ _ _ jz (@jk _ _ _ _ _ _ _ jq (pv 0) jc (fun _ _=>rfl)) ji (nomark _)) (jh (jp (jH jb))) jr) (je (jy (@jl _ _ _ _ _ _ _ _ jz (@jk _ _ _ _ _ _ _ jq (pv 0) jc (fun _ _=>rfl)) ji (nomark _)) (jh (jp (jH (ja (@jk _ _ _ _ _ _ _ jq (pv 0) jc (fun _ _=>rfl)) jb)))) jr) (jh (jp (@jB _ _ _ _ _ _ _ _ _ (zG rfl) rfl mso boot_sorted (ja (@jC _ _ _ _ _ _ _ _ _ (qi rfl) rfl mse boot_set (ja (jw zK (jg cF.g hr rfl cF.m cF.k cF.b .nil pass0 (ja (@jk _ _ _ _ _ _ _ jq (pv 0) jc (fun _ _=>rfl)) jb)) (jg cF.g hr rfl cF.m cF.k cF.b .nil pass0 (ja (@jk _ _ _ _ _ _ _ jq (pv 0) jc (fun _ _=>rfl)) jb))) jb) (by decide) (by decide) (by rfl) (by rfl)) jb) (by decide) (by decide) (by rfl) (by rfl)))))),?_⟩
 cases T with
 |num m=>
  have ha:H a=some (.tup [.str "num",.int m]):=ta
  refine⟨_,rfl,a,_,_,_,rfl,rfl,SqT.of ha,rfl,rfl,_,rfl,ifY (by decide+kernel) ?_⟩
  exact⟨(by decide),fun r nr=>q r [] _ nr jd List.nodup_nil (fun x=>Iff.rfl) rfl (jf nr)⟩
 |var x=>
  have ha:H a=some (.tup [.str "var",.str x]):=ta
  refine⟨_,rfl,a,_,_,_,rfl,rfl,SqT.of ha,rfl,rfl,_,rfl,ifX (by decide+kernel) ?_⟩
  refine⟨_,rfl,a,_,_,_,rfl,rfl,SqT.of ha,rfl,rfl,_,rfl,ifY (by decide+kernel) ?_⟩
  exact⟨_,rfl,a,_,_,_,rfl,rfl,SqT.of ha,rfl,sz1,fun r nr=>q r [x] _ nr jd (by simp) (fun y=>Iff.rfl) rfl (jf nr)⟩
 |op i t1 t2=>
  obtain⟨p1,p2,ha,h1,h2⟩:=ta
  have dp':max t1.depth t2.depth+1 < n+1:=dp
  refine⟨_,rfl,a,_,_,_,rfl,rfl,SqT.of ha,rfl,rfl,_,rfl,ifX (by decide+kernel) ?_⟩
  refine⟨_,rfl,a,_,_,_,rfl,rfl,SqT.of ha,rfl,rfl,_,rfl,ifX (by decide+kernel) ?_⟩
  refine⟨_,rfl,a,_,_,_,rfl,rfl,SqT.of ha,rfl,p1,t1,ys,rfl,h1,by omega,gd.2.1,hy,fun r1 s1 H1 n1 e1 d1 m1 o1 k1=>?_⟩
  refine⟨_,rfl,a,_,_,_,rfl,rfl,SqT.of (k1 _ _ ha),rfl,p2,t2,ys,rfl,h2.same k1,by omega,gd.2.2,hy,fun r2 s2 H2 n2 e2 d2 m2 o2 k2=>?_⟩
  have l1:s1.length<=21:=Nat.le_trans (jX d1 fun x hx=>j3 gd.2.1 x ((m1 x).mp hx)) hy
  have l2:s2.length<=21:=Nat.le_trans (jX d2 fun x hx=>j3 gd.2.2 x ((m2 x).mp hx)) hy
  have big:=ze
  refine⟨r1,r2,_,_,rfl,rfl,k2 _ _ e1,e2,(by rw[List.length_map,List.length_map];omega),fun c nc=>?_⟩
  refine⟨c,s1++s2,rfl,SqL.of (by rw[jd,List.map_append]),(fun L nd hs=>Nat.lt_of_le_of_lt (Nat.succ_le_succ (jX nd hs)) (by rw[List.length_append];show s1.length+s2.length+1 < 4096;omega)),fun l L nl dL mL=>?_⟩
  have lL:=jX dL fun x hx=>(mL x).mp hx
  rw[List.length_append]at lL
  refine⟨l,L,rfl,jd,by omega,fun z ss nz pz dz oz=>?_⟩
  have kk:Same H (upd (upd H2 c (.lst (s1.map V.str++s2.map V.str))) l (TsO P w l L)):=(k1.trans k2).trans ((jf nc).trans (jf nl))
  refine q z ss _ (kk.free nz) jd (pz.nodup_iff.mpr dz) (fun x=>?_) oz (kk.trans (jf nz))
  rw[pz.mem_iff,mL x,List.mem_append,m1 x,m2 x]
  exact List.mem_append.symm
theorem no_nmin{f:Addr}{fd:FuncData}:FnOk P w K mg base CX0 1 f fd ["term"] (spNmIn 0):=by
 have no:∀vs H Q E,¬spNmIn 0 vs H Q E:=fun vs H Q E h=>by
  obtain⟨a,T,ys,_,_,h1,_⟩:=h
  exact absurd h1 (Nat.not_lt_zero _)
 exact⟨fun vs H Q E h=>absurd h (no vs H Q E),fun A outer s H args us vs Q E _ _ _ _ h=>absurd h (no vs H Q E)⟩
theorem nmins{f:Addr}{fd:FuncData}(F:Fun K "names_in" "names_in" sNamesIn f fd)(bF:Binds K fd ["term"] [])(mF:mg "names_in"=some (.ref f))(mse:mg "set"=none)(mso:mg "sorted"=none):
  ∀n:Nat,FnOk P w K mg base CX0 (n+1) f fd ["term"] (spNmIn n)
 |0=>no_nmin
 |n+1=>ok_nmin F ⟨(nmins F bF mF mse mso n),bF,F.kp,mF⟩ mse mso
noncomputable def Lf.own:Lf->List (Addr×Tm)
 | .rd _ t T=>[(t,T)]
 | .st _ t T=>[(t,T)]
 | .wr t u T U=>[(t,T),(u,U)]
 | .cl _ _ _ ts=>ts
 | .gv t T=>[(t,T)]
noncomputable def Bd.own:Bd->List (Addr×Tm)
 | .nil=>[]
 | .lf _ l _=>l.own
 | .ite _ t T _ _ _=>[(t,T)]
 | .loop _ t T _ _=>[(t,T)]
noncomputable def rT(c:Addr×Tm):V:=.ref c.1
def spOwn:Sp:=fun vs H Q _=>∃(v:V) (s:Bd),vs=[v]/\StV H v s/\∀(r:Addr) (H':Hp),H' r=some (.tup (s.own.map rT))->Same H H'->Q (.ref r) H'
theorem KF{a b:V}{r:List V}:cutV (a::b::r) (some 1) (some 2)=[b]:=by
 unfold cutV
 have e1:(1:Int)=((1:Nat):Int):=rfl
 have e2:(2:Int)=((2:Nat):Int):=rfl
 rw[e2,e1,HT.sIx_nat,HT.sIx_nat,List.length_cons,List.length_cons]
 have e3:min 1 (r.length+1+1)=1:=by omega
 have e4:min 2 (r.length+1+1) - 1=1:=by omega
 rw[e3,e4]
 rfl
theorem scOwn:FnScope ["statement","word"] ["statement"] (defScope sOwn):=fsc
theorem ok_own{f:Addr}{fd:FuncData}(F:Fun K "own_terms" "own_terms" sOwn f fd):FnOk P w K mg base CX0 1 f fd ["statement"] spOwn:=by
 refine F.ok scOwn (fun vs H Q E h=>?_) (fun cdv A outer s H vs Q E hr h=>?_)
 ·refine opq fun Gq kq=>?_
  obtain⟨v,s,rfl,_⟩:=h
  refine kq ?_
  clear kq
  rfl
 refine opq fun Gq kq=>?_
 obtain⟨v,st,rfl,hs,q⟩:=h
 refine kq ?_
 clear kq
 refine⟨_,(je (jo (i:=1) scOwn.nd rfl (Or.inl rfl) (@jk _ _ _ _ _ _ _ jq (pv 0) jc (fun _ _=>rfl))) (je (jy (@jl _ _ _ _ _ _ _ _ zq (pv 1) (jj (ja ji (ja ji jb))) rfl) (jh (jp (@jK _ _ _ _ _ _ _ _ _ _ zT (pv 0) (@jF _ _ _ jc) (@jZ _)))) jr) (je (jy (@jl _ _ _ _ _ _ _ _ jz (pv 1) ji (nomark _)) (jh (jp (@jK _ _ _ _ _ _ _ _ _ _ zT (pv 0) (@jF _ _ _ jc) (@jZ _)))) jr) (je (jy (@jl _ _ _ _ _ _ _ _ jz (pv 1) ji (nomark _)) (jh (jp (@jk _ _ _ _ _ _ _ jq (pv 0) jc (fun _ _=>rfl)))) jr) (jh (jp (@jK _ _ _ _ _ _ _ _ _ _ zT (pv 0) (@jF _ _ _ jc) (@jF _ _ _ jc)))))))),?_⟩
 try dsimp only[cxOf,Cx.nox,Cx.wish]
 cases hs with
 |lf p l vs h1 h2=>
  cases l with
  |rd x t T=>
   obtain⟨rfl,hT⟩:=h2
   refine⟨_,rfl,p,_,_,_,rfl,rfl,SqT.of h1,rfl,_,rfl,sz2,fun l nl=>⟨l,_,rfl,.inr (SqT.of jd),rfl,rfl,_,rfl,ifY (by decide+kernel) ?_⟩⟩
   exact⟨_,rfl,_,rfl,p,_,rfl,keepN h1 nl,fun r H' hr s=>q r H' hr ((jf nl).trans s)⟩
  |st x t T=>
   obtain⟨rfl,hT⟩:=h2
   refine⟨_,rfl,p,_,_,_,rfl,rfl,SqT.of h1,rfl,_,rfl,sz2,fun l nl=>⟨l,_,rfl,.inr (SqT.of jd),rfl,rfl,_,rfl,ifY (by decide+kernel) ?_⟩⟩
   exact⟨_,rfl,_,rfl,p,_,rfl,keepN h1 nl,fun r H' hr s=>q r H' hr ((jf nl).trans s)⟩
  |wr t u T U=>
   obtain⟨rfl,hT,hU⟩:=h2
   refine⟨_,rfl,p,_,_,_,rfl,rfl,SqT.of h1,rfl,_,rfl,sz2,fun l nl=>⟨l,_,rfl,.inr (SqT.of jd),rfl,rfl,_,rfl,ifX (by decide+kernel) ?_⟩⟩
   refine⟨_,rfl,rfl,_,rfl,ifY (by decide+kernel) ?_⟩
   exact⟨_,rfl,_,rfl,p,_,rfl,keepN h1 nl,fun r H' hr s=>q r H' hr ((jf nl).trans s)⟩
  |cl x f' q' ts=>
   obtain⟨rfl,hq,hT⟩:=h2
   refine⟨_,rfl,p,_,_,_,rfl,rfl,SqT.of h1,rfl,_,rfl,sz2,fun l nl=>⟨l,_,rfl,.inr (SqT.of jd),rfl,rfl,_,rfl,ifX (by decide+kernel) ?_⟩⟩
   refine⟨_,rfl,rfl,_,rfl,ifX (by decide+kernel) ?_⟩
   refine⟨_,rfl,rfl,_,rfl,ifY (by decide+kernel) ?_⟩
   exact⟨_,rfl,p,_,_,_,rfl,rfl,SqT.of (keepN h1 nl),rfl,q q' _ (keepN hq nl) (jf nl)⟩
  |gv t T=>
   obtain⟨rfl,hT⟩:=h2
   refine⟨_,rfl,p,_,_,_,rfl,rfl,SqT.of h1,rfl,_,rfl,sz2,fun l nl=>⟨l,_,rfl,.inr (SqT.of jd),rfl,rfl,_,rfl,ifX (by decide+kernel) ?_⟩⟩
   refine⟨_,rfl,rfl,_,rfl,ifX (by decide+kernel) ?_⟩
   refine⟨_,rfl,rfl,_,rfl,ifX (by decide+kernel) ?_⟩
   exact⟨_,rfl,_,rfl,_,rfl,p,_,rfl,keepN h1 nl,fun r H' hr s=>q r H' (by rw[KF]at hr;exact hr) ((jf nl).trans s)⟩
 |ite p t T a b qa qb as bs h1 h0 h2 h3 h4 h5=>
  refine⟨_,rfl,p,_,_,_,rfl,rfl,SqT.of h1,rfl,_,rfl,sz2,fun l nl=>⟨l,_,rfl,.inr (SqT.of jd),rfl,rfl,_,rfl,ifX (by decide+kernel) ?_⟩⟩
  refine⟨_,rfl,rfl,_,rfl,ifX (by decide+kernel) ?_⟩
  refine⟨_,rfl,rfl,_,rfl,ifX (by decide+kernel) ?_⟩
  exact⟨_,rfl,_,rfl,_,rfl,p,_,rfl,keepN h1 nl,fun r H' hr s=>q r H' (by rw[KF]at hr;exact hr) ((jf nl).trans s)⟩
 |loop p t T a qa as h1 h0 h2 h3=>
  refine⟨_,rfl,p,_,_,_,rfl,rfl,SqT.of h1,rfl,_,rfl,sz2,fun l nl=>⟨l,_,rfl,.inr (SqT.of jd),rfl,rfl,_,rfl,ifX (by decide+kernel) ?_⟩⟩
  refine⟨_,rfl,rfl,_,rfl,ifX (by decide+kernel) ?_⟩
  refine⟨_,rfl,rfl,_,rfl,ifX (by decide+kernel) ?_⟩
  exact⟨_,rfl,_,rfl,_,rfl,p,_,rfl,keepN h1 nl,fun r H' hr s=>q r H' (by rw[KF]at hr;exact hr) ((jf nl).trans s)⟩
theorem qj{K:Frag}{a:Addr}{ys:List Str}{tt:TT}{te:TE}{Qf:List V->Hp->Prop}{σt:L2.St}{H:Hp}(f:Str->Bool)(hz:ys.length<=1000)(hq:H a=some (.lst (ys.map V.str)))
  (ht:∀y H1 (Q:Bool->Hp->Prop),y∈ys->Same H H1->(∀H2,Same H1 H2->Q (f y) H2)->tt (some (.str y)::σt) H1 Q)
  (he:∀y H1 (Q:VK),y∈ys->Q (.str y) H1->te (some (.str y)::σt) H1 Q) (hd:∀H',Same H H'->Qf ((ys.filter f).map V.str) H'):CompR (Itl K a) 1 σt (gName 0) tt te Qf H:=by
 have big:=ze
 refine⟨fun i m zs H'=>m=ys.length - i/\i<=ys.length/\zs=((ys.take i).filter f).map V.str/\Same H H',⟨ys.length,by simp,Nat.zero_le _,by simp,Same.refl H⟩,?_⟩
 rintro i m zs H' ⟨rfl,hi,rfl,k⟩
 have hq':SqL K H' a (ys.map V.str):=SqL.of (k _ _ hq)
 by_cases hlt:i < ys.length
 ·have hx:(ys.map V.str)[i]?=some (.str ys[i]):=by rw[List.getElem?_map,List.getElem?_eq_getElem hlt];rfl
  refine .inr ⟨⟨_,_,hq',hx⟩,?_,fun zs' H2=>zs'=((ys.take (i+1)).filter f).map V.str/\Same H H2,fun zs' H2 ⟨p1,p2⟩=>⟨ys.length - (i+1),by omega,rfl,hlt,p1,p2⟩,fun v H2 ts hts y=>?_⟩
  ·rw[List.length_map]
   have:=List.length_filter_le f (ys.take i)
   rw[List.length_take]at this
   omega
  obtain⟨e,y⟩:=y
  subst e
  have hv:=y _ hq'
  rw[hx]at hv
  cases hv
  obtain⟨w,rfl⟩:=len1 hts
  have hm:ys[i]∈ys:=List.getElem_mem hlt
  have et:ys.take (i+1)=ys.take i++[ys[i]]:=by rw[List.take_add_one,List.getElem?_eq_getElem hlt];rfl
  refine⟨⟨[some _],rfl,rfl⟩,ht ys[i] _ _ hm k fun H3 k3=>?_⟩
  cases ef:f ys[i] with
  |true=>
   refine ifY rfl (he ys[i] H3 _ hm ⟨?_,k.trans k3⟩)
   rw[et,List.filter_append,List.map_append]
   have e1:[ys[i]].filter f=[ys[i]]:=by simp [ef]
   rw[e1]
   rfl
  |false=>
   refine ifX rfl ⟨?_,k.trans k3⟩
   rw[et,List.filter_append,List.map_append]
   have e1:[ys[i]].filter f=[]:=by simp [ef]
   rw[e1]
   simp
 ·have e:i=ys.length:=by omega
  subst e
  refine .inl ⟨⟨_,hq',by simp⟩,?_⟩
  rw[List.take_of_length_le (Nat.le_refl _)]
  exact hd H' k
def Lf.bt(M:Str->Prop):Lf->Str->Prop
 | .rd x _ _,y=>M y/\y≠x
 | .st x _ _,y=>M y/\y≠x
 | .wr _ _ _ _,y=>M y
 | .cl x _ _ _,y=>M y/\y≠x
 | .gv _ _,_=>False
def Bd.bt(M:Str->Prop):Bd->Str->Prop
 | .nil,y=>M y
 | .lf _ l _,y=>l.bt M y
 | .ite _ _ _ a b _,y=>a.use M y∨b.use M y
 | .loop _ _ _ a _,y=>a.use (fun _=>False) y∨M y
theorem Za{H:Hp}{v:V}{s:Bd}(h:StV H v s)(M:Str->Prop)(y:Str):s.use M y↔s.bt M y∨∃c∈s.own,y∈c.2.vars:=by
 cases h with
 |lf p l vs _ _=>
  cases l with
  |rd x t T=>exact⟨fun z=>z.elim .inl fun w=>.inr ⟨_,List.mem_singleton.mpr rfl,w⟩,fun z=>z.elim .inl fun⟨c,hc,w⟩=>.inr (by rw[List.mem_singleton.mp hc]at w;exact w)⟩
  |st x t T=>exact⟨fun z=>z.elim .inl fun w=>.inr ⟨_,List.mem_singleton.mpr rfl,w⟩,fun z=>z.elim .inl fun⟨c,hc,w⟩=>.inr (by rw[List.mem_singleton.mp hc]at w;exact w)⟩
  |wr t u T U=>
   refine⟨fun z=>z.elim .inl fun w=>.inr (w.elim (fun w=>⟨_,List.mem_cons_self ..,w⟩) fun w=>⟨_,List.mem_cons_of_mem _ (List.mem_singleton.mpr rfl),w⟩),fun z=>z.elim .inl fun⟨c,hc,w⟩=>.inr ?_⟩
   rcases List.mem_cons.mp hc with e |hc
   ·rw[e]at w;exact .inl w
   ·rw[List.mem_singleton.mp hc]at w;exact .inr w
  |cl x f q ts=>exact Iff.rfl
  |gv t T=>exact⟨fun w=>.inr ⟨_,List.mem_singleton.mpr rfl,w⟩,fun z=>z.elim False.elim fun⟨c,hc,w⟩=>by rw[List.mem_singleton.mp hc]at w;exact w⟩
 |ite p t T a b qa qb as bs _ _ _ _ _ _=>exact⟨fun z=>z.elim .inl fun w=>.inr ⟨_,List.mem_singleton.mpr rfl,w⟩,fun z=>z.elim .inl fun⟨c,hc,w⟩=>.inr (by rw[List.mem_singleton.mp hc]at w;exact w)⟩
 |loop p t T a qa as _ _ _ _=>exact⟨fun z=>z.elim .inl fun w=>.inr ⟨_,List.mem_singleton.mpr rfl,w⟩,fun z=>z.elim .inl fun⟨c,hc,w⟩=>.inr (by rw[List.mem_singleton.mp hc]at w;exact w)⟩
structure NL(H:Hp)(g:Addr)(ss:List Str)(M:Str->Prop)(ys:List Str):Prop where
 at':H g=some (.lst (ss.map V.str))
 nm:Nm ss M
 sub:∀x,M x->x∈ys
 y20:ys.length<=21
theorem NL.len{H:Hp}{g:Addr}{ss:List Str}{M:Str->Prop}{ys:List Str}(h:NL H g ss M ys):ss.length<=21:=Nat.le_trans (h.nm.len h.sub) h.y20
theorem NL.same{H H':Hp}{g:Addr}{ss:List Str}{M:Str->Prop}{ys:List Str}(h:NL H g ss M ys)(s:Same H H'):NL H' g ss M ys:=⟨s _ _ h.at',h.nm,h.sub,h.y20⟩
structure NU(H:Hp)(g:Addr)(ss:List Str)(M:Str->Prop)(ys:List Str):Prop where
 at':H g=some (.lst (ss.map V.str))
 nd:ss.Nodup
 mem:∀x,x∈ss↔M x
 sub:∀x,M x->x∈ys
 y20:ys.length<=21
theorem NL.nu{H:Hp}{g:Addr}{ss:List Str}{M:Str->Prop}{ys:List Str}(h:NL H g ss M ys):NU H g ss M ys:=⟨h.at',h.nm.nd,h.nm.mem,h.sub,h.y20⟩
def spUbt(n:Nat):Sp:=fun vs H Q _=>∃(v:V) (g:Addr) (s:Bd) (ss:List Str) (M:Str->Prop) (ys:List Str),vs=[v,.ref g]/\StV H v s/\NL H g ss M ys/\s.Ok ys/\s.dep < n+1/\s.size<=10000000/\
 ∀(r:Addr) (zs:List Str) (H':Hp),H' r=some (.lst (zs.map V.str))->(∀y,y∈zs↔s.bt M y)->zs.length<=50->Same H H'->Q (.ref r) H'
def spUof(n:Nat):Sp:=fun vs H Q _=>∃(v:V) (g:Addr) (s:Bd) (ss:List Str) (M:Str->Prop) (ys:List Str),vs=[v,.ref g]/\StV H v s/\NL H g ss M ys/\s.Ok ys/\s.dep < n+1/\s.size<=10000000/\
 ∀(r:Addr) (zs:List Str) (H':Hp),H r=none->NL H' r zs (s.use M) ys->Same H H'->Q (.ref r) H'
def spUah(n:Nat):Sp:=fun vs H Q _=>∃(a g:Addr) (b:Bd) (xs:List V) (ss:List Str) (M:Str->Prop) (ys:List Str),vs=[.ref a,.ref g]/\H a=some (.tup xs)/\BdV H b xs/\NU H g ss M ys/\b.Ok ys/\b.dep < n/\b.size<=10000000/\
 ∀(r:Addr) (zs:List Str) (H':Hp),H r=none->NL H' r zs (b.use M) ys->Same H H'->Q (.ref r) H'
theorem Nm.empty:Nm [] (fun _=>False):=⟨List.nodup_nil,rfl,fun x=>⟨fun h=>absurd h List.not_mem_nil,False.elim⟩⟩
theorem scUbt:FnScope ["statement","behind","word"] ["statement","behind"] (defScope sUbt):=fsc
noncomputable def ZO:Scope:=⟨.function,[(".0",.local),("name",.local),("statement",.free)],false,false,[]⟩
theorem nd_u1:(["name","statement"]:List Str).Nodup:=by decide+kernel
theorem cs_u1:CompSc ["statement","behind","word"] (defScope sUbt) ZO ["name","statement"] 1 [0]:=csc
theorem Zb{f:Addr}{fd:FuncData}{L n:Nat}{fA:Addr}{fdA:FuncData}(F:Fun K "used_behind_terms" "used_behind_terms" sUbt f fd)(cA:Cl P w K mg base L fA fdA ["body","behind"] (spUah n) "used_ahead"):FnOk P w K mg base CX0 (L+1) f fd ["statement","behind"] (spUbt n):=by
 refine F.ok scUbt (fun vs H Q E h=>?_) (fun cdv A outer s H vs Q E hr h=>?_)
 ·refine opq fun Gq kq=>?_
  obtain⟨v,g,s,ss,M,ys,rfl,_⟩:=h
  refine kq ?_
  clear kq
  rfl
 refine opq fun Gq kq=>?_
 obtain⟨v,g,st,ss,M,ys,rfl,hs,hg,ho,hd,hz,q⟩:=h
 refine kq ?_
 clear kq
 refine⟨_,(je (jo (i:=2) scUbt.nd rfl (Or.inl rfl) (@jk _ _ _ _ _ _ _ jq (pv 0) jc (fun _ _=>rfl))) (je (jy (@jl _ _ _ _ _ _ _ _ zq (pv 2) (jj (ja ji (ja ji (ja ji jb)))) rfl) (jh (jp (@kA _ _ _ _ _ _ _ (["name","statement"]) (1) ([0]) _ _ _ _ rfl (@zS _ _ _ _ (pv 1)) cs_u1 (fun _ _ _ _ _=>(jx (i:=0) nd_u1 rfl (Or.inl rfl))) (fun _ _ _ _ _=>(@pf_one _ _ _ (@jl _ _ _ _ _ _ _ _ Xm (pv 0) (@jk _ _ _ _ _ _ (rIxT K) jq (pv 1) jc (fun _ _=>rfl)) (nomark _)))) (fun _ _ _ _ _=>(pv 0)) (by intro _;rfl)))) jr) (je (jy (@jl _ _ _ _ _ _ _ _ jz (pv 2) ji (nomark _)) (jh (jp (jw zK (jg cA.g hr.m rfl cA.m cA.k cA.b .nil pass0 (ja (@jk _ _ _ _ _ _ _ jq (pv 0) jc (fun _ _=>rfl)) (ja (pv 1) jb))) (jg cA.g hr.m rfl cA.m cA.k cA.b .nil pass0 (ja (@jk _ _ _ _ _ _ _ jq (pv 0) jc (fun _ _=>rfl)) (ja (pv 1) jb)))))) jr) (je (jy (@jl _ _ _ _ _ _ _ _ jz (pv 2) ji (nomark _)) (jh (jp (jw zK (jg cA.g hr.m rfl cA.m cA.k cA.b .nil pass0 (ja (@jk _ _ _ _ _ _ _ jq (pv 0) jc (fun _ _=>rfl)) (ja (jH jb) jb))) (pv 1)))) jr) (je (jy (@jl _ _ _ _ _ _ _ _ jz (pv 2) ji (nomark _)) (jh (jp (jH jb))) jr) (jh (jp (pv 1)))))))),?_⟩
 try dsimp only[cxOf,Cx.nox,Cx.wish]
 have g20:=hg.len
 cases hs with
 |lf p l vs h1 h2=>
  cases l with
  |rd x t T=>
   obtain⟨rfl,hT⟩:=h2
   refine⟨_,rfl,p,_,_,_,rfl,rfl,SqT.of h1,rfl,_,rfl,sz3,fun l nl=>⟨l,_,rfl,.inr (SqT.of jd),rfl,rfl,_,rfl,ifY (by decide+kernel) ?_⟩⟩
   have s1:Same H (upd H l (.tup [.str "set",.str "read",.str "call"])):=jf nl
   refine⟨_,rfl,g,rfl,⟨_,SqL.of (s1 _ _ hg.at')⟩,qj (fun y=>!decide (V.str y=V.str x)) (by omega) (s1 _ _ hg.at') (fun y H1 Q' hy k hq=>?_) (fun y H1 Q' hy hq=>⟨_,rfl,hq⟩) fun H' k r nr=>?_⟩
   ·exact⟨_,rfl,_,rfl,p,_,_,_,rfl,rfl,SqT.of (k _ _ (s1 _ _ h1)),rfl,rfl,_,rfl,hq _ (Same.refl _)⟩
   ·refine q r _ _ jd (fun y=>?_) (Nat.le_trans (List.length_filter_le ..) (by omega)) ((s1.trans k).trans (jf nr))
    rw[List.mem_filter,hg.nm.mem y]
    exact and_congr_right fun _=>by simp
  |st x t T=>
   obtain⟨rfl,hT⟩:=h2
   refine⟨_,rfl,p,_,_,_,rfl,rfl,SqT.of h1,rfl,_,rfl,sz3,fun l nl=>⟨l,_,rfl,.inr (SqT.of jd),rfl,rfl,_,rfl,ifY (by decide+kernel) ?_⟩⟩
   have s1:Same H (upd H l (.tup [.str "set",.str "read",.str "call"])):=jf nl
   refine⟨_,rfl,g,rfl,⟨_,SqL.of (s1 _ _ hg.at')⟩,qj (fun y=>!decide (V.str y=V.str x)) (by omega) (s1 _ _ hg.at') (fun y H1 Q' hy k hq=>?_) (fun y H1 Q' hy hq=>⟨_,rfl,hq⟩) fun H' k r nr=>?_⟩
   ·exact⟨_,rfl,_,rfl,p,_,_,_,rfl,rfl,SqT.of (k _ _ (s1 _ _ h1)),rfl,rfl,_,rfl,hq _ (Same.refl _)⟩
   ·refine q r _ _ jd (fun y=>?_) (Nat.le_trans (List.length_filter_le ..) (by omega)) ((s1.trans k).trans (jf nr))
    rw[List.mem_filter,hg.nm.mem y]
    exact and_congr_right fun _=>by simp
  |wr t u T U=>
   obtain⟨rfl,hT,hU⟩:=h2
   refine⟨_,rfl,p,_,_,_,rfl,rfl,SqT.of h1,rfl,_,rfl,sz3,fun l nl=>⟨l,_,rfl,.inr (SqT.of jd),rfl,rfl,_,rfl,ifX (by decide+kernel) ?_⟩⟩
   refine⟨_,rfl,rfl,_,rfl,ifX (by decide+kernel) ?_⟩
   refine⟨_,rfl,rfl,_,rfl,ifX (by decide+kernel) ?_⟩
   refine⟨_,rfl,rfl,_,rfl,ifX (by decide+kernel) ?_⟩
   exact⟨_,rfl,q g ss _ (keepN hg.at' nl) hg.nm.mem (by omega) (jf nl)⟩
  |cl x f' q' ts=>
   obtain⟨rfl,hq',hT⟩:=h2
   refine⟨_,rfl,p,_,_,_,rfl,rfl,SqT.of h1,rfl,_,rfl,sz3,fun l nl=>⟨l,_,rfl,.inr (SqT.of jd),rfl,rfl,_,rfl,ifY (by decide+kernel) ?_⟩⟩
   have s1:Same H (upd H l (.tup [.str "set",.str "read",.str "call"])):=jf nl
   refine⟨_,rfl,g,rfl,⟨_,SqL.of (s1 _ _ hg.at')⟩,qj (fun y=>!decide (V.str y=V.str x)) (by omega) (s1 _ _ hg.at') (fun y H1 Q' hy k hq=>?_) (fun y H1 Q' hy hq=>⟨_,rfl,hq⟩) fun H' k r nr=>?_⟩
   ·exact⟨_,rfl,_,rfl,p,_,_,_,rfl,rfl,SqT.of (k _ _ (s1 _ _ h1)),rfl,rfl,_,rfl,hq _ (Same.refl _)⟩
   ·refine q r _ _ jd (fun y=>?_) (Nat.le_trans (List.length_filter_le ..) (by omega)) ((s1.trans k).trans (jf nr))
    rw[List.mem_filter,hg.nm.mem y]
    exact and_congr_right fun _=>by simp
  |gv t T=>
   obtain⟨rfl,hT⟩:=h2
   refine⟨_,rfl,p,_,_,_,rfl,rfl,SqT.of h1,rfl,_,rfl,sz3,fun l nl=>⟨l,_,rfl,.inr (SqT.of jd),rfl,rfl,_,rfl,ifX (by decide+kernel) ?_⟩⟩
   refine⟨_,rfl,rfl,_,rfl,ifX (by decide+kernel) ?_⟩
   refine⟨_,rfl,rfl,_,rfl,ifX (by decide+kernel) ?_⟩
   refine⟨_,rfl,rfl,_,rfl,ifY (by decide+kernel) ?_⟩
   exact⟨sz0,fun r nr=>q r [] _ jd (fun y=>⟨fun h=>absurd h List.not_mem_nil,fun h=>(show False from h).elim⟩) (Nat.zero_le _) ((jf nl).trans (jf nr))⟩
 |ite p t T a b qa qb as bs h1 h0 h2 h3 h4 h5=>
  refine⟨_,rfl,p,_,_,_,rfl,rfl,SqT.of h1,rfl,_,rfl,sz3,fun l nl=>⟨l,_,rfl,.inr (SqT.of jd),rfl,rfl,_,rfl,ifX (by decide+kernel) ?_⟩⟩
  refine⟨_,rfl,rfl,_,rfl,ifY (by decide+kernel) ?_⟩
  have s1:Same H (upd H l (.tup [.str "set",.str "read",.str "call"])):=jf nl
  have hd':max (max a.dep b.dep+1) 0 < n+1:=hd
  have hz':a.size+b.size+0+1<=10000000:=hz
  refine⟨_,rfl,p,_,_,_,rfl,rfl,SqT.of (s1 _ _ h1),rfl,_,rfl,qa,g,a,as,ss,M,ys,rfl,s1 _ _ h2,h4.mono (Same.tm s1),(hg.same s1).nu,ho.2.1,by omega,by omega,fun r1 z1 H1 _ n1 k1=>?_⟩
  have s2:=s1.trans k1
  refine⟨_,rfl,p,_,_,_,rfl,rfl,SqT.of (s2 _ _ h1),rfl,_,rfl,qb,g,b,bs,ss,M,ys,rfl,s2 _ _ h3,h5.mono (Same.tm s2),(hg.same s2).nu,ho.2.2.1,by omega,by omega,fun r2 z2 H2 _ n2 k2=>?_⟩
  have l1:=n1.len
  have l2:=n2.len
  have big:=ze
  refine⟨r1,r2,_,_,rfl,rfl,k2 _ _ n1.at',n2.at',by rw[List.length_map,List.length_map];omega,fun r nr=>q r (z1++z2) _ (by rw[jd,List.map_append]) (fun y=>?_) (by rw[List.length_append];omega) ((s2.trans k2).trans (jf nr))⟩
  rw[List.mem_append,n1.nm.mem y,n2.nm.mem y]
  exact Iff.rfl
 |loop p t T a qa as h1 h0 h2 h3=>
  refine⟨_,rfl,p,_,_,_,rfl,rfl,SqT.of h1,rfl,_,rfl,sz3,fun l nl=>⟨l,_,rfl,.inr (SqT.of jd),rfl,rfl,_,rfl,ifX (by decide+kernel) ?_⟩⟩
  refine⟨_,rfl,rfl,_,rfl,ifX (by decide+kernel) ?_⟩
  refine⟨_,rfl,rfl,_,rfl,ifY (by decide+kernel) ?_⟩
  have s1:Same H (upd H l (.tup [.str "set",.str "read",.str "call"])):=jf nl
  have hd':max (a.dep+1) 0 < n+1:=hd
  have hz':a.size+0+1<=10000000:=hz
  refine⟨_,rfl,p,_,_,_,rfl,rfl,SqT.of (s1 _ _ h1),rfl,sz0,fun e ne=>?_⟩
  have s2:=s1.trans (jf (o:=.lst []) ne)
  refine⟨qa,e,a,as,[],fun _=>False,ys,rfl,s2 _ _ h2,h3.mono (Same.tm s2),(NL.nu ⟨jd,Nm.empty,fun _ w=>w.elim,hg.y20⟩),ho.2.1,by omega,by omega,fun r1 z1 H1 _ n1 k1=>?_⟩
  have l1:=n1.len
  have s3:=s2.trans k1
  have big:=ze
  refine⟨_,rfl,r1,g,_,_,rfl,rfl,n1.at',s3 _ _ hg.at',by rw[List.length_map,List.length_map];omega,fun r nr=>q r (z1++ss) _ (by rw[jd,List.map_append]) (fun y=>?_) (by rw[List.length_append];omega) (s3.trans (jf nr))⟩
  rw[List.mem_append,n1.nm.mem y,hg.nm.mem y]
  exact Iff.rfl
theorem own_at{H:Hp}{v:V}{s:Bd}(h:StV H v s):∀c∈s.own,TmAt H c.2 c.1:=by
 cases h with
 |lf p l vs _ h2=>
  cases l with
  |rd x t T=>intro c hc;rw[List.mem_singleton.mp hc];exact h2.2
  |st x t T=>intro c hc;rw[List.mem_singleton.mp hc];exact h2.2
  |wr t u T U=>
   intro c hc
   rcases List.mem_cons.mp hc with e |hc
   ·rw[e];exact h2.2.1
   ·rw[List.mem_singleton.mp hc];exact h2.2.2
  |cl x f q ts=>exact h2.2.2
  |gv t T=>intro c hc;rw[List.mem_singleton.mp hc];exact h2.2
 |ite p t T a b qa qb as bs _ h0 _ _ _ _=>intro c hc;rw[List.mem_singleton.mp hc];exact h0
 |loop p t T a qa as _ h0 _ _=>intro c hc;rw[List.mem_singleton.mp hc];exact h0
theorem own_ok{H:Hp}{v:V}{s:Bd}{ys:List Str}(h:StV H v s)(o:s.Ok ys):s.own.length<=100/\∀c∈s.own,TmOk ys c.2:=by
 have one:∀(t:Addr) (T:Tm),TmOk ys T->[(t,T)].length<=100/\∀c∈[(t,T)],TmOk ys c.2:=fun t T h=>⟨by show 1<=100;omega,fun c hc=>by rw[List.mem_singleton.mp hc];exact h⟩
 cases h with
 |lf p l vs _ h2=>
  cases l with
  |rd x t T=>exact one t T o.1.2
  |st x t T=>exact one t T o.1.2
  |wr t u T U=>
   refine⟨by show 2<=100;omega,fun c hc=>?_⟩
   rcases List.mem_cons.mp hc with e |hc
   ·rw[e];exact o.1.1
   ·rw[List.mem_singleton.mp hc];exact o.1.2
  |cl x f q ts=>exact⟨Nat.le_trans o.1.2.1 (by decide),o.1.2.2⟩
  |gv t T=>exact one t T o.1
 |ite p t T a b qa qb as bs _ h0 _ _ _ _=>exact one t T o.1
 |loop p t T a qa as _ h0 _ _=>exact one t T o.1
theorem zr:∀(a b c:Bd),(a.app b).app c=a.app (b.app c)
 | .nil,_,_=>rfl
 | .lf p l r,b,c=>by show Bd.lf p l ((r.app b).app c)=_;rw[zr r b c];rfl
 | .ite p t T x y r,b,c=>by show Bd.ite p t T x y ((r.app b).app c)=_;rw[zr r b c];rfl
 | .loop p t T x r,b,c=>by show Bd.loop p t T x ((r.app b).app c)=_;rw[zr r b c];rfl
theorem qp:∀(a:Bd),a.app .nil=a
 | .nil=>rfl
 | .lf p l r=>by show Bd.lf p l (r.app .nil)=_;rw[qp r]
 | .ite p t T x y r=>by show Bd.ite p t T x y (r.app .nil)=_;rw[qp r]
 | .loop p t T x r=>by show Bd.loop p t T x (r.app .nil)=_;rw[qp r]
inductive OI(v:V)(g r nl:Addr)(s:Bd)(M:Str->Prop)(H1:Hp)(i:Nat)(σ:L2.St)(H':Hp):Prop
 |mk (o3:Option V) (zs:List Str) (e0:σ=[some v,some (.ref g),some (.ref nl),o3]) (e1:H' nl=some (.lst (zs.map V.str))) (e2:∀y,y∈zs↔s.bt M y∨∃c∈s.own.take i,y∈c.2.vars) (e3:zs.length<=50+21*i) (e4:But nl H1 H'):OI v g r nl s M H1 i σ H'
theorem scUof:FnScope ["statement","behind","names","term"] ["statement","behind"] (defScope sUof):=fsc
theorem Zc{f:Addr}{fd:FuncData}{L n:Nat}{fB fO fN:Addr}{fdB fdO fdN:FuncData}(F:Fun K "used_ahead_of" "used_ahead_of" sUof f fd)(cB:Cl P w K mg base (L+9) fB fdB ["statement","behind"] (spUbt n) "used_behind_terms")(cO:Cl P w K mg base 1 fO fdO ["statement"] spOwn "own_terms")(cN:Cl P w K mg base 7 fN fdN ["term"] (spNmIn 6) "names_in")(mli:mg "list"=none)(mse:mg "set"=none)(mso:mg "sorted"=none):FnOk P w K mg base CX0 (L+10) f fd ["statement","behind"] (spUof n):=by
 refine F.ok scUof (fun vs H Q E h=>?_) (fun cdv A outer s H vs Q E hr h=>?_)
 ·refine opq fun Gq kq=>?_
  obtain⟨v,g,s,ss,M,ys,rfl,_⟩:=h
  refine kq ?_
  clear kq
  rfl
 refine opq fun Gq kq=>?_
 obtain⟨v,g,st,ss,M,ys,rfl,hs,hg,ho,hd,hz,q⟩:=h
 refine kq ?_
 clear kq
 refine⟨_,(je (jo (i:=2) scUof.nd rfl (Or.inl rfl) (@jC _ _ _ _ _ _ _ _ _ qw rfl mli boot_list (ja (jg cB.g hr.m rfl cB.m cB.k cB.b .nil pass0 (ja (pv 0) (ja (pv 1) jb))) jb) (by decide) (by decide) (by rfl) (by rfl))) (je (@kl _ _ _ _ _ _ _ _ PassesOwn.never rfl (@zj _ _ _ _ (jg cO.g hr.m rfl cO.m cO.k cO.b .nil pass0 (ja (pv 0) jb))) (jx (i:=3) scUof.nd rfl (Or.inl rfl)) (jh (jY (@kD _ _ _ _ _ _ _ _ _ _ _ _ PySem.F.plainAttrs_list PySem.F.slot_list_extend PySem.F.type_list_extend X8 (pv 2) (ja (jg cN.g hr.m rfl cN.m cN.k cN.b .nil pass0 (ja (pv 3) jb)) jb) (by rfl) (by rfl) (by rfl) (by rfl) (by rfl)))) (by intro _;rfl)) (jh (jp (@jB _ _ _ _ _ _ _ _ _ (zG rfl) rfl mso boot_sorted (ja (@jC _ _ _ _ _ _ _ _ _ (qi rfl) rfl mse boot_set (ja (pv 2) jb) (by decide) (by decide) (by rfl) (by rfl)) jb) (by decide) (by decide) (by rfl) (by rfl)))))),?_⟩
 try dsimp only[cxOf,Cx.nox,Cx.wish]
 refine seqF fun F1 f1=>⟨_,rfl,_,rfl,v,g,st,ss,M,ys,rfl,hs,hg,ho,hd,hz,fun r1 z1 H1 e1 m1 l1 k1=>⟨r1,_,rfl,.inl (SqL.of e1),fun nl nnl=>f1 _ _ ?_⟩⟩
 clear f1
 have s2:Same H (upd H1 nl (.lst (z1.map V.str))):=k1.trans (jf nnl)
 have hs2:=hs.mono (Same.tm s2)
 obtain⟨o100,ook⟩:=own_ok hs ho
 have hn2:upd H1 nl (.lst (z1.map V.str)) nl=some (.lst (z1.map V.str)):=jd
 have hn0:H nl=none:=k1.free nnl
 generalize upd H1 nl (.lst (z1.map V.str))=H2 at s2 hs2 hn2
 refine seqF fun F1 f1=>?_
 refine forE fun F kF=>⟨_,rfl,v,st,rfl,hs2,fun r H3 hr k3=>⟨r,rfl,⟨_,SqT.of hr⟩,kF _ _ ?_⟩⟩
 clear kF
 have rnl:r≠nl:=kf hr (k3 _ _ hn2) (by intro z;cases z)
 have s3:=s2.trans k3
 have big:=ze
 refine Jz (K:=K) (xs:=st.own.map rT) (OI v g r nl st M H3) ⟨_,z1,rfl,k3 _ _ hn2,fun y=>?_,by omega,But.refl⟩ (fun i σ H' hi h=>?_) ?_ (fun σ H' h=>f1 _ _ ?_)
 ·rw[m1 y]
  exact⟨.inl,fun z=>z.elim (fun w=>w) fun⟨c,hc,_⟩=>absurd hc List.not_mem_nil⟩
 ·obtain⟨_,_,_,_,_,_,k⟩:=h
  exact SqT.of (k _ _ rnl hr)
 ·clear f1
  intro E _ i x σ H4 hx fE Gq kq h
  obtain⟨o3,zs,rfl,h1,h2,h3,k4⟩:=h
  rw[List.getElem?_map]at hx
  cases hc:st.own[i]? with
  |none=>rw[hc]at hx;cases hx
  |some c=>
   rw[hc]at hx
   cases hx
   refine kq ?_
   clear kq
   have cm:=List.mem_of_getElem? hc
   have hi:i < st.own.length:=by
    rcases Nat.lt_or_ge i st.own.length with z |z
    ·exact z
    ·rw[List.getElem?_eq_none z]at hc;cases hc
   have tm:TMono H3 H4:=fun b xs e=>k4 b _ (kf e (k3 _ _ hn2) (by intro z;cases z)) e
   show tDrop _ E [some v,some (.ref g),some (.ref nl),some (.ref c.1)] H4
   refine⟨_,rfl,.inl ⟨rfl,_,SqL.of h1⟩,_,rfl,c.1,c.2,ys,rfl,((own_at hs c cm).mono (Same.tm s3)).mono tm,(ook c cm).2,(ook c cm).1,hg.y20,fun r5 s5 H5 n5 e5 d5 m5 o5 k5=>?_⟩
   have l5:s5.length<=21:=Nat.le_trans (jX d5 fun x hx=>j3 (ook c cm).1 x ((m5 x).mp hx)) hg.y20
   refine⟨nl,r5,_,_,rfl,rfl,k5 _ _ h1,e5,by rw[List.length_map,List.length_map];omega,fE _ _ ⟨_,zs++s5,rfl,by rw[jd,List.map_append],fun y=>?_,by rw[List.length_append];omega,fun b o nb e=>?_⟩⟩
   ·rw[List.mem_append,h2 y,m5 y,List.take_add_one,hc]
    refine⟨fun z=>z.elim (fun z=>z.elim .inl fun⟨d,hd,w⟩=>.inr ⟨d,List.mem_append_left _ hd,w⟩) fun w=>.inr ⟨c,List.mem_append_right _ (List.mem_singleton.mpr rfl),w⟩,fun z=>z.elim (fun w=>.inl (.inl w)) fun⟨d,hd,w⟩=>?_⟩
    rcases List.mem_append.mp hd with hd |hd
    ·exact .inl (.inr ⟨d,hd,w⟩)
    ·have ed:d=c:=List.mem_singleton.mp hd
     rw[ed]at w
     exact .inr w
   ·rw[jm nb]
    exact k5 _ _ (k4 b o nb e)
 ·obtain⟨o3,zs,rfl,h1,h2,h3,k4⟩:=h
  clear f1
  rw[List.length_map]at h2 h3
  have s4:Same H H':=fun b o e=>k4 b o (jv e hn0) (s3 _ _ e)
  refine⟨_,rfl,nl,zs,rfl,SqL.of h1,(fun L nd hs=>Nat.lt_of_le_of_lt (Nat.succ_le_succ (jX nd hs)) (by show zs.length+1 < 4096;omega)),fun l L nl' hnd hm=>?_⟩
  have sub:∀y∈L,y∈ys:=fun y hy=>Bd.use_in ho hg.sub y ((Za hs M y).mpr (by have:=(h2 y).mp ((hm y).mp hy);rwa [List.take_length]at this))
  have lL:=Nat.le_trans (jX hnd sub) hg.y20
  refine⟨l,L,rfl,jd,by omega,fun r' ss' nr' pm nd so=>?_⟩
  refine q r' ss' _ ((s4.trans (jf nl')).free nr') ⟨jd,⟨pm.nodup_iff.mpr nd,so,fun y=>?_⟩,Bd.use_in ho hg.sub,hg.y20⟩ ((s4.trans (jf nl')).trans (jf nr'))
  rw[pm.mem_iff,hm y,h2 y,Za hs M y,List.take_length]
theorem none_of{H H':Hp}{r:Addr}(s:Same H H')(n:H' r=none):H r=none:=by
 cases z:H r with
 |none=>rfl
 |some o=>have:=s _ _ z;rw[n]at this;cases this
inductive UI(a g:Addr)(b:Bd)(xs:List V)(M:Str->Prop)(ys:List Str)(H:Hp)(i:Nat)(σ:L2.St)(H':Hp):Prop
 |mk (g':Addr) (o3:Option V) (pre suf:Bd) (zs:List Str) (e0:σ=[some (.ref a),some (.ref g),some (.ref g'),o3]) (e1:b=pre.app suf) (e2:BdV H pre (xs.take (xs.length - i))) (e3:NL H' g' zs (suf.use M) ys) (e4:Same H H') (e5:H g'=none):UI a g b xs M ys H i σ H'
theorem scUah:FnScope ["body","behind","names","statement"] ["body","behind"] (defScope sUah):=fsc
theorem ok_uah{f:Addr}{fd:FuncData}{L n:Nat}{fU:Addr}{fdU:FuncData}(F:Fun K "used_ahead" "used_ahead" sUah f fd)(cU:Cl P w K mg base (L+10) fU fdU ["statement","behind"] (spUof n) "used_ahead_of")(mso:mg "sorted"=none)(mre:mg "reversed"=none):FnOk P w K mg base CX0 (L+11) f fd ["body","behind"] (spUah (n+1)):=by
 refine F.ok scUah (fun vs H Q E h=>?_) (fun cdv A outer s H vs Q E hr h=>?_)
 ·refine opq fun Gq kq=>?_
  obtain⟨a,g,b,xs,ss,M,ys,rfl,_⟩:=h
  refine kq ?_
  clear kq
  rfl
 refine opq fun Gq kq=>?_
 obtain⟨a,g,b,xs,ss,M,ys,rfl,ha,hb,hg,ho,hd,hz,q⟩:=h
 refine kq ?_
 clear kq
 refine⟨_,(je (jo (i:=2) scUah.nd rfl (Or.inl rfl) (@jB _ _ _ _ _ _ _ _ _ KN rfl mso boot_sorted (ja (pv 1) jb) (by decide) (by decide) (by rfl) (by rfl))) (je (@kl _ _ _ _ _ _ _ _ PassesOwn.never rfl (@Y4 _ _ _ _ _ _ _ rfl mre boot_reversed (pv 0) (by decide) (by decide) (by rfl) (by rfl)) (jx (i:=3) scUah.nd rfl (Or.inl rfl)) (jh (jo (i:=2) scUah.nd rfl (Or.inl rfl) (jg cU.g hr.m rfl cU.m cU.k cU.b .nil pass0 (ja (pv 3) (ja (pv 2) jb))))) (by intro _;rfl)) (jh (jp (pv 2))))),?_⟩
 try dsimp only[cxOf,Cx.nox,Cx.wish]
 have g20:ss.length<=21:=Nat.le_trans (jX hg.nd fun x hx=>hg.sub x ((hg.mem x).mp hx)) hg.y20
 have big:=line24
 refine seqF fun F1 f1=>⟨_,rfl,g,ss,rfl,SqL.of hg.at',by omega,fun l ss' nl pm so=>f1 _ _ ?_⟩
 clear f1
 have nm':Nm ss' M:=⟨pm.nodup_iff.mpr hg.nd,so,fun x=>pm.mem_iff.trans (hg.mem x)⟩
 have s1:Same H (upd H l (.lst (ss'.map V.str))):=jf nl
 have hl1:NL (upd H l (.lst (ss'.map V.str))) l ss' M ys:=⟨jd,nm',hg.sub,hg.y20⟩
 generalize upd H l (.lst (ss'.map V.str))=H1 at s1 hl1
 have xl:=hb.len
 refine seqF fun F1 f1=>?_
 refine forE fun F kF=>⟨_,rfl,a,xs,rfl,SqT.of (s1 _ _ ha),kF _ _ ?_⟩
 clear kF
 refine K9 (K:=K) (xs:=xs) (UI a g b xs M ys H) ⟨l,_,b,.nil,ss',rfl,(qp b).symm,by rw[Nat.sub_zero,List.take_length];exact hb,hl1,s1,nl⟩ (fun i σ H' hi h=>?_) ?_ (fun σ H' h=>f1 _ _ ?_)
 ·obtain⟨_,_,_,_,_,_,_,_,_,k,_⟩:=h
  exact SqT.of (k _ _ ha)
 ·clear f1
  intro E _ i x σ H2 hx fE Gq kq h
  obtain⟨g',o3,pre,suf,zs,rfl,h1,h2,h3,k2,n2⟩:=h
  have hi:i < xs.length:=by
   rcases Nat.lt_or_ge i xs.length with z |z
   ·exact z
   ·rw[List.getElem?_eq_none (by simpa using z)]at hx;cases hx
  rw[List.getElem?_reverse hi]at hx
  have et:xs.take (xs.length - i)=xs.take (xs.length - (i+1))++[x]:=by
   have e1:xs.length - i=(xs.length - 1 - i)+1:=by omega
   have e2:xs.length - (i+1)=xs.length - 1 - i:=by omega
   rw[e1,e2,List.take_add_one,hx]
   rfl
  rw[et]at h2
  rcases h2.last with ⟨e,_⟩ | ⟨ws,v,b1,s1',e1,e2,h4,h5⟩
  ·exact absurd e (by simp)
  obtain⟨ew,ev⟩:=List.append_inj' e1 rfl
  cases ev
  subst e2
  have hok:=zk (h1▸ho)
  have hok1:=zk hok.1
  have a1:b.dep=max (b1.app s1').dep suf.dep:=by rw[h1,kX]
  have a2:(b1.app s1').dep=max b1.dep s1'.dep:=kX ..
  have hde:s1'.dep<=b.dep:=by rw[a1,a2];exact Nat.le_trans (Nat.le_max_right ..) (Nat.le_max_left ..)
  clear a1 a2
  have hsz:s1'.size<=b.size:=by rw[h1,jQ,jQ];omega
  refine kq ?_
  clear kq
  show tAsg _ _ E [some (.ref a),some (.ref g),some (.ref g'),some x] H2
  refine⟨_,rfl,_,rfl,x,g',s1',zs,suf.use M,ys,rfl,h5.mono (Same.tm k2),h3,hok1.2,by omega,by omega,fun r z H3 nr n3 k3=>fE _ _ ⟨r,_,b1,s1'.app suf,z,rfl,by rw[h1,zr],?_,by rw[Jf];exact n3,k2.trans k3,none_of k2 nr⟩⟩
  rw[ew]
  exact h4
 ·obtain⟨g',o3,pre,suf,zs,rfl,h1,h2,h3,k2,n2⟩:=h
  rw[Nat.sub_self]at h2
  have ep:pre= .nil:=by
   rcases h2.last with ⟨_,e⟩ | ⟨ws,v,b1,s1',e1,_⟩
   ·exact e
   ·exact absurd e1 (by simp)
  rw[ep]at h1
  refine⟨_,rfl,q g' zs H' n2 ?_ k2⟩
  rw[h1]
  exact h3
theorem no_uah{f:Addr}{fd:FuncData}{k:Nat}:FnOk P w K mg base CX0 k f fd ["body","behind"] (spUah 0):=by
 have no:∀vs H Q E,¬spUah 0 vs H Q E:=fun vs H Q E h=>by
  obtain⟨a,g,b,xs,ss,M,ys,_,_,_,_,_,hd,_⟩:=h
  exact absurd hd (Nat.not_lt_zero _)
 exact⟨fun vs H Q E h=>absurd h (no vs H Q E),fun A outer s H args us vs Q E _ _ _ _ h=>absurd h (no vs H Q E)⟩
theorem uahs{f fB fU fO fN:Addr}{fd fdB fdU fdO fdN:FuncData}(F:Fun K "used_ahead" "used_ahead" sUah f fd)(FB:Fun K "used_behind_terms" "used_behind_terms" sUbt fB fdB)(FU:Fun K "used_ahead_of" "used_ahead_of" sUof fU fdU)
  (bF:Binds K fd ["body","behind"] []) (mF:mg "used_ahead"=some (.ref f)) (bB:Binds K fdB ["statement","behind"] []) (mB:mg "used_behind_terms"=some (.ref fB)) (bU:Binds K fdU ["statement","behind"] []) (mU:mg "used_ahead_of"=some (.ref fU)) (cO:Cl P w K mg base 1 fO fdO ["statement"] spOwn "own_terms") (cN:Cl P w K mg base 7 fN fdN ["term"] (spNmIn 6) "names_in") (mli:mg "list"=none) (mse:mg "set"=none) (mso:mg "sorted"=none) (mre:mg "reversed"=none):
  ∀n:Nat,FnOk P w K mg base CX0 (3*n+8) f fd ["body","behind"] (spUah n)/\FnOk P w K mg base CX0 (3*n+10) fU fdU ["statement","behind"] (spUof n)
 |0=>by
  have h0:FnOk P w K mg base CX0 8 f fd ["body","behind"] (spUah 0):=no_uah
  have h1:=Zb (L:=8) (n:=0) FB ⟨h0,bF,F.kp,mF⟩
  exact⟨h0,Zc (L:=0) FU ⟨h1,bB,FB.kp,mB⟩ cO cN mli mse mso⟩
 |n+1=>by
  have ih:=(uahs F FB FU bF mF bB mB bU mU cO cN mli mse mso mre n).2
  have h0:=ok_uah (L:=3*n) F ⟨ih,bU,FU.kp,mU⟩ mso mre
  have e0:3*n+11=3*(n+1)+8:=by omega
  rw[e0]at h0
  have h1:=Zb (L:=3*(n+1)+8) (n:=n+1) FB ⟨h0,bF,F.kp,mF⟩
  exact⟨h0,Zc (L:=3*(n+1)) FU ⟨h1,bB,FB.kp,mB⟩ cO cN mli mse mso⟩
noncomputable abbrev sBin:Stmt:=top 24
noncomputable abbrev sMany:Stmt:=top 27
noncomputable abbrev sDeed:Stmt:=top 28
noncomputable abbrev sPgive:Stmt:=top 29
noncomputable abbrev sPset:Stmt:=top 30
noncomputable def Lf.cut:Lf->Nat
 | .st _ _ _=>0
 | .gv _ _=>0
 |_=>1
noncomputable def Bd.cuts:Bd->Nat
 | .nil=>0
 | .lf _ l r=>l.cut+r.cuts
 | .ite _ _ _ a b r=>1+a.cuts+b.cuts+r.cuts
 | .loop _ _ _ a r=>1+a.cuts+r.cuts
noncomputable def Bd.inn:Bd->Bd
 | .ite _ _ _ a b _=>a.app b
 | .loop _ _ _ a _=>a
 |_=>.nil
theorem zp:∀(a b:Bd),(a.app b).cuts=a.cuts+b.cuts
 | .nil,b=>by show b.cuts=0+b.cuts;omega
 | .lf _ l r,b=>by have:=zp r b;show l.cut+(r.app b).cuts=l.cut+r.cuts+b.cuts;omega
 | .ite _ _ _ x y r,b=>by have:=zp r b;show 1+x.cuts+y.cuts+(r.app b).cuts=1+x.cuts+y.cuts+r.cuts+b.cuts;omega
 | .loop _ _ _ x r,b=>by have:=zp r b;show 1+x.cuts+(r.app b).cuts=1+x.cuts+r.cuts+b.cuts;omega
def spBin:Sp:=fun vs H Q _=>∃(v:V) (s:Bd),vs=[v]/\StV H v s/\s.size<=10000000/\∀(r:Addr) (xs:List V) (H':Hp),H' r=some (.tup xs)->BdV H' s.inn xs->Same H H'->Q (.ref r) H'
def spMany:Sp:=fun vs H Q _=>∃(a:Addr) (b:Bd) (xs:List V),vs=[.ref a]/\H a=some (.tup xs)/\BdV H b xs/\b.size<=10000000/\∀H',Same H H'->Q (.int (b.cuts:Int)) H'
theorem scBin:FnScope ["statement"] ["statement"] (defScope sBin):=fsc
theorem ok_bin{f:Addr}{fd:FuncData}(F:Fun K "bodies_in" "bodies_in" sBin f fd):FnOk P w K mg base CX0 1 f fd ["statement"] spBin:=by
 refine F.ok scBin (fun vs H Q E h=>?_) (fun cdv A outer s H vs Q E hr h=>?_)
 ·refine opq fun Gq kq=>?_
  obtain⟨v,s,rfl,_⟩:=h
  refine kq ?_
  clear kq
  rfl
 refine opq fun Gq kq=>?_
 obtain⟨v,st,rfl,hs,hz,q⟩:=h
 refine kq ?_
 clear kq
 refine⟨_,(je (jy (@jl _ _ _ _ _ _ _ _ jz (@jk _ _ _ _ _ _ _ jq (pv 0) jc (fun _ _=>rfl)) ji (nomark _)) (jh (jp (jw kB (@jk _ _ _ _ _ _ _ jq (pv 0) jc (fun _ _=>rfl)) (@jk _ _ _ _ _ _ _ jq (pv 0) jc (fun _ _=>rfl))))) jr) (je (jy (@jl _ _ _ _ _ _ _ _ jz (@jk _ _ _ _ _ _ _ jq (pv 0) jc (fun _ _=>rfl)) ji (nomark _)) (jh (jp (@jk _ _ _ _ _ _ _ jq (pv 0) jc (fun _ _=>rfl)))) jr) (jh (jp (jj jb))))),?_⟩
 try dsimp only[cxOf,Cx.nox,Cx.wish]
 have big:=line24
 cases hs with
 |lf p l vs h1 h2=>
  cases l with
  |rd x t T=>
   obtain⟨rfl,_⟩:=h2
   refine⟨_,rfl,p,_,_,_,rfl,rfl,SqT.of h1,rfl,rfl,_,rfl,ifX (by decide+kernel) ?_⟩
   refine⟨_,rfl,p,_,_,_,rfl,rfl,SqT.of h1,rfl,rfl,_,rfl,ifX (by decide+kernel) ?_⟩
   exact⟨sz0,fun r nr=>q r [] _ jd rfl (jf nr)⟩
  |st x t T=>
   obtain⟨rfl,_⟩:=h2
   refine⟨_,rfl,p,_,_,_,rfl,rfl,SqT.of h1,rfl,rfl,_,rfl,ifX (by decide+kernel) ?_⟩
   refine⟨_,rfl,p,_,_,_,rfl,rfl,SqT.of h1,rfl,rfl,_,rfl,ifX (by decide+kernel) ?_⟩
   exact⟨sz0,fun r nr=>q r [] _ jd rfl (jf nr)⟩
  |wr t u T U=>
   obtain⟨rfl,_⟩:=h2
   refine⟨_,rfl,p,_,_,_,rfl,rfl,SqT.of h1,rfl,rfl,_,rfl,ifX (by decide+kernel) ?_⟩
   refine⟨_,rfl,p,_,_,_,rfl,rfl,SqT.of h1,rfl,rfl,_,rfl,ifX (by decide+kernel) ?_⟩
   exact⟨sz0,fun r nr=>q r [] _ jd rfl (jf nr)⟩
  |cl x f q2 ts=>
   obtain⟨rfl,_⟩:=h2
   refine⟨_,rfl,p,_,_,_,rfl,rfl,SqT.of h1,rfl,rfl,_,rfl,ifX (by decide+kernel) ?_⟩
   refine⟨_,rfl,p,_,_,_,rfl,rfl,SqT.of h1,rfl,rfl,_,rfl,ifX (by decide+kernel) ?_⟩
   exact⟨sz0,fun r nr=>q r [] _ jd rfl (jf nr)⟩
  |gv t T=>
   obtain⟨rfl,_⟩:=h2
   refine⟨_,rfl,p,_,_,_,rfl,rfl,SqT.of h1,rfl,rfl,_,rfl,ifX (by decide+kernel) ?_⟩
   refine⟨_,rfl,p,_,_,_,rfl,rfl,SqT.of h1,rfl,rfl,_,rfl,ifX (by decide+kernel) ?_⟩
   exact⟨sz0,fun r nr=>q r [] _ jd rfl (jf nr)⟩
 |ite p t T a b qa qb as bs h1 h0 h2 h3 h4 h5=>
  refine⟨_,rfl,p,_,_,_,rfl,rfl,SqT.of h1,rfl,rfl,_,rfl,ifY (by decide+kernel) ?_⟩
  have hz':a.size+b.size+0+1<=10000000:=hz
  have l1:=h4.len
  have l2:=h5.len
  exact⟨_,rfl,p,_,_,_,rfl,rfl,SqT.of h1,rfl,_,rfl,p,_,_,_,rfl,rfl,SqT.of h1,rfl,qa,qb,as,bs,rfl,rfl,h2,h3,by omega,fun r H' hr s=>q r _ H' hr ((h5.mono (Same.tm s)).app (h4.mono (Same.tm s))) s⟩
 |loop p t T a qa as h1 h0 h2 h3=>
  refine⟨_,rfl,p,_,_,_,rfl,rfl,SqT.of h1,rfl,rfl,_,rfl,ifX (by decide+kernel) ?_⟩
  refine⟨_,rfl,p,_,_,_,rfl,rfl,SqT.of h1,rfl,rfl,_,rfl,ifY (by decide+kernel) ?_⟩
  exact⟨_,rfl,p,_,_,_,rfl,rfl,SqT.of h1,rfl,q qa as H h2 h3 (Same.refl H)⟩
theorem st_cuts{H:Hp}{v:V}{s:Bd}(h:StV H v s):s.inn.size < s.size/\∃(p:Addr) (w:Str) (r:List V),v= .ref p/\H p=some (.tup (.str w::r))/\s.cuts=(if inV (.str w) [.str "set",.str "give"]=true then 0 else 1)+s.inn.cuts:=by
 cases h with
 |lf p l vs h1 h2=>
  refine⟨Nat.zero_lt_succ _,?_⟩
  cases l with
  |rd x t T=>obtain⟨rfl,_⟩:=h2;exact⟨p,_,_,rfl,h1,by rw[if_neg (by decide+kernel)];rfl⟩
  |st x t T=>obtain⟨rfl,_⟩:=h2;exact⟨p,_,_,rfl,h1,by rw[if_pos (by decide+kernel)];rfl⟩
  |wr t u T U=>obtain⟨rfl,_⟩:=h2;exact⟨p,_,_,rfl,h1,by rw[if_neg (by decide+kernel)];rfl⟩
  |cl x f q2 ts=>obtain⟨rfl,_⟩:=h2;exact⟨p,_,_,rfl,h1,by rw[if_neg (by decide+kernel)];rfl⟩
  |gv t T=>obtain⟨rfl,_⟩:=h2;exact⟨p,_,_,rfl,h1,by rw[if_pos (by decide+kernel)];rfl⟩
 |ite p t T a b qa qb as bs h1 h0 h2 h3 h4 h5=>
  refine⟨by show(a.app b).size < a.size+b.size+0+1;rw[jQ];omega,p,_,_,rfl,h1,?_⟩
  rw[if_neg (by decide+kernel)]
  show 1+a.cuts+b.cuts+0=1+(a.app b).cuts
  rw[zp]
  omega
 |loop p t T a qa as h1 h0 h2 h3=>
  refine⟨by show a.size < a.size+0+1;omega,p,_,_,rfl,h1,?_⟩
  rw[if_neg (by decide+kernel)]
  show 1+a.cuts+0=1+a.cuts
  omega
theorem at0{v:V}{ys:List V}:atI (v::ys) 0=some v:=jE (j:=0) rfl
inductive MI(a td:Addr)(b:Bd)(H:Hp)(m:Nat)(σ:L2.St)(H':Hp):Prop
 |mk (o3:Option V) (W:Bd) (zs:List V) (k:Nat) (e0:m=W.size) (e1:σ=[some (.ref a),some (.int (k:Int)),some (.ref td),o3]) (e2:H' td=some (.lst zs)) (e3:BdV H' W zs) (e4:k+W.cuts=b.cuts) (e5:W.size<=10000000) (e6:But td H H'):MI a td b H m σ H'
theorem scMany:FnScope ["body","many","todo","statement"] ["body"] (defScope sMany):=fsc
theorem ok_many{f:Addr}{fd:FuncData}{fB:Addr}{fdB:FuncData}(F:Fun K "many_cuts" "many_cuts" sMany f fd)(cB:Cl P w K mg base 1 fB fdB ["statement"] spBin "bodies_in")(mli:mg "list"=none):FnOk P w K mg base CX0 2 f fd ["body"] spMany:=by
 refine F.ok scMany (fun vs H Q E h=>?_) (fun cdv A outer s H vs Q E hr h=>?_)
 ·refine opq fun Gq kq=>?_
  obtain⟨a,b,xs,rfl,_⟩:=h
  refine kq ?_
  clear kq
  rfl
 refine opq fun Gq kq=>?_
 obtain⟨a,b,xs,rfl,ha,hb,hz,q⟩:=h
 refine kq ?_
 clear kq
 refine⟨_,(je (jo (i:=1) scMany.nd rfl (Or.inl rfl) jc) (je (jo (i:=2) scMany.nd rfl (Or.inl rfl) (@jC _ _ _ _ _ _ _ _ _ qw rfl mli boot_list (ja (pv 0) jb) (by decide) (by decide) (by rfl) (by rfl))) (je (@Zk _ _ _ _ _ _ PassesOwn.never (@Zn _ _ _ (pv 2) (fun _=>rfl)) (je (jo (i:=3) scMany.nd rfl (Or.inl rfl) (@pe_bm0 _ _ _ _ _ _ _ _ _ PySem.F.plainAttrs_list PySem.F.slot_list_pop PySem.F.type_list_pop mt_pop (pv 2) (by rfl) (by rfl))) (je (jT (jy (@jl _ _ _ _ _ _ _ _ zE (@jk _ _ _ _ _ _ _ jq (pv 3) jc (fun _ _=>rfl)) (jj (ja ji (ja ji jb))) rfl) (jh (@ps_aug _ _ (1) _ _ _ _ _ _ scMany.nd rfl (Or.inl rfl) jc ip_add (by first |exact .inl rfl |exact .inr rfl))) jr)) (jh (jY (@kD _ _ _ _ _ _ _ _ _ _ _ _ PySem.F.plainAttrs_list PySem.F.slot_list_extend PySem.F.type_list_extend Q8 (pv 2) (ja (jg cB.g hr.m rfl cB.m cB.k cB.b .nil pass0 (ja (pv 3) jb)) jb) (by rfl) (by rfl) (by rfl) (by rfl) (by rfl))))))) (jh (jp (pv 1)))))),?_⟩
 try dsimp only[cxOf,Cx.nox,Cx.wish]
 have big:=line24
 refine seqF fun F1 f1=>f1 _ _ ?_
 clear f1
 refine seqF fun F1 f1=>⟨_,rfl,a,_,rfl,.inr (SqT.of ha),fun td ntd=>f1 _ _ ?_⟩
 clear f1
 have s0:Same H (upd H td (.lst xs)):=jf ntd
 refine seqF fun F1 f1=>?_
 refine whileE (MI a td b H) b.size ⟨_,b,xs,0,rfl,rfl,jd,hb.mono (Same.tm s0),by omega,hz,fun c o nc e=>s0 _ _ e⟩ ?_
 intro m σ H1 E _ fE F kT kF Gq kq h
 obtain⟨o3,W,zs,k,rfl,rfl,h1,h2,h3,h4,h5⟩:=h
 refine kq ⟨_,rfl,!zs.isEmpty,.inl ⟨zs,SqL.of h1,rfl⟩,?_⟩
 clear kq
 rcases h2.last with ⟨e1,e2⟩ | ⟨ws,v,b1,s1,e1,e2,g1,g2⟩
 ·rw[e1]
  refine kF _ (f1 _ _ ⟨_,rfl,?_⟩)
  rw[e2]at h3
  have e3:k=b.cuts:=by have:k+0=b.cuts:=h3;omega
  rw[e3]
  exact q _ fun c o e=>h5 c o (jv e ntd) e
 ·rw[e1]
  have ne:(!(ws++[v]).isEmpty)=true:=by cases ws<;>rfl
  rw[ne]
  refine kT _ ?_
  clear kF kT f1
  have hsz:W.size=b1.size+s1.size:=by rw[e2,jQ]
  have hct:W.cuts=b1.cuts+s1.cuts:=by rw[e2,zp]
  obtain⟨hin,p,w',r,rfl,hp,hc⟩:=st_cuts g2
  rw[e1]at h1
  refine seqF fun F1 f1=>⟨_,rfl,.inl ⟨rfl,_,SqL.of h1⟩,td,_,.ref p,rfl,rfl,h1,by simp,f1 _ _ ?_⟩
  clear f1
  rw[List.dropLast_concat]
  have tm2:TMono H1 (upd H1 td (.lst ws)):=fun c ys e=>by rw[jm (kf e h1 (by intro z;cases z))];exact e
  have t2:upd H1 td (.lst ws) td=some (.lst ws):=jd
  have g1':=g1.mono tm2
  have g2':=g2.mono tm2
  have hp':=tm2 _ _ hp
  have k2:But td H (upd H1 td (.lst ws)):=fun c o nc e=>by rw[jm nc];exact h5 c o nc e
  generalize upd H1 td (.lst ws)=H2 at t2 g1' g2' hp' k2
  clear tm2 h1 h2 h5 g1 g2 hp
  have rest:∀(k':Nat) (H3:Hp),Same H2 H3->k'+b1.cuts+s1.inn.cuts=b.cuts->tDrop (tBM K "list" (rExtendT K) (tVar 2) (tCons (tCall spBin [] E0 (tCons (tVar 3) tNil)) tNil)) E [some (.ref a),some (.int (k':Int)),some (.ref td),some (.ref p)] H3:=fun k' H3 s3 hk=>by
   have g23:=g2'.mono (Same.tm s3)
   refine⟨_,rfl,.inl ⟨rfl,_,SqL.of (s3 _ _ t2)⟩,_,rfl,.ref p,s1,rfl,g23,by omega,fun r' ys H4 hr' hy s4=>?_⟩
   have s24:=s3.trans s4
   have l1:=g1'.len
   have l2:=hy.len
   refine⟨td,r',ws,ys,rfl,rfl,s24 _ _ t2,SqT.of hr',by omega,fE (b1.app s1.inn).size _ _ (by rw[jQ];omega) ⟨_,b1.app s1.inn,ws++ys,k',rfl,rfl,jd,?_,by rw[zp];omega,by rw[jQ];omega,fun c o nc e=>?_⟩⟩
   ·have tm4:TMono H4 (upd H4 td (.lst (ws++ys))):=fun c zs' e=>by rw[jm (kf e (s24 _ _ t2) (by intro z;cases z))];exact e
    exact(hy.mono tm4).app ((g1'.mono (Same.tm s24)).mono tm4)
   ·rw[jm nc]
    exact s24 _ _ (k2 c o nc e)
  refine seqF fun F1 f1=>midE (fun σ' H'=>∃k':Nat,σ'=[some (.ref a),some (.int (k':Int)),some (.ref td),some (.ref p)]/\Same H2 H'/\k'+b1.cuts+s1.inn.cuts=b.cuts) (fun E2 _ fm=>?_) fun σ' H' h=>?_
  ·clear f1 fE
   refine ifE fun G kT kF=>⟨_,rfl,p,_,_,_,rfl,rfl,SqT.of hp',at0,sz2,fun l nl=>⟨l,_,rfl,.inr (SqT.of jd),rfl,rfl,_,rfl,?_⟩⟩
   cases hv:inV (.str w') [.str "set",.str "give"] with
   |true=>
    rw[hv,if_pos rfl]at hc
    exact kF _ (fm _ _ ⟨k,rfl,jf nl,by omega⟩)
   |false=>
    rw[hv,if_neg Bool.false_ne_true]at hc
    refine kT _ ⟨_,rfl,_,_,rfl,rfl,fm _ _ ⟨k+1,?_,jf nl,by omega⟩⟩
    show [_,some (V.int ((k:Int)+1)),_,_]=[_,some (V.int ((k+1:Nat):Int)),_,_]
    rfl
  ·obtain⟨k',rfl,s3,hk⟩:=h
   exact f1 _ _ (rest k' H' s3 hk)
end K20
namespace K20
open PySem PySem.Spec PyProof.Rows L2
variable {P:Program}{w:World}{K:Frag}{mg:Str->Option Value}{base:Heap}
inductive Gol where
 |go (n:Int) |give (t:Addr)
structure Wy where
 sets:List (Str×Addr)
 goal:Gol
inductive Dd where
 |st (p:Addr) |ask (t:Addr)
structure Ct where
 M:Str->Prop
 d:Dd
 ws:List Wy
structure Pc where
 M:Str->Prop
 w:Wy
def TrH(H:Hp):Tr->V->List V->Prop
 | .lf v,x,_=>x=v/\okV v=true
 | .tp l,x,_=>l.isL=true/\∃a xs,x= .ref a/\H a=some (.tup xs)/\TrH H l .non xs
 | .nil,_,xs=>xs=[]
 | .cons h t,_,xs=>h.isL=false/\t.isL=true/\∃y ys,xs=y::ys/\TrH H h y []/\TrH H t .non ys
theorem TrH.at{K:Frag}{H:Hp}:∀{t:Tr} {x:V} {xs:List V},TrH H t x xs->TrAt K H t x xs:=by
 intro t
 induction t with
 |lf v=>exact fun h=>h
 |tp l ih=>rintro x xs ⟨h,a,ys,e,h1,h2⟩;exact⟨h,a,ys,e,SqT.of h1,ih h2⟩
 |nil=>exact fun h=>h
 |cons h t ih1 ih2=>rintro x xs ⟨e1,e2,y,ys,e,h1,h2⟩;exact⟨e1,e2,y,ys,e,ih1 h1,ih2 h2⟩
theorem TrH.mono{H H':Hp}(k:TMono H H'):∀{t:Tr} {x:V} {xs:List V},TrH H t x xs->TrH H' t x xs:=by
 intro t
 induction t with
 |lf v=>exact fun h=>h
 |tp l ih=>rintro x xs ⟨h,a,ys,e,h1,h2⟩;exact⟨h,a,ys,e,k _ _ h1,ih h2⟩
 |nil=>exact fun h=>h
 |cons h t ih1 ih2=>rintro x xs ⟨e1,e2,y,ys,e,h1,h2⟩;exact⟨e1,e2,y,ys,e,ih1 h1,ih2 h2⟩
noncomputable def listT:List Tr->Tr
 | []=>.nil
 |t::ts=>.cons t (listT ts)
theorem Kv:∀ts:List Tr,(listT ts).isL=true
 | []=>rfl
 |_::_=>rfl
noncomputable def tupT(ts:List Tr):Tr:=.tp (listT ts)
noncomputable def strT(x:Str):Tr:=.lf (.str x)
noncomputable def refT(a:Addr):Tr:=.lf (.ref a)
noncomputable def intT(n:Int):Tr:=.lf (.int n)
section
variable {H:Hp}
theorem jD:TrH H (listT []) .non []:=rfl
theorem js{t:Tr}{ts:List Tr}{y:V}{ys:List V}(h:t.isL=false)(h1:TrH H t y [])(h2:TrH H (listT ts) .non ys):TrH H (listT (t::ts)) .non (y::ys):=⟨h,Kv ts,y,ys,rfl,h1,h2⟩
theorem jJ{ts:List Tr}{a:Addr}{xs:List V}(h:H a=some (.tup xs))(h2:TrH H (listT ts) .non xs):TrH H (tupT ts) (.ref a) []:=⟨Kv ts,a,xs,rfl,h,h2⟩
theorem jV{x:Str}:TrH H (strT x) (.str x) []:=⟨rfl,rfl⟩
theorem zb{a:Addr}:TrH H (refT a) (.ref a) []:=⟨rfl,rfl⟩
theorem zM{n:Int}:TrH H (intT n) (.int n) []:=⟨rfl,rfl⟩
theorem Jg{ss:List Tr}{ys:List V}(h2:TrH H (listT ss) .non ys):∀{ts:List Tr} {xs:List V},TrH H (listT ts) .non xs->TrH H (listT (ts++ss)) .non (xs++ys)
 | [],xs,h=>by have e:xs=[]:=h;rw[e];exact h2
 |t::ts,xs,h=>by obtain⟨e1,_,y,zs,e,h1,h3⟩:=h;rw[e];exact js e1 h1 (Jg h2 h3)
theorem zA:∀{ts:List Tr} {xs:List V},TrH H (listT ts) .non xs->xs.length=ts.length
 | [],xs,h=>by have e:xs=[]:=h;rw[e];rfl
 |t::ts,xs,h=>by obtain⟨_,_,y,zs,e,_,h3⟩:=h;rw[e,List.length_cons,List.length_cons,zA h3]
theorem Qc:∀(ss:List Str),TrH H (listT (ss.map strT)) .non (ss.map V.str)
 | []=>rfl
 |s::ss=>js rfl jV (Qc ss)
theorem XH:∀{ts:List Tr} {xs:List V},TrH H (listT ts) .non xs->TrH H (listT ts.reverse) .non xs.reverse
 | [],xs,h=>by have e:xs=[]:=h;rw[e];rfl
 |t::ts,xs,h=>by
  obtain⟨e1,_,y,zs,e,h1,h3⟩:=h
  rw[e,List.reverse_cons,List.reverse_cons]
  exact Jg (js e1 h1 jD) (XH h3)
theorem Jv:∀{ts:List Tr} {xs:List V},TrH H (listT ts) .non xs->∀(i:Nat) (x:V),xs[i]?=some x->∃t,ts[i]?=some t/\TrH H t x []
 | [],xs,h,i,x,hx=>by have e:xs=[]:=h;rw[e]at hx;simp at hx
 |t::ts,xs,h,0,x,hx=>by obtain⟨_,_,y,zs,e,h1,h3⟩:=h;rw[e]at hx;cases hx;exact⟨t,rfl,h1⟩
 |t::ts,xs,h,i+1,x,hx=>by obtain⟨_,_,y,zs,e,h1,h3⟩:=h;rw[e]at hx;simpa using Jv h3 i x (by simpa using hx)
end
noncomputable def setT(s:Str×Addr):Tr:=tupT [strT s.1,refT s.2]
noncomputable def golT:Gol->Tr
 | .go n=>tupT [strT "go",intT n]
 | .give t=>tupT [strT "give",refT t]
noncomputable def wayT(w:Wy):Tr:=tupT [tupT (w.sets.map setT),golT w.goal]
noncomputable def ddT:Dd->Tr
 | .st p=>refT p
 | .ask t=>tupT [strT "ask",refT t]
noncomputable def ctT(c:Ct):Tr:=tupT [tupT ((canon c.M).map strT),ddT c.d,tupT (c.ws.map wayT)]
theorem golT_l(g:Gol):(golT g).isL=false:=by cases g<;>rfl
theorem ddT_l(d:Dd):(ddT d).isL=false:=by cases d<;>rfl
def PcG(H:Hp)(pc:Pc)(v:V)(g:Addr)(ys:List Str):Prop:=∃(r:Addr) (ss:List Str) (wv:V),v= .ref r/\H r=some (.tup [.ref g,wv])/\NL H g ss pc.M ys/\TrH H (wayT pc.w) wv []
theorem PcG.same{H H':Hp}{pc:Pc}{v:V}{g:Addr}{ys:List Str}(h:PcG H pc v g ys)(s:Same H H'):PcG H' pc v g ys:=by
 obtain⟨r,ss,wv,e,h1,h2,h3⟩:=h
 exact⟨r,ss,wv,e,s _ _ h1,h2.same s,h3.mono (Same.tm s)⟩
theorem PcG.but{H H':Hp}{pc:Pc}{v:V}{g fa:Addr}{ys:List Str}{cs:List V}(h:PcG H pc v g ys)(k:But fa H H')(hf:H fa=some (.lst cs))(ng:g≠fa):PcG H' pc v g ys:=by
 obtain⟨r,ss,wv,e,h1,h2,h3⟩:=h
 have tm:TMono H H':=fun b xs e=>k b _ (kf e hf (by intro z;cases z)) e
 exact⟨r,ss,wv,e,tm _ _ h1,⟨k _ _ ng h2.at',h2.nm,h2.sub,h2.y20⟩,h3.mono tm⟩
noncomputable def Lf.isCut:Lf->Bool
 | .st _ _ _=>false
 | .gv _ _=>false
 |_=>true
noncomputable def Bd.deed:Bd->Dd
 | .lf p _ _=>.st p
 | .ite _ t _ _ _ _=>.ask t
 | .loop _ t _ _ _=>.ask t
 | .nil=>.st 0
def spDeed:Sp:=fun vs H Q _=>∃(v:V) (s:Bd),vs=[v]/\StV H v s/\∀(d:V) (H':Hp),TrH H' (ddT s.deed) d []->Same H H'->Q d H'
def spPgive:Sp:=fun vs H Q _=>∃(t:Addr) (T:Tm) (ys:List Str),vs=[.ref t]/\TmAt H T t/\TmOk ys T/\ys.length<=21/\∀(v:V) (g:Addr) (H':Hp),PcG H' ⟨fun x=>x∈T.vars,⟨[],.give t⟩⟩ v g ys->H g=none->Same H H'->Q v H'
def spNmC(K:Frag):Sp:=fun vs H Q _=>∃a:Addr,vs=[.ref a]/\SqT K H a [.str "num",.int 0]/\∀(r:Addr),H r=none->Q (.ref r) (upd H r (.lst []))
def spPgC(K:Frag):Sp:=fun vs H Q _=>∃(t:Addr) (ys:List Str),vs=[.ref t]/\SqT K H t [.str "num",.int 0]/\ys.length<=21/\∀(v:V) (g:Addr) (H':Hp),PcG H' ⟨fun x=>x∈(Tm.num 0).vars,⟨[],.give t⟩⟩ v g ys->H g=none->Same H H'->Q v H'
open Classical in
noncomputable def setW(x:Str)(t:Addr)(pc:Pc):Wy:=if pc.M x then ⟨(x,t)::pc.w.sets,pc.w.goal⟩ else pc.w
def spPset:Sp:=fun vs H Q _=>∃(v bv:V) (p t:Addr) (x:Str) (T:Tm) (pc:Pc) (g:Addr) (ys:List Str),vs=[v,bv]/\StV H v (.lf p (.st x t T) .nil)/\PcG H pc bv g ys/\x∈ys/\TmOk ys T/\pc.w.sets.length<=10000000/\
 ∀(v':V) (g':Addr) (H':Hp),PcG H' ⟨(Lf.st x t T).use pc.M,setW x t pc⟩ v' g' ys->H g'=none->Same H H'->Q v' H'
theorem scDeed:FnScope ["statement"] ["statement"] (defScope sDeed):=fsc
theorem ok_deed{f:Addr}{fd:FuncData}(F:Fun K "deed_of" "deed_of" sDeed f fd):FnOk P w K mg base CX0 1 f fd ["statement"] spDeed:=by
 refine F.ok scDeed (fun vs H Q E h=>?_) (fun cdv A outer s H vs Q E hr h=>?_)
 ·refine opq fun Gq kq=>?_
  obtain⟨v,s,rfl,_⟩:=h
  refine kq ?_
  clear kq
  rfl
 refine opq fun Gq kq=>?_
 obtain⟨v,st,rfl,hs,q⟩:=h
 refine kq ?_
 clear kq
 refine⟨_,(je (jy (@jl _ _ _ _ _ _ _ _ zq (@jk _ _ _ _ _ _ _ jq (pv 0) jc (fun _ _=>rfl)) (jj (ja ji (ja ji jb))) rfl) (jh (jp (jj (ja ji (ja (@jk _ _ _ _ _ _ _ jq (pv 0) jc (fun _ _=>rfl)) jb))))) jr) (jh (jp (pv 0)))),?_⟩
 try dsimp only[cxOf,Cx.nox,Cx.wish]
 cases hs with
 |lf p l vs h1 h2=>
  cases l with
  |rd x t T=>
   obtain⟨rfl,_⟩:=h2
   refine⟨_,rfl,p,_,_,_,rfl,rfl,SqT.of h1,rfl,sz2,fun l nl=>⟨l,_,rfl,.inr (SqT.of jd),rfl,rfl,_,rfl,ifX (by decide+kernel) ?_⟩⟩
   exact⟨_,rfl,q _ _ zb (jf nl)⟩
  |st x t T=>
   obtain⟨rfl,_⟩:=h2
   refine⟨_,rfl,p,_,_,_,rfl,rfl,SqT.of h1,rfl,sz2,fun l nl=>⟨l,_,rfl,.inr (SqT.of jd),rfl,rfl,_,rfl,ifX (by decide+kernel) ?_⟩⟩
   exact⟨_,rfl,q _ _ zb (jf nl)⟩
  |wr t u T U=>
   obtain⟨rfl,_⟩:=h2
   refine⟨_,rfl,p,_,_,_,rfl,rfl,SqT.of h1,rfl,sz2,fun l nl=>⟨l,_,rfl,.inr (SqT.of jd),rfl,rfl,_,rfl,ifX (by decide+kernel) ?_⟩⟩
   exact⟨_,rfl,q _ _ zb (jf nl)⟩
  |cl x f q2 ts=>
   obtain⟨rfl,_⟩:=h2
   refine⟨_,rfl,p,_,_,_,rfl,rfl,SqT.of h1,rfl,sz2,fun l nl=>⟨l,_,rfl,.inr (SqT.of jd),rfl,rfl,_,rfl,ifX (by decide+kernel) ?_⟩⟩
   exact⟨_,rfl,q _ _ zb (jf nl)⟩
  |gv t T=>
   obtain⟨rfl,_⟩:=h2
   refine⟨_,rfl,p,_,_,_,rfl,rfl,SqT.of h1,rfl,sz2,fun l nl=>⟨l,_,rfl,.inr (SqT.of jd),rfl,rfl,_,rfl,ifX (by decide+kernel) ?_⟩⟩
   exact⟨_,rfl,q _ _ zb (jf nl)⟩
 |ite p t T a b qa qb as bs h1 h0 h2 h3 h4 h5=>
  refine⟨_,rfl,p,_,_,_,rfl,rfl,SqT.of h1,rfl,sz2,fun l nl=>⟨l,_,rfl,.inr (SqT.of jd),rfl,rfl,_,rfl,ifY (by decide+kernel) ?_⟩⟩
  refine⟨_,rfl,p,_,_,_,rfl,rfl,SqT.of (keepN h1 nl),rfl,sz2,fun r nr=>?_⟩
  exact q _ _ (jJ jd (js rfl jV (js rfl zb jD))) ((jf nl).trans (jf nr))
 |loop p t T a qa as h1 h0 h2 h3=>
  refine⟨_,rfl,p,_,_,_,rfl,rfl,SqT.of h1,rfl,sz2,fun l nl=>⟨l,_,rfl,.inr (SqT.of jd),rfl,rfl,_,rfl,ifY (by decide+kernel) ?_⟩⟩
  refine⟨_,rfl,p,_,_,_,rfl,rfl,SqT.of (keepN h1 nl),rfl,sz2,fun r nr=>?_⟩
  exact q _ _ (jJ jd (js rfl jV (js rfl zb jD))) ((jf nl).trans (jf nr))
theorem ok_nmC{f fN:Addr}{fd fdN:FuncData}(F:Fun K "names_in" "names_in" sNamesIn f fd){n:Nat}(cF:Cl P w K mg base (n+1) f fd ["term"] (spNmIn n) "names_in")(mse:mg "set"=none)(mso:mg "sorted"=none):FnOk P w K mg base CX0 (n+2) f fd ["term"] (spNmC K):=by
 refine F.ok scNmIn (fun vs H Q E h=>?_) (fun cdv A outer s H vs Q E hr h=>?_)
 ·obtain⟨a,rfl,_⟩:=h
  rfl
 obtain⟨a,rfl,ha,q⟩:=h
 refine⟨_,(je (jy (@jl _ _ _ _ _ _ _ _ jz (@jk _ _ _ _ _ _ _ jq (pv 0) jc (fun _ _=>rfl)) ji (nomark _)) (jh (jp (jH jb))) jr) (je (jy (@jl _ _ _ _ _ _ _ _ jz (@jk _ _ _ _ _ _ _ jq (pv 0) jc (fun _ _=>rfl)) ji (nomark _)) (jh (jp (jH (ja (@jk _ _ _ _ _ _ _ jq (pv 0) jc (fun _ _=>rfl)) jb)))) jr) (jh (jp (@jB _ _ _ _ _ _ _ _ _ (zG rfl) rfl mso boot_sorted (ja (@jC _ _ _ _ _ _ _ _ _ (qi rfl) rfl mse boot_set (ja (jw zK (jg cF.g hr rfl cF.m cF.k cF.b .nil pass0 (ja (@jk _ _ _ _ _ _ _ jq (pv 0) jc (fun _ _=>rfl)) jb)) (jg cF.g hr rfl cF.m cF.k cF.b .nil pass0 (ja (@jk _ _ _ _ _ _ _ jq (pv 0) jc (fun _ _=>rfl)) jb))) jb) (by decide) (by decide) (by rfl) (by rfl)) jb) (by decide) (by decide) (by rfl) (by rfl)))))),?_⟩
 try dsimp only[cxOf,Cx.nox,Cx.wish]
 refine⟨_,rfl,a,_,_,_,rfl,rfl,ha,rfl,rfl,_,rfl,ifY (by decide+kernel) ?_⟩
 exact⟨sz0,fun r nr=>q r nr⟩
theorem scPgive:FnScope ["term"] ["term"] (defScope sPgive):=fsc
theorem ZP{f:Addr}{fd:FuncData}{fN:Addr}{fdN:FuncData}(F:Fun K "place_of_give" "place_of_give" sPgive f fd)(cN:Cl P w K mg base 7 fN fdN ["term"] (spNmIn 6) "names_in"):FnOk P w K mg base CX0 8 f fd ["term"] spPgive:=by
 refine F.ok scPgive (fun vs H Q E h=>?_) (fun cdv A outer s H vs Q E hr h=>?_)
 ·refine opq fun Gq kq=>?_
  obtain⟨t,T,ys,rfl,_⟩:=h
  refine kq ?_
  clear kq
  rfl
 refine opq fun Gq kq=>?_
 obtain⟨t,T,ys,rfl,hT,ok,hy,q⟩:=h
 refine kq ?_
 clear kq
 refine⟨_,(jh (jp (jj (ja (jg cN.g hr.m rfl cN.m cN.k cN.b .nil pass0 (ja (pv 0) jb)) (ja (jj (ja (jj jb) (ja (jj (ja ji (ja (pv 0) jb))) jb))) jb))))),?_⟩
 try dsimp only[cxOf,Cx.nox,Cx.wish]
 refine⟨_,rfl,t,T,ys,rfl,hT,ok.2,ok.1,hy,fun g ss H1 n1 e1 d1 m1 o1 k1=>?_⟩
 have N1:NL H1 g ss (fun x=>x∈T.vars) ys:=⟨e1,⟨d1,o1,m1⟩,j3 ok.1,hy⟩
 refine⟨sz0,fun e ne=>⟨_,rfl,sz2,fun u nu=>⟨sz2,fun x nx=>⟨sz2,fun r nr=>?_⟩⟩⟩⟩
 have s1:Same H1 (upd (upd (upd (upd H1 e (.tup [])) u (.tup [.str "give",.ref t])) x (.tup [.ref e,.ref u])) r (.tup [.ref g,.ref x])):=(((jf ne).trans (jf nu)).trans (jf nx)).trans (jf nr)
 refine q _ g _ ⟨r,_,.ref x,rfl,jd,N1.same s1,?_⟩ n1 (k1.trans s1)
 exact jJ (keepN jd nr) (js rfl (jJ (keepN (keepN (keepN jd nu) nx) nr) jD) (js rfl (jJ (keepN (keepN jd nx) nr) (js rfl jV (js rfl zb jD))) jD))
theorem ok_pgC{f:Addr}{fd:FuncData}{fN:Addr}{fdN:FuncData}(F:Fun K "place_of_give" "place_of_give" sPgive f fd)(cN:Cl P w K mg base 7 fN fdN ["term"] (spNmC K) "names_in"):FnOk P w K mg base CX0 8 f fd ["term"] (spPgC K):=by
 refine F.ok scPgive (fun vs H Q E h=>?_) (fun cdv A outer s H vs Q E hr h=>?_)
 ·refine opq fun Gq kq=>?_
  obtain⟨t,ys,rfl,_⟩:=h
  refine kq ?_
  clear kq
  rfl
 refine opq fun Gq kq=>?_
 obtain⟨t,ys,rfl,hT,hy,q⟩:=h
 refine kq ?_
 clear kq
 refine⟨_,(jh (jp (jj (ja (jg cN.g hr.m rfl cN.m cN.k cN.b .nil pass0 (ja (pv 0) jb)) (ja (jj (ja (jj jb) (ja (jj (ja ji (ja (pv 0) jb))) jb))) jb))))),?_⟩
 try dsimp only[cxOf,Cx.nox,Cx.wish]
 refine⟨_,rfl,t,rfl,hT,fun g n1=>?_⟩
 have k1:Same H (upd H g (.lst [])):=jf n1
 have N1:NL (upd H g (.lst [])) g [] (fun x=>x∈(Tm.num 0).vars) ys:=⟨jd,⟨List.nodup_nil,rfl,fun x=>Iff.rfl⟩,fun x h=>absurd h List.not_mem_nil,hy⟩
 generalize upd H g (.lst [])=H1 at k1 N1
 refine⟨sz0,fun e ne=>⟨_,rfl,sz2,fun u nu=>⟨sz2,fun x nx=>⟨sz2,fun r nr=>?_⟩⟩⟩⟩
 have s1:Same H1 (upd (upd (upd (upd H1 e (.tup [])) u (.tup [.str "give",.ref t])) x (.tup [.ref e,.ref u])) r (.tup [.ref g,.ref x])):=(((jf ne).trans (jf nu)).trans (jf nx)).trans (jf nr)
 refine q _ g _ ⟨r,_,.ref x,rfl,jd,N1.same s1,?_⟩ n1 (k1.trans s1)
 exact jJ (keepN jd nr) (js rfl (jJ (keepN (keepN (keepN jd nu) nx) nr) jD) (js rfl (jJ (keepN (keepN jd nx) nr) (js rfl jV (js rfl zb jD))) jD))
end K20
namespace K20
open PySem PySem.Spec PyProof.Rows L2
variable {P:Program}{w:World}{K:Frag}{mg:Str->Option Value}{base:Heap}
theorem inV_str{x:Str}{ys:List Str}:inV (.str x) (ys.map V.str)=decide (x∈ys):=by
 by_cases h:x∈ys
 ·rw[decide_eq_true h]
  unfold inV
  rw[List.any_eq_true]
  exact⟨.str x,List.mem_map.mpr ⟨x,h,rfl⟩,by simp [eqV]⟩
 ·rw[decide_eq_false h]
  unfold inV
  rw[Bool.eq_false_iff]
  intro z
  rw[List.any_eq_true]at z
  obtain⟨v,hv,e⟩:=z
  obtain⟨y,hy,rfl⟩:=List.mem_map.mp hv
  have e':x=y∨y=x:=by
   first
    |exact .inl (by simpa [eqV] using e)
    |exact .inr (by simpa [eqV] using e)
  rcases e' with rfl |rfl
  ·exact h hy
  ·exact h hy
theorem way_at{H:Hp}{w:Wy}{v:V}(h:TrH H (wayT w) v []):∃(wa sa:Addr) (sx:List V) (y:V),v= .ref wa/\H wa=some (.tup [.ref sa,y])/\H sa=some (.tup sx)/\TrH H (listT (w.sets.map setT)) .non sx/\TrH H (golT w.goal) y []:=by
 obtain⟨_,wa,xs,rfl,h1,_,_,y1,ys1,e1,⟨_,sa,sx,e2,h2,h3⟩,_,_,y2,ys2,e3,h4,e4⟩:=h
 have e5:ys2=[]:=e4
 rw[e5]at e3
 rw[e3]at e1
 rw[e1,e2]at h1
 exact⟨wa,sa,sx,y2,rfl,h1,h2,h3,h4⟩
theorem scPset:FnScope ["statement","behind","way"] ["statement","behind"] (defScope sPset):=fsc
theorem ok_pset{f:Addr}{fd:FuncData}{fU:Addr}{fdU:FuncData}(F:Fun K "place_of_set" "place_of_set" sPset f fd)(cU:Cl P w K mg base 10 fU fdU ["statement","behind"] (spUof 0) "used_ahead_of"):FnOk P w K mg base CX0 11 f fd ["statement","behind"] spPset:=by
 refine F.ok scPset (fun vs H Q E h=>?_) (fun cdv A outer s H vs Q E hr h=>?_)
 ·refine opq fun Gq kq=>?_
  obtain⟨v,bv,p,t,x,T,pc,g,ys,rfl,_⟩:=h
  refine kq ?_
  clear kq
  rfl
 refine opq fun Gq kq=>?_
 obtain⟨v,bv,p,t,x,T,pc,g,ys,rfl,hs,hp,hx,ok,hl,q⟩:=h
 refine kq ?_
 clear kq
 refine⟨_,(je (jo (i:=2) scPset.nd rfl (Or.inl rfl) (@jk _ _ _ _ _ _ _ jq (pv 1) jc (fun _ _=>rfl))) (je (jT (jy (@jl _ _ _ _ _ _ _ _ zq (@jk _ _ _ _ _ _ _ jq (pv 0) jc (fun _ _=>rfl)) (@jk _ _ _ _ _ _ _ jq (pv 1) jc (fun _ _=>rfl)) rfl) (jh (jo (i:=2) scPset.nd rfl (Or.inl rfl) (jj (ja (jw kB (jj (ja (@jK _ _ _ _ _ _ _ _ _ _ zT (pv 0) (@jF _ _ _ jc) (@jZ _)) jb)) (@jk _ _ _ _ _ _ _ jq (pv 2) jc (fun _ _=>rfl))) (ja (@jk _ _ _ _ _ _ _ jq (pv 2) jc (fun _ _=>rfl)) jb))))) jr)) (jh (jp (jj (ja (jg cU.g hr.m rfl cU.m cU.k cU.b .nil pass0 (ja (pv 0) (ja (@jk _ _ _ _ _ _ _ jq (pv 1) jc (fun _ _=>rfl)) jb))) (ja (pv 2) jb))))))),?_⟩
 try dsimp only[cxOf,Cx.nox,Cx.wish]
 have big:=line24
 obtain⟨r,ss,wv,rfl,hr',hN,hW⟩:=hp
 have h0:=hs
 cases hs with
 |lf _ _ vs h1 h2=>
  obtain⟨rfl,hT⟩:=h2
  obtain⟨wa,sa,sx,y,rfl,hwa,hsa,hsx,hy⟩:=way_at hW
  refine seqF fun F1 f1=>⟨_,rfl,r,_,_,_,rfl,rfl,SqT.of hr',rfl,f1 _ _ ?_⟩
  clear f1
  have sl:=zA hsx
  rw[List.length_map]at sl
  refine seqF fun F1 f1=>midE (fun σ' H'=>∃wv':V,σ'=[some (.ref p),some (.ref r),some wv']/\TrH H' (wayT (setW x t pc)) wv' []/\Same H H') (fun E2 _ fm=>?_) fun σ' H' h=>?_
  ·clear f1
   refine ifE fun G kT kF=>⟨_,rfl,p,_,_,_,rfl,rfl,SqT.of h1,rfl,_,rfl,r,_,_,_,rfl,rfl,SqT.of hr',rfl,g,_,rfl,.inl (SqL.of hN.at'),rfl,Kr _,_,rfl,?_⟩
   rw[inV_str]
   by_cases hx':x∈ss
   ·rw[decide_eq_true hx']
    refine kT _ ⟨_,rfl,_,rfl,p,_,rfl,h1,fun s1 H1 hs1 k1=>⟨sz1,fun u nu=>?_⟩⟩
    have k2:=k1.trans (jf (o:=.tup [.ref s1]) nu)
    refine⟨_,rfl,wa,_,_,_,rfl,rfl,SqT.of (k2 _ _ hwa),rfl,u,sa,_,_,rfl,rfl,jd,k2 _ _ hsa,by show 1+sx.length<=_;omega,fun c H2 hc k3=>?_⟩
    have k4:=k2.trans k3
    refine⟨_,rfl,wa,_,_,_,rfl,rfl,SqT.of (k4 _ _ hwa),rfl,sz2,fun nw nnw=>fm _ _ ⟨.ref nw,rfl,?_,k4.trans (jf nnw)⟩⟩
    have tm:=Same.tm (k4.trans (jf (o:=.tup [.ref c,y]) nnw))
    unfold setW
    rw[if_pos ((hN.nm.mem x).mp hx')]
    refine jJ jd (js rfl (jJ (keepN hc nnw) (js rfl ?_ (hsx.mono tm))) (js (golT_l _) (hy.mono tm) jD))
    exact jJ (keepN (k3 _ _ (keepN hs1 nu)) nnw) (js rfl jV (js rfl zb jD))
   ·rw[decide_eq_false hx']
    refine kF _ (fm _ _ ⟨_,rfl,?_,Same.refl _⟩)
    unfold setW
    rw[if_neg fun w=>hx' ((hN.nm.mem x).mpr w)]
    exact hW
  ·obtain⟨wv',rfl,hw',k⟩:=h
   refine f1 _ _ ?_
   clear f1
   refine⟨_,rfl,_,rfl,r,_,_,_,rfl,rfl,SqT.of (k _ _ hr'),rfl,.ref p,g,.lf p (.st x t T) .nil,ss,pc.M,ys,rfl,h0.mono (Same.tm k),hN.same k,⟨⟨hx,ok⟩,trivial⟩,(by show 0 < 1;decide),(by show 0+1<=10000000;decide),fun g' zs H3 n3 N3 k3=>?_⟩
   refine⟨_,rfl,sz2,fun r' nr'=>q _ g' _ ⟨r',zs,wv',rfl,jd,N3.same (jf nr'),hw'.mono (Same.tm (k3.trans (jf nr')))⟩ (k.free n3) ((k.trans k3).trans (jf nr'))⟩
noncomputable abbrev sBoM:Stmt:=inClass (top 31) 1
noncomputable abbrev sPlM:Stmt:=inClass (top 31) 2
noncomputable abbrev sCuM:Stmt:=inClass (top 31) 3
noncomputable abbrev sWaM:Stmt:=inClass (top 31) 4
noncomputable abbrev sIniM:Stmt:=inClass (top 31) 0
noncomputable def pL(m:Int)(p:Addr)(l:Lf)(q:Pc×List Ct):Pc×List Ct:=match l with
 | .gv t T=>(⟨fun x=>x∈T.vars,⟨[],.give t⟩⟩,q.2)
 | .st x t T=>(⟨(Lf.st x t T).use q.1.M,setW x t q.1⟩,q.2)
 | .rd x t T=>(⟨(Lf.rd x t T).use q.1.M,⟨[],.go (m - (q.2.length:Int) - 1)⟩⟩,q.2++[⟨(Lf.rd x t T).use q.1.M,.st p,[q.1.w]⟩])
 | .wr t u T U=>(⟨(Lf.wr t u T U).use q.1.M,⟨[],.go (m - (q.2.length:Int) - 1)⟩⟩,q.2++[⟨(Lf.wr t u T U).use q.1.M,.st p,[q.1.w]⟩])
 | .cl x f a ts=>(⟨(Lf.cl x f a ts).use q.1.M,⟨[],.go (m - (q.2.length:Int) - 1)⟩⟩,q.2++[⟨(Lf.cl x f a ts).use q.1.M,.st p,[q.1.w]⟩])
noncomputable def pB(m:Int):Bd->Pc->List Ct->Pc×List Ct
 | .nil,pc,fs=>(pc,fs)
 | .lf p l r,pc,fs=>pL m p l (pB m r pc fs)
 | .ite p t T a b r,pc,fs=>
  let q:=pB m r pc fs
  let o:=pB m b q.1 q.2
  let s:=pB m a q.1 o.2
  (⟨(Bd.ite p t T a b .nil).use q.1.M,⟨[],.go (m - (q.2.length:Int) - ((Bd.ite p t T a b .nil).cuts:Int))⟩⟩,s.2++[⟨(Bd.ite p t T a b .nil).use q.1.M,.ask t,[s.1.w,o.1.w]⟩])
 | .loop p t T a r,pc,fs=>
  let q:=pB m r pc fs
  let pl:Pc:=⟨(Bd.loop p t T a .nil).use q.1.M,⟨[],.go (m - (q.2.length:Int) - ((Bd.loop p t T a .nil).cuts:Int))⟩⟩
  let s:=pB m a pl q.2
  (pl,s.2++[⟨(Bd.loop p t T a .nil).use q.1.M,.ask t,[s.1.w,q.1.w]⟩])
theorem Jw(m:Int):∀(a b:Bd) (pc:Pc) (fs:List Ct),pB m (a.app b) pc fs=pB m a (pB m b pc fs).1 (pB m b pc fs).2
 | .nil,_,_,_=>rfl
 | .lf p l r,b,pc,fs=>by show pL m p l (pB m (r.app b) pc fs)=pL m p l (pB m r _ _);rw[Jw m r b pc fs]
 | .ite p t T x y r,b,pc,fs=>by
  have e:=Jw m r b pc fs
  show pB m (.ite p t T x y (r.app b)) pc fs=_
  unfold pB
  rw[e]
 | .loop p t T x r,b,pc,fs=>by
  have e:=Jw m r b pc fs
  show pB m (.loop p t T x (r.app b)) pc fs=_
  unfold pB
  rw[e]
theorem j5(m:Int):∀(b:Bd) (pc:Pc) (fs:List Ct),(pB m b pc fs).2.length=fs.length+b.cuts
 | .nil,_,_=>rfl
 | .lf p l r,pc,fs=>by
  have e:=j5 m r pc fs
  show(pL m p l (pB m r pc fs)).2.length=fs.length+(l.cut+r.cuts)
  cases l with
  |rd x t T=>show((pB m r pc fs).2++[_]).length=fs.length+(1+r.cuts);rw[List.length_append,e];show _+1=_;omega
  |st x t T=>show(pB m r pc fs).2.length=fs.length+(0+r.cuts);omega
  |wr t u T U=>show((pB m r pc fs).2++[_]).length=fs.length+(1+r.cuts);rw[List.length_append,e];show _+1=_;omega
  |cl x f a ts=>show((pB m r pc fs).2++[_]).length=fs.length+(1+r.cuts);rw[List.length_append,e];show _+1=_;omega
  |gv t T=>show(pB m r pc fs).2.length=fs.length+(0+r.cuts);omega
 | .ite p t T x y r,pc,fs=>by
  have e:=j5 m r pc fs
  show((pB m x _ (pB m y _ _).2).2++[_]).length=_
  rw[List.length_append,j5 m x,j5 m y,e]
  show _+1=fs.length+(1+x.cuts+y.cuts+r.cuts)
  omega
 | .loop p t T x r,pc,fs=>by
  have e:=j5 m r pc fs
  show((pB m x _ _).2++[_]).length=_
  rw[List.length_append,j5 m x,e]
  show _+1=fs.length+(1+x.cuts+r.cuts)
  omega
theorem Qd(x:Str)(t:Addr)(pc:Pc):(setW x t pc).sets.length<=pc.w.sets.length+1:=by
 unfold setW
 split
 ·exact Nat.le_refl _
 ·exact Nat.le_succ _
theorem XI(m:Int):∀(b:Bd) (pc:Pc) (fs:List Ct),(pB m b pc fs).1.w.sets.length<=pc.w.sets.length+b.size
 | .nil,_,_=>Nat.le_refl _
 | .lf p l r,pc,fs=>by
  have e:=XI m r pc fs
  show(pL m p l (pB m r pc fs)).1.w.sets.length<=pc.w.sets.length+(r.size+1)
  cases l with
  |st x t T=>have:=Qd x t (pB m r pc fs).1;show(setW x t (pB m r pc fs).1).sets.length<=_;omega
  |_=>exact Nat.zero_le _
 | .ite p t T x y r,pc,fs=>Nat.zero_le _
 | .loop p t T x r,pc,fs=>Nat.zero_le _
theorem j9:∀b:Bd,b.cuts<=b.size
 | .nil=>Nat.le_refl _
 | .lf _ l r=>by
  have:=j9 r
  have h:l.cut<=1:=by cases l<;>first |exact Nat.le_refl _ |exact Nat.zero_le _
  show l.cut+r.cuts<=r.size+1
  omega
 | .ite _ _ _ a b r=>by have:=j9 a;have:=j9 b;have:=j9 r;show 1+a.cuts+b.cuts+r.cuts<=a.size+b.size+r.size+1;omega
 | .loop _ _ _ a r=>by have:=j9 a;have:=j9 r;show 1+a.cuts+r.cuts<=a.size+r.size+1;omega
structure CK(K:Frag)(C:Addr):Prop where
 cl:Cls K C
 nm:NoAttr K C "many"
 nf:NoAttr K C "found"
structure Cg(H:Hp)(C ia dx fa:Addr)(m:Int)(cts:List Ct)(cs:List V):Prop where
 ins:H ia=some (.ins C dx [("many",.int m),("found",.ref fa)])
 fd:H fa=some (.lst cs)
 tr:TrH H (listT (cts.map ctT)) .non cs
theorem Cg.same{H H':Hp}{C ia dx fa:Addr}{m:Int}{cts:List Ct}{cs:List V}(h:Cg H C ia dx fa m cts cs)(s:Same H H'):Cg H' C ia dx fa m cts cs:=⟨s _ _ h.ins,s _ _ h.fd,h.tr.mono (Same.tm s)⟩
theorem Cg.len{H:Hp}{C ia dx fa:Addr}{m:Int}{cts:List Ct}{cs:List V}(h:Cg H C ia dx fa m cts cs):cs.length=cts.length:=by rw[zA h.tr,List.length_map]
theorem Cg.tm{H H':Hp}{C ia dx fa:Addr}{m:Int}{cts:List Ct}{cs:List V}(h:Cg H C ia dx fa m cts cs)(k:But fa H H'):TMono H H':=fun b xs e=>k b _ (kf e h.fd (by intro z;cases z)) e
structure In17(H:Hp)(C ia dx fa:Addr)(m:Int)(cts:List Ct)(cs:List V)(pc:Pc)(bv:V)(g:Addr)(ys:List Str)(b:Bd):Prop where
 c:Cg H C ia dx fa m cts cs
 p:PcG H pc bv g ys
 ng:g≠fa
 ok:b.Ok ys
 sz:cts.length+pc.w.sets.length+b.size<=10000000
def Out17(H:Hp)(C ia dx fa:Addr)(m:Int)(ys:List Str)(q:Pc×List Ct)(Q:VK):Prop:=∀(v':V) (g':Addr) (cs':List V) (H':Hp),PcG H' q.1 v' g' ys->g'≠fa->Cg H' C ia dx fa m q.2 cs'->But fa H H'->Q v' H'
def spPB(C:Addr)(n:Nat):Sp:=fun vs H Q _=>∃(ia dx fa a g:Addr) (m:Int) (cts:List Ct) (cs xs:List V) (pc:Pc) (bv:V) (ys:List Str) (b:Bd),vs=[.ref ia,.ref a,bv]/\In17 H C ia dx fa m cts cs pc bv g ys b/\H a=some (.tup xs)/\BdV H b xs/\b.dep < n/\Out17 H C ia dx fa m ys (pB m b pc cts) Q
def spPO(C:Addr)(n:Nat):Sp:=fun vs H Q _=>∃(ia dx fa g:Addr) (m:Int) (cts:List Ct) (cs:List V) (pc:Pc) (v bv:V) (ys:List Str) (s:Bd),vs=[.ref ia,v,bv]/\In17 H C ia dx fa m cts cs pc bv g ys s/\StV H v s/\s.dep < n+1/\Out17 H C ia dx fa m ys (pB m s pc cts) Q
noncomputable def Bd.isCut:Bd->Bool
 | .lf _ l _=>l.isCut
 | .nil=>false
 |_=>true
def spPC(C:Addr)(n:Nat):Sp:=fun vs H Q _=>∃(ia dx fa g:Addr) (m:Int) (cts:List Ct) (cs:List V) (pc:Pc) (v bv:V) (ys:List Str) (s:Bd),vs=[.ref ia,v,bv]/\In17 H C ia dx fa m cts cs pc bv g ys s/\StV H v s/\s.dep < n+1/\s.isCut=true/\Out17 H C ia dx fa m ys (pB m s pc cts) Q
noncomputable def waysOf(m:Int)(pl:Pc)(pc:Pc)(fs:List Ct):Bd->List Wy×List Ct
 | .ite _ _ _ a b _=>([(pB m a pc (pB m b pc fs).2).1.w,(pB m b pc fs).1.w],(pB m a pc (pB m b pc fs).2).2)
 | .loop _ _ _ a _=>([(pB m a pl fs).1.w,pc.w],(pB m a pl fs).2)
 |_=>([pc.w],fs)
def spWO(C:Addr)(n:Nat):Sp:=fun vs H Q _=>∃(ia dx fa g g2:Addr) (m:Int) (cts:List Ct) (cs:List V) (pc pl:Pc) (v bv pv:V) (ys:List Str) (s:Bd),vs=[.ref ia,v,pv,bv]/\In17 H C ia dx fa m cts cs pc bv g ys s/\PcG H pl pv g2 ys/\g2≠fa/\pl.w.sets=[]/\StV H v s/\s.dep < n+1/\
 ∀(wv:V) (cs':List V) (H':Hp),TrH H' (tupT ((waysOf m pl pc cts s).1.map wayT)) wv []->Cg H' C ia dx fa m (waysOf m pl pc cts s).2 cs'->But fa H H'->Q wv H'
theorem QF{H:Hp}{v:V}{s:Bd}(h:StV H v s)(hc:s.isCut=true)(m:Int)(pc:Pc)(fs:List Ct):
  pB m s pc fs=(⟨s.use pc.M,⟨[],.go (m - (fs.length:Int) - (s.cuts:Int))⟩⟩,(waysOf m ⟨s.use pc.M,⟨[],.go (m - (fs.length:Int) - (s.cuts:Int))⟩⟩ pc fs s).2++[⟨s.use pc.M,s.deed,(waysOf m ⟨s.use pc.M,⟨[],.go (m - (fs.length:Int) - (s.cuts:Int))⟩⟩ pc fs s).1⟩]):=by
 cases h with
 |lf p l vs h1 h2=>
  cases l with
  |rd x t T=>rfl
  |st x t T=>cases hc
  |wr t u T U=>rfl
  |cl x f a ts=>rfl
  |gv t T=>cases hc
 |ite p t T a b qa qb as bs h1 h0 h2 h3 h4 h5=>rfl
 |loop p t T a qa as h1 h0 h2 h3=>rfl
theorem way1{H:Hp}{pc:Pc}{v:V}{g:Addr}{ys:List Str}(h:PcG H pc v g ys):∃(r:Addr) (wv:V),v= .ref r/\H r=some (.tup [.ref g,wv])/\TrH H (wayT pc.w) wv []:=by
 obtain⟨r,ss,wv,e,h1,h2,h3⟩:=h
 exact⟨r,wv,e,h1,h3⟩
theorem scWa:FnScope ["self","statement","place","behind","other"] ["self","statement","place","behind"] (defScope sWaM):=fsc
theorem ok_wa{f:Addr}{fd:FuncData}{C fB:Addr}{fdB:FuncData}{n:Nat}(F:Fun K "ways_of" "Cutting.ways_of" sWaM f fd)(ck:CK K C)(GB:FnOk P w K mg base CX0 (4*n+31) fB fdB ["self","body","behind"] (spPB C n))(bB:Binds K fdB ["self","body","behind"] [])(hB:Meth K C "place_of_body" fB):FnOk P w K mg base CX0 (4*n+32) f fd ["self","statement","place","behind"] (spWO C n):=by
 refine F.ok scWa (fun vs H Q E h=>?_) (fun cdv A outer s H vs Q E hr h=>?_)
 ·refine opq fun Gq kq=>?_
  obtain⟨ia,dx,fa,g,g2,m,cts,cs,pc,pl,v,bv,pv,ys,s,rfl,_⟩:=h
  refine kq ?_
  clear kq
  rfl
 refine opq fun Gq kq=>?_
 obtain⟨ia,dx,fa,g,g2,m,cts,cs,pc,pl,v,bv,plv,ys,st,rfl,I,hpl,ng2,hps,hs,hd,q⟩:=h
 refine kq ?_
 clear kq
 refine⟨_,(je (jy (@jl _ _ _ _ _ _ _ _ jz (@jk _ _ _ _ _ _ _ jq (pv 1) jc (fun _ _=>rfl)) ji (nomark _)) (je (jo (i:=4) scWa.nd rfl (Or.inl rfl) (@zw _ _ _ _ _ _ _ _ _ _ _ _ _ _ _ _ _ _ _ _ (pv 0) ck.cl hB GB hr.m bB .nil pass0 (ja (@jk _ _ _ _ _ _ _ jq (pv 1) jc (fun _ _=>rfl)) (ja (pv 3) jb)) (by rfl) (by rfl) (by rfl))) (jh (jp (jj (ja (@jk _ _ _ _ _ _ _ jq (@zw _ _ _ _ _ _ _ _ _ _ _ _ _ _ _ _ _ _ _ _ (pv 0) ck.cl hB GB hr.m bB .nil pass0 (ja (@jk _ _ _ _ _ _ _ jq (pv 1) jc (fun _ _=>rfl)) (ja (pv 3) jb)) (by rfl) (by rfl) (by rfl)) jc (fun _ _=>rfl)) (ja (@jk _ _ _ _ _ _ _ jq (pv 4) jc (fun _ _=>rfl)) jb)))))) jr) (je (jy (@jl _ _ _ _ _ _ _ _ jz (@jk _ _ _ _ _ _ _ jq (pv 1) jc (fun _ _=>rfl)) ji (nomark _)) (jh (jp (jj (ja (@jk _ _ _ _ _ _ _ jq (@zw _ _ _ _ _ _ _ _ _ _ _ _ _ _ _ _ _ _ _ _ (pv 0) ck.cl hB GB hr.m bB .nil pass0 (ja (@jk _ _ _ _ _ _ _ jq (pv 1) jc (fun _ _=>rfl)) (ja (pv 2) jb)) (by rfl) (by rfl) (by rfl)) jc (fun _ _=>rfl)) (ja (@jk _ _ _ _ _ _ _ jq (pv 3) jc (fun _ _=>rfl)) jb))))) jr) (jh (jp (jj (ja (@jk _ _ _ _ _ _ _ jq (pv 3) jc (fun _ _=>rfl)) jb)))))),?_⟩
 try dsimp only[cxOf,Cx.nox,Cx.wish]
 have big:=line24
 obtain⟨br,bw,rfl,hbr,hbw⟩:=way1 I.p
 cases hs with
 |lf p l vs h1 h2=>
  have fin:tRet (tTup (tCons (tOp (rIxT K) (tVar 3) (tC (V.int 1))) tNil)) { nx:=fun x H'=>Q V.non H',rt:=Q } [some (.ref ia),some (.ref p),some plv,some (.ref br),none] H:=by
   refine⟨_,rfl,br,_,_,_,rfl,rfl,SqT.of hbr,rfl,sz1,fun r nr=>q (.ref r) cs _ (jJ jd (js rfl (hbw.mono (Same.tm (jf nr))) jD)) (I.c.same (jf nr)) (But.of_same (jf nr))⟩
  cases l with
  |rd x t T=>
   obtain⟨rfl,_⟩:=h2
   refine⟨_,rfl,p,_,_,_,rfl,rfl,SqT.of h1,rfl,rfl,_,rfl,ifX (by decide+kernel) ?_⟩
   refine⟨_,rfl,p,_,_,_,rfl,rfl,SqT.of h1,rfl,rfl,_,rfl,ifX (by decide+kernel) ?_⟩
   exact fin
  |st x t T=>
   obtain⟨rfl,_⟩:=h2
   refine⟨_,rfl,p,_,_,_,rfl,rfl,SqT.of h1,rfl,rfl,_,rfl,ifX (by decide+kernel) ?_⟩
   refine⟨_,rfl,p,_,_,_,rfl,rfl,SqT.of h1,rfl,rfl,_,rfl,ifX (by decide+kernel) ?_⟩
   exact fin
  |wr t u T U=>
   obtain⟨rfl,_⟩:=h2
   refine⟨_,rfl,p,_,_,_,rfl,rfl,SqT.of h1,rfl,rfl,_,rfl,ifX (by decide+kernel) ?_⟩
   refine⟨_,rfl,p,_,_,_,rfl,rfl,SqT.of h1,rfl,rfl,_,rfl,ifX (by decide+kernel) ?_⟩
   exact fin
  |cl x f q2 ts=>
   obtain⟨rfl,_⟩:=h2
   refine⟨_,rfl,p,_,_,_,rfl,rfl,SqT.of h1,rfl,rfl,_,rfl,ifX (by decide+kernel) ?_⟩
   refine⟨_,rfl,p,_,_,_,rfl,rfl,SqT.of h1,rfl,rfl,_,rfl,ifX (by decide+kernel) ?_⟩
   exact fin
  |gv t T=>
   obtain⟨rfl,_⟩:=h2
   refine⟨_,rfl,p,_,_,_,rfl,rfl,SqT.of h1,rfl,rfl,_,rfl,ifX (by decide+kernel) ?_⟩
   refine⟨_,rfl,p,_,_,_,rfl,rfl,SqT.of h1,rfl,rfl,_,rfl,ifX (by decide+kernel) ?_⟩
   exact fin
 |ite p t T a b qa qb as bs h1 h0 h2 h3 h4 h5=>
  refine⟨_,rfl,p,_,_,_,rfl,rfl,SqT.of h1,rfl,rfl,_,rfl,ifY (by decide+kernel) ?_⟩
  have hd':max (max a.dep b.dep+1) 0 < n+1:=hd
  have hz:cts.length+pc.w.sets.length+(a.size+b.size+0+1)<=10000000:=I.sz
  have ok:=I.ok
  refine seqF fun F1 f1=>⟨_,rfl,ia,dx,_,rfl,I.c.ins,rfl,_,rfl,p,_,_,_,rfl,rfl,SqT.of h1,rfl,_,rfl,ia,dx,fa,qb,g,m,cts,cs,bs,pc,.ref br,ys,b,rfl,⟨I.c,I.p,I.ng,ok.2.2.1,by omega⟩,h3,h5,by omega,fun v1 g1 cs1 H1 p1 n1 c1 k1=>f1 _ _ ?_⟩
  clear f1
  have tm:=I.c.tm k1
  have lc:=j5 m b pc cts
  have cb:=j9 b
  refine⟨_,rfl,ia,dx,_,rfl,c1.ins,rfl,_,rfl,p,_,_,_,rfl,rfl,SqT.of (tm _ _ h1),rfl,_,rfl,ia,dx,fa,qa,g,m,_,cs1,as,pc,.ref br,ys,a,rfl,⟨c1,I.p.but k1 I.c.fd I.ng,I.ng,ok.2.1,by omega⟩,tm _ _ h2,h4.mono tm,by omega,fun v2 g2 cs2 H2 p2 n2 c2 k2=>?_⟩
  obtain⟨r2,w2,rfl,hr2,hw2⟩:=way1 p2
  obtain⟨r1,w1,rfl,hr1,hw1⟩:=way1 (p1.but k2 c1.fd n1)
  refine⟨r2,_,_,_,rfl,rfl,SqT.of hr2,rfl,_,rfl,r1,_,_,_,rfl,rfl,SqT.of hr1,rfl,sz2,fun r nr=>q (.ref r) cs2 _ (jJ jd (js rfl (hw2.mono (Same.tm (jf nr))) (js rfl (hw1.mono (Same.tm (jf nr))) jD))) (c2.same (jf nr)) ((k1.trans k2).trans (But.of_same (jf nr)))⟩
 |loop p t T a qa as h1 h0 h2 h3=>
  refine⟨_,rfl,p,_,_,_,rfl,rfl,SqT.of h1,rfl,rfl,_,rfl,ifX (by decide+kernel) ?_⟩
  refine⟨_,rfl,p,_,_,_,rfl,rfl,SqT.of h1,rfl,rfl,_,rfl,ifY (by decide+kernel) ?_⟩
  have hd':max (a.dep+1) 0 < n+1:=hd
  have hz:cts.length+pc.w.sets.length+(a.size+0+1)<=10000000:=I.sz
  have ok:=I.ok
  refine⟨_,rfl,ia,dx,_,rfl,I.c.ins,rfl,_,rfl,p,_,_,_,rfl,rfl,SqT.of h1,rfl,_,rfl,ia,dx,fa,qa,g2,m,cts,cs,as,pl,plv,ys,a,rfl,⟨I.c,hpl,ng2,ok.2.1,by rw[hps];show cts.length+0+a.size<=_;omega⟩,h2,h3,by omega,fun v1 g1 cs1 H1 p1 n1 c1 k1=>?_⟩
  obtain⟨r1,w1,rfl,hr1,hw1⟩:=way1 p1
  have tm:=I.c.tm k1
  refine⟨r1,_,_,_,rfl,rfl,SqT.of hr1,rfl,_,rfl,br,_,_,_,rfl,rfl,SqT.of (tm _ _ hbr),rfl,sz2,fun r nr=>q (.ref r) cs1 _ (jJ jd (js rfl (hw1.mono (Same.tm (jf nr))) (js rfl ((hbw.mono tm).mono (Same.tm (jf nr))) jD))) (c1.same (jf nr)) (k1.trans (But.of_same (jf nr)))⟩
theorem scCu:FnScope ["self","statement","behind","n","names","place","ways"] ["self","statement","behind"] (defScope sCuM):=fsc
theorem ok_cu{f:Addr}{fd:FuncData}{C fW fM fU fD:Addr}{fdW fdM fdU fdD:FuncData}{n:Nat}(F:Fun K "place_of_cut" "Cutting.place_of_cut" sCuM f fd)(ck:CK K C)(h7:n<=7)(GW:FnOk P w K mg base CX0 (4*n+32) fW fdW ["self","statement","place","behind"] (spWO C n))(bW:Binds K fdW ["self","statement","place","behind"] [])(hW:Meth K C "ways_of" fW)(cM:Cl P w K mg base 2 fM fdM ["body"] spMany "many_cuts")(cU:Cl P w K mg base 31 fU fdU ["statement","behind"] (spUof 7) "used_ahead_of")(cD:Cl P w K mg base 1 fD fdD ["statement"] spDeed "deed_of")(ml:mg "len"=none)(mtu:mg "tuple"=none):FnOk P w K mg base CX0 (4*n+33) f fd ["self","statement","behind"] (spPC C n):=by
 refine F.ok scCu (fun vs H Q E h=>?_) (fun cdv A outer s H vs Q E hr h=>?_)
 ·refine opq fun Gq kq=>?_
  obtain⟨ia,dx,fa,g,m,cts,cs,pc,v,bv,ys,s,rfl,_⟩:=h
  refine kq ?_
  clear kq
  rfl
 refine opq fun Gq kq=>?_
 obtain⟨ia,dx,fa,g,m,cts,cs,pc,v,bv,ys,st,rfl,I,hs,hd,hc,q⟩:=h
 refine kq ?_
 clear kq
 refine⟨_,(je (jo (i:=3) scCu.nd rfl (Or.inl rfl) (jw kR (jw kR (@Ky _ _ _ _ _ (pv 0) rfl) (@jB _ _ _ _ _ _ _ _ _ jL rfl ml PySem.boot_len (ja (@Ky _ _ _ _ _ (pv 0) rfl) jb) (by decide) (by decide) (by rfl) (by rfl))) (jg cM.g hr.m rfl cM.m cM.k cM.b .nil pass0 (ja (jj (ja (pv 1) jb)) jb)))) (je (jo (i:=4) scCu.nd rfl (Or.inl rfl) (jg cU.g hr.m rfl cU.m cU.k cU.b .nil pass0 (ja (pv 1) (ja (@jk _ _ _ _ _ _ _ jq (pv 2) jc (fun _ _=>rfl)) jb)))) (je (jo (i:=5) scCu.nd rfl (Or.inl rfl) (jj (ja (pv 4) (ja (jj (ja (jj jb) (ja (jj (ja ji (ja (pv 3) jb))) jb))) jb)))) (je (jo (i:=6) scCu.nd rfl (Or.inl rfl) (@zw _ _ _ _ _ _ _ _ _ _ _ _ _ _ _ _ _ _ _ _ (pv 0) ck.cl hW GW hr.m bW .nil pass0 (ja (pv 1) (ja (pv 5) (ja (pv 2) jb))) (by rfl) (by rfl) (by rfl))) (je (jY (@kD _ _ _ _ _ _ _ _ _ _ _ _ PySem.F.plainAttrs_list PySem.F.slot_list_append PySem.F.type_list_append jP (@Ky _ _ _ _ _ (pv 0) rfl) (ja (jj (ja (@jC _ _ _ _ _ _ _ _ _ jI rfl mtu boot_tuple (ja (pv 4) jb) (by decide) (by decide) (by rfl) (by rfl)) (ja (jg cD.g hr.m rfl cD.m cD.k cD.b .nil pass0 (ja (pv 1) jb)) (ja (pv 6) jb)))) jb) (by rfl) (by rfl) (by rfl) (by rfl) (by rfl))) (jh (jp (pv 5)))))))),?_⟩
 try dsimp only[cxOf,Cx.nox,Cx.wish]
 have big:=line24
 obtain⟨br,ss,bw,rfl,hbr,hN,hbw⟩:=id I.p
 have hz:=I.sz
 have lc:=I.c.len
 refine seqF fun F1 f1=>⟨_,rfl,ia,C,dx,_,_,rfl,I.c.ins,ck.cl,ck.nm,rfl,_,rfl,ia,C,dx,_,_,rfl,I.c.ins,ck.cl,ck.nf,rfl,fa,_,rfl,.inl (SqL.of I.c.fd),_,_,rfl,rfl,_,rfl,sz1,fun u nu=>?_⟩
 have s1:Same H (upd H u (.tup [v])):=jf nu
 refine⟨u,st,_,rfl,jd,(hs.mono (Same.tm s1)).bd,by omega,fun H1 k1=>⟨_,_,rfl,rfl,f1 _ _ ?_⟩⟩
 clear f1
 have s2:=s1.trans k1
 rw[lc]
 refine seqF fun F1 f1=>⟨_,rfl,_,rfl,br,_,_,_,rfl,rfl,SqT.of (s2 _ _ hbr),rfl,v,g,st,ss,pc.M,ys,rfl,hs.mono (Same.tm s2),hN.same s2,I.ok,by omega,by omega,fun g2 zs H2 n2 N2 k2=>f1 _ _ ?_⟩
 clear f1
 have s3:=s2.trans k2
 have ng2:g2≠fa:=fun e=>by rw[e,s2 _ _ I.c.fd]at n2;cases n2
 refine seqF fun F1 f1=>⟨_,rfl,sz0,fun e ne=>⟨_,rfl,sz2,fun u2 nu2=>⟨sz2,fun x nx=>⟨sz2,fun r nr=>f1 _ _ ?_⟩⟩⟩⟩
 clear f1
 have s4:Same H2 (upd (upd (upd (upd H2 e (.tup [])) u2 (.tup [.str "go",.int (m - (cts.length:Int) - (st.cuts:Int))])) x (.tup [.ref e,.ref u2])) r (.tup [.ref g2,.ref x])):=(((jf ne).trans (jf nu2)).trans (jf nx)).trans (jf nr)
 have P4:PcG (upd (upd (upd (upd H2 e (.tup [])) u2 (.tup [.str "go",.int (m - (cts.length:Int) - (st.cuts:Int))])) x (.tup [.ref e,.ref u2])) r (.tup [.ref g2,.ref x])) ⟨st.use pc.M,⟨[],.go (m - (cts.length:Int) - (st.cuts:Int))⟩⟩ (.ref r) g2 ys:=
  ⟨r,zs,.ref x,rfl,jd,N2.same s4,jJ (keepN jd nr) (js rfl (jJ (keepN (keepN (keepN jd nu2) nx) nr) jD) (js rfl (jJ (keepN (keepN jd nx) nr) (js rfl jV (js rfl zM jD))) jD))⟩
 generalize upd (upd (upd (upd H2 e (.tup [])) u2 (.tup [.str "go",.int (m - (cts.length:Int) - (st.cuts:Int))])) x (.tup [.ref e,.ref u2])) r (.tup [.ref g2,.ref x])=H4 at s4 P4
 have s5:=s3.trans s4
 have c5:=I.c.same s5
 refine seqF fun F1 f1=>⟨_,rfl,ia,dx,_,rfl,c5.ins,rfl,_,rfl,_,rfl,_,rfl,ia,dx,fa,g,g2,m,cts,cs,pc,_,v,.ref br,.ref r,ys,st,rfl,⟨c5,I.p.same s5,I.ng,I.ok,I.sz⟩,P4,ng2,rfl,hs.mono (Same.tm s5),hd,fun wv cs6 H6 w6 c6 k6=>f1 _ _ ?_⟩
 clear f1
 have tm6:=c5.tm k6
 have p6:=P4.but k6 c5.fd ng2
 have z6:H6 g2=some (.lst (zs.map V.str)):=k6 _ _ ng2 (s4 _ _ N2.at')
 have ez:=N2.nm.canon
 have l6:=c6.len
 have lw:(waysOf m ⟨st.use pc.M,⟨[],.go (m - (cts.length:Int) - (st.cuts:Int))⟩⟩ pc cts st).2.length+1=cts.length+st.cuts:=by
  have:=j5 m st pc cts
  rw[QF hs hc m pc cts,List.length_append]at this
  exact this
 have cl:=j9 st
 refine seqF fun F1 f1=>⟨_,rfl,ia,C,dx,_,_,rfl,c6.ins,ck.cl,ck.nf,rfl,.inl ⟨rfl,_,SqL.of c6.fd⟩,_,rfl,g2,_,rfl,.inl ⟨SqL.of z6,fun nt nnt=>?_⟩⟩
 have s7:Same H6 (upd H6 nt (.tup (zs.map V.str))):=jf nnt
 refine⟨_,rfl,v,st,rfl,((hs.mono (Same.tm s5)).mono tm6).mono (Same.tm s7),fun d H8 d8 k8=>⟨_,rfl,sz3,fun ct nct=>?_⟩⟩
 have s9:=(s7.trans k8).trans (jf (o:=.tup [.ref nt,d,wv]) nct)
 have c9:=c6.same s9
 refine⟨fa,cs6,_,rfl,rfl,c9.fd,by omega,f1 _ _ ?_⟩
 clear f1
 have T9:TrH (upd H8 ct (.tup [.ref nt,d,wv])) (ctT ⟨st.use pc.M,st.deed,(waysOf m ⟨st.use pc.M,⟨[],.go (m - (cts.length:Int) - (st.cuts:Int))⟩⟩ pc cts st).1⟩) (.ref ct) []:=by
  refine jJ jd (js rfl (jJ (keepN (k8 _ _ jd) nct) ?_) (js (ddT_l _) (d8.mono (Same.tm (jf nct))) (js rfl (w6.mono (Same.tm s9)) jD)))
  rw[<- ez]
  exact Qc zs
 have p9:=p6.same s9
 generalize upd H8 ct (.tup [.ref nt,d,wv])=H9 at s9 c9 T9 p9
 have k10:But fa H9 (upd H9 fa (.lst (cs6++[.ref ct]))):=fun b o nb e=>by rw[jm nb];exact e
 have tm10:=c9.tm k10
 have nia:ia≠fa:=fun e=>by have:=c9.ins;rw[e,c9.fd]at this;cases this
 refine⟨_,rfl,q (.ref r) g2 (cs6++[.ref ct]) _ ?_ ng2 ?_ (fun b o nb e=>k10 b o nb (s9 _ _ (k6 b o nb (s5 _ _ e))))⟩
 ·rw[QF hs hc m pc cts]
  exact p9.but k10 c9.fd ng2
 ·rw[QF hs hc m pc cts]
  refine⟨k10 _ _ nia c9.ins,jd,?_⟩
  rw[List.map_append]
  exact Jg (js rfl (T9.mono tm10) jD) (c9.tr.mono tm10)
inductive BI(C ia dx fa a:Addr)(m:Int)(cts:List Ct)(pc:Pc)(bv:V)(ys:List Str)(b:Bd)(xs:List V)(H:Hp)(i:Nat)(σ:L2.St)(H':Hp):Prop
 |mk (pre suf:Bd) (v:V) (g:Addr) (cs:List V) (o4:Option V) (e0:σ=[some (.ref ia),some (.ref a),some bv,some v,o4]) (e1:b=pre.app suf) (e2:BdV H pre (xs.take (xs.length - i))) (e3:PcG H' (pB m suf pc cts).1 v g ys) (e4:g≠fa) (e5:Cg H' C ia dx fa m (pB m suf pc cts).2 cs) (e6:But fa H H'):BI C ia dx fa a m cts pc bv ys b xs H i σ H'
theorem Jh(m:Int):∀(b:Bd) (pc:Pc) (fs:List Ct),(pB m b pc fs).2.length+(pB m b pc fs).1.w.sets.length<=fs.length+pc.w.sets.length+b.size
 | .nil,_,_=>Nat.le_refl _
 | .lf p l r,pc,fs=>by
  have e:=Jh m r pc fs
  show(pL m p l (pB m r pc fs)).2.length+(pL m p l (pB m r pc fs)).1.w.sets.length<=fs.length+pc.w.sets.length+(r.size+1)
  cases l with
  |st x t T=>have:=Qd x t (pB m r pc fs).1;show(pB m r pc fs).2.length+(setW x t (pB m r pc fs).1).sets.length<=_;omega
  |gv t T=>show(pB m r pc fs).2.length+0<=_;omega
  |rd x t T=>show((pB m r pc fs).2++[_]).length+0<=_;rw[List.length_append];show _+1+0<=_;omega
  |wr t u T U=>show((pB m r pc fs).2++[_]).length+0<=_;rw[List.length_append];show _+1+0<=_;omega
  |cl x f a ts=>show((pB m r pc fs).2++[_]).length+0<=_;rw[List.length_append];show _+1+0<=_;omega
 | .ite p t T x y r,pc,fs=>by
  have e:=Jh m r pc fs
  have h1:=j9 x
  have h2:=j9 y
  show((pB m x _ (pB m y _ _).2).2++[_]).length+0<=fs.length+pc.w.sets.length+(x.size+y.size+r.size+1)
  rw[List.length_append,j5 m x,j5 m y]
  show _+1+0<=_
  omega
 | .loop p t T x r,pc,fs=>by
  have e:=Jh m r pc fs
  have h1:=j9 x
  show((pB m x _ _).2++[_]).length+0<=fs.length+pc.w.sets.length+(x.size+r.size+1)
  rw[List.length_append,j5 m x]
  show _+1+0<=_
  omega
theorem scPl:FnScope ["self","statement","behind"] ["self","statement","behind"] (defScope sPlM):=fsc
theorem ok_pl{f:Addr}{fd:FuncData}{C fC fG fS:Addr}{fdC fdG fdS:FuncData}{n:Nat}(F:Fun K "place_of" "Cutting.place_of" sPlM f fd)(ck:CK K C)(GC:FnOk P w K mg base CX0 (4*n+33) fC fdC ["self","statement","behind"] (spPC C n))(bC:Binds K fdC ["self","statement","behind"] [])(hC:Meth K C "place_of_cut" fC)(cG:Cl P w K mg base 8 fG fdG ["term"] spPgive "place_of_give")(cS:Cl P w K mg base 11 fS fdS ["statement","behind"] spPset "place_of_set"):FnOk P w K mg base CX0 (4*n+34) f fd ["self","statement","behind"] (spPO C n):=by
 refine F.ok scPl (fun vs H Q E h=>?_) (fun cdv A outer s H vs Q E hr h=>?_)
 ·refine opq fun Gq kq=>?_
  obtain⟨ia,dx,fa,g,m,cts,cs,pc,v,bv,ys,s,rfl,_⟩:=h
  refine kq ?_
  clear kq
  rfl
 refine opq fun Gq kq=>?_
 obtain⟨ia,dx,fa,g,m,cts,cs,pc,v,bv,ys,st,rfl,I,hs,hd,q⟩:=h
 refine kq ?_
 clear kq
 refine⟨_,(je (jy (@jl _ _ _ _ _ _ _ _ jz (@jk _ _ _ _ _ _ _ jq (pv 1) jc (fun _ _=>rfl)) ji (nomark _)) (jh (jp (jg cG.g hr.m rfl cG.m cG.k cG.b .nil pass0 (ja (@jk _ _ _ _ _ _ _ jq (pv 1) jc (fun _ _=>rfl)) jb)))) jr) (je (jy (@jl _ _ _ _ _ _ _ _ jz (@jk _ _ _ _ _ _ _ jq (pv 1) jc (fun _ _=>rfl)) ji (nomark _)) (jh (jp (jg cS.g hr.m rfl cS.m cS.k cS.b .nil pass0 (ja (pv 1) (ja (pv 2) jb))))) jr) (jh (jp (@zw _ _ _ _ _ _ _ _ _ _ _ _ _ _ _ _ _ _ _ _ (pv 0) ck.cl hC GC hr.m bC .nil pass0 (ja (pv 1) (ja (pv 2) jb)) (by rfl) (by rfl) (by rfl)))))),?_⟩
 try dsimp only[cxOf,Cx.nox,Cx.wish]
 have hz:=I.sz
 have hs':=hs
 have cut:st.isCut=true->tRet (tMeth C "place_of_cut" (spPC C n) [] E0 (tVar 0) (tCons (tVar 1) (tCons (tVar 2) tNil))) { nx:=fun x H'=>Q V.non H',rt:=Q } [some (.ref ia),some v,some bv] H:=fun hc=>
  ⟨_,rfl,ia,dx,_,rfl,I.c.ins,rfl,_,rfl,_,rfl,ia,dx,fa,g,m,cts,cs,pc,v,bv,ys,st,rfl,I,hs,hd,hc,q⟩
 cases hs with
 |lf p l vs h1 h2=>
  cases l with
  |rd x t T=>
   obtain⟨rfl,_⟩:=h2
   refine⟨_,rfl,p,_,_,_,rfl,rfl,SqT.of h1,rfl,rfl,_,rfl,ifX (by decide+kernel) ?_⟩
   refine⟨_,rfl,p,_,_,_,rfl,rfl,SqT.of h1,rfl,rfl,_,rfl,ifX (by decide+kernel) ?_⟩
   exact cut rfl
  |wr t u T U=>
   obtain⟨rfl,_⟩:=h2
   refine⟨_,rfl,p,_,_,_,rfl,rfl,SqT.of h1,rfl,rfl,_,rfl,ifX (by decide+kernel) ?_⟩
   refine⟨_,rfl,p,_,_,_,rfl,rfl,SqT.of h1,rfl,rfl,_,rfl,ifX (by decide+kernel) ?_⟩
   exact cut rfl
  |cl x f q2 ts=>
   obtain⟨rfl,_⟩:=h2
   refine⟨_,rfl,p,_,_,_,rfl,rfl,SqT.of h1,rfl,rfl,_,rfl,ifX (by decide+kernel) ?_⟩
   refine⟨_,rfl,p,_,_,_,rfl,rfl,SqT.of h1,rfl,rfl,_,rfl,ifX (by decide+kernel) ?_⟩
   exact cut rfl
  |gv t T=>
   obtain⟨rfl,hT⟩:=h2
   refine⟨_,rfl,p,_,_,_,rfl,rfl,SqT.of h1,rfl,rfl,_,rfl,ifY (by decide+kernel) ?_⟩
   clear cut
   have y20:ys.length<=21:=by obtain⟨_,_,_,_,_,hN,_⟩:=I.p;exact hN.y20
   exact⟨_,rfl,p,_,_,_,rfl,rfl,SqT.of h1,rfl,t,T,ys,rfl,hT,I.ok.1,y20,fun v' g' H' p' n' s'=>q v' g' cs H' p' (fun e=>by rw[e,I.c.fd]at n';cases n') (I.c.same s') (But.of_same s')⟩
  |st x t T=>
   obtain⟨rfl,hT⟩:=h2
   refine⟨_,rfl,p,_,_,_,rfl,rfl,SqT.of h1,rfl,rfl,_,rfl,ifX (by decide+kernel) ?_⟩
   refine⟨_,rfl,p,_,_,_,rfl,rfl,SqT.of h1,rfl,rfl,_,rfl,ifY (by decide+kernel) ?_⟩
   clear cut
   exact⟨_,rfl,_,rfl,.ref p,bv,p,t,x,T,pc,g,ys,rfl,hs',I.p,I.ok.1.1,I.ok.1.2,by omega,fun v' g' H' p' n' s'=>q v' g' cs H' p' (fun e=>by rw[e,I.c.fd]at n';cases n') (I.c.same s') (But.of_same s')⟩
 |ite p t T a b qa qb as bs h1 h0 h2 h3 h4 h5=>
  refine⟨_,rfl,p,_,_,_,rfl,rfl,SqT.of h1,rfl,rfl,_,rfl,ifX (by decide+kernel) ?_⟩
  refine⟨_,rfl,p,_,_,_,rfl,rfl,SqT.of h1,rfl,rfl,_,rfl,ifX (by decide+kernel) ?_⟩
  exact cut rfl
 |loop p t T a qa as h1 h0 h2 h3=>
  refine⟨_,rfl,p,_,_,_,rfl,rfl,SqT.of h1,rfl,rfl,_,rfl,ifX (by decide+kernel) ?_⟩
  refine⟨_,rfl,p,_,_,_,rfl,rfl,SqT.of h1,rfl,rfl,_,rfl,ifX (by decide+kernel) ?_⟩
  exact cut rfl
theorem scBo:FnScope ["self","body","behind","place","statement"] ["self","body","behind"] (defScope sBoM):=fsc
theorem ok_bo{f:Addr}{fd:FuncData}{C fO:Addr}{fdO:FuncData}{n:Nat}(F:Fun K "place_of_body" "Cutting.place_of_body" sBoM f fd)(ck:CK K C)(GO:FnOk P w K mg base CX0 (4*n+34) fO fdO ["self","statement","behind"] (spPO C n))(bO:Binds K fdO ["self","statement","behind"] [])(hO:Meth K C "place_of" fO)(mre:mg "reversed"=none):FnOk P w K mg base CX0 (4*n+35) f fd ["self","body","behind"] (spPB C (n+1)):=by
 refine F.ok scBo (fun vs H Q E h=>?_) (fun cdv A outer s H vs Q E hr h=>?_)
 ·refine opq fun Gq kq=>?_
  obtain⟨ia,dx,fa,a,g,m,cts,cs,xs,pc,bv,ys,b,rfl,_⟩:=h
  refine kq ?_
  clear kq
  rfl
 refine opq fun Gq kq=>?_
 obtain⟨ia,dx,fa,a,g,m,cts,cs,xs,pc,bv,ys,b,rfl,I,ha,hb,hd,q⟩:=h
 refine kq ?_
 clear kq
 refine⟨_,(je (jo (i:=3) scBo.nd rfl (Or.inl rfl) (pv 2)) (je (@kl _ _ _ _ _ _ _ _ PassesOwn.never rfl (@Y4 _ _ _ _ _ _ _ rfl mre boot_reversed (pv 1) (by decide) (by decide) (by rfl) (by rfl)) (jx (i:=4) scBo.nd rfl (Or.inl rfl)) (jh (jo (i:=3) scBo.nd rfl (Or.inl rfl) (@zw _ _ _ _ _ _ _ _ _ _ _ _ _ _ _ _ _ _ _ _ (pv 0) ck.cl hO GO hr.m bO .nil pass0 (ja (pv 4) (ja (pv 3) jb)) (by rfl) (by rfl) (by rfl)))) (by intro _;rfl)) (jh (jp (pv 3))))),?_⟩
 try dsimp only[cxOf,Cx.nox,Cx.wish]
 have big:=line24
 have hz:=I.sz
 have xl:=hb.len
 refine seqF fun F1 f1=>⟨_,rfl,f1 _ _ ?_⟩
 clear f1
 refine seqF fun F1 f1=>?_
 refine forE fun F kF=>⟨_,rfl,a,xs,rfl,SqT.of ha,kF _ _ ?_⟩
 clear kF
 refine K9 (K:=K) (xs:=xs) (BI C ia dx fa a m cts pc bv ys b xs H) ⟨b,.nil,bv,g,cs,_,rfl,(qp b).symm,by rw[Nat.sub_zero,List.take_length];exact hb,I.p,I.ng,I.c,But.refl⟩ (fun i σ H' hi h=>?_) ?_ (fun σ H' h=>f1 _ _ ?_)
 ·obtain⟨_,_,_,_,_,_,_,_,_,_,_,_,k⟩:=h
  exact SqT.of (I.c.tm k _ _ ha)
 ·clear f1
  intro E _ i x σ H2 hx fE Gq kq h
  obtain⟨pre,suf,v,g1,cs1,o4,rfl,h1,h2,h3,h4,h5,k2⟩:=h
  have hi:i < xs.length:=by
   rcases Nat.lt_or_ge i xs.length with z |z
   ·exact z
   ·rw[List.getElem?_eq_none (by simpa using z)]at hx;cases hx
  rw[List.getElem?_reverse hi]at hx
  have et:xs.take (xs.length - i)=xs.take (xs.length - (i+1))++[x]:=by
   have e1:xs.length - i=(xs.length - 1 - i)+1:=by omega
   have e2:xs.length - (i+1)=xs.length - 1 - i:=by omega
   rw[e1,e2,List.take_add_one,hx]
   rfl
  rw[et]at h2
  rcases h2.last with ⟨e,_⟩ | ⟨ws,v',b1,s1',e1,e2,h6,h7⟩
  ·exact absurd e (by simp)
  obtain⟨ew,ev⟩:=List.append_inj' e1 rfl
  cases ev
  subst e2
  have hok:=zk (h1▸I.ok)
  have hok1:=zk hok.1
  have a1:b.dep=max (b1.app s1').dep suf.dep:=by rw[h1,kX]
  have a2:(b1.app s1').dep=max b1.dep s1'.dep:=kX ..
  have hde:s1'.dep<=b.dep:=by rw[a1,a2];exact Nat.le_trans (Nat.le_max_right ..) (Nat.le_max_left ..)
  clear a1 a2
  have hsz:b.size=b1.size+s1'.size+suf.size:=by rw[h1,jQ,jQ]
  have hl:=j5 m suf pc cts
  have hcl:=j9 suf
  have hst:=XI m suf pc cts
  have hct:(pB m suf pc cts).1.w.sets.length+(pB m suf pc cts).2.length+s1'.size<=10000000:=by have:=Jh m suf pc cts;omega
  refine kq ?_
  clear kq
  have tm:=I.c.tm k2
  show tAsg _ _ E [some (.ref ia),some (.ref a),some bv,some v,some x] H2
  refine⟨_,rfl,ia,dx,_,rfl,h5.ins,rfl,_,rfl,_,rfl,ia,dx,fa,g1,m,_,cs1,_,x,v,ys,s1',rfl,⟨h5,h3,h4,hok1.2,by omega⟩,h7.mono tm,by omega,fun v3 g3 cs3 H3 p3 n3 c3 k3=>fE _ _ ⟨b1,s1'.app suf,v3,g3,cs3,_,rfl,by rw[h1,zr],?_,by rw[Jw];exact p3,n3,by rw[Jw];exact c3,k2.trans k3⟩⟩
  rw[ew]
  exact h6
 ·obtain⟨pre,suf,v,g1,cs1,o4,rfl,h1,h2,h3,h4,h5,k2⟩:=h
  rw[Nat.sub_self]at h2
  have ep:pre= .nil:=by
   rcases h2.last with ⟨_,e⟩ | ⟨ws,v,b1,s1',e1,_⟩
   ·exact e
   ·exact absurd e1 (by simp)
  rw[ep]at h1
  refine⟨_,rfl,q v g1 cs1 H' ?_ h4 ?_ k2⟩
  ·rw[h1];exact h3
  ·rw[h1];exact h5
theorem no_pb{C f:Addr}{fd:FuncData}{k:Nat}:FnOk P w K mg base CX0 k f fd ["self","body","behind"] (spPB C 0):=by
 have no:∀vs H Q E,¬spPB C 0 vs H Q E:=fun vs H Q E h=>by
  obtain⟨ia,dx,fa,a,g,m,cts,cs,xs,pc,bv,ys,b,_,_,_,_,hd,_⟩:=h
  exact absurd hd (Nat.not_lt_zero _)
 exact⟨fun vs H Q E h=>absurd h (no vs H Q E),fun A outer s H args us vs Q E _ _ _ _ h=>absurd h (no vs H Q E)⟩
theorem pbs{C fB fO fC fW fM fU fD fG fS:Addr}{fdB fdO fdC fdW fdM fdU fdD fdG fdS:FuncData}(ck:CK K C)(FB:Fun K "place_of_body" "Cutting.place_of_body" sBoM fB fdB)(FO:Fun K "place_of" "Cutting.place_of" sPlM fO fdO)(FC:Fun K "place_of_cut" "Cutting.place_of_cut" sCuM fC fdC)(FW:Fun K "ways_of" "Cutting.ways_of" sWaM fW fdW)
  (bB:Binds K fdB ["self","body","behind"] []) (hB:Meth K C "place_of_body" fB) (bO:Binds K fdO ["self","statement","behind"] []) (hO:Meth K C "place_of" fO) (bC:Binds K fdC ["self","statement","behind"] []) (hC:Meth K C "place_of_cut" fC) (bW:Binds K fdW ["self","statement","place","behind"] []) (hW:Meth K C "ways_of" fW)
  (cM:Cl P w K mg base 2 fM fdM ["body"] spMany "many_cuts") (cU:Cl P w K mg base 31 fU fdU ["statement","behind"] (spUof 7) "used_ahead_of") (cD:Cl P w K mg base 1 fD fdD ["statement"] spDeed "deed_of") (cG:Cl P w K mg base 8 fG fdG ["term"] spPgive "place_of_give") (cS:Cl P w K mg base 11 fS fdS ["statement","behind"] spPset "place_of_set") (ml:mg "len"=none) (mtu:mg "tuple"=none) (mre:mg "reversed"=none):
  ∀n:Nat,n<=8->FnOk P w K mg base CX0 (4*n+31) fB fdB ["self","body","behind"] (spPB C n)
 |0,_=>no_pb
 |n+1,h=>by
  have ih:=pbs ck FB FO FC FW bB hB bO hO bC hC bW hW cM cU cD cG cS ml mtu mre n (by omega)
  have h1:=ok_wa FW ck ih bB hB
  have h2:=ok_cu FC ck (by omega) h1 bW hW cM cU cD ml mtu
  have h3:=ok_pl FO ck h2 bC hC cG cS
  have h4:=ok_bo FB ck h3 bO hO mre
  have e:4*n+35=4*(n+1)+31:=by omega
  rw[e]at h4
  exact h4
theorem XJ{X:Cx}{K:Frag}{pos:Pos}{es:List Expr}{k:Nat}{t:TGs}{n:Nat}(hK:X.K=K)(hc:X.calm=true)(h:PGs X es t)
  (hn:(assignEach es X.env).length=n) (hst:(assignEach es X.env).findIdx? (·.1)=none):PG X (.Tuple es k pos) (gTup K n t):=by
 subst hK
 exact qd hc h hn hst
abbrev g3(K:Frag)(i j k:Nat):TG:=gTup K 3 (gCons (gName i) (gCons (gName j) (gCons (gName k) gNil)))
theorem len3{ts:L2.St}(h:ts.length=3):∃a b c,ts=[a,b,c]:=by
 match ts,h with
 | [a,b,c],_=>exact⟨a,b,c,rfl⟩
noncomputable abbrev sPart:Stmt:=top 32
noncomputable abbrev sMade:Stmt:=top 33
structure Df where
 f:Str
 p:Addr
 pa:Addr
 pb:Addr
 b:Bd
def DfV(H:Hp)(d:Df)(v:V):Prop:=∃bs,v= .ref d.p/\H d.p=some (.tup [.str d.f,.ref d.pa,.ref d.pb])/\H d.pb=some (.tup bs)/\BdV H d.b bs
def DfsV(H:Hp):List Df->List V->Prop
 | [],vs=>vs=[]
 |d::ds,vs=>∃v r,vs=v::r/\DfV H d v/\DfsV H ds r
theorem DfV.mono{H H':Hp}(k:TMono H H'){d:Df}{v:V}(h:DfV H d v):DfV H' d v:=by
 obtain⟨bs,e1,h1,h3,h5⟩:=h
 exact⟨bs,e1,k _ _ h1,k _ _ h3,h5.mono k⟩
theorem DfsV.mono{H H':Hp}(k:TMono H H'){ds:List Df}:∀{vs:List V},DfsV H ds vs->DfsV H' ds vs:=by
 induction ds with
 |nil=>exact fun h=>h
 |cons d ds ih=>rintro vs ⟨v,r,e,h1,h4⟩;exact⟨v,r,e,h1.mono k,ih h4⟩
theorem DfsV.snoc{H:Hp}{d:Df}{v:V}(hv:DfV H d v):∀{ds:List Df} {vs:List V},DfsV H ds vs->DfsV H (ds++[d]) (vs++[v])
 | [],_,h=>by have e:_=[]:=h;rw[e];exact⟨v,[],rfl,hv,rfl⟩
 |_::_,_,⟨u,r,e,h1,h4⟩=>⟨u,r++[v],by rw[e];rfl,h1,DfsV.snoc hv h4⟩
theorem DfsV.len{H:Hp}:∀{ds:List Df} {vs:List V},DfsV H ds vs->vs.length=ds.length
 | [],_,h=>by have e:_=[]:=h;rw[e];rfl
 |_::_,_,⟨u,r,e,h1,h4⟩=>by rw[e,List.length_cons,List.length_cons,DfsV.len h4]
theorem DfsV.at{H:Hp}:∀{ds:List Df} {vs:List V},DfsV H ds vs->∀(i:Nat) (v:V),vs[i]?=some v->∃d,ds[i]?=some d/\DfV H d v
 | [],_,h,i,v,hv=>by have e:_=[]:=h;rw[e]at hv;simp at hv
 |d::_,_,⟨u,r,e,h1,h4⟩,0,v,hv=>by rw[e]at hv;cases hv;exact⟨d,rfl,h1⟩
 |_::ds,_,⟨u,r,e,h1,h4⟩,i+1,v,hv=>by rw[e]at hv;simpa using DfsV.at h4 i v (by simpa using hv)
def DfOk(d:Df):Prop:=(∃ys:List Str,ys.length<=20/\d.b.Ok ys)/\d.b.dep < 8/\d.b.size<=3000
noncomputable def pc0(nA:Addr):Pc:=⟨fun x=>x∈(Tm.num 0).vars,⟨[],.give nA⟩⟩
noncomputable def run17(nA:Addr)(d:Df):Pc×List Ct:=pB (d.b.cuts:Int) d.b (pc0 nA) []
noncomputable def partT(nA:Addr)(d:Df):Tr:=tupT [strT d.f,refT d.pa,wayT (run17 nA d).1.w,tupT ((run17 nA d).2.reverse.map ctT)]
def Nought(K:Frag)(nA:Addr):Prop:=∀H:Hp,SqT K H nA [.str "num",.int 0]
def spIni(C:Addr):Sp:=fun vs H Q _=>∃(ia dx a:Addr) (b:Bd) (xs:List V),vs=[.ref ia,.ref a]/\H ia=some (.ins C dx [])/\H a=some (.tup xs)/\BdV H b xs/\b.size<=10000000/\
 ∀(fa:Addr) (H':Hp),H fa=none->Cg H' C ia dx fa (b.cuts:Int) [] []->But ia H H'->Q .non H'
def spPart(K:Frag)(nA:Addr):Sp:=fun vs H Q _=>∃(d:Df) (bs:List V),vs=[.str d.f,.ref d.pa,.ref d.pb]/\H d.pb=some (.tup bs)/\BdV H d.b bs/\DfOk d/\∀(v:V) (H':Hp),TrH H' (partT nA d) v []->Same H H'->Q v H'
def spMade(K:Frag)(nA:Addr):Sp:=fun vs H Q _=>∃(a:Addr) (ds:List Df) (xs:List V),vs=[.ref a]/\H a=some (.tup xs)/\DfsV H ds xs/\ds.length<=1000/\(∀d∈ds,DfOk d)/\∀(v:V) (H':Hp),TrH H' (tupT (ds.map (partT nA))) v []->Same H H'->Q v H'
theorem Yy{K:Frag}{a:Addr}{ds:List Df}{vs:List V}{te:TE}{Qf:List V->Hp->Prop}{σt:L2.St}{H:Hp}(hq:H a=some (.tup vs))(hD:DfsV H ds vs)(hz:ds.length<=1000)
  (Pv:Nat->List V->Hp->Prop) (h0:Pv 0 [] H) (hk:∀i ys H',Pv i ys H'->Same H H'/\ys.length<=i)
  (hs:∀i d bs ys H',ds[i]?=some d->H' d.pb=some (.tup bs)->BdV H' d.b bs->Pv i ys H'->te (some (.str d.f)::some (.ref d.pa)::some (.ref d.pb)::σt) H' fun y H2=>Pv (i+1) (ys++[y]) H2)
  (hd:∀ys H',Pv ds.length ys H'->Qf ys H'):CompR (Itt K a) 3 σt (g3 K 0 1 2) tAll te Qf H:=by
 have big:=line24
 have hl:=hD.len
 refine⟨fun i m ys H'=>m=ds.length - i/\i<=ds.length/\Pv i ys H',⟨ds.length,by simp,Nat.zero_le _,h0⟩,?_⟩
 intro i m ys H' hq'
 refine opq fun Gq kq=>?_
 obtain⟨rfl,hi,p⟩:=hq'
 refine kq ?_
 clear kq
 obtain⟨s,hy⟩:=hk i ys H' p
 have hq':SqT K H' a vs:=SqT.of (s _ _ hq)
 by_cases hlt:i < ds.length
 ·have hv:i < vs.length:=by omega
  refine .inr ⟨⟨vs,vs[i],hq',List.getElem?_eq_getElem hv⟩,by omega,Pv (i+1),fun ys' H2 p'=>⟨ds.length - (i+1),by omega,rfl,hlt,p'⟩,fun v H2 ts hts y=>?_⟩
  obtain⟨e,y⟩:=y
  subst e
  have hv':=y vs hq'
  refine opq fun Gq kq=>?_
  obtain⟨d,hd',bs,rfl,h1,h3,h4⟩:=(hD.mono (Same.tm s)).at i v hv'
  refine kq ?_
  clear kq
  refine opq fun Gq kq=>?_
  obtain⟨t1,t2,t3,rfl⟩:=len3 hts
  refine kq ?_
  clear kq
  refine⟨d.p,_,rfl,SqT.of h1,rfl,_,_,rfl,_,_,rfl,_,_,rfl,rfl,⟨[some _,some _,some _],rfl,rfl⟩,?_⟩
  exact hs i d bs ys H2 hd' h3 h4 p
 ·have e:i=ds.length:=by omega
  subst e
  exact .inl ⟨⟨vs,hq',by omega⟩,hd ys H' p⟩
theorem scIni:FnScope ["self","body"] ["self","body"] (defScope sIniM):=fsc
theorem ok_ini{f:Addr}{fd:FuncData}{C fM:Addr}{fdM:FuncData}(F:Fun K "__init__" "Cutting.__init__" sIniM f fd)(ck:CK K C)(cM:Cl P w K mg base 2 fM fdM ["body"] spMany "many_cuts"):FnOk P w K mg base CX0 3 f fd ["self","body"] (spIni C):=by
 refine F.ok scIni (fun vs H Q E h=>?_) (fun cdv A outer s H vs Q E hr h=>?_)
 ·refine opq fun Gq kq=>?_
  obtain⟨ia,dx,a,b,xs,rfl,_⟩:=h
  refine kq ?_
  clear kq
  rfl
 refine opq fun Gq kq=>?_
 obtain⟨ia,dx,a,b,xs,rfl,hi,ha,hb,hz,q⟩:=h
 refine kq ?_
 clear kq
 refine⟨_,(je (@YU _ _ _ _ _ _ _ _ (pv 0) (jg cM.g hr.m rfl cM.m cM.k cM.b .nil pass0 (ja (pv 1) jb)) rfl) (jh (@YU _ _ _ _ _ _ _ _ (pv 0) (jH jb) rfl))),?_⟩
 try dsimp only[cxOf,Cx.nox,Cx.wish]
 refine seqF fun F1 f1=>⟨_,rfl,a,b,xs,rfl,ha,hb,hz,fun H1 k1=>⟨_,rfl,ia,C,dx,_,rfl,k1 _ _ hi,ck.cl,ck.nm,by decide,f1 _ _ ?_⟩⟩
 clear f1
 refine⟨sz0,fun fa nf=>⟨_,rfl,ia,C,dx,_,rfl,keepN jd nf,ck.cl,ck.nf,(by show 1 < 1000;decide),?_⟩⟩
 have nia:fa≠ia:=fun e=>by rw[e,jd]at nf;cases nf
 have n0:H fa=none:=by
  cases e:H fa with
  |none=>rfl
  |some o=>rw[jm nia,k1 _ _ e]at nf;cases nf
 refine q fa _ n0 ⟨jd,by rw[jm nia,jd],rfl⟩ fun c o nc e=>?_
 rw[jm nc,jm (fun z=>by rw[z,n0]at e;cases e),jm nc]
 exact k1 _ _ e
theorem scPart:FnScope ["name","params","body","cutting","first"] ["name","params","body"] (defScope sPart):=fsc
theorem ok_part{f:Addr}{fd:FuncData}{C fI fB fG nA:Addr}{fdI fdB fdG:FuncData}(F:Fun K "part_made" "part_made" sPart f fd)(ck:CK K C)(mk:Mk K C fI)(GI:FnOk P w K mg base CX0 3 fI fdI ["self","body"] (spIni C))(bI:Binds K fdI ["self","body"] [])(mC:mg "Cutting"=some (.ref C))(mNo:mg "NOUGHT"=some (.ref nA))(no:Nought K nA)(GB:FnOk P w K mg base CX0 63 fB fdB ["self","body","behind"] (spPB C 8))(bB:Binds K fdB ["self","body","behind"] [])(hB:Meth K C "place_of_body" fB)(cG:Cl P w K mg base 8 fG fdG ["term"] (spPgC K) "place_of_give")(mtu:mg "tuple"=none)(mre:mg "reversed"=none):FnOk P w K mg base CX0 64 f fd ["name","params","body"] (spPart K nA):=by
 refine F.ok scPart (fun vs H Q E h=>?_) (fun cdv A outer s H vs Q E hr h=>?_)
 ·refine opq fun Gq kq=>?_
  obtain⟨d,bs,rfl,_⟩:=h
  refine kq ?_
  clear kq
  rfl
 refine opq fun Gq kq=>?_
 obtain⟨d,bs,rfl,hb,hB',hok,q⟩:=h
 refine kq ?_
 clear kq
 refine⟨_,(je (jo (i:=3) scPart.nd rfl (Or.inl rfl) (@pe_make _ _ _ _ _ _ _ _ _ _ _ _ _ _ _ _ _ mk GI hr.m rfl mC bI .nil pass0 (ja (pv 2) jb) (by decide) (by rfl) (by rfl))) (je (jo (i:=4) scPart.nd rfl (Or.inl rfl) (@zw _ _ _ _ _ _ _ _ _ _ _ _ _ _ _ _ _ _ _ _ (pv 3) ck.cl hB GB hr.m bB .nil pass0 (ja (pv 2) (ja (jg cG.g hr.m rfl cG.m cG.k cG.b .nil pass0 (ja (@zu _ _ (.ref nA) _ _ rfl mNo rfl (by decide)) jb)) jb)) (by rfl) (by rfl) (by rfl))) (jh (jp (jj (ja (pv 0) (ja (pv 1) (ja (@jk _ _ _ _ _ _ _ jq (pv 4) jc (fun _ _=>rfl)) (ja (@Yr _ _ _ _ _ _ _ _ _ rfl rfl mtu boot_tuple rfl mre boot_reversed (@Ky _ _ _ _ _ (pv 3) rfl) (by decide) (by decide) (by decide) (by decide) (by rfl) (by rfl) (by rfl) (by rfl)) jb))))))))),?_⟩
 try dsimp only[cxOf,Cx.nox,Cx.wish]
 have big:=line24
 obtain⟨⟨ys,y20,ok⟩,hdp,hz⟩:=hok
 refine seqF fun F1 f1=>⟨_,rfl,fun ia dx nia ndx nne=>?_⟩
 have s0:Same H (upd (upd H dx (.own ia)) ia (.ins C dx [])):=fun c o e=>by rw[jm (jv e nia),jm (jv e ndx)];exact e
 refine⟨ia,dx,d.pb,d.b,bs,rfl,jd,s0 _ _ hb,hB'.mono (Same.tm s0),by omega,fun fa H1 nf c1 k1=>⟨rfl,f1 _ _ ?_⟩⟩
 clear f1
 have s1:Same H H1:=fun c o e=>k1 c o (jv e nia) (s0 _ _ e)
 have nf0:H fa=none:=s0.free nf
 refine seqF fun F1 f1=>⟨_,rfl,ia,dx,_,rfl,c1.ins,rfl,_,rfl,nA,ys,rfl,no _,(by omega),fun v g H2 p2 n2 k2=>?_⟩
 have ng:g≠fa:=fun e=>by rw[e,c1.fd]at n2;cases n2
 have s2:=s1.trans k2
 refine⟨ia,dx,fa,d.pb,g,_,[],[],bs,pc0 nA,v,ys,d.b,rfl,⟨c1.same k2,p2,ng,ok,by show 0+0+d.b.size<=_;omega⟩,s2 _ _ hb,hB'.mono (Same.tm s2),hdp,fun v3 g3 cs3 H3 p3 n3 c3 k3=>f1 _ _ ?_⟩
 clear f1
 obtain⟨r3,w3,rfl,hr3,hw3⟩:=way1 p3
 have s3:Same H H3:=fun c o e=>k3 c o (jv e nf0) (s2 _ _ e)
 refine⟨_,rfl,_,rfl,_,rfl,r3,_,_,_,rfl,rfl,SqT.of hr3,rfl,_,rfl,ia,C,dx,_,_,rfl,c3.ins,ck.cl,ck.nf,rfl,fa,cs3,rfl,SqL.of c3.fd,fun l nl=>⟨sz4,fun r nr=>?_⟩⟩
 have s5:Same H3 (upd (upd H3 l (.tup cs3.reverse)) r (.tup [.str d.f,.ref d.pa,w3,.ref l])):=(jf nl).trans (jf nr)
 refine q (.ref r) _ ?_ (s3.trans s5)
 refine jJ jd (js rfl jV (js rfl zb (js rfl (hw3.mono (Same.tm s5)) (js rfl (jJ (keepN jd nr) ?_) jD))))
 have e:=XH (c3.tr.mono (Same.tm s5))
 rw[<- List.map_reverse]at e
 exact e
theorem scMade:FnScope ["program"] ["program"] (defScope sMade):=fsc
noncomputable def ZQ:Scope:=⟨.function,[(".0",.local),("name",.local),("params",.local),("body",.local),("part_made",.globalImplicit)],false,false,[]⟩
theorem YO:(["name","params","body"]:List Str).Nodup:=by decide+kernel
theorem cs_m1:CompSc ["program"] (defScope sMade) ZQ ["name","params","body"] 3 []:=csc
theorem ok_made{f:Addr}{fd:FuncData}{nA fP:Addr}{fdP:FuncData}(F:Fun K "made" "made" sMade f fd)(cP:Cl P w K mg base 64 fP fdP ["name","params","body"] (spPart K nA) "part_made")(mtu:mg "tuple"=none):FnOk P w K mg base CX0 65 f fd ["program"] (spMade K nA):=by
 refine F.ok scMade (fun vs H Q E h=>?_) (fun cdv A outer s H vs Q E hr h=>?_)
 ·refine opq fun Gq kq=>?_
  obtain⟨a,ds,xs,rfl,_⟩:=h
  refine kq ?_
  clear kq
  rfl
 refine opq fun Gq kq=>?_
 obtain⟨a,ds,xs,rfl,ha,hD,hl,ok,q⟩:=h
 refine kq ?_
 clear kq
 refine⟨_,(jh (jp (@jC _ _ _ _ _ _ _ _ _ jI rfl mtu boot_tuple (ja (@kA _ _ _ _ _ _ _ (["name","params","body"]) (3) ([]) _ _ _ _ rfl (@zj _ _ _ _ (pv 0)) cs_m1 (fun _ _ _ _ _=>(XJ (K:=K) (n:=3) rfl rfl (jA (jx (i:=0) YO rfl (Or.inl rfl)) (jA (jx (i:=1) YO rfl (Or.inl rfl)) (jA (jx (i:=2) YO rfl (Or.inl rfl)) kL))) rfl rfl)) (fun _ _ _ _ _=>(@kU _)) (fun _ _ _ _ _=>(jg cP.g hr.m rfl cP.m cP.k cP.b .nil pass0 (ja (pv 0) (ja (pv 1) (ja (pv 2) jb))))) (by intro _;rfl)) jb) (by decide) (by decide) (by rfl) (by rfl)))),?_⟩
 try dsimp only[cxOf,Cx.nox,Cx.wish]
 refine⟨_,rfl,a,rfl,⟨_,SqT.of ha⟩,?_⟩
 refine Yy ha hD hl (fun i vs H'=>TrH H' (listT ((ds.take i).map (partT nA))) .non vs/\Same H H'/\i<=ds.length) ⟨rfl,Same.refl _,Nat.zero_le _⟩ (fun i vs H' h=>⟨h.2.1,?_⟩) (fun i d bs vs H' hd h1 h2 h=>?_) (fun vs H' h l nl=>?_)
 ·rw[zA h.1,List.length_map,List.length_take]
  exact Nat.min_le_left ..
 ·have hi:i < ds.length:=by
   rcases Nat.lt_or_ge i ds.length with z |z
   ·exact z
   ·rw[List.getElem?_eq_none z]at hd;cases hd
  refine⟨_,rfl,_,rfl,_,rfl,d,bs,rfl,h1,h2,ok d (List.mem_of_getElem? hd),fun v H2 t2 k2=>⟨?_,h.2.1.trans k2,hi⟩⟩
  rw[List.take_add_one,hd,List.map_append]
  exact Jg (js rfl t2 jD) (h.1.mono (Same.tm k2))
 ·refine⟨l,vs,rfl,.inl ⟨SqL.of jd,fun r nr=>?_⟩⟩
  have s:Same H' (upd (upd H' l (.lst vs)) r (.tup vs)):=(jf nl).trans (jf nr)
  refine q (.ref r) _ (jJ jd ?_) (h.2.1.trans s)
  have e:=h.1
  rw[List.take_length]at e
  exact e.mono (Same.tm s)
noncomputable abbrev sSpot:Stmt:=top 40
noncomputable abbrev sStm:Stmt:=top 41
noncomputable abbrev sBody:Stmt:=top 42
def But2(p q:Addr)(H H':Hp):Prop:=∀b o,b≠p->b≠q->H b=some o->H' b=some o
theorem But2.refl{p q:Addr}{H:Hp}:But2 p q H H:=fun _ _ _ _ h=>h
theorem But2.trans{p q:Addr}{H H1 H2:Hp}(a:But2 p q H H1)(b:But2 p q H1 H2):But2 p q H H2:=fun c o n m h=>b c o n m (a c o n m h)
theorem But.two{p q:Addr}{H H':Hp}(a:But p H H'):But2 p q H H':=fun c o n _ h=>a c o n h
theorem But2.of_same{p q:Addr}{H H':Hp}(a:Same H H'):But2 p q H H':=fun c o _ _ h=>a c o h
theorem But2.at{p q:Addr}{H:Hp}{o:HO}:But2 p q H (upd H q o):=fun b u _ m e=>by rw[jm m];exact e
def SpAt(H:Hp)(q:Addr):Prop:=∃k:Int,H q=some (.lst [.int k])
theorem SpAt.new{H:Hp}{q r:Addr}{o:HO}(h:SpAt H q)(n:H r=none):SpAt (upd H r o) q:=let ⟨k,e⟩:=h;⟨k,keepN e n⟩
theorem SpAt.ne{H:Hp}{p q:Addr}(h:SpAt H q)(B:BoxAt H p):q≠p:=by
 obtain⟨k,e⟩:=h
 refine opq fun Gq kq=>?_
 obtain⟨a,b,_,_,_,hp⟩:=B.ob
 refine kq ?_
 clear kq
 exact kf e hp (by intro z;cases z)
theorem SpAt.but{H H':Hp}{p q:Addr}(h:SpAt H q)(B:BoxAt H p)(k:But p H H'):SpAt H' q:=by
 have n:=h.ne B
 obtain⟨z,e⟩:=h
 exact⟨z,k _ _ n e⟩
theorem But2.tm{p q:Addr}{H H':Hp}(k:But2 p q H H')(B:BoxAt H p)(s:SpAt H q):TMono H H':=fun b xs e=>by
 refine opq fun Gq kq=>?_
 obtain⟨a,c,_,_,_,hp⟩:=B.ob
 refine kq ?_
 clear kq
 obtain⟨z,hs⟩:=s
 exact k b _ (kf e hp (by intro w;cases w)) (kf e hs (by intro w;cases w)) e
noncomputable def spK(H:Hp)(q:Addr):Int:=match H q with
 |some (.lst [.int k])=>k
 |_=>0
theorem qE{H:Hp}{q:Addr}{k:Int}(e:H q=some (.lst [.int k])):spK H q=k:=by unfold spK;rw[e]
theorem QG{H H':Hp}{q:Addr}(s:SpAt H q)(k:∀o,H q=some o->H' q=some o):spK H' q=spK H q:=by
 obtain⟨z,e⟩:=s
 rw[qE e,qE (k _ e)]
theorem kc{H H':Hp}{p q:Addr}(B:BoxAt H p)(s:SpAt H q)(k:But p H H'):spK H' q=spK H q:=QG s fun o e=>k _ _ (s.ne B) e
theorem j6{H H':Hp}{q:Addr}(s:SpAt H q)(k:Same H H'):spK H' q=spK H q:=QG s fun o e=>k _ _ e
def HdV(H:Hp)(c:Str×List Str)(v:V):Prop:=∃p t,v= .ref p/\H p=some (.tup [.str c.1,.ref t])/\H t=some (.tup (c.2.map V.str))
def HdsV(H:Hp):List (Str×List Str)->List V->Prop
 | [],vs=>vs=[]
 |c::cs,vs=>∃v r,vs=v::r/\HdV H c v/\HdsV H cs r
theorem HdsV.mono{H H':Hp}(k:TMono H H'):∀{cs:List (Str×List Str)} {vs:List V},HdsV H cs vs->HdsV H' cs vs
 | [],_,h=>h
 |_::_,_,⟨v,r,e,⟨p,t,e1,h1,h2⟩,h4⟩=>⟨v,r,e,⟨p,t,e1,k _ _ h1,k _ _ h2⟩,HdsV.mono k h4⟩
theorem HdsV.snoc{H:Hp}{c:Str×List Str}{v:V}(hv:HdV H c v):∀{cs:List (Str×List Str)} {vs:List V},HdsV H cs vs->HdsV H (cs++[c]) (vs++[v])
 | [],_,h=>by have e:_=[]:=h;rw[e];exact⟨v,[],rfl,hv,rfl⟩
 |_::_,_,⟨u,r,e,h1,h4⟩=>⟨u,r++[v],by rw[e];rfl,h1,HdsV.snoc hv h4⟩
theorem HdsV.len{H:Hp}:∀{cs:List (Str×List Str)} {vs:List V},HdsV H cs vs->vs.length=cs.length
 | [],_,h=>by have e:_=[]:=h;rw[e];rfl
 |_::_,_,⟨u,r,e,h1,h4⟩=>by rw[e,List.length_cons,List.length_cons,HdsV.len h4]
theorem HdsV.at{H:Hp}:∀{cs:List (Str×List Str)} {vs:List V},HdsV H cs vs->∀(i:Nat) (v:V),vs[i]?=some v->∃c,cs[i]?=some c/\HdV H c v
 | [],_,h,i,v,hv=>by have e:_=[]:=h;rw[e]at hv;simp at hv
 |c::_,_,⟨u,r,e,h1,h4⟩,0,v,hv=>by rw[e]at hv;cases hv;exact⟨c,rfl,h1⟩
 |_::cs,_,⟨u,r,e,h1,h4⟩,i+1,v,hv=>by rw[e]at hv;simpa using HdsV.at h4 i v (by simpa using hv)
theorem ref_at{H:Hp}{cs:List (Str×List Str)}{vs:List V}(h:HdsV H cs vs){k:Int}(h0:0<=k)(h1:k < (vs.length:Int)):∃v c,atI vs k=some v/\c∈cs/\HdV H c v:=by
 have hk:k.toNat < vs.length:=by omega
 have ek:k=((k.toNat:Nat):Int):=by omega
 have e1:vs[k.toNat]?=some vs[k.toNat]:=List.getElem?_eq_getElem hk
 have e:atI vs ((k.toNat:Nat):Int)=some vs[k.toNat]:=jE e1
 rw[<- ek]at e
 obtain⟨c,hc,hv⟩:=h.at _ _ e1
 exact⟨_,c,e,List.mem_of_getElem? hc,hv⟩
def Bd.fit(ys:List Str)(d:Nat)(b:Bd):Prop:=b.Ok ys/\b.dep<=d
theorem XL{ys:List Str}{d:Nat}:Bd.fit ys d .nil:=⟨trivial,Nat.zero_le _⟩
theorem fit_lf{ys:List Str}{d:Nat}{p:Addr}{l:Lf}(h:l.Ok ys):Bd.fit ys d (.lf p l .nil):=⟨⟨h,trivial⟩,Nat.zero_le _⟩
theorem XM{ys:List Str}{d:Nat}{a b:Bd}(h:a.fit ys d)(k:b.fit ys d):(a.app b).fit ys d:=⟨Ju h.1 k.1,by rw[kX];have:=h.2;have:=k.2;omega⟩
theorem fit_ite{ys:List Str}{d:Nat}{p t:Addr}{T:Tm}{a b:Bd}(hT:TmOk ys T)(h:a.fit ys d)(k:b.fit ys d):Bd.fit ys (d+1) (.ite p t T a b .nil):=⟨⟨hT,h.1,k.1,trivial⟩,by show max (max a.dep b.dep+1) 0<=d+1;have:=h.2;have:=k.2;omega⟩
theorem ZR{ys:List Str}{d:Nat}{p t:Addr}{T:Tm}{a:Bd}(hT:TmOk ys T)(h:a.fit ys d):Bd.fit ys (d+1) (.loop p t T a .nil):=⟨⟨hT,h.1,trivial⟩,by show max (a.dep+1) 0<=d+1;have:=h.2;omega⟩
noncomputable def szS:Nat->Nat
 |0=>1
 |d+1=>1+2*(5*szS d)
def spSpot:Sp:=fun vs H Q _=>∃(p g:Addr) (ys:List Str),vs=[.ref p,.ref g]/\BoxAt H p/\H g=some (.lst (ys.map V.str))/\1<=ys.length/\ys.length<=20/\∀(r:Addr) (T:Tm) (H':Hp),TmAt H' T r->TmOk ys T->BoxAt H' p->But p H H'->Q (.ref r) H'
structure Gen(H:Hp)(p g h sp:Addr)(ys:List Str)(hs:List (Str×List Str)):Prop where
 B:BoxAt H p
 g:H g=some (.lst (ys.map V.str))
 y1:1<=ys.length
 y2:ys.length<=20
 h:∃hv,H h=some (.lst hv)/\HdsV H hs hv
 h1:1<=hs.length
 h2:hs.length<=20
 h3:∀c∈hs,c.2.length<=6
 s:SpAt H sp
theorem Gen.gsp{H:Hp}{p g h sp:Addr}{ys:List Str}{hs:List (Str×List Str)}(G:Gen H p g h sp ys hs):g≠sp:=by
 obtain⟨k,e⟩:=G.s
 refine kf G.g e fun z=>?_
 injection z with z
 have hy:=G.y1
 match ys,hy,z with
 |a::r,_,z=>injection z with z1 _;cases z1
theorem Gen.hsp{H:Hp}{p g h sp:Addr}{ys:List Str}{hs:List (Str×List Str)}(G:Gen H p g h sp ys hs):h≠sp/\h≠p:=by
 obtain⟨k,e⟩:=G.s
 obtain⟨hv,e1,e2⟩:=G.h
 refine opq fun Gq kq=>?_
 obtain⟨a,b,_,_,_,hp⟩:=G.B.ob
 refine kq ?_
 clear kq
 have hl:=G.h1
 have:∃q r,hv= .ref q::r:=by
  match hs,hl,e2 with
  |c::cs,_,⟨v,r,e,⟨q,t,e3,_⟩,_⟩=>exact⟨q,r,by rw[e,e3]⟩
 obtain⟨q,r,rfl⟩:=this
 refine⟨kf e1 e fun z=>?_,kf e1 hp fun z=>?_⟩
 ·injection z with z
  injection z with z1 _
  cases z1
 ·injection z with z
  injection z with z1 _
  cases z1
theorem Gen.but2{H H':Hp}{p g h sp:Addr}{ys:List Str}{hs:List (Str×List Str)}(G:Gen H p g h sp ys hs)(B:BoxAt H' p)(s:SpAt H' sp)(k:But2 p sp H H'):Gen H' p g h sp ys hs:=by
 obtain⟨hv,e1,e2⟩:=G.h
 exact⟨B,k _ _ (zL G.B G.g) G.gsp G.g,G.y1,G.y2,⟨hv,k _ _ G.hsp.2 G.hsp.1 e1,e2.mono (k.tm G.B G.s)⟩,G.h1,G.h2,G.h3,s⟩
theorem Gen.but{H H':Hp}{p g h sp:Addr}{ys:List Str}{hs:List (Str×List Str)}(G:Gen H p g h sp ys hs)(B:BoxAt H' p)(k:But p H H'):Gen H' p g h sp ys hs:=G.but2 B (G.s.but G.B k) k.two
def spStm(n:Nat):Sp:=fun vs H Q _=>∃(p g h sp:Addr) (d:Nat) (ys:List Str) (hs:List (Str×List Str)),vs=[.ref p,.ref g,.ref h,.ref sp,.int (d:Int)]/\Gen H p g h sp ys hs/\d < n/\0 < spK H sp/\
 ∀(r:Addr) (b:Bd) (H':Hp),BdV H' b [.ref r]->(b.size:Int)+spK H' sp<=spK H sp->0<=spK H' sp->b.fit ys d->BoxAt H' p->SpAt H' sp->But2 p sp H H'->Q (.ref r) H'
def spBody(n:Nat):Sp:=fun vs H Q _=>∃(p g h sp:Addr) (d:Nat) (ys:List Str) (hs:List (Str×List Str)),vs=[.ref p,.ref g,.ref h,.ref sp,.int (d:Int)]/\Gen H p g h sp ys hs/\d < n/\0<=spK H sp/\
 ∀(r:Addr) (b:Bd) (bs:List V) (H':Hp),H' r=some (.tup bs)->BdV H' b bs->(b.size:Int)+spK H' sp<=spK H sp->0<=spK H' sp->b.fit ys d->BoxAt H' p->SpAt H' sp->But2 p sp H H'->Q (.ref r) H'
theorem scSpot:FnScope ["_law_box_here","_law_names_here","_law_kind"] ["_law_box_here","_law_names_here"] (defScope sSpot):=fsc
theorem ok_spot{f:Addr}{fd:FuncData}(F:Fun K "_law_spot" "_law_spot" sSpot f fd)(cT:Cl P w K mg base 1 fT fdT ["_law_box_here","_law_wide"] spTake "_law_take")(cM:Cl P w K mg base 6 fM fdM ["_law_box_here","_law_names_here","_law_deep"] (spTerm 4) "_law_term"):FnOk P w K mg base CX0 7 f fd ["_law_box_here","_law_names_here"] spSpot:=by
 refine F.ok scSpot (fun vs H Q E h=>?_) (fun cdv A outer s H vs Q E hr h=>?_)
 ·refine opq fun Gq kq=>?_
  obtain⟨p,g,ys,rfl,_⟩:=h
  refine kq ?_
  clear kq
  rfl
 refine opq fun Gq kq=>?_
 obtain⟨p,g,ys,rfl,B,hg,hy1,hy2,q⟩:=h
 refine kq ?_
 clear kq
 refine⟨_,(je (jo (i:=2) scSpot.nd rfl (Or.inl rfl) (jg cT.g hr.m rfl cT.m cT.k cT.b .nil pass0 (ja (pv 0) (ja jc jb)))) (je (jy (@jl _ _ _ _ _ _ _ _ Jj (pv 2) jc (nomark _)) (jh (jp (jg cM.g hr rfl cM.m cM.k cM.b .nil pass0 (ja (pv 0) (ja (pv 1) (ja jc jb)))))) jr) (je (jy (@jl _ _ _ _ _ _ _ _ jz (pv 2) jc (nomark _)) (jh (jp (jj (ja ji (ja (jw kR (jw kR (jw Jr jc jc) jc) (jg cT.g hr.m rfl cT.m cT.k cT.b .nil pass0 (ja (pv 0) (ja jc jb)))) jb))))) jr) (jh (jp (jj (ja ji (ja (jg cT.g hr.m rfl cT.m cT.k cT.b .nil pass0 (ja (pv 0) (ja jc jb))) jb)))))))),?_⟩
 try dsimp only[cxOf,Cx.nox,Cx.wish]
 have hgp:g≠p:=zL B hg
 refine⟨_,rfl,p,8,rfl,B,by decide,by decide,fun kd H1 k0 k1 B1 e1=>?_⟩
 have hg1:H1 g=some (.lst (ys.map V.str)):=by rw[e1 g hgp];exact hg
 have K1:But p H H1:=But.of_eq e1
 refine⟨_,rfl,_,_,rfl,rfl,_,rfl,?_⟩
 refine ite2 (fun c=>?_) (fun c=>?_)
 ·exact⟨_,rfl,_,rfl,p,g,1,ys,rfl,B1,hg1,hy1,hy2,by decide,by decide,fun r T H2 tT dT gT B2 k2=>q r T H2 tT ⟨gT,by omega⟩ B2 (K1.trans k2)⟩
 refine⟨_,rfl,rfl,_,rfl,?_⟩
 refine ite2 (fun c=>?_) (fun c=>?_)
 ·refine⟨_,_,rfl,rfl,⟨by decide,by decide,by decide⟩,_,_,rfl,rfl,_,rfl,p,4,rfl,B1,by decide,by decide,fun d2 H2 d20 d21 B2 e2=>⟨_,_,rfl,rfl,sz2,fun r nr=>?_⟩⟩
  exact q r (.num (1000000000000000000 - 1 - d2)) _ jd ⟨⟨by omega,by omega⟩,(by show 0 < 6;decide)⟩ (B2.upd_new nr) ((K1.trans (But.of_eq e2)).upd_new nr)
 ·refine⟨_,rfl,p,12,rfl,B1,by decide,by decide,fun d2 H2 d20 d21 B2 e2=>⟨sz2,fun r nr=>?_⟩⟩
  exact q r (.num d2) _ jd ⟨⟨d20,by omega⟩,(by show 0 < 6;decide)⟩ (B2.upd_new nr) ((K1.trans (But.of_eq e2)).upd_new nr)
theorem scStm:FnScope ["_law_box_here","_law_names_here","_law_heads","_law_spare","_law_deep","_law_kind","_law_x","_law_f","_law_params","_law_body_here"] ["_law_box_here","_law_names_here","_law_heads","_law_spare","_law_deep"] (defScope sStm):=fsc
noncomputable def Yz:Scope:=⟨.function,[(".0",.local),("_law_one",.local),("_law_term",.globalImplicit),("_law_box_here",.free),("_law_names_here",.free)],false,false,[]⟩
theorem nd_stm:(["_law_one","_law_box_here","_law_names_here"]:List Str).Nodup:=by decide+kernel
theorem cs_stm:CompSc ["_law_box_here","_law_names_here","_law_heads","_law_spare","_law_deep","_law_kind","_law_x","_law_f","_law_params","_law_body_here"] (defScope sStm) Yz ["_law_one","_law_box_here","_law_names_here"] 1 [0,1]:=csc
def RH(p g h sp:Addr)(d:Nat)(kd:Int)(y:Str)(H3:Hp)(σ':L2.St)(H':Hp):Prop:=σ'=[some (.ref p),some (.ref g),some (.ref h),some (.ref sp),some (.int (d:Int)),some (.int kd),some (.str y),none,none,none]/\H'=H3
theorem ok_stm{f:Addr}{fd:FuncData}(F:Fun K "_law_statement" "_law_statement" sStm f fd)(cT:Cl P w K mg base 1 fT fdT ["_law_box_here","_law_wide"] spTake "_law_take")(cM:Cl P w K mg base 6 fM fdM ["_law_box_here","_law_names_here","_law_deep"] (spTerm 4) "_law_term")(cP:Cl P w K mg base 7 fP fdP ["_law_box_here","_law_names_here"] spSpot "_law_spot"){L n:Nat}(cB:Cl P w K mg base (L+9) fB fdB ["_law_box_here","_law_names_here","_law_heads","_law_spare","_law_deep"] (spBody n) "_law_body")(ml:mg "len"=none)(mtu:mg "tuple"=none):FnOk P w K mg base CX0 (L+10) f fd ["_law_box_here","_law_names_here","_law_heads","_law_spare","_law_deep"] (spStm (n+1)):=by
 refine F.ok scStm (fun vs H Q E h=>?_) (fun cdv A outer s H vs Q E hr h=>?_)
 ·refine opq fun Gq kq=>?_
  obtain⟨p,g,h,sp,d,ys,hs,rfl,_⟩:=h
  refine kq ?_
  clear kq
  rfl
 refine opq fun Gq kq=>?_
 obtain⟨p,g,h,sp,d,ys,hs,rfl,G0,hd,hk0,q⟩:=h
 refine kq ?_
 clear kq
 refine⟨_,(je (jo (i:=5) scStm.nd rfl (Or.inl rfl) (jg cT.g hr.m rfl cT.m cT.k cT.b .nil pass0 (ja (pv 0) (ja jc jb)))) (je (jo (i:=6) scStm.nd rfl (Or.inl rfl) (@jk _ _ _ _ _ _ _ ju (pv 1) (jg cT.g hr.m rfl cT.m cT.k cT.b .nil pass0 (ja (pv 0) (ja (@jB _ _ _ _ _ _ _ _ _ jL rfl ml PySem.boot_len (ja (pv 1) jb) (by decide) (by decide) (by rfl) (by rfl)) jb))) (fun _ _=>rfl))) (je (@kQ _ _ _ _ _ _ (jw kR (@jk _ _ _ _ _ _ _ ju (pv 3) jc (fun _ _=>rfl)) jc) (@qe _ _ _ _ _ _ _ (pv 3) jc zd (by intro _;rfl)) (by rfl) (by rfl) (by rfl)) (je (jy (@jl _ _ _ _ _ _ _ _ Jj (pv 5) jc (nomark _)) (jh (jp (jj (ja ji (ja (pv 6) (ja (jg cP.g hr.m rfl cP.m cP.k cP.b .nil pass0 (ja (pv 0) (ja (pv 1) jb))) jb)))))) jr) (je (jy (@PW.pt _ _ _ (@KU _ _ _ _ _ _ _ (@jl _ _ _ _ _ _ _ _ jz (pv 5) jc (nomark _)) (@Jq _ _ _ _ (@jl _ _ _ _ _ _ _ _ jz (pv 5) jc (nomark _))))) (jh (jp (jj (ja ji (ja (jg cP.g hr.m rfl cP.m cP.k cP.b .nil pass0 (ja (pv 0) (ja (pv 1) jb))) (ja (jg cM.g hr.m rfl cM.m cM.k cM.b .nil pass0 (ja (pv 0) (ja (pv 1) (ja jc jb)))) jb)))))) jr) (je (jy (@PW.pt _ _ _ (@KU _ _ _ _ _ _ _ (@jl _ _ _ _ _ _ _ _ jz (pv 5) jc (nomark _)) (@Jq _ _ _ _ (@jl _ _ _ _ _ _ _ _ jz (pv 5) jc (nomark _))))) (je (@kQ _ _ _ _ _ _ (@jk _ _ _ _ _ _ _ ju (pv 2) (jg cT.g hr.m rfl cT.m cT.k cT.b .nil pass0 (ja (pv 0) (ja (@jB _ _ _ _ _ _ _ _ _ jL rfl ml PySem.boot_len (ja (pv 2) jb) (by decide) (by decide) (by rfl) (by rfl)) jb))) (fun _ _=>rfl)) (@qd _ _ _ _ _ 2 rfl (jA (jx (i:=7) scStm.nd rfl (Or.inl rfl)) (jA (jx (i:=8) scStm.nd rfl (Or.inl rfl)) kL)) (by rfl) (by rfl)) (by rfl) (by rfl) (by rfl)) (jh (jp (jj (ja ji (ja (pv 6) (ja (pv 7) (ja (@jC _ _ _ _ _ _ _ _ _ jI rfl mtu boot_tuple (ja (@kA _ _ _ _ _ _ _ (["_law_one","_law_box_here","_law_names_here"]) (1) ([0,1]) _ _ _ _ rfl (@zj _ _ _ _ (pv 8)) cs_stm (fun _ _ _ _ _=>(jx (i:=0) nd_stm rfl (Or.inl rfl))) (fun _ _ _ _ _=>(@kU _)) (fun _ _ _ _ _=>(jg cM.g hr.m rfl cM.m cM.k cM.b .nil pass0 (ja (pv 1) (ja (pv 2) (ja jc jb))))) (by intro _;rfl)) jb) (by decide) (by decide) (by rfl) (by rfl)) jb)))))))) jr) (je (jT (jy (@PW.pt _ _ _ (@qD _ _ _ _ _ _ _ (@jl _ _ _ _ _ _ _ _ jz (pv 5) jc (nomark _)) (@zR _ _ _ _ (@jl _ _ _ _ _ _ _ _ qO (pv 4) jc (nomark _))))) (je (jo (i:=9) scStm.nd rfl (Or.inl rfl) (jg cB.g hr rfl cB.m cB.k cB.b .nil pass0 (ja (pv 0) (ja (pv 1) (ja (pv 2) (ja (pv 3) (ja (jw kR (pv 4) jc) jb))))))) (jh (jp (jj (ja ji (ja (jg cM.g hr.m rfl cM.m cM.k cM.b .nil pass0 (ja (pv 0) (ja (pv 1) (ja jc jb)))) (ja (pv 9) (ja (jg cB.g hr rfl cB.m cB.k cB.b .nil pass0 (ja (pv 0) (ja (pv 1) (ja (pv 2) (ja (pv 3) (ja (jw kR (pv 4) jc) jb)))))) jb)))))))) jr)) (je (jT (jy (@PW.pt _ _ _ (@qD _ _ _ _ _ _ _ (@jl _ _ _ _ _ _ _ _ jz (pv 5) jc (nomark _)) (@zR _ _ _ _ (@jl _ _ _ _ _ _ _ _ qO (pv 4) jc (nomark _))))) (jh (jp (jj (ja ji (ja (jg cM.g hr.m rfl cM.m cM.k cM.b .nil pass0 (ja (pv 0) (ja (pv 1) (ja jc jb)))) (ja (jg cB.g hr rfl cB.m cB.k cB.b .nil pass0 (ja (pv 0) (ja (pv 1) (ja (pv 2) (ja (pv 3) (ja (jw kR (pv 4) jc) jb)))))) jb)))))) jr)) (je (jy (@jl _ _ _ _ _ _ _ _ jz (pv 5) jc (nomark _)) (jh (jp (jj (ja ji (ja (jg cM.g hr.m rfl cM.m cM.k cM.b .nil pass0 (ja (pv 0) (ja (pv 1) (ja jc jb)))) jb))))) jr) (jh (jp (jj (ja ji (ja (pv 6) (ja (jg cM.g hr.m rfl cM.m cM.k cM.b .nil pass0 (ja (pv 0) (ja (pv 1) (ja jc jb)))) jb))))))))))))))),?_⟩
 try dsimp only[cxOf,Cx.nox,Cx.wish]
 have big:=line24
 have B:=G0.B
 have hgp:g≠p:=zL B G0.g
 refine seqF fun F1 f1=>⟨_,rfl,p,10,rfl,B,by decide,by decide,fun kd H1 k0 k1 B1 e1=>f1 _ _ ?_⟩
 clear f1
 have G1:=G0.but B1 (But.of_eq e1)
 have y1:=G0.y1
 have y2:=G0.y2
 refine seqF fun F1 f1=>⟨_,rfl,_,rfl,_,rfl,g,_,rfl,.inl (SqL.of G1.g),p,_,rfl,B1,by rw[List.length_map];omega,by rw[List.length_map];omega,fun d2 H2 d20 d21 B2 e2=>?_⟩
 rw[List.length_map]at d21
 have G2:=G1.but B2 (But.of_eq e2)
 obtain⟨y,hy,hat⟩:=Jt (ys:=ys) d20 d21
 refine⟨g,_,_,_,rfl,rfl,SqL.of G2.g,hat,f1 _ _ ?_⟩
 clear f1
 obtain⟨k,hk⟩:=G2.s
 have ek:spK H sp=k:=((kc B1 G1.s (But.of_eq e2)).trans (kc B G0.s (But.of_eq e1))).symm.trans (qE hk)
 refine seqF fun F1 f1=>⟨_,rfl,sp,_,_,_,rfl,rfl,SqL.of hk,rfl,_,_,rfl,rfl,_,rfl,sp,_,_,0,rfl,rfl,hk,rfl,f1 _ _ ?_⟩
 clear f1
 have spp:=G2.s.ne B2
 have B3:BoxAt (upd H2 sp (.lst ([.int k].set 0 (.int (k - 1))))) p:=B2.eq (jm (Ne.symm spp))
 have s3:SpAt (upd H2 sp (.lst ([.int k].set 0 (.int (k - 1))))) sp:=⟨k - 1,jd⟩
 have K3:But2 p sp H (upd H2 sp (.lst ([.int k].set 0 (.int (k - 1))))):=((But.of_eq e1).trans (But.of_eq e2)).two.trans But2.at
 have G3:=G0.but2 B3 s3 K3
 have e3:spK (upd H2 sp (.lst ([.int k].set 0 (.int (k - 1))))) sp=k - 1:=qE jd
 generalize upd H2 sp (.lst ([.int k].set 0 (.int (k - 1))))=H3 at B3 s3 K3 G3 e3
 have lfq:∀(l:Lf) (zs:List V) (H4:Hp) (r:Addr),LfV H4 l zs->l.Ok ys->Gen H4 p g h sp ys hs->But2 p sp H H4->spK H4 sp=k - 1->H4 r=none->Q (.ref r) (upd H4 r (.tup zs)):=fun l zs H4 r hl ok G4 K4 e4 nr=>
  q r (.lf r l .nil) _ ⟨zs,[],rfl,jd,hl.mono (Same.tm (jf nr)),rfl⟩ (by rw[j6 G4.s (jf nr)];show((0+1:Nat):Int)+_<=_;omega) (by rw[j6 G4.s (jf nr)];omega) (fit_lf ok) (G4.B.upd_new nr) (G4.s.new nr) (K4.trans (But2.of_same (jf nr)))
 refine seqF fun F1 f1=>ifG fun G' g'=>⟨_,rfl,_,_,rfl,rfl,_,rfl,g' _ _ ?_⟩
 clear g'
 refine ite2 (fun c=>?_) (fun c=>f1 _ _ ?_)
 ·refine⟨_,rfl,_,rfl,_,rfl,p,g,ys,rfl,G3.B,G3.g,y1,y2,fun r T H4 hT oT B4 k4=>⟨sz3,fun t nt=>?_⟩⟩
  exact lfq (.rd y r T) _ H4 t ⟨rfl,hT⟩ ⟨hy,oT⟩ (G3.but B4 k4) (K3.trans k4.two) ((kc G3.B G3.s k4).trans e3) nt
 have wr:∀(r:Addr) (T0:Tm) (H4:Hp),TmAt H4 T0 r->TmOk ys T0->BoxAt H4 p->But p H3 H4->tCall (spTerm 4) [] E0 (tCons (tVar 0) (tCons (tVar 1) (tCons (tC (.int 2)) tNil))) [some (.ref p),some (.ref g),some (.ref h),some (.ref sp),some (.int (d:Int)),some (.int kd),some (.str y),none,none,none] H4 (fun v H5=>3<=sizeLine/\∀t,H5 t=none->Q (.ref t) (upd H5 t (.tup [.str "write",.ref r,v]))):=fun r T0 H4 hT0 oT0 B4 k4=>by
  refine⟨_,rfl,_,rfl,p,g,2,ys,rfl,B4,(G3.but B4 k4).g,y1,y2,by decide,by decide,fun r2 T H5 hT dT gT B5 k5=>⟨(by decide),fun t nt=>?_⟩⟩
  exact lfq (.wr r r2 T0 T) _ H5 t ⟨rfl,hT0.but B4 k5,hT⟩ ⟨oT0,gT,by omega⟩ (G3.but B5 (k4.trans k5)) (K3.trans (k4.trans k5).two) ((kc G3.B G3.s (k4.trans k5)).trans e3) nt
 refine seqF fun F1 f1=>ifG fun G' g'=>?_
 have yes:G' true H3:=g' _ _ (iteT ⟨_,rfl,_,rfl,p,g,ys,rfl,G3.B,G3.g,y1,y2,fun r T0 H4 hT0 oT0 B4 k4=>wr r T0 H4 hT0 oT0 B4 k4⟩)
 refine⟨_,rfl,rfl,_,rfl,ite2 (fun c=>yes) (fun c=>⟨_,rfl,rfl,_,rfl,boolC yes fun c2=>g' _ _ (ifX c2 (f1 _ _ ?_))⟩)⟩
 clear yes g' f1
 obtain⟨hv,hh,hH⟩:=G3.h
 have hl:=hH.len
 have h1:=G0.h1
 have h2:=G0.h2
 have cal:∀(f':Str) (ps:List Str) (t:Addr) (H4:Hp),Gen H4 p g h sp ys hs->But2 p sp H H4->spK H4 sp=k - 1->H4 t=some (.tup (ps.map V.str))->ps.length<=6->
   CompR (Itt K t) 1 [some (.ref p),some (.ref g)] (gName 0) tAll (tCall (spTerm 4) [] E0 (tCons (tVar 1) (tCons (tVar 2) (tCons (tC (.int 1)) tNil)))) (fun zs H5=>∀l,H5 l=none->∃p' ys',[V.ref l]=[.ref p']/\((SqL K (upd H5 l (.lst zs)) p' ys'/\∀l2,upd H5 l (.lst zs) l2=none->4<=sizeLine/\∀r,upd (upd H5 l (.lst zs)) l2 (.tup ys') r=none->Q (.ref r) (upd (upd (upd H5 l (.lst zs)) l2 (.tup ys')) r (.tup [.str "call",.str y,.str f',.ref l2])))∨(SqT K (upd H5 l (.lst zs)) p' ys'/\4<=sizeLine/\∀r,upd H5 l (.lst zs) r=none->Q (.ref r) (upd (upd H5 l (.lst zs)) r (.tup [.str "call",.str y,.str f',.ref p']))))) H4:=fun f' ps t H4 G4 K4 e4 ht hpl=>by
  refine za (K:=K) (xs:=ps.map V.str) (by rw[List.length_map];omega) (fun i zs H5=>∃ts:List (Addr×Tm),zs=ts.map (fun c=>V.ref c.1)/\ts.length=i/\(∀c∈ts,TmAt H5 c.2 c.1/\TmOk ys c.2)/\BoxAt H5 p/\But p H4 H5) ⟨[],rfl,rfl,(fun _ h=>absurd h List.not_mem_nil),G4.B,But.refl⟩ (fun i zs H5 h5=>?_) ?_ ?_
  ·obtain⟨ts,rfl,e5,_,_,k5⟩:=h5
   exact⟨SqT.of (k5.tm G4.B _ _ ht),by rw[List.length_map,e5];exact Nat.le_refl _⟩
  ·intro i x zs H5 hx hq'
   refine opq fun Gq kq=>?_
   obtain⟨ts,rfl,e5,h5,B5,k5⟩:=hq'
   refine kq ?_
   clear kq
   refine⟨_,rfl,_,rfl,p,g,1,ys,rfl,B5,(G4.but B5 k5).g,y1,y2,by decide,by decide,fun r2 T H6 hT dT gT B6 k6=>⟨ts++[(r2,T)],by rw[List.map_append];rfl,by rw[List.length_append,e5];rfl,fun c hc=>?_,B6,k5.trans k6⟩⟩
   rcases List.mem_append.mp hc with hc |hc
   ·exact⟨(h5 c hc).1.but B5 k6,(h5 c hc).2⟩
   ·rw[List.mem_singleton.mp hc]
    exact⟨hT,gT,(by show T.depth < 6;omega)⟩
  ·rintro zs H5 ⟨ts,rfl,e5,h5,B5,k5⟩ l nl
   refine⟨l,_,rfl,.inl ⟨SqL.of jd,fun l2 nl2=>⟨(by decide),fun r nr=>?_⟩⟩⟩
   have G5:=G4.but B5 k5
   have s6:Same H5 (upd (upd H5 l (.lst (ts.map fun c=>V.ref c.1))) l2 (.tup (ts.map fun c=>V.ref c.1))):=(jf nl).trans (jf nl2)
   rw[List.length_map]at e5
   exact lfq (.cl y f' l2 ts) _ _ r ⟨rfl,jd,fun c hc=>(h5 c hc).1.same s6⟩ ⟨hy,by omega,fun c hc=>(h5 c hc).2⟩ (G5.but2 ((G5.B.upd_new nl).upd_new nl2) ((G5.s.new nl).new nl2) (But2.of_same s6)) ((K4.trans k5.two).trans (But2.of_same s6)) ((j6 G5.s s6).trans ((kc G4.B G4.s k5).trans e4)) nr
 refine seqF fun F1 f1=>ifG fun G' g'=>?_
 have yes:G' true H3:=by
  refine g' _ _ (iteT ?_)
  clear f1 g'
  refine seqF fun F2 f2=>⟨_,rfl,_,rfl,_,rfl,h,_,rfl,.inl (SqL.of hh),p,_,rfl,G3.B,by omega,by omega,fun d4 H4 d40 d41 B4 e4=>?_⟩
  have G4:=G3.but B4 (But.of_eq e4)
  have k4:But p H3 H4:=But.of_eq e4
  have hH4:=hH.mono (k4.tm G3.B)
  refine opq fun Gq kq=>?_
  obtain⟨v,c0,hva,hc0,p4,t4,rfl,z1,z2⟩:=ref_at hH4 d40 d41
  refine kq ?_
  clear kq
  refine⟨h,_,_,_,rfl,rfl,SqL.of (k4 _ _ G3.hsp.2 hh),hva,p4,_,rfl,SqT.of z1,rfl,_,_,rfl,_,_,rfl,rfl,f2 _ _ ?_⟩
  clear f2
  refine⟨_,rfl,_,rfl,_,rfl,t4,rfl,⟨_,SqT.of z2⟩,?_⟩
  exact cal c0.1 c0.2 t4 H4 G4 (K3.trans k4.two) ((kc G3.B G3.s k4).trans e3) z2 (G0.h3 c0 hc0)
 refine⟨_,rfl,rfl,_,rfl,ite2 (fun c=>yes) (fun c=>⟨_,rfl,rfl,_,rfl,boolC yes fun c2=>g' _ _ (ifX c2 (f1 _ _ ?_))⟩)⟩
 clear yes g' f1
 have low:∀(c:(0:Int) < (d:Int)),∃d':Nat,d=d'+1:=fun c=>⟨d - 1,by omega⟩
 refine seqF fun F1 f1=>midE (RH p g h sp d kd y H3) (fun E6 eR f6=>?_) fun σ' H' z=>?_
 ·clear f1
  refine ifG fun G' g'=>⟨_,rfl,rfl,_,rfl,?_⟩
  refine ite2 (fun c=>?_) (fun c=>g' _ _ (iteF (f6 _ _ ⟨rfl,rfl⟩)))
  refine⟨_,rfl,_,_,rfl,rfl,_,rfl,g' _ _ ?_⟩
  clear g'
  refine ite2 (fun c2=>?_) (fun c2=>f6 _ _ ⟨rfl,rfl⟩)
  clear f6
  obtain⟨d',rfl⟩:=low (of_decide_eq_true c2)
  have ed:(((d'+1:Nat):Int) - 1)=((d':Nat):Int):=by omega
  refine⟨_,rfl,_,rfl,_,rfl,_,rfl,_,rfl,_,_,rfl,rfl,p,g,h,sp,d',ys,hs,(by show [V.ref p,V.ref g,V.ref h,V.ref sp,V.int (((d'+1:Nat):Int) - 1)]=_;rw[ed]),G3,by omega,by omega,fun r b bs H4 hr4 hb4 hsz hs0 hdp B4 s4 k4=>?_⟩
  have G4:=G3.but2 B4 s4 k4
  refine⟨_,rfl,_,rfl,p,g,2,ys,rfl,G4.B,G4.g,y1,y2,by decide,by decide,fun r2 T H5 hT dT gT B5 k5=>?_⟩
  have G5:=G4.but B5 k5
  refine⟨_,rfl,_,rfl,_,rfl,_,rfl,_,rfl,_,rfl,_,_,rfl,rfl,p,g,h,sp,d',ys,hs,(by show [V.ref p,V.ref g,V.ref h,V.ref sp,V.int (((d'+1:Nat):Int) - 1)]=_;rw[ed]),G5,by omega,(by rw[kc G4.B G4.s k5];exact hs0),fun r3 b3 bs3 H6 hr6 hb6 hsz6 hs6 hdp6 B6 s6 k6=>⟨sz4,fun t nt=>?_⟩⟩
  have G6:=G5.but2 B6 s6 k6
  have tm:TMono H4 H6:=fun b' xs e=>k6.tm G5.B G5.s _ _ (k5.tm G4.B _ _ e)
  have tmn:TMono H6 (upd H6 t (.tup [.str "if",.ref r2,.ref r,.ref r3])):=Same.tm (jf nt)
  rw[eR]
  refine q t (.ite t r2 T b b3 .nil) _ ⟨r,r3,bs,bs3,[],rfl,jd,(hT.mono (k6.tm G5.B G5.s)).mono tmn,tmn _ _ (tm _ _ hr4),tmn _ _ hr6,(hb4.mono tm).mono tmn,hb6.mono tmn,rfl⟩ (by have x1:=kc G4.B G4.s k5;rw[j6 G6.s (jf nt)];show((b.size+b3.size+0+1:Nat):Int)+_<=_;omega) (by rw[j6 G6.s (jf nt)];exact hs6) (fit_ite ⟨gT,by omega⟩ hdp hdp6) (G6.B.upd_new nt) (G6.s.new nt) (((K3.trans k4).trans (k5.two.trans k6)).trans (But2.of_same (jf nt)))
 obtain⟨rfl,e⟩:=z
 rw[e]
 refine f1 _ _ ?_
 clear f1
 refine seqF fun F1 f1=>midE (RH p g h sp d kd y H3) (fun E6 eR f6=>?_) fun σ' H' z=>?_
 ·clear f1
  refine ifG fun G' g'=>⟨_,rfl,rfl,_,rfl,?_⟩
  refine ite2 (fun c=>?_) (fun c=>g' _ _ (iteF (f6 _ _ ⟨rfl,rfl⟩)))
  refine⟨_,rfl,_,_,rfl,rfl,_,rfl,g' _ _ ?_⟩
  clear g'
  refine ite2 (fun c2=>?_) (fun c2=>f6 _ _ ⟨rfl,rfl⟩)
  clear f6
  obtain⟨d',rfl⟩:=low (of_decide_eq_true c2)
  have ed:(((d'+1:Nat):Int) - 1)=((d':Nat):Int):=by omega
  refine⟨_,rfl,_,rfl,p,g,2,ys,rfl,G3.B,G3.g,y1,y2,by decide,by decide,fun r2 T H5 hT dT gT B5 k5=>?_⟩
  have G5:=G3.but B5 k5
  refine⟨_,rfl,_,rfl,_,rfl,_,rfl,_,rfl,_,_,rfl,rfl,p,g,h,sp,d',ys,hs,(by show [V.ref p,V.ref g,V.ref h,V.ref sp,V.int (((d'+1:Nat):Int) - 1)]=_;rw[ed]),G5,by omega,(by rw[kc G3.B G3.s k5];omega),fun r3 b3 bs3 H6 hr6 hb6 hsz6 hs6 hdp6 B6 s6 k6=>⟨sz3,fun t nt=>?_⟩⟩
  have G6:=G5.but2 B6 s6 k6
  have tmn:TMono H6 (upd H6 t (.tup [.str "while",.ref r2,.ref r3])):=Same.tm (jf nt)
  rw[eR]
  refine q t (.loop t r2 T b3 .nil) _ ⟨r3,bs3,[],rfl,jd,(hT.mono (k6.tm G5.B G5.s)).mono tmn,tmn _ _ hr6,hb6.mono tmn,rfl⟩ (by have x1:=kc G3.B G3.s k5;rw[j6 G6.s (jf nt)];show((b3.size+0+1:Nat):Int)+_<=_;omega) (by rw[j6 G6.s (jf nt)];exact hs6) (ZR ⟨gT,by omega⟩ hdp6) (G6.B.upd_new nt) (G6.s.new nt) ((K3.trans (k5.two.trans k6)).trans (But2.of_same (jf nt)))
 obtain⟨rfl,e⟩:=z
 rw[e]
 refine f1 _ _ ?_
 clear f1
 refine seqF fun F1 f1=>ifG fun G' g'=>⟨_,rfl,rfl,_,rfl,g' _ _ ?_⟩
 clear g'
 refine ite2 (fun c=>?_) (fun c=>f1 _ _ ?_)
 ·refine⟨_,rfl,_,rfl,p,g,2,ys,rfl,G3.B,G3.g,y1,y2,by decide,by decide,fun r2 T H5 hT dT gT B5 k5=>⟨sz2,fun t nt=>?_⟩⟩
  exact lfq (.gv r2 T) _ H5 t ⟨rfl,hT⟩ ⟨gT,by omega⟩ (G3.but B5 k5) (K3.trans k5.two) ((kc G3.B G3.s k5).trans e3) nt
 ·refine⟨_,rfl,_,rfl,_,rfl,p,g,3,ys,rfl,G3.B,G3.g,y1,y2,by decide,by decide,fun r2 T H5 hT dT gT B5 k5=>⟨sz3,fun t nt=>?_⟩⟩
  exact lfq (.st y r2 T) _ H5 t ⟨rfl,hT⟩ ⟨hy,gT,by omega⟩ (G3.but B5 k5) (K3.trans k5.two) ((kc G3.B G3.s k5).trans e3) nt
theorem scBody:FnScope ["_law_box_here","_law_names_here","_law_heads","_law_spare","_law_deep","_law_body_here","_law_k"] ["_law_box_here","_law_names_here","_law_heads","_law_spare","_law_deep"] (defScope sBody):=fsc
theorem XQ{f:Addr}{fd:FuncData}(F:Fun K "_law_body" "_law_body" sBody f fd)(cT:Cl P w K mg base 1 fT fdT ["_law_box_here","_law_wide"] spTake "_law_take"){L n:Nat}(cS:Cl P w K mg base (L+8) fS fdS ["_law_box_here","_law_names_here","_law_heads","_law_spare","_law_deep"] (spStm n) "_law_statement")(mr:mg "range"=none)(mtu:mg "tuple"=none):FnOk P w K mg base CX0 (L+9) f fd ["_law_box_here","_law_names_here","_law_heads","_law_spare","_law_deep"] (spBody n):=by
 refine F.ok scBody (fun vs H Q E h=>?_) (fun cdv A outer s H vs Q E hr h=>?_)
 ·refine opq fun Gq kq=>?_
  obtain⟨p,g,h,sp,d,ys,hs,rfl,_⟩:=h
  refine kq ?_
  clear kq
  rfl
 refine opq fun Gq kq=>?_
 obtain⟨p,g,h,sp,d,ys,hs,rfl,G0,hd,hk0,q⟩:=h
 refine kq ?_
 clear kq
 refine⟨_,(je (jo (i:=5) scBody.nd rfl (Or.inl rfl) (jH jb)) (je (@kl _ _ _ _ _ _ _ _ PassesOwn.never rfl (@ke _ _ _ _ _ _ rfl mr (ja (jg cT.g hr.m rfl cT.m cT.k cT.b .nil pass0 (ja (pv 0) (ja jc jb))) jb) (by rfl)) (jx (i:=6) scBody.nd rfl (Or.inl rfl)) (jh (jy (@jl _ _ _ _ _ _ _ _ qO (@jk _ _ _ _ _ _ _ ju (pv 3) jc (fun _ _=>rfl)) jc (nomark _)) (jh (jY (@kD _ _ _ _ _ _ _ _ _ _ _ _ PySem.F.plainAttrs_list PySem.F.slot_list_append PySem.F.type_list_append jP (pv 5) (ja (jg cS.g hr rfl cS.m cS.k cS.b .nil pass0 (ja (pv 0) (ja (pv 1) (ja (pv 2) (ja (pv 3) (ja (pv 4) jb)))))) jb) (by rfl) (by rfl) (by rfl) (by rfl) (by rfl)))) jr)) (by intro _;rfl)) (jh (jp (@jC _ _ _ _ _ _ _ _ _ jI rfl mtu boot_tuple (ja (pv 5) jb) (by decide) (by decide) (by rfl) (by rfl)))))),?_⟩
 try dsimp only[cxOf,Cx.nox,Cx.wish]
 have big:=line24
 refine⟨Nat.zero_le _,fun l nl=>?_⟩
 have s0:Same H (upd H l (.lst [])):=jf nl
 have G1:Gen (upd H l (.lst [])) p g h sp ys hs:=G0.but2 (G0.B.upd_new nl) (G0.s.new nl) (But2.of_same s0)
 have l1:upd H l (.lst []) l=some (.lst []):=jd
 have lp:l≠p:=G0.B.ne nl
 have lsp:l≠sp:=fun e=>by obtain⟨k,z⟩:=G0.s;rw[<- e,nl]at z;cases z
 have k1:But2 p sp H (upd H l (.lst [])):=But2.of_same s0
 have ek1:spK (upd H l (.lst [])) sp=spK H sp:=j6 G0.s s0
 generalize upd H l (.lst [])=H1 at G1 l1 k1 ek1
 refine⟨_,rfl,p,6,rfl,G1.B,by decide,by decide,fun m H2 m0 m1 B2 e2=>⟨_,rfl,by omega,by omega,?_⟩⟩
 have G2:=G1.but B2 (But.of_eq e2)
 refine Kb (lo:=0) (fun i σ H'=>∃(o6:Option V) (vs:List V) (b:Bd),σ=[some (.ref p),some (.ref g),some (.ref h),some (.ref sp),some (.int (d:Int)),some (.ref l),o6]/\H' l=some (.lst vs)/\BdV H' b vs/\((b.size:Int)+spK H' sp<=spK H sp/\0<=spK H' sp)/\b.fit ys d/\vs.length<=i/\BoxAt H' p/\SpAt H' sp/\But2 p sp H H')
  ⟨none,[],.nil,rfl,by rw[e2 l lp];exact l1,rfl,(by rw[kc G1.B G1.s (But.of_eq e2),ek1];exact⟨by show((0:Nat):Int)+_<=_;omega,hk0⟩),XL,Nat.zero_le _,B2,G2.s,k1.trans (But.of_eq e2).two⟩ ?_ ?_
 ·intro i σ H3 hi hq'
  refine opq fun Gq kq=>?_
  obtain⟨o6,vs,b,rfl,hl3,hb3,hz3,hd3,hvl,B3,s3,k3⟩:=hq'
  refine kq ?_
  clear kq
  have G3:=G0.but2 B3 s3 k3
  obtain⟨kk,hkk⟩:=id s3
  refine⟨_,rfl,sp,_,_,_,rfl,rfl,SqL.of hkk,rfl,_,_,rfl,rfl,_,rfl,?_⟩
  refine ite2 (fun c=>?_) (fun c=>?_)
  ·refine⟨_,rfl,.inl ⟨rfl,_,SqL.of hl3⟩,_,rfl,_,rfl,_,rfl,_,rfl,_,rfl,p,g,h,sp,d,ys,hs,rfl,G3,hd,(by rw[qE hkk];exact of_decide_eq_true c),fun r b4 H4 hb4 hz4 hz5 hd4 B4 s4 k4=>?_⟩
   have hl4:H4 l=some (.lst vs):=k4 _ _ lp lsp hl3
   refine⟨l,_,_,rfl,rfl,hl4,by omega,?_⟩
   have tm:TMono H4 (upd H4 l (.lst (vs++[.ref r]))):=fun b' xs e=>by rw[jm (kf e hl4 (by intro z;cases z))];exact e
   have tm34:TMono H3 H4:=k4.tm B3 s3
   refine⟨_,_,b.app b4,rfl,jd,(hb4.mono tm).app ((hb3.mono tm34).mono tm),?_,XM hd3 hd4,by rw[List.length_append];show vs.length+1<=i+1;omega,B4.eq (jm (Ne.symm lp)),?_,fun b' o n1 n2 e=>?_⟩
   ·rw[jQ,QG s4 fun o e=>by rw[jm (Ne.symm lsp)];exact e]
    obtain⟨z1,z2⟩:=hz3
    exact⟨by omega,hz5⟩
   ·obtain⟨z,hz⟩:=s4
    exact⟨z,by rw[jm (Ne.symm lsp)];exact hz⟩
   ·rw[jm (jv e nl)]
    exact k4 _ _ n1 n2 (k3 _ _ n1 n2 e)
  ·exact⟨_,vs,b,rfl,hl3,hb3,hz3,hd3,by omega,B3,s3,k3⟩
 ·intro σ H3 hq'
  refine opq fun Gq kq=>?_
  obtain⟨o6,vs,b,rfl,hl3,hb3,hz3,hd3,hvl,B3,s3,k3⟩:=hq'
  refine kq ?_
  clear kq
  refine⟨_,rfl,l,vs,rfl,.inl ⟨SqL.of hl3,fun t nt=>?_⟩⟩
  have hm:(m).toNat<=5:=by omega
  refine q t b vs _ jd (hb3.mono (Same.tm (jf nt))) (by rw[j6 s3 (jf nt)];exact hz3.1) (by rw[j6 s3 (jf nt)];exact hz3.2) hd3 (B3.upd_new nt) (s3.new nt) (k3.trans (But2.of_same (jf nt)))
theorem Zd{f:Addr}{fd:FuncData}:FnOk P w K mg base CX0 8 f fd ["_law_box_here","_law_names_here","_law_heads","_law_spare","_law_deep"] (spStm 0):=by
 have no:∀vs H Q E,¬spStm 0 vs H Q E:=fun vs H Q E h=>by
  refine opq fun Gq kq=>?_
  obtain⟨p,g,h,sp,d,ys,hs,_,_,h0,_⟩:=h
  refine kq ?_
  clear kq
  exact absurd h0 (Nat.not_lt_zero _)
 exact⟨fun vs H Q E h=>absurd h (no vs H Q E),fun A outer s H args us vs Q E _ _ _ _ h=>absurd h (no vs H Q E)⟩
theorem stms{f fT fM fP fB:Addr}{fd fdT fdM fdP fdB:FuncData}(F:Fun K "_law_statement" "_law_statement" sStm f fd)(FB:Fun K "_law_body" "_law_body" sBody fB fdB)(cT:Cl P w K mg base 1 fT fdT ["_law_box_here","_law_wide"] spTake "_law_take")(cM:Cl P w K mg base 6 fM fdM ["_law_box_here","_law_names_here","_law_deep"] (spTerm 4) "_law_term")(cP:Cl P w K mg base 7 fP fdP ["_law_box_here","_law_names_here"] spSpot "_law_spot")(bS:Binds K fd ["_law_box_here","_law_names_here","_law_heads","_law_spare","_law_deep"] [])(mS:mg "_law_statement"=some (.ref f))(bB:Binds K fdB ["_law_box_here","_law_names_here","_law_heads","_law_spare","_law_deep"] [])(mB:mg "_law_body"=some (.ref fB))(ml:mg "len"=none)(mtu:mg "tuple"=none)(mr:mg "range"=none):
  ∀n:Nat,FnOk P w K mg base CX0 (n+n+8) f fd ["_law_box_here","_law_names_here","_law_heads","_law_spare","_law_deep"] (spStm n)/\FnOk P w K mg base CX0 (n+n+9) fB fdB ["_law_box_here","_law_names_here","_law_heads","_law_spare","_law_deep"] (spBody n)
 |0=>⟨Zd,XQ (L:=0) FB cT ⟨Zd,bS,F.kp,mS⟩ mr mtu⟩
 |n+1=>by
  have ih:=stms F FB cT cM cP bS mS bB mB ml mtu mr n
  have e1:n+n+10=n+1+(n+1)+8:=by omega
  have e2:n+n+2+9=n+1+(n+1)+9:=by omega
  have h1:=ok_stm (L:=n+n) F cT cM cP ⟨ih.2,bB,FB.kp,mB⟩ ml mtu
  have h2:=XQ (L:=n+n+2) FB cT ⟨h1,bS,F.kp,mS⟩ mr mtu
  rw[<- e1,<- e2]
  exact⟨h1,h2⟩
theorem cutN{xs:List V}{k:Nat}(h:k<=xs.length):cutV xs none (some (k:Int))=xs.take k:=by
 unfold cutV
 rw[HT.sIx_nat,HT.sIx_none]
 have e2:min k xs.length=k:=by omega
 rw[e2]
 simp
noncomputable abbrev sAny:Stmt:=top 43
theorem deep_at{d:Int}(h0:0<=d)(h1:d < 4):∃dp:Nat,atI [V.int 3,.int 3,.int 3,.int 5] d=some (.int (dp:Int))/\dp < 6/\szS dp<=111111/\dp<=5:=by
 rcases(by omega:d=0∨d=1∨d=2∨d=3) with rfl |rfl |rfl |rfl
 ·exact⟨3,rfl,by decide,by decide,by decide⟩
 ·exact⟨3,rfl,by decide,by decide,by decide⟩
 ·exact⟨3,rfl,by decide,by decide,by decide⟩
 ·exact⟨5,rfl,by decide,by decide,by decide⟩
theorem ZS{ys:List Str}{k:Int}(hl:ys.length=20)(h0:14<=k)(h1:k<=20):1<=(cutS ys (some 8) (some k)).length/\(cutS ys (some 8) (some k)).length<=20:=by
 refine⟨?_,by have:=zO ys (some 8) (some k);omega⟩
 have e8:(8:Int)=((8:Nat):Int):=rfl
 have ek:k=((k.toNat:Nat):Int):=by omega
 unfold cutS
 rw[e8,ek,HT.sIx_nat,HT.sIx_nat,List.length_take,List.length_drop]
 omega
theorem cutS_to{ss:List Str}{k:Int}(h0:0<=k):(cutS ss none (some k)).length<=k.toNat:=by
 have ek:k=((k.toNat:Nat):Int):=by omega
 unfold cutS
 rw[ek,HT.sIx_nat,HT.sIx_none,List.length_take]
 omega
theorem seqO{t u:TS}{D:Ends}{σ:L2.St}{H:Hp}(h:∀E:Ends,(∀σ' H',u D σ' H'->E.nx σ' H')->t E σ H):tSeq t u D σ H:=h { D with nx:=u D } fun _ _ h=>h
def HdsOk(hs:List (Str×List Str)):Prop:=∀c∈hs,c.1.length<=20/\c.2.length<=6
def DfsOk(ds:List Df):Prop:=∀d∈ds,DfOk d
def PaV(H:Hp)(ds:List Df):Prop:=∀d∈ds,∃ps:List Str,H d.pa=some (.tup (ps.map V.str))/\ps.length<=100
theorem PaV.mono{H H':Hp}{ds:List Df}(h:PaV H ds)(k:TMono H H'):PaV H' ds:=fun d hd=>let ⟨ps,e,l⟩:=h d hd;⟨ps,k _ _ e,l⟩
theorem qv{α:Type}{P:α->Prop}{xs:List α}{x:α}(h:∀c∈xs,P c)(hx:P x):∀c∈xs++[x],P c:=fun c hc=>by
 rcases List.mem_append.mp hc with h1 |h1
 ·exact h c h1
 ·rw[List.mem_singleton.mp h1];exact hx
def DfsN(ds:List Df):Prop:=DfsOk ds/\(ds.map Df.f).Nodup/\∀y∈ds.map Df.f,y.length<=20
def spAny:Sp:=fun vs H Q _=>∃(p:Addr) (T rm:Int),vs=[.ref p,.int T,.int rm]/\BoxAt H p/\1<=T/\T<=8/\0<=rm/\rm<=40/\
 ∀(r:Addr) (ds:List Df) (xs:List V) (H':Hp),H' r=some (.tup xs)->DfsV H' ds xs->(ds.length:Int)=T->DfsN ds->PaV H' ds->BoxAt H' p->But p H H'->Q (.ref r) H'
theorem scAny:FnScope ["_law_box_here","_law_total","_law_room","_law_words","_law_most","_law_heads","_law_k","_law_turn","_law_row","_law_some","_law_deep","_law_defs","_law_f","_law_params","_law_spare","_law_body_here"] ["_law_box_here","_law_total","_law_room"] (defScope sAny):=fsc
inductive AJ(p wl:Addr)(T rm:Int)(H:Hp)(σ':L2.St)(H':Hp):Prop
 |mk (ys':List Str) (e0:σ'=[some (.ref p),some (.int T),some (.int rm),some (.ref wl),none,none,none,none,none,none,none,none,none,none,none,none]) (e1:H' wl=some (.lst (ys'.map V.str))) (e2:ys'.length=20) (e3:(∀y∈ys',y.length<=20)/\(ys'.take 8).Nodup) (e4:BoxAt H' p) (e5:But p H H'):AJ p wl T rm H σ' H'
inductive AI(p wl hl:Addr)(T rm m:Int)(ys:List Str)(H:Hp)(i:Nat)(σ:L2.St)(H':Hp):Prop
 |mk (o6 o7 o8:Option V) (hs:List (Str×List Str)) (hv:List V) (e0:σ=[some (.ref p),some (.int T),some (.int rm),some (.ref wl),some (.int m),some (.ref hl),o6,o7,o8,none,none,none,none,none,none,none]) (e1:H' hl=some (.lst hv)) (e2:HdsV H' hs hv) (e3:hs.length=i) (e4:HdsOk hs/\hs.map (·.1)=ys.take i) (e5:H' wl=some (.lst (ys.map V.str))) (e6:BoxAt H' p) (e7:But p H H'):AI p wl hl T rm m ys H i σ H'
inductive AK(p wl hl sm dl:Addr)(T rm m:Int)(dp:Nat)(zs:List Str)(hs:List (Str×List Str))(hv:List V)(H:Hp)(i:Nat)(σ:L2.St)(H':Hp):Prop
 |mk (o6 o7 o8 o12 o13 o14 o15:Option V) (ds:List Df) (dv:List V) (e0:σ=[some (.ref p),some (.int T),some (.int rm),some (.ref wl),some (.int m),some (.ref hl),o6,o7,o8,some (.ref sm),some (.int (dp:Int)),some (.ref dl),o12,o13,o14,o15]) (e1:H' dl=some (.lst dv)) (e2:DfsV H' ds dv) (e3:ds.length=i) (e4:DfsOk ds/\ds.map Df.f=(hs.map (·.1)).take i) (e5:H' hl=some (.lst hv)) (e6:HdsV H' hs hv) (e7:H' sm=some (.lst (zs.map V.str))) (e8:BoxAt H' p) (e9:But p H H') (e10:PaV H' ds):AK p wl hl sm dl T rm m dp zs hs hv H i σ H'
inductive AL(zs:List Str)(p wl hl sm dl t0 sp:Addr)(T rm m:Int)(dp:Nat)(o7 o8:Option V)(c:Str×List Str)(H9:Hp)(j:Nat)(σ:L2.St)(H':Hp):Prop
 |mk (o6':Option V) (bb:Addr) (Bb:Bd) (bs:List V) (e0:σ=[some (.ref p),some (.int T),some (.int rm),some (.ref wl),some (.int m),some (.ref hl),o6',o7,o8,some (.ref sm),some (.int (dp:Int)),some (.ref dl),some (.str c.1),some (.ref t0),some (.ref sp),some (.ref bb)]) (e1:H' bb=some (.tup bs)) (e2:BdV H' Bb bs) (e3:(Bb.size:Int)+spK H' sp<=rm/\0<=spK H' sp) (e4:Bb.fit zs dp) (e5:BoxAt H' p) (e6:SpAt H' sp) (e7:But2 p sp H9 H'):AL zs p wl hl sm dl t0 sp T rm m dp o7 o8 c H9 j σ H'
theorem ok_any{f:Addr}{fd:FuncData}(F:Fun K "_law_any" "_law_any" sAny f fd)(cT:Cl P w K mg base 1 fT fdT ["_law_box_here","_law_wide"] spTake "_law_take")(cA:Cl P w K mg base 2 fA fdA ["_law_box_here","_law_total"] spNames "_law_names")(cB:Cl P w K mg base 21 fB fdB ["_law_box_here","_law_names_here","_law_heads","_law_spare","_law_deep"] (spBody 6) "_law_body")(ml:mg "len"=none)(mr:mg "range"=none)(mtu:mg "tuple"=none)(mi:mg "int"=none):FnOk P w K mg base CX0 22 f fd ["_law_box_here","_law_total","_law_room"] spAny:=by
 refine F.ok scAny (fun vs H Q E h=>?_) (fun cdv A outer s H vs Q E hr h=>?_)
 ·refine opq fun Gq kq=>?_
  obtain⟨p,T,rm,rfl,_⟩:=h
  refine kq ?_
  clear kq
  rfl
 refine opq fun Gq kq=>?_
 obtain⟨p,T,rm,rfl,B,hT1,hT2,hR1,hR2,q⟩:=h
 refine kq ?_
 clear kq
 refine⟨_,(je (jo (i:=3) scAny.nd rfl (Or.inl rfl) (jg cA.g hr.m rfl cA.m cA.k cA.b .nil pass0 (ja (pv 0) (ja jc jb)))) (je (jT (jy (@jl _ _ _ _ _ _ _ _ jz (jg cT.g hr.m rfl cT.m cT.k cT.b .nil pass0 (ja (pv 0) (ja jc jb))) jc (nomark _)) (jh (@kQ _ _ _ _ _ _ (@jK _ _ _ _ _ _ _ _ _ _ j8 (pv 3) (@jZ _) (@jF _ _ _ jc)) (@ZG _ _ _ _ _ _ _ _ _ (pv 3) jc jc (by intro _;rfl)) (by rfl) (by rfl) (by rfl))) jr)) (je (jo (i:=4) scAny.nd rfl (Or.inl rfl) (@jk _ _ _ _ _ _ _ ju (jH (ja jc (ja jc jb))) (@jC _ _ _ _ _ _ _ _ _ kE rfl mi boot_int (ja (@ky _ _ _ _ _ _ _ _ jz (jg cT.g hr.m rfl cT.m cT.k cT.b .nil pass0 (ja (pv 0) (ja jc jb))) jc (nomark _)) jb) (by decide) (by decide) (by rfl) (by rfl)) (fun _ _=>rfl))) (je (jo (i:=5) scAny.nd rfl (Or.inl rfl) (jH jb)) (je (@kl _ _ _ _ _ _ _ _ PassesOwn.never rfl (@ke _ _ _ _ _ _ rfl mr (ja (pv 1) jb) (by rfl)) (jx (i:=6) scAny.nd rfl (Or.inl rfl)) (je (jo (i:=7) scAny.nd rfl (Or.inl rfl) (jw jS jc (jg cT.g hr.m rfl cT.m cT.k cT.b .nil pass0 (ja (pv 0) (ja jc jb))))) (je (jo (i:=8) scAny.nd rfl (Or.inl rfl) (jw zK (@jK _ _ _ _ _ _ _ _ _ _ j8 (pv 3) (@jF _ _ _ (pv 7)) (@jF _ _ _ jc)) (@jK _ _ _ _ _ _ _ _ _ _ j8 (pv 3) (@jF _ _ _ jc) (@jF _ _ _ (pv 7))))) (jh (jY (@kD _ _ _ _ _ _ _ _ _ _ _ _ PySem.F.plainAttrs_list PySem.F.slot_list_append PySem.F.type_list_append jP (pv 5) (ja (jj (ja (@jk _ _ _ _ _ _ _ ju (pv 3) (pv 6) (fun _ _=>rfl)) (ja (@jC _ _ _ _ _ _ _ _ _ jI rfl mtu boot_tuple (ja (@jK _ _ _ _ _ _ _ _ _ _ j8 (pv 8) (@jZ _) (@jF _ _ _ (jg cT.g hr.m rfl cT.m cT.k cT.b .nil pass0 (ja (pv 0) (ja (pv 4) jb))))) jb) (by decide) (by decide) (by rfl) (by rfl)) jb))) jb) (by rfl) (by rfl) (by rfl) (by rfl) (by rfl)))))) (by intro _;rfl)) (je (jo (i:=9) scAny.nd rfl (Or.inl rfl) (@jK _ _ _ _ _ _ _ _ _ _ j8 (pv 3) (@jF _ _ _ jc) (@jF _ _ _ (jw jS jc (jg cT.g hr.m rfl cT.m cT.k cT.b .nil pass0 (ja (pv 0) (ja jc jb))))))) (je (jo (i:=10) scAny.nd rfl (Or.inl rfl) (@jk _ _ _ _ _ _ _ ju (jH (ja jc (ja jc (ja jc (ja jc jb))))) (jg cT.g hr.m rfl cT.m cT.k cT.b .nil pass0 (ja (pv 0) (ja jc jb))) (fun _ _=>rfl))) (je (jo (i:=11) scAny.nd rfl (Or.inl rfl) (jH jb)) (je (@kl _ _ _ _ _ _ _ _ PassesOwn.never rfl (@zS _ _ _ _ (pv 5)) (@qd _ _ _ _ _ 2 rfl (jA (jx (i:=12) scAny.nd rfl (Or.inl rfl)) (jA (jx (i:=13) scAny.nd rfl (Or.inl rfl)) kL)) (by rfl) (by rfl)) (je (jo (i:=14) scAny.nd rfl (Or.inl rfl) (jH (ja (pv 2) jb))) (je (jo (i:=15) scAny.nd rfl (Or.inl rfl) (jj jb)) (je (@kl _ _ _ _ _ _ _ _ PassesOwn.never rfl (@ke _ _ _ _ _ _ rfl mr (ja jc jb) (by rfl)) (jx (i:=6) scAny.nd rfl (Or.inl rfl)) (jh (jo (i:=15) scAny.nd rfl (Or.inl rfl) (jw kB (pv 15) (jg cB.g hr rfl cB.m cB.k cB.b .nil pass0 (ja (pv 0) (ja (pv 9) (ja (pv 5) (ja (pv 14) (ja (pv 10) jb))))))))) (by intro _;rfl)) (jh (jY (@kD _ _ _ _ _ _ _ _ _ _ _ _ PySem.F.plainAttrs_list PySem.F.slot_list_append PySem.F.type_list_append jP (pv 11) (ja (jj (ja (pv 12) (ja (pv 13) (ja (pv 15) jb)))) jb) (by rfl) (by rfl) (by rfl) (by rfl) (by rfl))))))) (by intro _;rfl)) (jh (jp (@jC _ _ _ _ _ _ _ _ _ jI rfl mtu boot_tuple (ja (pv 11) jb) (by decide) (by decide) (by rfl) (by rfl))))))))))))),?_⟩
 try dsimp only[cxOf,Cx.nox,Cx.wish]
 have big:=line24
 refine seqO fun E1 m1=>?_
 refine⟨_,rfl,p,20,rfl,B,by decide,by decide,fun wl ys H1 nwl hw1 hyl hys B1 k1=>?_⟩
 refine m1 _ _ ?_
 refine seqO fun E2 m2=>?_
 have wp:wl≠p:=B.ne nwl
 refine midE (AJ p wl T rm H) (fun E0 _ fm=>?_) fun σ' H2 hq'=>?_
 ·clear m2
  refine ifG fun G' g'=>⟨_,rfl,p,2,rfl,B1,by decide,by decide,fun d1 H2 d10 d11 B2 e2=>?_⟩
  have hw2:H2 wl=some (.lst (ys.map V.str)):=by rw[e2 wl wp];exact hw1
  have k2:=k1.trans (But.of_eq e2)
  refine⟨rfl,_,rfl,g' _ _ ?_⟩
  clear g'
  refine ite2 (fun c=>?_) (fun c=>fm _ _ ⟨ys,rfl,hw2,by omega,⟨hys.1,hys.2.sublist (List.take_sublist _ _)⟩,B2,k2⟩)
  refine⟨_,rfl,_,rfl,wl,_,rfl,SqL.of hw2,fun sl nsl=>?_⟩
  have hwn:wl≠sl:=fun e=>by rw[<- e,hw2]at nsl;cases nsl
  have hp2:=B2.ne nsl
  refine⟨_,rfl,wl,sl,_,_,_,_,rfl,rfl,rfl,rfl,keepN hw2 nsl,jd,hwn,by decide,by decide,by rw[List.length_map];omega,?_,?_⟩
  ·have:=kO (ys.map V.str) none (some 2)
   rw[List.length_map]at this ⊢
   omega
  have e2:cutV (ys.map V.str) none (some 2)=(ys.take 2).map V.str:=by
   rw[show(2:Int)=((2:Nat):Int) from rfl,cutN (by rw[List.length_map];omega),List.map_take]
  refine fm _ _ ⟨ys.take 8++ys.take 2++ys.drop 10,rfl,?_,?_,?_,(B2.upd_new nsl).eq (jm (Ne.symm wp)),?_⟩
  ·rw[jd,e2,List.map_append,List.map_append,List.map_take,List.map_drop,List.map_take]
   rfl
  ·rw[List.length_append,List.length_append,List.length_take,List.length_take,List.length_drop]
   omega
  ·refine⟨fun y hy=>?_,?_⟩
   ·rcases List.mem_append.mp hy with h |h
    ·rcases List.mem_append.mp h with h |h
     ·exact hys.1 y (List.mem_of_mem_take h)
     ·exact hys.1 y (List.mem_of_mem_take h)
    ·exact hys.1 y (List.mem_of_mem_drop h)
   ·rw[List.append_assoc,List.take_append_of_le_length (by rw[List.length_take];omega),List.take_take]
    exact hys.2.sublist (List.take_sublist _ _)
  ·exact(k2.upd_new nsl).upd_own nwl
 obtain⟨ys,rfl,hw2,hyl,hys,B2,k2⟩:=hq'
 refine m2 _ _ ?_
 clear m1 m2
 refine seqO fun E3 m3=>?_
 refine⟨sz2,fun l1 nl1=>?_⟩
 refine⟨_,rfl,p,3,rfl,B2.upd_new nl1,by decide,by decide,fun d2 H3 d20 d21 B3 e3=>?_⟩
 have k3:But p H2 H3:=((But.refl).upd_new nl1).trans (But.of_eq e3)
 have l1p:=B2.ne nl1
 have hl1:H3 l1=some (.lst [.int 4,.int 7]):=by rw[e3 l1 l1p];exact jd
 refine⟨rfl,.inr ⟨_,rfl,?_⟩⟩
 have hat:∀c:Bool,∃m:Int,atI [V.int 4,V.int 7] (if c then 1 else 0)=some (.int m)/\4<=m/\m<=7:=fun c=>by
  cases c
  ·exact⟨4,rfl,by decide,by decide⟩
  ·exact⟨7,rfl,by decide,by decide⟩
 obtain⟨m,hm,m4,m7⟩:=hat _
 refine⟨l1,_,_,_,rfl,rfl,SqL.of hl1,hm,?_⟩
 refine m3 _ _ ?_
 refine seqO fun E4 m4=>?_
 have hw3:H3 wl=some (.lst (ys.map V.str)):=k3 _ _ wp hw2
 have k3':=k2.trans k3
 refine⟨Nat.zero_le _,fun hl nhl=>?_⟩
 refine m4 _ _ ?_
 refine seqO fun E5 m5=>?_
 have hlp:=B3.ne nhl
 have nhl0:H hl=none:=by
  cases z:H hl with
  |none=>rfl
  |some o=>have:=k3' _ _ hlp z;rw[nhl]at this;cases this
 have wh:wl≠hl:=fun e=>by rw[<- e,hw3]at nhl;cases nhl
 refine forE fun J j=>⟨_,rfl,T,rfl,by omega,by omega,j _ _ ?_⟩
 clear j
 refine kJ (lo:=0) (AI p wl hl T rm m ys H)
  ⟨none,none,none,[],[],rfl,jd,rfl,rfl,⟨(fun c hc=>nomatch hc),rfl⟩,keepN hw3 nhl,B3.upd_new nhl,k3'.upd_own nhl0⟩ ?_ ?_
 ·intro D' _ i σ H4 hi fin Gq kq hq'
  obtain⟨o6,o7,o8,hs,hv,rfl,hh4,hd4,hsl,hok,hw4,B4,k4⟩:=hq'
  refine kq ?_
  clear kq m5 m3 m4
  show tSeq (tAsg _ _) _ D' _ _
  refine seqO fun F1 f1=>?_
  refine⟨_,rfl,p,6,rfl,B4,by decide,by decide,fun d5 H5 d50 d51 B5 e5=>?_⟩
  have k5:But p H4 H5:=But.of_eq e5
  have hw5:=k5 _ _ wp hw4
  have hh5:=k5 _ _ hlp hh4
  have hd5:=hd4.mono (k5.tm B4)
  refine⟨_,_,rfl,rfl,?_⟩
  refine f1 _ _ ?_
  show tSeq (tAsg _ _) _ D' _ _
  refine seqO fun F2 f2=>?_
  refine⟨_,rfl,_,rfl,_,rfl,_,rfl,wl,_,rfl,SqL.of hw5,fun s1 ns1=>?_⟩
  refine⟨_,rfl,_,rfl,_,rfl,_,rfl,wl,_,rfl,SqL.of (keepN hw5 ns1),fun s2 ns2=>?_⟩
  have L1:=zO ys (some (8+d5)) (some 14)
  have L2':=zO ys (some 8) (some (8+d5))
  have L3:=kO (ys.map V.str) (some (8+d5)) (some 14)
  have L4:=kO (ys.map V.str) (some 8) (some (8+d5))
  rw[List.length_map]at L3 L4
  refine⟨s1,s2,_,_,rfl,rfl,keepN jd ns2,jd,by omega,fun rl nrl=>?_⟩
  refine f2 _ _ ?_
  have er:cutV (ys.map V.str) (some (8+d5)) (some 14)++cutV (ys.map V.str) (some 8) (some (8+d5))=(cutS ys (some (8+d5)) (some 14)++cutS ys (some 8) (some (8+d5))).map V.str:=by
   rw[zf,zf,List.map_append]
  have s6:Same H5 (upd (upd (upd H5 s1 (.lst (cutV (ys.map V.str) (some (8+d5)) (some 14)))) s2 (.lst (cutV (ys.map V.str) (some 8) (some (8+d5))))) rl (.lst (cutV (ys.map V.str) (some (8+d5)) (some 14)++cutV (ys.map V.str) (some 8) (some (8+d5))))):=((jf ns1).trans (jf ns2)).trans (jf nrl)
  have r6:upd (upd (upd H5 s1 (.lst (cutV (ys.map V.str) (some (8+d5)) (some 14)))) s2 (.lst (cutV (ys.map V.str) (some 8) (some (8+d5))))) rl (.lst (cutV (ys.map V.str) (some (8+d5)) (some 14)++cutV (ys.map V.str) (some 8) (some (8+d5)))) rl=some (.lst ((cutS ys (some (8+d5)) (some 14)++cutS ys (some 8) (some (8+d5))).map V.str)):=by rw[jd,er]
  have B6:BoxAt (upd (upd (upd H5 s1 (.lst (cutV (ys.map V.str) (some (8+d5)) (some 14)))) s2 (.lst (cutV (ys.map V.str) (some 8) (some (8+d5))))) rl (.lst (cutV (ys.map V.str) (some (8+d5)) (some 14)++cutV (ys.map V.str) (some 8) (some (8+d5))))) p:=((B5.upd_new ns1).upd_new ns2).upd_new nrl
  generalize upd (upd (upd H5 s1 (.lst (cutV (ys.map V.str) (some (8+d5)) (some 14)))) s2 (.lst (cutV (ys.map V.str) (some 8) (some (8+d5))))) rl (.lst (cutV (ys.map V.str) (some (8+d5)) (some 14)++cutV (ys.map V.str) (some 8) (some (8+d5))))=H6 at s6 r6 B6
  have LR:(cutS ys (some (8+d5)) (some 14)++cutS ys (some 8) (some (8+d5))).length<=40:=by rw[List.length_append];omega
  generalize cutS ys (some (8+d5)) (some 14)++cutS ys (some 8) (some (8+d5))=row at r6 LR
  have hw6:=s6 _ _ hw5
  have hh6:=s6 _ _ hh5
  have ei:(0:Int)+(i:Int)=(i:Int):=Int.zero_add _
  rw[ei]
  obtain⟨y,hyi⟩:∃y,ys[i]?=some y:=⟨_,List.getElem?_eq_getElem (by omega:i < ys.length)⟩
  have hy:=List.mem_of_getElem? hyi
  have hat:atI (ys.map V.str) (i:Int)=some (.str y):=jE (by rw[List.getElem?_map,hyi];rfl)
  have rp:rl≠p:=zL B6 r6
  refine⟨_,rfl,.inl ⟨rfl,_,SqL.of hh6⟩,_,rfl,_,rfl,wl,_,_,_,rfl,rfl,SqL.of hw6,hat,_,rfl,_,rfl,_,rfl,p,m,rfl,B6,by omega,by omega,fun d7 H7 d70 d71 B7 e7=>?_⟩
  have k7:But p H6 H7:=But.of_eq e7
  refine⟨_,rfl,rl,_,rfl,SqL.of (k7 _ _ rp r6),fun s3 ns3=>?_⟩
  refine⟨s3,_,rfl,.inl ⟨SqL.of jd,fun t nt=>⟨sz2,fun r nr=>?_⟩⟩⟩
  rw[zf]at nt nr ⊢
  have L8:=cutS_to (ss:=row) d70
  generalize cutS row none (some d7)=ps at*
  have s8:Same H7 (upd (upd (upd H7 s3 (.lst (ps.map V.str))) t (.tup (ps.map V.str))) r (.tup [.str y,.ref t])):=((jf ns3).trans (jf nt)).trans (jf nr)
  have t8:upd (upd (upd H7 s3 (.lst (ps.map V.str))) t (.tup (ps.map V.str))) r (.tup [.str y,.ref t]) t=some (.tup (ps.map V.str)):=keepN jd nr
  have r8:upd (upd (upd H7 s3 (.lst (ps.map V.str))) t (.tup (ps.map V.str))) r (.tup [.str y,.ref t]) r=some (.tup [.str y,.ref t]):=jd
  have B8:BoxAt (upd (upd (upd H7 s3 (.lst (ps.map V.str))) t (.tup (ps.map V.str))) r (.tup [.str y,.ref t])) p:=((B7.upd_new ns3).upd_new nt).upd_new nr
  generalize upd (upd (upd H7 s3 (.lst (ps.map V.str))) t (.tup (ps.map V.str))) r (.tup [.str y,.ref t])=H8 at s8 t8 r8 B8
  have hh8:=s8 _ _ (k7 _ _ hlp hh6)
  have hw8:=s8 _ _ (k7 _ _ wp hw6)
  have hdl:=hd4.len
  refine⟨hl,_,_,rfl,rfl,hh8,by omega,?_⟩
  have tm:TMono H8 (upd H8 hl (.lst (hv++[.ref r]))):=fun b xs e=>by rw[jm (kf e hh8 (by intro z;cases z))];exact e
  have hd8:=((hd5.mono (Same.tm s6)).mono (k7.tm B6)).mono (Same.tm s8)
  refine fin _ _ ⟨_,_,_,hs++[(y,ps)],_,rfl,jd,(hd8.mono tm).snoc ⟨r,t,rfl,tm _ _ r8,tm _ _ t8⟩,by rw[List.length_append,hsl];rfl,⟨qv hok.1 ⟨hys.1 y hy,by show ps.length<=6;omega⟩,by rw[List.map_append,hok.2,List.take_succ,hyi];rfl⟩,by rw[jm wh];exact hw8,B8.eq (jm (Ne.symm hlp)),?_⟩
  refine But.upd_own (fun b o n e=>?_) nhl0
  exact s8 _ _ (k7 _ _ n (s6 _ _ (k5 _ _ n (k4 _ _ n e))))
 intro σ H4 hq'
 refine opq fun Gq kq=>?_
 obtain⟨o6,o7,o8,hs,hv,rfl,hh4,hd4,hsl,⟨hok,hnm⟩,hw4,B4,k4⟩:=hq'
 refine kq ?_
 clear kq
 refine m5 _ _ ?_
 refine seqO fun E6 m6=>?_
 refine⟨_,rfl,_,rfl,_,rfl,p,7,rfl,B4,by decide,by decide,fun d5 H5 d50 d51 B5 e5=>?_⟩
 have k5:But p H4 H5:=But.of_eq e5
 have hw5:=k5 _ _ wp hw4
 have hh5:=k5 _ _ hlp hh4
 have hd5:=hd4.mono (k5.tm B4)
 refine⟨_,_,rfl,rfl,_,rfl,wl,_,rfl,SqL.of hw5,fun sm nsm=>?_⟩
 refine m6 _ _ ?_
 refine seqO fun E7 m7=>?_
 obtain⟨z1,z2⟩:=ZS (ys:=ys) (k:=14+d5) hyl (by omega) (by omega)
 have m6:upd H5 sm (.lst (cutV (ys.map V.str) (some 8) (some (14+d5)))) sm=some (.lst ((cutS ys (some 8) (some (14+d5))).map V.str)):=by rw[jd,zf]
 have k6:But p H (upd H5 sm (.lst (cutV (ys.map V.str) (some 8) (some (14+d5))))):=(k4.trans k5).upd_new nsm
 have hh6:=keepN (o:=.lst (cutV (ys.map V.str) (some 8) (some (14+d5)))) hh5 nsm
 have hd6:=hd5.mono (Same.tm (jf (o:=.lst (cutV (ys.map V.str) (some 8) (some (14+d5)))) nsm))
 have B6:=B5.upd_new (o:=.lst (cutV (ys.map V.str) (some 8) (some (14+d5)))) nsm
 generalize upd H5 sm (.lst (cutV (ys.map V.str) (some 8) (some (14+d5))))=H6 at m6 k6 hh6 hd6 B6
 generalize cutS ys (some 8) (some (14+d5))=zs at m6 z1 z2
 have smp:=zL B6 m6
 refine⟨sz4,fun l2 nl2=>?_⟩
 refine⟨_,rfl,p,4,rfl,B6.upd_new nl2,by decide,by decide,fun d7 H7 d70 d71 B7 e7=>?_⟩
 have k7:But p H6 H7:=((But.refl).upd_new nl2).trans (But.of_eq e7)
 have l2p:=B6.ne nl2
 have hl2:H7 l2=some (.lst [.int 3,.int 3,.int 3,.int 5]):=by rw[e7 l2 l2p];exact jd
 refine opq fun Gq kq=>?_
 obtain⟨dp,hdp,dp6,dps,dp5⟩:=deep_at d70 d71
 refine kq ?_
 clear kq
 refine⟨l2,_,_,_,rfl,rfl,SqL.of hl2,hdp,?_⟩
 refine m7 _ _ ?_
 refine seqO fun E8 m8=>?_
 have m7:=k7 _ _ smp m6
 have hh7:=k7 _ _ hlp hh6
 have hd7:=hd6.mono (k7.tm B6)
 have k7':=k6.trans k7
 refine⟨Nat.zero_le _,fun dl ndl=>?_⟩
 refine m8 _ _ ?_
 refine seqO fun E9 m9=>?_
 have dlp:=B7.ne ndl
 have ndl0:H dl=none:=by
  cases z:H dl with
  |none=>rfl
  |some o=>have:=k7' _ _ dlp z;rw[ndl]at this;cases this
 have hhdl:hl≠dl:=fun e=>by rw[<- e,hh7]at ndl;cases ndl
 have smdl:sm≠dl:=fun e=>by rw[<- e,m7]at ndl;cases ndl
 have hvl:=hd4.len
 refine forE fun J j=>⟨_,rfl,hl,rfl,⟨_,SqL.of (keepN hh7 ndl)⟩,j _ _ ?_⟩
 clear j
 refine qK (K:=K) (a:=hl) (xs:=hv) (AK p wl hl sm dl T rm m dp zs hs hv H)
  ⟨_,_,_,_,_,_,_,[],[],rfl,jd,rfl,rfl,⟨(fun c hc=>nomatch hc),rfl⟩,keepN hh7 ndl,hd7.mono (Same.tm (jf ndl)),keepN m7 ndl,B7.upd_new ndl,k7'.upd_own ndl0,(fun c hc=>nomatch hc)⟩ ?_ ?_ ?_
 ·intro i σ H8 _ hq'
  refine opq fun Gq kq=>?_
  obtain⟨o6,o7,o8,o12,o13,o14,o15,ds,dv,rfl,hdl,hD,hdl',hok',hh,hd,hm8,B8,k8,pa8⟩:=hq'
  refine kq ?_
  clear kq
  exact SqL.of hh
 ·intro D' _ i v σ H8 hx fin Gq kq hq'
  obtain⟨o6,o7,o8,o12,o13,o14,o15,ds,dv,rfl,hdl,hD,hdl',hok',hh,hd,hm8,B8,k8,pa8⟩:=hq'
  have hil:i < hv.length:=(List.getElem?_eq_some_iff.mp hx).1
  obtain⟨c,hc,q0,t0,rfl,w1,w2⟩:=hd.at i v hx
  refine kq ?_
  clear kq m9
  have hcm:=List.mem_of_getElem? hc
  have hcok:=hok c hcm
  refine tgE fun F6 f6=>⟨q0,_,rfl,SqT.of w1,rfl,_,_,rfl,_,_,rfl,rfl,f6 _ _ ?_⟩
  clear f6
  show tSeq (tAsg _ _) _ D' _ _
  refine seqO fun F1 f1=>?_
  refine⟨_,rfl,sz1,fun sp nsp=>?_⟩
  refine f1 _ _ ?_
  show tSeq (tAsg _ _) _ D' _ _
  refine seqO fun F2 f2=>?_
  refine⟨sz0,fun b0 nb0=>?_⟩
  refine f2 _ _ ?_
  show tSeq (tFor _ _ _) _ D' _ _
  refine seqO fun F3 f3=>?_
  have s9:Same H8 (upd (upd H8 sp (.lst [.int rm])) b0 (.tup [])):=(jf nsp).trans (jf nb0)
  have sp9:SpAt (upd (upd H8 sp (.lst [.int rm])) b0 (.tup [])) sp:=⟨rm,keepN jd nb0⟩
  have b9:upd (upd H8 sp (.lst [.int rm])) b0 (.tup []) b0=some (.tup []):=jd
  have B9:BoxAt (upd (upd H8 sp (.lst [.int rm])) b0 (.tup [])) p:=(B8.upd_new nsp).upd_new nb0
  have e9:spK (upd (upd H8 sp (.lst [.int rm])) b0 (.tup [])) sp=rm:=qE (keepN jd nb0)
  generalize upd (upd H8 sp (.lst [.int rm])) b0 (.tup [])=H9 at s9 sp9 b9 B9 e9
  have nsp0:H sp=none:=by
   cases z:H sp with
   |none=>rfl
   |some o=>have:=k8 _ _ (B8.ne nsp) z;rw[nsp]at this;cases this
  have dsp:dl≠sp:=fun e=>by rw[<- e,hdl]at nsp;cases nsp
  have G9:Gen H9 p sm hl sp zs hs:=⟨B9,s9 _ _ hm8,z1,z2,⟨hv,s9 _ _ hh,hd.mono (Same.tm s9)⟩,by omega,by omega,fun c hc=>(hok c hc).2,sp9⟩
  refine forE fun J j=>⟨_,rfl,by decide,by decide,j _ _ ?_⟩
  clear j
  refine kJ (lo:=0) (AL zs p wl hl sm dl t0 sp T rm m dp o7 o8 c H9)
   ⟨_,b0,.nil,[],rfl,b9,rfl,(by rw[e9];exact⟨by show((0:Nat):Int)+_<=_;omega,hR1⟩),XL,B9,sp9,But2.refl⟩ ?_ ?_
  ·intro D'' _ j σ H10 hj fin2 Gq kq hq'
   obtain⟨o6',bb,Bb,bs,rfl,hbb,hBb,hsz,hdep,B10,sp10,k10⟩:=hq'
   refine kq ?_
   clear kq f1 f2 f3
   have G10:=G9.but2 B10 sp10 k10
   refine⟨_,rfl,_,rfl,_,rfl,_,rfl,_,rfl,_,rfl,p,sm,hl,sp,dp,zs,hs,rfl,G10,dp6,hsz.2,fun r b bs' H11 hr11 hb11 hsz11 hsz12 hdp11 B11 s11 k11=>?_⟩
   have tm:=k11.tm B10 sp10
   have lb:=hBb.len
   have lb':=hb11.len
   obtain⟨hsa,hsb⟩:=hsz
   refine⟨bb,r,_,_,rfl,rfl,tm _ _ hbb,hr11,by omega,fun r2 H12 hr12 s12=>?_⟩
   have B12:BoxAt H12 p:=by
    refine opq fun Gq kq=>?_
    obtain⟨a,b,h1,h2,h3,h⟩:=B11.ob
    refine kq ?_
    clear kq
    exact⟨a,b,h1,h2,h3,s12 _ _ h⟩
   have sp12:SpAt H12 sp:=by
    obtain⟨z,hz⟩:=s11
    exact⟨z,s12 _ _ hz⟩
   refine fin2 _ _ ⟨_,r2,Bb.app b,_,rfl,hr12,(hb11.mono (Same.tm s12)).app ((hBb.mono tm).mono (Same.tm s12)),?_,XM hdep hdp11,B12,sp12,k10.trans (k11.trans (But2.of_same s12))⟩
   rw[jQ,j6 s11 s12]
   exact⟨by omega,hsz12⟩
  ·intro σ H10 hq'
   refine opq fun Gq kq=>?_
   obtain⟨o6',bb,Bb,bs,rfl,hbb,hBb,hsz,hdep,B10,sp10,k10⟩:=hq'
   refine kq ?_
   clear kq
   refine f3 _ _ ?_
   have hdl10:H10 dl=some (.lst dv):=k10 _ _ dlp dsp (s9 _ _ hdl)
   have G10:=G9.but2 B10 sp10 k10
   have tm10:TMono H8 H10:=fun b xs e=>k10.tm B9 sp9 _ _ (s9 _ _ e)
   refine⟨_,rfl,.inl ⟨rfl,_,SqL.of hdl10⟩,_,rfl,_,rfl,_,rfl,sz3,fun r nr=>?_⟩
   have s11:Same H10 (upd H10 r (.tup [.str c.1,.ref t0,.ref bb])):=jf nr
   have hdvl:=hD.len
   have hsz':Bb.size<=40:=by obtain⟨hsa,hsb⟩:=hsz;omega
   refine⟨dl,_,_,rfl,rfl,s11 _ _ hdl10,by omega,?_⟩
   have hr11:upd H10 r (.tup [.str c.1,.ref t0,.ref bb]) r=some (.tup [.str c.1,.ref t0,.ref bb]):=jd
   have B11:=B10.upd_new (o:=.tup [.str c.1,.ref t0,.ref bb]) nr
   generalize upd H10 r (.tup [.str c.1,.ref t0,.ref bb])=H11 at s11 hr11 B11
   have tm:TMono H11 (upd H11 dl (.lst (dv++[.ref r]))):=fun b xs e=>by rw[jm (kf e (s11 _ _ hdl10) (by intro z;cases z))];exact e
   have tmA:TMono H10 (upd H11 dl (.lst (dv++[.ref r]))):=fun b xs e=>tm _ _ (s11 _ _ e)
   have tmB:TMono H8 (upd H11 dl (.lst (dv++[.ref r]))):=fun b xs e=>tmA _ _ (tm10 _ _ e)
   refine fin _ _ ⟨_,_,_,_,_,_,_,ds++[⟨c.1,r,t0,bb,Bb⟩],_,rfl,jd,(hD.mono tmB).snoc ⟨bs,rfl,tm _ _ hr11,tmA _ _ hbb,hBb.mono tmA⟩,by rw[List.length_append,hdl'];rfl,⟨qv hok'.1 ⟨⟨zs,z2,hdep.1⟩,Nat.lt_of_le_of_lt hdep.2 (by omega),Nat.le_trans hsz' (by decide)⟩,by rw[List.map_append,hok'.2,List.take_succ,List.getElem?_map,hc];rfl⟩,?_,hd.mono tmB,?_,B11.eq (jm (Ne.symm dlp)),?_,qv (pa8.mono tmB) ⟨_,tmB _ _ w2,(Nat.le_trans hcok.2 (by decide))⟩⟩
   ·obtain⟨hv',e1,e2⟩:=G10.h
    rw[jm hhdl]
    exact s11 _ _ (k10 _ _ G9.hsp.2 G9.hsp.1 (s9 _ _ hh))
   ·rw[jm smdl]
    exact s11 _ _ G10.g
   ·refine But.upd_own (fun b o n e=>?_) ndl0
    exact s11 _ _ (k10 _ _ n (jv e nsp0) (s9 _ _ (k8 _ _ n e)))
 ·intro σ H8 hq'
  refine opq fun Gq kq=>?_
  obtain⟨o6,o7,o8,o12,o13,o14,o15,ds,dv,rfl,hdl,hD,hdl',hok',hh,hd,hm8,B8,k8,pa8⟩:=hq'
  refine kq ?_
  clear kq
  refine m9 _ _ ?_
  refine⟨_,rfl,dl,dv,rfl,.inl ⟨SqL.of hdl,fun t nt=>?_⟩⟩
  have nn:(ds.map Df.f).Nodup:=by
   rw[hok'.2,hnm]
   refine List.Nodup.sublist (List.take_sublist _ _) ?_
   have e:∀m,m<=8->ys.take m=(ys.take 8).take m:=fun m hm=>by rw[List.take_take,Nat.min_eq_left hm]
   rw[e _ (by omega)]
   exact hys.2.sublist (List.take_sublist _ _)
  exact q t ds dv _ jd (hD.mono (Same.tm (jf nt))) (by omega) ⟨hok'.1,nn,fun y hy=>by rw[hok'.2,hnm]at hy;exact hys.1 y (List.mem_of_mem_take (List.mem_of_mem_take hy))⟩ (pa8.mono (Same.tm (jf nt))) (B8.upd_new nt) (k8.upd_new nt)
theorem sz0:0<=sizeLine:=by decide
theorem sz1:1<=sizeLine:=by decide
theorem sz2:2<=sizeLine:=by decide
theorem sz3:3<=sizeLine:=by decide
theorem sz4:4<=sizeLine:=by decide
theorem TMono.trans{H H1 H2:Hp}(a:TMono H H1)(b:TMono H1 H2):TMono H H2:=fun c xs e=>b c xs (a c xs e)
theorem TMono.refl{H:Hp}:TMono H H:=fun _ _ e=>e
def TmX(H:Hp)(ys:List Str)(k:Nat)(a:Addr):Prop:=∃T,TmAt H T a/\T.Good ys/\T.depth<=k
theorem TmX.mono{H H':Hp}{ys:List Str}{k:Nat}{a:Addr}(h:TmX H ys k a)(m:TMono H H'):TmX H' ys k a:=let ⟨T,h1,h2⟩:=h;⟨T,h1.mono m,h2⟩
theorem TmX.ok{H:Hp}{ys:List Str}{k:Nat}{a:Addr}(h:TmX H ys k a)(m:k < 6):∃T,TmAt H T a/\TmOk ys T:=let ⟨T,h1,h2,h3⟩:=h;⟨T,h1,h2,Nat.lt_of_le_of_lt h3 m⟩
section
variable {H:Hp}{ys:List Str}
theorem tx_num{a:Addr}{n:Int}(h:H a=some (.tup [.str "num",.int n]))(h0:0<=n)(h1:n < 1000000000000000000):TmX H ys 0 a:=⟨.num n,h,⟨h0,h1⟩,Nat.zero_le _⟩
theorem Ze{a:Addr}{x:Str}(h:H a=some (.tup [.str "var",.str x]))(hx:x∈ys):TmX H ys 0 a:=⟨.var x,h,hx,Nat.zero_le _⟩
def Sg(s:Str):Prop:=∃i,i < 6/\s=sgn i
theorem tx_op{a b c:Addr}{s:Str}{j k n:Nat}(h:H a=some (.tup [.str "op",.str s,.ref b,.ref c]))(hs:Sg s)(hb:TmX H ys j b)(hc:TmX H ys k c)(hj:j < n)(hk:k < n):TmX H ys n a:=by
 obtain⟨i,hi,rfl⟩:=hs
 obtain⟨B,b1,b2,b3⟩:=hb
 obtain⟨C,c1,c2,c3⟩:=hc
 exact⟨.op i B C,⟨b,c,h,b1,c1⟩,⟨hi,b2,c2⟩,by show max B.depth C.depth+1<=n;omega⟩
theorem kY:Sg "+":=⟨0,by decide,by decide+kernel⟩
theorem Qe:Sg "-":=⟨1,by decide,by decide+kernel⟩
theorem Qg:Sg "*":=⟨2,by decide,by decide+kernel⟩
theorem sg_over:Sg "/":=⟨3,by decide,by decide+kernel⟩
theorem KG:Sg "<":=⟨4,by decide,by decide+kernel⟩
theorem sg_eq:Sg "=":=⟨5,by decide,by decide+kernel⟩
theorem pick_sg{d:Int}(h0:0<=d)(h1:d < 4):∃s,atI [V.str "+",.str "+",.str "*",.str "-"] d=some (.str s)/\Sg s:=by
 rcases(by omega:d=0∨d=1∨d=2∨d=3) with rfl |rfl |rfl |rfl
 ·exact⟨_,rfl,kY⟩
 ·exact⟨_,rfl,kY⟩
 ·exact⟨_,rfl,Qg⟩
 ·exact⟨_,rfl,Qe⟩
theorem pick_s3{d:Int}(h0:0<=d)(h1:d < 3):∃c,atI (Str.cps "<=*").toList d=some c/\Sg ⟨#[c]⟩:=by
 rcases(by omega:d=0∨d=1∨d=2) with rfl |rfl |rfl
 ·exact⟨_,rfl,KG⟩
 ·exact⟨_,rfl,sg_eq⟩
 ·exact⟨_,rfl,Qg⟩
theorem pick2{P:Addr->Prop}{a b:Addr}{d:Int}(h0:0<=d)(h1:d < 2)(ha:P a)(hb:P b):∃x,atI [V.ref a,.ref b] d=some (.ref x)/\P x:=by
 rcases(by omega:d=0∨d=1) with rfl |rfl
 ·exact⟨_,rfl,ha⟩
 ·exact⟨_,rfl,hb⟩
theorem pick3{P:Addr->Prop}{a b c:Addr}{d:Int}(h0:0<=d)(h1:d < 3)(ha:P a)(hb:P b)(hc:P c):∃x,atI [V.ref a,.ref b,.ref c] d=some (.ref x)/\P x:=by
 rcases(by omega:d=0∨d=1∨d=2) with rfl |rfl |rfl
 ·exact⟨_,rfl,ha⟩
 ·exact⟨_,rfl,hb⟩
 ·exact⟨_,rfl,hc⟩
theorem pick3s{a b c:Str}{d:Int}(h0:0<=d)(h1:d < 3):∃x,atI [V.str a,.str b,.str c] d=some (.str x):=by
 rcases(by omega:d=0∨d=1∨d=2) with rfl |rfl |rfl
 ·exact⟨_,rfl⟩
 ·exact⟨_,rfl⟩
 ·exact⟨_,rfl⟩
theorem pickB{P:Addr->Prop}{a b:Addr}(ha:P a)(hb:P b)(c:Bool):∃x,atI [V.ref a,.ref b] (if c then 1 else 0)=some (.ref x)/\P x:=by
 cases c
 ·exact⟨_,rfl,ha⟩
 ·exact⟨_,rfl,hb⟩
def StX(H:Hp)(ys:List Str)(d:Nat)(v:V):Prop:=∃s,StV H v s/\s.Ok ys/\s.dep<=d/\s.size<=1+20*d
def BdX(H:Hp)(ys:List Str)(d:Nat)(xs:List V):Prop:=∃b,BdV H b xs/\b.Ok ys/\b.dep<=d/\b.size<=(1+20*d)*xs.length
theorem StX.mono{H':Hp}{d:Nat}{v:V}(h:StX H ys d v)(m:TMono H H'):StX H' ys d v:=let ⟨s,h1,h2⟩:=h;⟨s,h1.mono m,h2⟩
theorem BdX.mono{H':Hp}{d:Nat}{xs:List V}(h:BdX H ys d xs)(m:TMono H H'):BdX H' ys d xs:=let ⟨s,h1,h2⟩:=h;⟨s,h1.mono m,h2⟩
theorem StX.up{v:V}{d:Nat}(h:StX H ys 0 v):StX H ys d v:=let ⟨s,h1,h2,h3,h4⟩:=h;⟨s,h1,h2,by omega,by omega⟩
theorem Jx{d:Nat}:BdX H ys d []:=⟨.nil,rfl,trivial,Nat.zero_le _,Nat.zero_le _⟩
theorem qF{d:Nat}{xs zs:List V}(h:BdX H ys d xs)(g:BdX H ys d zs):BdX H ys d (xs++zs):=by
 obtain⟨a,a1,a2,a3,a4⟩:=h
 obtain⟨b,b1,b2,b3,b4⟩:=g
 refine⟨a.app b,b1.app a1,Ju a2 b2,by rw[kX];omega,?_⟩
 rw[jQ,List.length_append,Nat.mul_add]
 omega
theorem zc{d:Nat}{v:V}(h:StX H ys d v):BdX H ys d [v]:=by
 obtain⟨s,h1,h2,h3,h4⟩:=h
 exact⟨s,h1.bd,h2,h3,by show s.size<=(1+20*d)*1;omega⟩
theorem jO{d:Nat}{v:V}{xs:List V}(h:StX H ys d v)(g:BdX H ys d xs):BdX H ys d (v::xs):=qF (xs:=[v]) (zc h) g
theorem KW{p:Addr}{l:Lf}{vs:List V}(h1:H p=some (.tup vs))(h2:LfV H l vs)(h3:l.Ok ys):StX H ys 0 (.ref p):=⟨.lf p l .nil,.lf p l vs h1 h2,⟨h3,trivial⟩,Nat.le_refl 0,Nat.le_refl 1⟩
theorem sx_rd{p t:Addr}{x:Str}{k:Nat}(h:H p=some (.tup [.str "read",.str x,.ref t]))(hx:x∈ys)(ht:TmX H ys k t)(hk:k < 6:=by decide):StX H ys 0 (.ref p):=by
 obtain⟨T,t1,t2⟩:=ht.ok hk
 exact KW (l:=.rd x t T) h ⟨rfl,t1⟩ ⟨hx,t2⟩
theorem sx_st{p t:Addr}{x:Str}{k:Nat}(h:H p=some (.tup [.str "set",.str x,.ref t]))(hx:x∈ys)(ht:TmX H ys k t)(hk:k < 6:=by decide):StX H ys 0 (.ref p):=by
 obtain⟨T,t1,t2⟩:=ht.ok hk
 exact KW (l:=.st x t T) h ⟨rfl,t1⟩ ⟨hx,t2⟩
theorem sx_gv{p t:Addr}{k:Nat}(h:H p=some (.tup [.str "give",.ref t]))(ht:TmX H ys k t)(hk:k < 6:=by decide):StX H ys 0 (.ref p):=by
 obtain⟨T,t1,t2⟩:=ht.ok hk
 exact KW (l:=.gv t T) h ⟨rfl,t1⟩ t2
theorem sx_wr{p t u:Addr}{k j:Nat}(h:H p=some (.tup [.str "write",.ref t,.ref u]))(ht:TmX H ys k t)(hu:TmX H ys j u)(hk:k < 6:=by decide)(hj:j < 6:=by decide):StX H ys 0 (.ref p):=by
 obtain⟨T,t1,t2⟩:=ht.ok hk
 obtain⟨U,u1,u2⟩:=hu.ok hj
 exact KW (l:=.wr t u T U) h ⟨rfl,t1,u1⟩ ⟨t2,u2⟩
theorem sx_cl{p q t u:Addr}{x f:Str}{k j:Nat}(h:H p=some (.tup [.str "call",.str x,.str f,.ref q]))(hx:x∈ys)(hq:H q=some (.tup [.ref t,.ref u]))(ht:TmX H ys k t)(hu:TmX H ys j u)(hk:k < 6:=by decide)(hj:j < 6:=by decide):StX H ys 0 (.ref p):=by
 obtain⟨T,t1,t2⟩:=ht.ok hk
 obtain⟨U,u1,u2⟩:=hu.ok hj
 refine KW (l:=.cl x f q [(t,T),(u,U)]) h ⟨rfl,hq,fun c hc=>?_⟩ ⟨hx,(by show 2<=6;decide),fun c hc=>?_⟩
 ·rcases List.mem_cons.mp hc with rfl |hc
  ·exact t1
  ·rw[List.mem_singleton.mp hc];exact u1
 ·rcases List.mem_cons.mp hc with rfl |hc
  ·exact t2
  ·rw[List.mem_singleton.mp hc];exact u2
theorem sx_if{p t qa qb:Addr}{as bs:List V}{k:Nat}(h:H p=some (.tup [.str "if",.ref t,.ref qa,.ref qb]))(ht:TmX H ys k t)(ha:H qa=some (.tup as))(hb:H qb=some (.tup bs))(ga:BdX H ys 0 as)(gb:BdX H ys 0 bs)(hl:as.length+bs.length<=20)(hk:k < 6:=by decide):StX H ys 1 (.ref p):=by
 obtain⟨T,t1,t2⟩:=ht.ok hk
 obtain⟨a,a1,a2,a3,a4⟩:=ga
 obtain⟨b,b1,b2,b3,b4⟩:=gb
 exact⟨.ite p t T a b .nil,.ite p t T a b qa qb as bs h t1 ha hb a1 b1,⟨t2,a2,b2,trivial⟩,(by show max (max a.dep b.dep+1) 0<=1;omega),(by show a.size+b.size+0+1<=21;omega)⟩
theorem ZT{p t qa:Addr}{as:List V}{k:Nat}(h:H p=some (.tup [.str "while",.ref t,.ref qa]))(ht:TmX H ys k t)(ha:H qa=some (.tup as))(ga:BdX H ys 0 as)(hl:as.length<=20)(hk:k < 6:=by decide):StX H ys 1 (.ref p):=by
 obtain⟨T,t1,t2⟩:=ht.ok hk
 obtain⟨a,a1,a2,a3,a4⟩:=ga
 exact⟨.loop p t T a .nil,.loop p t T a qa as h t1 ha a1,⟨t2,a2,trivial⟩,(by show max (a.dep+1) 0<=1;omega),(by show a.size+0+1<=21;omega)⟩
def DfX(H:Hp)(r:Addr)(f:Str):Prop:=∃d:Df,DfV H d (.ref r)/\DfOk d/\∃ps:List Str,H d.pa=some (.tup (ps.map V.str))/\ps.length<=100/\d.f=f
theorem DfX.mono{H':Hp}{r:Addr}{f:Str}(h:DfX H r f)(m:TMono H H'):DfX H' r f:=let ⟨d,h1,h2,ps,h3,h4⟩:=h;⟨d,h1.mono m,h2,ps,m _ _ h3,h4⟩
theorem dx_mk{r a b:Addr}{f:Str}{ps:List Str}{xs:List V}(h:H r=some (.tup [.str f,.ref a,.ref b]))(ha:H a=some (.tup (ps.map V.str)))(hp:ps.length<=100)(hb:H b=some (.tup xs))(g:BdX H ys 1 xs)(hx:xs.length<=100)(hy:ys.length<=20):DfX H r f:=by
 obtain⟨c,c1,c2,c3,c4⟩:=g
 exact⟨⟨f,r,a,b,c⟩,⟨xs,rfl,h,hb,c1⟩,⟨⟨ys,hy,c2⟩,(by show c.dep < 8;omega),(by show c.size<=3000;omega)⟩,ps,ha,hp,rfl⟩
structure Wd(H0 H:Hp)(p wl:Addr)(ys:List Str):Prop where
 B:BoxAt H p
 K:But p H0 H
 w:H wl=some (.lst (ys.map V.str))
theorem Wd.np{H0:Hp}{p wl:Addr}(h:Wd H0 H p wl ys):wl≠p:=zL h.B h.w
theorem Wd.same{H0 H':Hp}{p wl:Addr}(h:Wd H0 H p wl ys)(s:Same H H'):Wd H0 H' p wl ys:=⟨h.B.same s,h.K.trans (But.of_same s),s _ _ h.w⟩
theorem Wd.but{H0 H':Hp}{p wl:Addr}(h:Wd H0 H p wl ys)(B:BoxAt H' p)(k:But p H H'):Wd H0 H' p wl ys:=⟨B,h.K.trans k,k _ _ h.np h.w⟩
theorem Wd.own{H0:Hp}{p wl l:Addr}{xs zs:List V}(h:Wd H0 H p wl ys)(n:H0 l=none)(lp:l≠p)(lw:l≠wl):Wd H0 (upd H l (.lst zs)) p wl ys:=⟨h.B.eq (jm (Ne.symm lp)),h.K.upd_own n,by rw[jm (Ne.symm lw)];exact h.w⟩
theorem Kz{l:Addr}{xs zs:List V}(hl:H l=some (.lst xs)):TMono H (upd H l (.lst zs)):=fun b us e=>by rw[jm (kf e hl (by intro z;cases z))];exact e
end
def spOp:Sp:=fun vs H Q _=>∃(p a b:Addr) (ys:List Str) (k:Nat),vs=[.ref p,.ref a,.ref b]/\BoxAt H p/\TmX H ys k a/\TmX H ys k b/\∀(r:Addr) (H':Hp),TmX H' ys (k+1) r->BoxAt H' p->But p H H'->Q (.ref r) H'
def spDefn:Sp:=fun vs H Q _=>∃(p wl:Addr) (f g:Str) (ys:List Str),vs=[.ref p,.str f,.str g,.ref wl]/\BoxAt H p/\H wl=some (.lst (ys.map V.str))/\ys.length=6/\∀(r:Addr) (H':Hp),DfX H' r f->BoxAt H' p->But p H H'->Q (.ref r) H'
noncomputable abbrev sOp:Stmt:=top 44
noncomputable abbrev sInner:Stmt:=top 45
noncomputable abbrev sLooped:Stmt:=top 46
noncomputable abbrev sTicking:Stmt:=top 47
noncomputable abbrev sBusy:Stmt:=top 48
theorem len5{as:List V}(h:as.length=5):∃a b c d e,as=[a,b,c,d,e]:=by
 match as,h with
 | [a,b,c,d,e],_=>exact⟨a,b,c,d,e,rfl⟩
theorem ix0{n:Nat}:ixN (n+1) 0=some 0:=by unfold ixN;rw[if_pos (by decide),if_pos (by omega)];rfl
theorem ix1{n:Nat}:ixN (n+2) 1=some 1:=by unfold ixN;rw[if_pos (by decide),if_pos (by omega)];rfl
theorem at1{v u:V}{ys:List V}:atI (v::u::ys) 1=some u:=jE (j:=1) rfl
structure Fw(p:Addr)(H H':Hp):Prop where
 t:TMono H H'
 b:But p H H'
theorem Fw.refl{p:Addr}{H:Hp}:Fw p H H:=⟨TMono.refl,But.refl⟩
theorem Fw.trans{p:Addr}{H H1 H2:Hp}(a:Fw p H H1)(b:Fw p H1 H2):Fw p H H2:=⟨a.t.trans b.t,a.b.trans b.b⟩
theorem Fw.new{p r:Addr}{H:Hp}{o:HO}(n:H r=none):Fw p H (upd H r o):=⟨Same.tm (jf n),But.of_same (jf n)⟩
theorem Fw.same{p:Addr}{H H':Hp}(s:Same H H'):Fw p H H':=⟨Same.tm s,But.of_same s⟩
theorem Fw.but{p:Addr}{H H':Hp}(B:BoxAt H p)(c:But p H H'):Fw p H H':=⟨c.tm B,c⟩
def Mon(P:Hp->V->Prop):Prop:=∀H H' v,TMono H H'->P H v->P H' v
def Ev(H0:Hp)(p wl:Addr)(ys:List Str)(Hb:Hp)(σ:L2.St)(te:TE)(P:Hp->V->Prop):Prop:=∀(H:Hp) (Q:VK),Fw p Hb H->Wd H0 H p wl ys->(∀v H',P H' v->Wd H0 H' p wl ys->Fw p H H'->Q v H')->te σ H Q
def PT(ys:List Str)(k:Nat)(H:Hp)(v:V):Prop:=∃a,v= .ref a/\TmX H ys k a
def PB(ys:List Str)(d n:Nat)(H:Hp)(v:V):Prop:=∃a xs,v= .ref a/\H a=some (.tup xs)/\BdX H ys d xs/\xs.length<=n
def PN(ys:List Str)(_:Hp)(v:V):Prop:=∃x,v= .str x/\x∈ys
def PI(_:Hp)(v:V):Prop:=∃x,v= .str x
def PG(_:Hp)(v:V):Prop:=∃s,v= .str s/\Sg s
def PP(H:Hp)(v:V):Prop:=∃(a:Addr) (xs:List Str),v= .ref a/\H a=some (.tup (xs.map V.str))/\xs.length<=100
def PEy(y:Str)(_:Hp)(v:V):Prop:=v= .str y
def PD(f:Str)(H:Hp)(v:V):Prop:=∃a,v= .ref a/\DfX H a f
section
variable {ys:List Str}{H0 Hb:Hp}{p wl:Addr}{σ:L2.St}
theorem monT{k:Nat}:Mon (PT ys k):=fun _ _ _ m ⟨a,e,h⟩=>⟨a,e,h.mono m⟩
theorem monB{d n:Nat}:Mon (PB ys d n):=fun _ _ _ m ⟨a,xs,e,h1,h2,h3⟩=>⟨a,xs,e,m _ _ h1,h2.mono m,h3⟩
theorem monS{d:Nat}:Mon fun H v=>StX H ys d v:=fun _ _ _ m h=>h.mono m
theorem monD{f:Str}:Mon (PD f):=fun _ _ _ m ⟨a,e,h1⟩=>⟨a,e,h1.mono m⟩
theorem Ev.up{te:TE}{P R:Hp->V->Prop}(h:Ev H0 p wl ys Hb σ te P)(k:∀H v,P H v->R H v):Ev H0 p wl ys Hb σ te R:=fun H Q m W q=>h H Q m W fun v H' x=>q v H' (k _ _ x)
theorem jG{P:Hp->V->Prop}{i:Nat}{v:V}(e:σ[i]?=some (some v))(M:Mon P)(h:P Hb v):Ev H0 p wl ys Hb σ (tVar i) P:=fun H Q m W q=>⟨v,e,q v H (M _ _ _ m.t h) W .refl⟩
theorem ev_i{i:Nat}{x:Str}(e:σ[i]?=some (some (.str x))):Ev H0 p wl ys Hb σ (tVar i) PI:=jG e (fun _ _ _ _ h=>h) ⟨x,rfl⟩
theorem zJ{s:Str}(h:Sg s):Ev H0 p wl ys Hb σ (tC (.str s)) PG:=fun H Q m W q=>q _ H ⟨s,rfl,h⟩ W .refl
theorem j4{K:Frag}{i:Int}{j:Nat}(e:σ[j]?=some (some (.ref wl)))(h0:0<=i)(h1:i < (ys.length:Int)):Ev H0 p wl ys Hb σ (tOp (rIxL K) (tVar j) (tC (.int i))) (PN ys):=fun H Q m W q=>by
 obtain⟨y,hy,hat⟩:=Jt (ys:=ys) h0 h1
 exact⟨_,e,wl,_,_,_,rfl,rfl,SqL.of W.w,hat,q _ H ⟨y,rfl,hy⟩ W .refl⟩
theorem PN.i{H:Hp}{v:V}(h:PN ys H v):PI H v:=let ⟨x,e,_⟩:=h;⟨x,e⟩
theorem kh{H:Hp}{r:Addr}{o:HO}{Q:VK}{P:Hp->V->Prop}(W:Wd H0 H p wl ys)(q:∀v H',P H' v->Wd H0 H' p wl ys->Fw p H H'->Q v H')(n:H r=none)(x:TMono H (upd H r o)->upd H r o r=some o->P (upd H r o) (.ref r)):Q (.ref r) (upd H r o):=
 q _ _ (x (Same.tm (jf n)) jd) (W.same (jf n)) (.new n)
abbrev tTk(n:Int):TE:=tCall spTake [] E0 (tCons (tVar 0) (tCons (tC (.int n)) tNil))
def PK(n:Int)(_:Hp)(v:V):Prop:=∃d:Int,v= .int d/\0<=d/\d < n
theorem kn{n:Int}(e:σ[0]?=some (some (.ref p)))(h1:1<=n)(h2:n<=1000):Ev H0 p wl ys Hb σ (tTk n) (PK n):=fun H Q m W q=>
 ⟨_,e,p,n,rfl,W.B,by omega,by omega,fun d H1 d0 d1 B1 e1=>q _ _ ⟨d,rfl,d0,d1⟩ (W.but B1 (But.of_eq e1)) (.but W.B (But.of_eq e1))⟩
theorem ki{te:TE}{n:Int}(h:Ev H0 p wl ys Hb σ te (PK n))(h1:n<=1000000000000000000):Ev H0 p wl ys Hb σ (tTup (tCons (tC (.str "num")) (tCons te tNil))) (PT ys 0):=fun H Q m W q=>
 h H _ m W fun v H1 ⟨d,e,d0,d1⟩ W1 k1=>⟨sz2,fun r nr=>kh (P:=PT ys 0) W1 (fun v' H' x W' k=>q v' H' x W' (k1.trans k)) nr fun _ z=>⟨r,rfl,tx_num (by rw[z,e]) d0 (by omega)⟩⟩
theorem Kw{n m:Int}(h0:0<=n)(h1:n < m):Ev H0 p wl ys Hb σ (tC (.int n)) (PK m):=fun H Q _ W q=>q _ H ⟨n,rfl,h0,h1⟩ W .refl
theorem KA{te:TE}{n m:Int}(h:Ev H0 p wl ys Hb σ te (PK n))(h0:0<=m):Ev H0 p wl ys Hb σ (tOp (rI0 fun i j=>V.int (i+j)) (tC (.int m)) te) (PK (m+n)):=fun H Q mm W q=>
 h H _ mm W fun v H1 ⟨d,e,d0,d1⟩ W1 k1=>⟨m,d,rfl,e,q _ H1 ⟨m+d,rfl,by omega,by omega⟩ W1 k1⟩
theorem Jk{te:TE}(h:Ev H0 p wl ys Hb σ te (PN ys)):Ev H0 p wl ys Hb σ (tTup (tCons (tC (.str "var")) (tCons te tNil))) (PT ys 0):=fun H Q m W q=>
 h H _ m W fun v H1 ⟨d,e,hd⟩ W1 k1=>⟨sz2,fun r nr=>kh (P:=PT ys 0) W1 (fun v' H' x W' k=>q v' H' x W' (k1.trans k)) nr fun _ z=>⟨r,rfl,Ze (by rw[z,e]) hd⟩⟩
theorem zH{ts ta tb:TE}{j k n:Nat}(hs:Ev H0 p wl ys Hb σ ts PG)(ha:Ev H0 p wl ys Hb σ ta (PT ys j))(hb:Ev H0 p wl ys Hb σ tb (PT ys k))(h1:j < n)(h2:k < n):Ev H0 p wl ys Hb σ (tTup (tCons (tC (.str "op")) (tCons ts (tCons ta (tCons tb tNil))))) (PT ys n):=fun H Q m W q=>
 hs H _ m W fun v1 H1 ⟨s,e1,x1⟩ W1 k1=>ha H1 _ (m.trans k1) W1 fun v2 H2 ⟨a,e2,x2⟩ W2 k2=>hb H2 _ ((m.trans k1).trans k2) W2 fun v3 H3 ⟨b,e3,x3⟩ W3 k3=>⟨sz4,fun r nr=>kh (P:=PT ys n) W3 (fun v' H' x W' k=>q v' H' x W' (((k1.trans k2).trans k3).trans k)) nr fun t z=>
  ⟨r,rfl,tx_op (by rw[z,e1,e2,e3]) x1 ((x2.mono k3.t).mono t) (x3.mono t) h1 h2⟩⟩
theorem ev_s3(e:σ[0]?=some (some (.ref p))):Ev H0 p wl ys Hb σ (tOp rIxS (tC (.str "<=*")) (tTk 3)) PG:=fun H Q m W q=>
 kn e (by decide) (by decide) H _ m W fun v H1 ⟨d,e1,d0,d1⟩ W1 k1=>by
  obtain⟨g,i,x⟩:=pick_s3 d0 d1
  exact⟨"<=*",d,g,rfl,e1,by decide+kernel,i,q _ H1 ⟨_,rfl,x⟩ W1 k1⟩
theorem Xn{K:Frag}{ta tb:TE}{k:Nat}(e:σ[0]?=some (some (.ref p)))(ha:Ev H0 p wl ys Hb σ ta (PT ys k))(hb:Ev H0 p wl ys Hb σ tb (PT ys k)):Ev H0 p wl ys Hb σ (tOp (rIxL K) (tLst (tCons ta (tCons tb tNil))) (tTk 2)) (PT ys k):=fun H Q m W q=>
 ha H _ m W fun v2 H2 ⟨a,e2,x2⟩ W2 k2=>hb H2 _ (m.trans k2) W2 fun v3 H3 ⟨b,e3,x3⟩ W3 k3=>⟨sz2,fun l nl=>kn e (by decide) (by decide) _ _ (((m.trans k2).trans k3).trans (.new nl)) (W3.same (jf nl)) fun v H4 ⟨d,e4,d0,d1⟩ W4 k4=>by
  obtain⟨g,i,x⟩:=pick2 (P:=TmX H3 ys k) d0 d1 (x2.mono k3.t) x3
  rw[<- e2,<- e3]at i
  have t:=(Fw.new (p:=p) (o:=HO.lst [v2,v3]) nl).trans k4
  exact⟨l,_,d,_,rfl,e4,SqL.of (k4.b _ _ (W3.B.ne nl) jd),i,q _ H4 ⟨g,rfl,x.mono t.t⟩ W4 ((k2.trans k3).trans t)⟩⟩
theorem ev_p3{K:Frag}{ta tb tc:TE}{k:Nat}(e:σ[0]?=some (some (.ref p)))(ha:Ev H0 p wl ys Hb σ ta (PT ys k))(hb:Ev H0 p wl ys Hb σ tb (PT ys k))(hc:Ev H0 p wl ys Hb σ tc (PT ys k)):Ev H0 p wl ys Hb σ (tOp (rIxL K) (tLst (tCons ta (tCons tb (tCons tc tNil)))) (tTk 3)) (PT ys k):=fun H Q m W q=>
 ha H _ m W fun v2 H2 ⟨a,e2,x2⟩ W2 k2=>hb H2 _ (m.trans k2) W2 fun v3 H3 ⟨b,e3,x3⟩ W3 k3=>hc H3 _ ((m.trans k2).trans k3) W3 fun v5 H5 ⟨c,e5,x5⟩ W5 k5=>⟨sz3,fun l nl=>kn e (by decide) (by decide) _ _ ((((m.trans k2).trans k3).trans k5).trans (.new nl)) (W5.same (jf nl)) fun v H4 ⟨d,e4,d0,d1⟩ W4 k4=>by
  obtain⟨g,i,x⟩:=pick3 (P:=TmX H5 ys k) d0 d1 (x2.mono (k3.trans k5).t) (x3.mono k5.t) x5
  rw[<- e2,<- e3,<- e5]at i
  have t:=(Fw.new (p:=p) (o:=HO.lst [v2,v3,v5]) nl).trans k4
  exact⟨l,_,d,_,rfl,e4,SqL.of (k4.b _ _ (W5.B.ne nl) jd),i,q _ H4 ⟨g,rfl,x.mono t.t⟩ W4 (((k2.trans k3).trans k5).trans t)⟩⟩
theorem ev_pb{K:Frag}{ta tb:TE}{k:Nat}{n:Int}(e:σ[0]?=some (some (.ref p)))(h1:1<=n)(h2:n<=1000)(ha:Ev H0 p wl ys Hb σ ta (PT ys k))(hb:Ev H0 p wl ys Hb σ tb (PT ys k)):Ev H0 p wl ys Hb σ (tOp (rIxL K) (tLst (tCons ta (tCons tb tNil))) (tCB (fun xs H Q=>(∃i,xs=[V.int i]/\Q (V.int i) H)∨∃k,xs=[V.bl k]/\Q (V.int (if k=true then 1 else 0)) H) (tCons (tOp rEq (tTk n) (tC (.int 0))) tNil))) (PT ys k):=fun H Q m W q=>
 ha H _ m W fun v2 H2 ⟨a,e2,x2⟩ W2 k2=>hb H2 _ (m.trans k2) W2 fun v3 H3 ⟨b,e3,x3⟩ W3 k3=>⟨sz2,fun l nl=>kn e h1 h2 _ _ (((m.trans k2).trans k3).trans (.new nl)) (W3.same (jf nl)) fun v H4 ⟨d,e4,d0,d1⟩ W4 k4=>by
  subst e4
  refine⟨rfl,.inr ⟨_,rfl,?_⟩⟩
  obtain⟨g,i,x⟩:=pickB (P:=TmX H3 ys k) (x2.mono k3.t) x3 _
  rw[<- e2,<- e3]at i
  have t:=(Fw.new (p:=p) (o:=HO.lst [v2,v3]) nl).trans k4
  exact⟨l,_,_,_,rfl,rfl,SqL.of (k4.b _ _ (W3.B.ne nl) jd),i,q _ H4 ⟨g,rfl,x.mono t.t⟩ W4 ((k2.trans k3).trans t)⟩⟩
theorem Jl{ta tb:TE}{k:Nat}(e:σ[0]?=some (some (.ref p)))(ha:Ev H0 p wl ys Hb σ ta (PT ys k))(hb:Ev H0 p wl ys Hb σ tb (PT ys k)):Ev H0 p wl ys Hb σ (tCall spOp [] E0 (tCons (tVar 0) (tCons ta (tCons tb tNil)))) (PT ys (k+1)):=fun H Q m W q=>
 ⟨_,e,ha H _ m W fun v2 H2 ⟨a,e2,x2⟩ W2 k2=>hb H2 _ (m.trans k2) W2 fun v3 H3 ⟨b,e3,x3⟩ W3 k3=>⟨p,a,b,ys,k,by rw[e2,e3];rfl,W3.B,x2.mono k3.t,x3,fun r H4 x4 B4 c4=>q _ H4 ⟨r,rfl,x4⟩ (W3.but B4 c4) ((k2.trans k3).trans (.but W3.B c4))⟩⟩
theorem ev_2{w:Str}{ta tb:TE}{A B R:Hp->V->Prop}(MA:Mon A)(MB:Mon B)(ha:Ev H0 p wl ys Hb σ ta A)(hb:Ev H0 p wl ys Hb σ tb B)(h:∀H r u v,H r=some (.tup [.str w,u,v])->A H u->B H v->R H (.ref r)):Ev H0 p wl ys Hb σ (tTup (tCons (tC (.str w)) (tCons ta (tCons tb tNil)))) R:=fun H Q m W q=>
 ha H _ m W fun v2 H2 x2 W2 k2=>hb H2 _ (m.trans k2) W2 fun v3 H3 x3 W3 k3=>⟨sz3,fun r nr=>kh (P:=R) W3 (fun v' H' x W' k=>q v' H' x W' ((k2.trans k3).trans k)) nr fun t z=>h _ _ _ _ z (MA _ _ _ t (MA _ _ _ k3.t x2)) (MB _ _ _ t x3)⟩
theorem ev_1{w:Str}{ta:TE}{A R:Hp->V->Prop}(MA:Mon A)(ha:Ev H0 p wl ys Hb σ ta A)(h:∀H r u,H r=some (.tup [.str w,u])->A H u->R H (.ref r)):Ev H0 p wl ys Hb σ (tTup (tCons (tC (.str w)) (tCons ta tNil))) R:=fun H Q m W q=>
 ha H _ m W fun v2 H2 x2 W2 k2=>⟨sz2,fun r nr=>kh (P:=R) W2 (fun v' H' x W' k=>q v' H' x W' (k2.trans k)) nr fun t z=>h _ _ _ z (MA _ _ _ t x2)⟩
theorem ev_3{w:Str}{ta tb tc:TE}{A B C R:Hp->V->Prop}(MA:Mon A)(MB:Mon B)(MC:Mon C)(ha:Ev H0 p wl ys Hb σ ta A)(hb:Ev H0 p wl ys Hb σ tb B)(hc:Ev H0 p wl ys Hb σ tc C)(h:∀H r u v x,H r=some (.tup [.str w,u,v,x])->A H u->B H v->C H x->R H (.ref r)):Ev H0 p wl ys Hb σ (tTup (tCons (tC (.str w)) (tCons ta (tCons tb (tCons tc tNil))))) R:=fun H Q m W q=>
 ha H _ m W fun v2 H2 x2 W2 k2=>hb H2 _ (m.trans k2) W2 fun v3 H3 x3 W3 k3=>hc H3 _ ((m.trans k2).trans k3) W3 fun v4 H4 x4 W4 k4=>⟨sz4,fun r nr=>kh (P:=R) W4 (fun v' H' x W' k=>q v' H' x W' (((k2.trans k3).trans k4).trans k)) nr fun t z=>h _ _ _ _ _ z (MA _ _ _ t (MA _ _ _ (k3.trans k4).t x2)) (MB _ _ _ t (MB _ _ _ k4.t x3)) (MC _ _ _ t x4)⟩
theorem monN:Mon (PN ys):=fun _ _ _ _ h=>h
theorem monI:Mon PI:=fun _ _ _ _ h=>h
theorem Jm{tx tt:TE}{k:Nat}(hx:Ev H0 p wl ys Hb σ tx (PN ys))(ht:Ev H0 p wl ys Hb σ tt (PT ys k))(hk:k < 6):Ev H0 p wl ys Hb σ (tTup (tCons (tC (.str "read")) (tCons tx (tCons tt tNil)))) (fun H v=>StX H ys 0 v):=ev_2 monN monT hx ht fun H r u v z ⟨x,e1,h1⟩ ⟨a,e2,h2⟩=>sx_rd (by rw[z,e1,e2]) h1 h2 hk
theorem qP{tx tt:TE}{k:Nat}(hx:Ev H0 p wl ys Hb σ tx (PN ys))(ht:Ev H0 p wl ys Hb σ tt (PT ys k))(hk:k < 6):Ev H0 p wl ys Hb σ (tTup (tCons (tC (.str "set")) (tCons tx (tCons tt tNil)))) (fun H v=>StX H ys 0 v):=ev_2 monN monT hx ht fun H r u v z ⟨x,e1,h1⟩ ⟨a,e2,h2⟩=>sx_st (by rw[z,e1,e2]) h1 h2 hk
theorem Jn{tx tt:TE}{j k:Nat}(hx:Ev H0 p wl ys Hb σ tx (PT ys j))(ht:Ev H0 p wl ys Hb σ tt (PT ys k))(hj:j < 6)(hk:k < 6):Ev H0 p wl ys Hb σ (tTup (tCons (tC (.str "write")) (tCons tx (tCons tt tNil)))) (fun H v=>StX H ys 0 v):=ev_2 monT monT hx ht fun H r u v z ⟨x,e1,h1⟩ ⟨a,e2,h2⟩=>sx_wr (by rw[z,e1,e2]) h1 h2 hj hk
theorem KY{tt:TE}{k:Nat}(ht:Ev H0 p wl ys Hb σ tt (PT ys k))(hk:k < 6):Ev H0 p wl ys Hb σ (tTup (tCons (tC (.str "give")) (tCons tt tNil))) (fun H v=>StX H ys 0 v):=ev_1 monT ht fun H r v z ⟨a,e2,h2⟩=>sx_gv (by rw[z,e2]) h2 hk
theorem YQ{tx tf ta tb:TE}{j k:Nat}(hx:Ev H0 p wl ys Hb σ tx (PN ys))(hf:Ev H0 p wl ys Hb σ tf PI)(ha:Ev H0 p wl ys Hb σ ta (PT ys j))(hb:Ev H0 p wl ys Hb σ tb (PT ys k))(hj:j < 6)(hk:k < 6):Ev H0 p wl ys Hb σ (tTup (tCons (tC (.str "call")) (tCons tx (tCons tf (tCons (tTup (tCons ta (tCons tb tNil))) tNil))))) (fun H v=>StX H ys 0 v):=by
 let R:Hp->V->Prop:=fun H v=>∃q a b,v= .ref q/\H q=some (.tup [.ref a,.ref b])/\TmX H ys j a/\TmX H ys k b
 have MR:Mon R:=fun _ _ _ m ⟨q,a,b,e,h1,h2,h3⟩=>⟨q,a,b,e,m _ _ h1,h2.mono m,h3.mono m⟩
 have hR:Ev H0 p wl ys Hb σ (tTup (tCons ta (tCons tb tNil))) R:=fun H Q m W q=>
  ha H _ m W fun v2 H2 ⟨a,e2,x2⟩ W2 k2=>hb H2 _ (m.trans k2) W2 fun v3 H3 ⟨b,e3,x3⟩ W3 k3=>⟨sz2,fun r nr=>kh (P:=R) W3 (fun v' H' x W' k=>q v' H' x W' ((k2.trans k3).trans k)) nr fun t z=>⟨r,a,b,rfl,by rw[z,e2,e3],(x2.mono k3.t).mono t,x3.mono t⟩⟩
 exact ev_3 monN monI MR hx hf hR fun H r u v x z ⟨y,e1,h1⟩ ⟨f,e2⟩ ⟨q,a,b,e3,h3,h4,h5⟩=>sx_cl (f:=f) (by rw[z,e1,e2,e3]) h1 h3 h4 h5 hj hk
theorem ev_if{tt ta tb:TE}{k n m:Nat}(ht:Ev H0 p wl ys Hb σ tt (PT ys k))(ha:Ev H0 p wl ys Hb σ ta (PB ys 0 n))(hb:Ev H0 p wl ys Hb σ tb (PB ys 0 m))(hk:k < 6)(hn:n+m<=20):Ev H0 p wl ys Hb σ (tTup (tCons (tC (.str "if")) (tCons tt (tCons ta (tCons tb tNil))))) (fun H v=>StX H ys 1 v):=
 ev_3 monT monB monB ht ha hb fun H r u v x z ⟨a,e1,h1⟩ ⟨qa,xa,e2,h2,h3,h4⟩ ⟨qb,xb,e5,h5,h6,h7⟩=>sx_if (by rw[z,e1,e2,e5]) h1 h2 h5 h3 h6 (by omega) hk
theorem ev_wh{tt ta:TE}{k n:Nat}(ht:Ev H0 p wl ys Hb σ tt (PT ys k))(ha:Ev H0 p wl ys Hb σ ta (PB ys 0 n))(hk:k < 6)(hn:n<=20):Ev H0 p wl ys Hb σ (tTup (tCons (tC (.str "while")) (tCons tt (tCons ta tNil)))) (fun H v=>StX H ys 1 v):=
 ev_2 monT monB ht ha fun H r u v z ⟨a,e1,h1⟩ ⟨qa,xa,e2,h2,h3,h4⟩=>ZT (by rw[z,e1,e2]) h1 h2 h3 (by omega) hk
theorem ev_b0{d:Nat}:Ev H0 p wl ys Hb σ (tTup tNil) (PB ys d 0):=fun H Q m W q=>⟨sz0,fun r nr=>kh (P:=PB ys d 0) W q nr fun t z=>⟨r,[],rfl,z,Jx,Nat.le_refl 0⟩⟩
theorem Jo{ta:TE}{d:Nat}(ha:Ev H0 p wl ys Hb σ ta (fun H v=>StX H ys d v)):Ev H0 p wl ys Hb σ (tTup (tCons ta tNil)) (PB ys d 1):=fun H Q m W q=>
 ha H _ m W fun v2 H2 x2 W2 k2=>⟨sz1,fun r nr=>kh (P:=PB ys d 1) W2 (fun v' H' x W' k=>q v' H' x W' (k2.trans k)) nr fun t z=>⟨r,_,rfl,z,zc (x2.mono t),Nat.le_refl 1⟩⟩
theorem Xo{ta tb:TE}{d:Nat}(ha:Ev H0 p wl ys Hb σ ta (fun H v=>StX H ys d v))(hb:Ev H0 p wl ys Hb σ tb (fun H v=>StX H ys d v)):Ev H0 p wl ys Hb σ (tTup (tCons ta (tCons tb tNil))) (PB ys d 2):=fun H Q m W q=>
 ha H _ m W fun v2 H2 x2 W2 k2=>hb H2 _ (m.trans k2) W2 fun v3 H3 x3 W3 k3=>⟨sz2,fun r nr=>kh (P:=PB ys d 2) W3 (fun v' H' x W' k=>q v' H' x W' ((k2.trans k3).trans k)) nr fun t z=>⟨r,_,rfl,z,jO ((x2.mono k3.t).mono t) (zc (x3.mono t)),Nat.le_refl 2⟩⟩
theorem ev_b3{ta tb tc:TE}{d:Nat}(ha:Ev H0 p wl ys Hb σ ta (fun H v=>StX H ys d v))(hb:Ev H0 p wl ys Hb σ tb (fun H v=>StX H ys d v))(hc:Ev H0 p wl ys Hb σ tc (fun H v=>StX H ys d v)):Ev H0 p wl ys Hb σ (tTup (tCons ta (tCons tb (tCons tc tNil)))) (PB ys d 3):=fun H Q m W q=>
 ha H _ m W fun v2 H2 x2 W2 k2=>hb H2 _ (m.trans k2) W2 fun v3 H3 x3 W3 k3=>hc H3 _ ((m.trans k2).trans k3) W3 fun v4 H4 x4 W4 k4=>⟨sz3,fun r nr=>kh (P:=PB ys d 3) W4 (fun v' H' x W' k=>q v' H' x W' (((k2.trans k3).trans k4).trans k)) nr fun t z=>⟨r,_,rfl,z,jO ((x2.mono (k3.trans k4).t).mono t) (jO ((x3.mono k4.t).mono t) (zc (x4.mono t))),Nat.le_refl 3⟩⟩
theorem qf{ta tb:TE}{d n m:Nat}(ha:Ev H0 p wl ys Hb σ ta (PB ys d n))(hb:Ev H0 p wl ys Hb σ tb (PB ys d m))(hn:n+m<=100):Ev H0 p wl ys Hb σ (tOp rCatH ta tb) (PB ys d (n+m)):=fun H Q mm W q=>
 ha H _ mm W fun v2 H2 ⟨a,xs,e2,h2,x2,l2⟩ W2 k2=>hb H2 _ (mm.trans k2) W2 fun v3 H3 ⟨b,zs,e3,h3,x3,l3⟩ W3 k3=>⟨a,b,xs,zs,e2,e3,k3.t _ _ h2,h3,Nat.le_trans (show xs.length+zs.length<=100 by omega) (by decide),fun r H4 h4 s4=>q _ H4 ⟨r,_,rfl,h4,qF ((x2.mono k3.t).mono (Same.tm s4)) (x3.mono (Same.tm s4)),by rw[List.length_append];omega⟩ (W3.same s4) ((k2.trans k3).trans (.same s4))⟩
theorem YR{i:Nat}{x:Str}(e:σ[i]?=some (some (.str x))):Ev H0 p wl ys Hb σ (tVar i) (PEy x):=jG e (fun _ _ _ _ h=>h) rfl
theorem Xp{tf tp tb:TE}{n:Nat}{f:Str}(hf:Ev H0 p wl ys Hb σ tf (PEy f))(hp:Ev H0 p wl ys Hb σ tp PP)(hb:Ev H0 p wl ys Hb σ tb (PB ys 1 n))(hn:n<=100)(hy:ys.length<=20):Ev H0 p wl ys Hb σ (tTup (tCons tf (tCons tp (tCons tb tNil)))) (PD f):=fun H Q m W q=>
 hf H _ m W fun v2 H2 (e2:v2= .str f) W2 k2=>hp H2 _ (m.trans k2) W2 fun v3 H3 ⟨a,ps,e3,h3,l3⟩ W3 k3=>hb H3 _ ((m.trans k2).trans k3) W3 fun v4 H4 ⟨b,xs,e4,h4,x4,l4⟩ W4 k4=>⟨sz3,fun r nr=>kh (P:=PD f) W4 (fun v' H' x W' k=>q v' H' x W' (((k2.trans k3).trans k4).trans k)) nr fun t z=>
  ⟨r,rfl,dx_mk (f:=f) (by rw[z,e2,e3,e4]) (t _ _ (k4.t _ _ h3)) l3 (t _ _ h4) (x4.mono t) (by omega) hy⟩⟩
theorem ev_q1{ta:TE}(ha:Ev H0 p wl ys Hb σ ta (PN ys)):Ev H0 p wl ys Hb σ (tTup (tCons ta tNil)) PP:=fun H Q m W q=>
 ha H _ m W fun v2 H2 ⟨x2,e2,_⟩ W2 k2=>⟨sz1,fun r nr=>kh (P:=PP) W2 (fun v' H' x W' k=>q v' H' x W' (k2.trans k)) nr fun t z=>⟨r,[x2],rfl,by rw[z,e2];rfl,(by show 1<=100;decide)⟩⟩
theorem ev_q2{ta tb:TE}(ha:Ev H0 p wl ys Hb σ ta (PN ys))(hb:Ev H0 p wl ys Hb σ tb (PN ys)):Ev H0 p wl ys Hb σ (tTup (tCons ta (tCons tb tNil))) PP:=fun H Q m W q=>
 ha H _ m W fun v2 H2 ⟨x2,e2,_⟩ W2 k2=>hb H2 _ (m.trans k2) W2 fun v3 H3 ⟨x3,e3,_⟩ W3 k3=>⟨sz2,fun r nr=>kh (P:=PP) W3 (fun v' H' x W' k=>q v' H' x W' ((k2.trans k3).trans k)) nr fun t z=>⟨r,[x2,x3],rfl,by rw[z,e2,e3];rfl,(by show 2<=100;decide)⟩⟩
theorem StX.lift{H:Hp}{v:V}(h:StX H ys 0 v):StX H ys 1 v:=h.up
theorem PB.lift{H:Hp}{v:V}{n:Nat}(h:PB ys 0 n H v):PB ys 1 n H v:=let ⟨a,xs,e,h1,⟨b,b1,b2,b3,b4⟩,h3⟩:=h;⟨a,xs,e,h1,⟨b,b1,b2,by omega,by omega⟩,h3⟩
theorem PB.more{H:Hp}{v:V}{d n m:Nat}(h:PB ys d n H v)(k:n<=m):PB ys d m H v:=let ⟨a,xs,e,h1,h2,h3⟩:=h;⟨a,xs,e,h1,h2,Nat.le_trans h3 k⟩
theorem qk{H:Hp}{n:Int}{a b:TS}{D:Ends}(W:Wd H0 H p wl ys)(e:σ[0]?=some (some (.ref p)))(h1:1<=n)(h2:n<=1000)(ha:∀H',Wd H0 H' p wl ys->Fw p H H'->a D σ H')(hb:∀H',Wd H0 H' p wl ys->Fw p H H'->b D σ H'):tIfS (tTest (tOp rEq (tTk n) (tC (.int 0)))) a b D σ H:=
 kn (Hb:=H) e h1 h2 H _ .refl W fun v H1 ⟨d,e1,d0,d1⟩ W1 k1=>by
  subst e1
  exact⟨rfl,_,rfl,ite2 (fun _=>ha H1 W1 k1) (fun _=>hb H1 W1 k1)⟩
theorem jN{H:Hp}{te:TE}{i:Nat}{D:Ends}{P:Hp->V->Prop}(W:Wd H0 H p wl ys)(h:Ev H0 p wl ys H σ te P)(q:∀v H',P H' v->Wd H0 H' p wl ys->Fw p H H'->D.nx (σ.set i (some v)) H'):tAsg te (gName i) D σ H:=h H _ .refl W q
theorem KB{H:Hp}{te:TE}{D:Ends}{P:Hp->V->Prop}(W:Wd H0 H p wl ys)(h:Ev H0 p wl ys H σ te P)(q:∀v H',P H' v->Wd H0 H' p wl ys->D.rt v H'):tRet te D σ H:=h H _ .refl W fun v H' x W' _=>q v H' x W'
theorem set3_ok{K:Frag}{H:Hp}{ta tb tc:TE}{i j k:Nat}{D:Ends}(W:Wd H0 H p wl ys)(ha:Ev H0 p wl ys H σ ta (PT ys 0))(hb:Ev H0 p wl ys H σ tb (PT ys 0))(hc:Ev H0 p wl ys H σ tc (PT ys 0))
  (q:∀u v w H',PT ys 0 H' u->PT ys 0 H' v->PT ys 0 H' w->Wd H0 H' p wl ys->Fw p H H'->D.nx (((σ.set k (some w)).set j (some v)).set i (some u)) H'):tAsg3 K (tTup (tCons ta (tCons tb (tCons tc tNil)))) i j k D σ H:=
 ha H _ .refl W fun v2 H2 x2 W2 k2=>hb H2 _ k2 W2 fun v3 H3 x3 W3 k3=>hc H3 _ (k2.trans k3) W3 fun v4 H4 x4 W4 k4=>⟨sz3,fun r nr=>⟨r,_,_,_,rfl,SqT.of jd,q v2 v3 v4 _ (monT _ _ _ (Same.tm (jf nr)) (monT _ _ _ (k3.trans k4).t x2)) (monT _ _ _ (Same.tm (jf nr)) (monT _ _ _ k4.t x3)) (monT _ _ _ (Same.tm (jf nr)) x4) (W4.same (jf nr)) (((k2.trans k3).trans k4).trans (.new nr))⟩⟩
structure Ow(H0 H:Hp)(p wl l:Addr)(xs:List V):Prop where
 hl:H l=some (.lst xs)
 np:l≠p
 lw:l≠wl
 l0:H0 l=none
theorem Ow.fw{H H':Hp}{l:Addr}{xs:List V}(o:Ow H0 H p wl l xs)(k:Fw p H H'):Ow H0 H' p wl l xs:=⟨k.b _ _ o.np o.hl,o.np,o.lw,o.l0⟩
theorem Ow.new{H:Hp}{l:Addr}{xs:List V}(W:Wd H0 H p wl ys)(n:H l=none):Ow H0 (upd H l (.lst xs)) p wl l xs:=⟨jd,W.B.ne n,(fun e=>by have z:=W.w;rw[<- e,n]at z;cases z),W.K.none W.B n⟩
theorem own1{H:Hp}{ta:TE}{i:Nat}{D:Ends}(W:Wd H0 H p wl ys)(ha:Ev H0 p wl ys H σ ta (fun H v=>StX H ys 0 v))(q:∀l v H',Ow H0 H' p wl l [v]->StX H' ys 0 v->Wd H0 H' p wl ys->Fw p H H'->D.nx (σ.set i (some (.ref l))) H'):tAsg (tLst (tCons ta tNil)) (gName i) D σ H:=
 ha H _ .refl W fun v2 H2 x2 W2 k2=>⟨sz1,fun l nl=>q l v2 _ (.new W2 nl) (x2.mono (Same.tm (jf nl))) (W2.same (jf nl)) (k2.trans (.new nl))⟩
theorem own2{H:Hp}{ta tb:TE}{i:Nat}{D:Ends}(W:Wd H0 H p wl ys)(ha:Ev H0 p wl ys H σ ta (fun H v=>StX H ys 0 v))(hb:Ev H0 p wl ys H σ tb (fun H v=>StX H ys 0 v))(q:∀l u v H',Ow H0 H' p wl l [u,v]->StX H' ys 0 u->StX H' ys 0 v->Wd H0 H' p wl ys->Fw p H H'->D.nx (σ.set i (some (.ref l))) H'):tAsg (tLst (tCons ta (tCons tb tNil))) (gName i) D σ H:=
 ha H _ .refl W fun v2 H2 x2 W2 k2=>hb H2 _ k2 W2 fun v3 H3 x3 W3 k3=>⟨sz2,fun l nl=>q l v2 v3 _ (.new W3 nl) ((x2.mono k3.t).mono (Same.tm (jf nl))) (x3.mono (Same.tm (jf nl))) (W3.same (jf nl)) ((k2.trans k3).trans (.new nl))⟩
theorem qG{K:Frag}{H:Hp}{i:Nat}{te:TE}{l:Addr}{xs:List V}{D:Ends}(W:Wd H0 H p wl ys)(hσ:σ[i]?=some (some (.ref l)))(o:Ow H0 H p wl l xs)(hx:xs.length<=100)(ht:Ev H0 p wl ys H σ te (fun H v=>StX H ys 0 v))
  (q:∀v H',StX H' ys 0 v->Ow H0 H' p wl l (xs++[v])->Wd H0 H' p wl ys->TMono H H'->D.nx σ H'):tDrop (tBM K "list" rAppend (tVar i) (tCons te tNil)) D σ H:=
 ⟨_,hσ,.inl ⟨rfl,_,SqL.of o.hl⟩,ht H _ .refl W fun v H1 x1 W1 k1=>⟨l,xs,v,rfl,rfl,(o.fw k1).hl,Nat.lt_of_le_of_lt hx (by decide),q v _ (x1.mono (Kz (o.fw k1).hl)) ⟨jd,o.np,o.lw,o.l0⟩ (W1.own (xs:=xs) o.l0 o.np o.lw) (k1.t.trans (Kz (o.fw k1).hl))⟩⟩
theorem swap_ok{K:Frag}{H:Hp}{i:Nat}{l:Addr}{u v:V}{zs:List V}{D:Ends}(W:Wd H0 H p wl ys)(hσ:σ[i]?=some (some (.ref l)))(o:Ow H0 H p wl l (u::v::zs))
  (q:∀H',Ow H0 H' p wl l (v::u::zs)->Wd H0 H' p wl ys->TMono H H'->D.nx σ H'):tAsg (tTup (tCons (tOp (rIxL K) (tVar i) (tC (.int 1))) (tCons (tOp (rIxL K) (tVar i) (tC (.int 0))) tNil))) (gTup K 2 (gCons (gSub (tVar i) (tC (.int 0)) rSetL) (gCons (gSub (tVar i) (tC (.int 1)) rSetL) gNil))) D σ H:=
 ⟨_,hσ,l,_,_,_,rfl,rfl,SqL.of o.hl,at1,_,hσ,l,_,_,_,rfl,rfl,SqL.of o.hl,at0,sz2,fun t nt=>⟨t,_,rfl,SqT.of jd,rfl,_,_,rfl,_,hσ,l,_,0,0,rfl,rfl,keepN o.hl nt,ix0 (n:=zs.length+1),_,_,rfl,_,hσ,l,_,1,1,rfl,rfl,jd,ix1 (n:=zs.length),rfl,
  q _ ⟨jd,o.np,o.lw,o.l0⟩ (((W.same (jf nt)).own (xs:=u::v::zs) o.l0 o.np o.lw).own (xs:=u::v::zs) o.l0 o.np o.lw) (((Same.tm (jf nt)).trans (Kz (keepN o.hl nt))).trans (Kz jd))⟩⟩
theorem ev_tl{K:Frag}{i n:Nat}{l:Addr}{xs:List V}(e:σ[i]?=some (some (.ref l)))(o:Ow H0 Hb p wl l xs)(hx:BdX Hb ys 0 xs)(hn:xs.length<=n):Ev H0 p wl ys Hb σ (tCB (fun xs H Q=>∃p ys,xs=[V.ref p]/\((SqL K H p ys/\∀(l:Addr),H l=none->Q (V.ref l) (upd H l (HO.tup ys)))∨SqT K H p ys/\Q (V.ref p) H)) (tCons (tVar i) tNil)) (PB ys 0 n):=fun H Q m W q=>
 ⟨_,e,l,xs,rfl,.inl ⟨SqL.of (o.fw m).hl,fun r nr=>kh (P:=PB ys 0 n) W q nr fun t z=>⟨r,xs,rfl,z,(hx.mono m.t).mono t,hn⟩⟩⟩
theorem cat_ok{H:Hp}{i j:Nat}{ta tb:TE}{l m:Addr}{xs zs:List V}{D:Ends}(W:Wd H0 H p wl ys)(hσ:σ[i]?=some (some (.ref l)))(hτ:σ[j]?=some (some (.ref m)))(o:Ow H0 H p wl l xs)(oo:Ow H0 H p wl m zs)(hx:xs.length+zs.length<=100)(bx:BdX H ys 0 xs)(bz:BdX H ys 0 zs)
  (ha:Ev H0 p wl ys H σ ta (fun H v=>StX H ys 0 v)) (hb:Ev H0 p wl ys H σ tb (fun H v=>StX H ys 0 v)) (q:∀r us H',Ow H0 H' p wl r us->BdX H' ys 0 us->us.length<=xs.length+zs.length+2->Wd H0 H' p wl ys->Fw p H H'->D.nx (σ.set i (some (.ref r))) H'):
  tAsg (tOp rCat (tOp rCat (tVar i) (tVar j)) (tLst (tCons ta (tCons tb tNil)))) (gName i) D σ H:=
 ⟨_,hσ,_,hτ,l,m,_,_,rfl,rfl,o.hl,oo.hl,Nat.le_trans hx (by decide),fun c nc=>ha _ _ (.new nc) (W.same (jf nc)) fun v2 H2 x2 W2 k2=>hb H2 _ ((Fw.new nc).trans k2) W2 fun v3 H3 x3 W3 k3=>⟨sz2,fun d nd=>⟨c,d,_,_,rfl,rfl,keepN ((k2.trans k3).b _ _ (W.B.ne nc) jd) nd,jd,by
  have:=line24
  show(xs++zs).length+2<=sizeLine
  rw[List.length_append]
  omega,fun r nr=>q r _ _ (.new (W3.same (jf nd)) nr) (by
   have f:=(((Fw.new nc).trans k2).trans k3).trans ((Fw.new (p:=p) (o:=HO.lst [v2,v3]) nd).trans (Fw.new (o:=HO.lst ((xs++zs)++[v2,v3])) nr))
   have g:=(Fw.new (p:=p) (o:=HO.lst [v2,v3]) nd).trans (Fw.new (o:=HO.lst ((xs++zs)++[v2,v3])) nr)
   exact qF (qF (bx.mono f.t) (bz.mono f.t)) (jO ((x2.mono k3.t).mono g.t) (zc (x3.mono g.t)))) (by rw[List.length_append,List.length_append];exact Nat.le_refl _) ((W3.same (jf nd)).same (jf nr)) ((((Fw.new nc).trans k2).trans k3).trans ((Fw.new nd).trans (Fw.new nr)))⟩⟩⟩
theorem XS{K:Frag}{H:Hp}{D:Ends}(W:Wd H0 H p wl ys)(hσ:σ[3]?=some (some (.ref wl)))(hy:ys.length=6)
  (q:∀a b c d e H',PT ys 0 H' a->PT ys 0 H' b->PT ys 0 H' c->PT ys 0 H' d->PT ys 0 H' e->Wd H0 H' p wl ys->D.nx (((((σ.set 4 (some a)).set 5 (some b)).set 6 (some c)).set 7 (some d)).set 8 (some e)) H'):
  tAsg (tComp (iList K (tSl (rSlL K) (tVar 3) tNoPart (tPart (tC (V.int 5))))) 1 [] (gName 0) tAll (tTup (tCons (tC (V.str "var")) (tCons (tVar 0) tNil)))) (gLn K 5 (gCons (gName 4) (gCons (gName 5) (gCons (gName 6) (gCons (gName 7) (gCons (gName 8) gNil)))))) D σ H:=by
 have big:=line24
 refine⟨_,hσ,_,rfl,wl,_,rfl,SqL.of W.w,fun sl nsl=>?_⟩
 have e5:cutV (ys.map V.str) none (some 5)=(ys.take 5).map V.str:=by rw[show(5:Int)=((5:Nat):Int) from rfl,cutN (by rw[List.length_map];omega),List.map_take]
 have t1:upd H sl (.lst (cutV (ys.map V.str) none (some 5))) sl=some (.lst ((ys.take 5).map V.str)):=by rw[e5];exact jd
 have s1:=jf (o:=HO.lst (cutV (ys.map V.str) none (some 5))) nsl
 generalize upd H sl (.lst (cutV (ys.map V.str) none (some 5)))=H1 at t1 s1
 refine⟨sl,rfl,⟨_,SqL.of t1⟩,?_⟩
 refine Yw (K:=K) (a:=sl) (xs:=(ys.take 5).map V.str) (by rw[List.length_map,List.length_take];omega) (fun i vs H'=>vs.length=i/\(∀v∈vs,PT ys 0 H' v)/\Same H1 H') ⟨rfl,(fun _ h=>absurd h List.not_mem_nil),Same.refl _⟩ (fun i vs H' h=>⟨SqL.of (h.2.2 _ _ t1),Nat.le_of_eq h.1⟩) (fun i x vs H' hx h=>?_) (fun vs H2 h l5 n5=>?_)
 ·obtain⟨y,hy,rfl⟩:=List.mem_map.mp (List.mem_of_getElem? hx)
  exact⟨_,rfl,sz2,fun r nr=>⟨by rw[List.length_append,h.1];rfl,qv (fun a z=>monT _ _ _ (Same.tm (jf nr)) (h.2.1 a z)) ⟨r,rfl,Ze jd (List.mem_of_mem_take hy)⟩,h.2.2.trans (jf nr)⟩⟩
 ·have e:=h.1
  rw[List.length_map,List.length_take]at e
  obtain⟨a,b,c,d,f,rfl⟩:=len5 (show vs.length=5 by omega)
  have m:=Same.tm (jf (o:=HO.lst [a,b,c,d,f]) n5)
  exact⟨l5,_,rfl,SqL.of jd,rfl,_,_,rfl,_,_,rfl,_,_,rfl,_,_,rfl,_,_,rfl,rfl,q a b c d f _ (monT _ _ _ m (h.2.1 a (by simp))) (monT _ _ _ m (h.2.1 b (by simp))) (monT _ _ _ m (h.2.1 c (by simp))) (monT _ _ _ m (h.2.1 d (by simp))) (monT _ _ _ m (h.2.1 f (by simp))) (((W.same s1).same h.2.2).same (jf n5))⟩
end
theorem scOp:FnScope ["_law_box_here","_law_a","_law_b"] ["_law_box_here","_law_a","_law_b"] (defScope sOp):=fsc
theorem ok_op{f:Addr}{fd:FuncData}{fT:Addr}{fdT:FuncData}(F:Fun K "_law_op" "_law_op" sOp f fd)(cT:Cl P w K mg base 1 fT fdT ["_law_box_here","_law_wide"] spTake "_law_take"):FnOk P w K mg base CX0 2 f fd ["_law_box_here","_law_a","_law_b"] spOp:=by
 refine F.ok scOp (fun vs H Q E h=>?_) (fun cdv A outer s H vs Q E hr h=>?_)
 ·refine opq fun Gq kq=>?_
  obtain⟨p,a,b,ys,k,rfl,_⟩:=h
  refine kq ?_
  clear kq
  rfl
 refine opq fun Gq kq=>?_
 obtain⟨p,a,b,ys,k,rfl,B,ha,hb,q⟩:=h
 refine kq ?_
 clear kq
 refine⟨_,(jh (jp (jj (ja ji (ja (@jk _ _ _ _ _ _ _ ju (jH (ja ji (ja ji (ja ji (ja ji jb))))) (jg cT.g hr.m rfl cT.m cT.k cT.b .nil pass0 (ja (pv 0) (ja jc jb))) (fun _ _=>rfl)) (ja (pv 1) (ja (pv 2) jb))))))),?_⟩
 try dsimp only[cxOf,Cx.nox,Cx.wish]
 refine⟨sz4,fun l nl=>⟨_,rfl,p,4,rfl,B.upd_new nl,by decide,by decide,fun d H2 d0 d1 B2 e2=>?_⟩⟩
 obtain⟨s,hat,hs⟩:=pick_sg d0 d1
 have k2:But p H H2:=((But.refl).upd_new nl).trans (But.of_eq e2)
 refine⟨l,_,_,_,rfl,rfl,SqL.of (by rw[e2 l (B.ne nl)];exact jd),hat,_,rfl,_,rfl,sz4,fun r nr=>?_⟩
 have s3:=jf (o:=HO.tup [.str "op",.str s,.ref a,.ref b]) nr
 exact q r _ (tx_op jd hs ((ha.mono (k2.tm B)).mono (Same.tm s3)) ((hb.mono (k2.tm B)).mono (Same.tm s3)) (Nat.lt_succ_self _) (Nat.lt_succ_self _)) (B2.upd_new nr) (k2.trans (But.of_same s3))
theorem scInner:FnScope ["_law_box_here","_law_f","_law_g","_law_w","_law_x","_law_i","_law_y","_law_spot_here","_law_body_here","_law_deeper","_law_test","_law_early","_law_last"] ["_law_box_here","_law_f","_law_g","_law_w"] (defScope sInner):=fsc
theorem ZU{f:Addr}{fd:FuncData}{fT fO:Addr}{fdT fdO:FuncData}(F:Fun K "_law_inner" "_law_inner" sInner f fd)(cT:Cl P w K mg base 1 fT fdT ["_law_box_here","_law_wide"] spTake "_law_take")(cO:Cl P w K mg base 2 fO fdO ["_law_box_here","_law_a","_law_b"] spOp "_law_op"):FnOk P w K mg base CX0 3 f fd ["_law_box_here","_law_f","_law_g","_law_w"] spDefn:=by
 refine F.ok scInner (fun vs H Q E h=>?_) (fun cdv A outer s H vs Q E hr h=>?_)
 ·refine opq fun Gq kq=>?_
  obtain⟨p,wl,f0,g0,ys,rfl,_⟩:=h
  refine kq ?_
  clear kq
  rfl
 refine opq fun Gq kq=>?_
 obtain⟨p,wl,f0,g0,ys,rfl,B,hw,hyl,q⟩:=h
 refine kq ?_
 clear kq
 refine⟨_,(je (@ps_asg3 _ _ _ _ _ _ _ _ (4) (5) (6) rfl scInner.nd rfl rfl rfl (Or.inl rfl) (Or.inl rfl) (Or.inl rfl) (jj (ja (jj (ja ji (ja (@jk _ _ _ _ _ _ _ ju (pv 3) jc (fun _ _=>rfl)) jb))) (ja (jj (ja ji (ja (@jk _ _ _ _ _ _ _ ju (pv 3) jc (fun _ _=>rfl)) jb))) (ja (jj (ja ji (ja (@jk _ _ _ _ _ _ _ ju (pv 3) jc (fun _ _=>rfl)) jb))) jb)))) (by first |exact .inl rfl |exact .inr rfl) (by first |exact .inl rfl |exact .inr rfl) (by first |exact .inl rfl |exact .inr rfl) (by rfl) (by rfl)) (je (jo (i:=7) scInner.nd rfl (Or.inl rfl) (jj (ja ji (ja ji (ja (@jk _ _ _ _ _ _ _ ju (jH (ja (pv 4) (ja (pv 5) jb))) (jg cT.g hr.m rfl cT.m cT.k cT.b .nil pass0 (ja (pv 0) (ja jc jb))) (fun _ _=>rfl)) (ja (jj (ja ji (ja (jg cT.g hr.m rfl cT.m cT.k cT.b .nil pass0 (ja (pv 0) (ja jc jb))) jb))) jb)))))) (je (jo (i:=8) scInner.nd rfl (Or.inl rfl) (jj (ja (jj (ja ji (ja (@jk _ _ _ _ _ _ _ ju (pv 3) jc (fun _ _=>rfl)) (ja (pv 7) jb)))) jb))) (je (jT (jy (@jl _ _ _ _ _ _ _ _ jz (jg cT.g hr.m rfl cT.m cT.k cT.b .nil pass0 (ja (pv 0) (ja jc jb))) jc (nomark _)) (je (jo (i:=7) scInner.nd rfl (Or.inl rfl) (jj (ja ji (ja ji (ja (pv 5) (ja (jj (ja ji (ja (jw jS jc (jg cT.g hr.m rfl cT.m cT.k cT.b .nil pass0 (ja (pv 0) (ja jc jb)))) jb))) jb)))))) (jh (jo (i:=8) scInner.nd rfl (Or.inl rfl) (jw kB (pv 8) (jj (ja (jj (ja ji (ja (pv 7) (ja (jg cO.g hr.m rfl cO.m cO.k cO.b .nil pass0 (ja (pv 0) (ja (pv 4) (ja (pv 6) jb)))) jb)))) jb)))))) jr)) (je (jT (jy (@jl _ _ _ _ _ _ _ _ jz (jg cT.g hr.m rfl cT.m cT.k cT.b .nil pass0 (ja (pv 0) (ja jc jb))) jc (nomark _)) (je (jo (i:=9) scInner.nd rfl (Or.inl rfl) (jj (ja ji (ja (@jk _ _ _ _ _ _ _ ju (pv 3) jc (fun _ _=>rfl)) (ja (pv 2) (ja (jj (ja (jj (ja ji (ja ji (ja (pv 5) (ja (jj (ja ji (ja jc jb))) jb))))) (ja (pv 6) jb))) jb)))))) (jh (jo (i:=8) scInner.nd rfl (Or.inl rfl) (jw kB (pv 8) (jj (ja (jj (ja ji (ja (pv 5) (ja (jj (ja (pv 9) jb)) (ja (jj jb) jb))))) jb)))))) jr)) (je (jo (i:=10) scInner.nd rfl (Or.inl rfl) (jj (ja ji (ja (@jk _ _ _ _ _ _ _ Js ji (jg cT.g hr.m rfl cT.m cT.k cT.b .nil pass0 (ja (pv 0) (ja jc jb))) (fun _ _=>rfl)) (ja (pv 6) (ja (jj (ja ji (ja (jg cT.g hr.m rfl cT.m cT.k cT.b .nil pass0 (ja (pv 0) (ja jc jb))) jb))) jb)))))) (je (jo (i:=11) scInner.nd rfl (Or.inl rfl) (jj (ja ji (ja (jg cO.g hr.m rfl cO.m cO.k cO.b .nil pass0 (ja (pv 0) (ja (pv 4) (ja (pv 6) jb)))) jb)))) (je (jo (i:=12) scInner.nd rfl (Or.inl rfl) (jj (ja ji (ja (jg cO.g hr.m rfl cO.m cO.k cO.b .nil pass0 (ja (pv 0) (ja (pv 6) (ja (pv 5) jb)))) jb)))) (je (jo (i:=8) scInner.nd rfl (Or.inl rfl) (jw kB (pv 8) (jj (ja (jj (ja ji (ja (pv 10) (ja (jj (ja (pv 11) jb)) (ja (jj jb) jb))))) (ja (pv 12) jb))))) (jh (jp (jj (ja (pv 1) (ja (jj (ja (@jk _ _ _ _ _ _ _ ju (pv 3) jc (fun _ _=>rfl)) (ja (@jk _ _ _ _ _ _ _ ju (pv 3) jc (fun _ _=>rfl)) jb))) (ja (pv 8) jb))))))))))))))),?_⟩
 try dsimp only[cxOf,Cx.nox,Cx.wish]
 have W0:Wd H H p wl ys:=⟨B,But.refl,hw⟩
 refine seqF fun F1 f1=>set3_ok W0 (Jk (j4 rfl (by decide) (by omega))) (Jk (j4 rfl (by decide) (by omega))) (Jk (j4 rfl (by decide) (by omega))) fun vx vi vy H1 xx xi xy W1 k1=>f1 _ _ ?_
 refine seqF fun F2 f2=>jN W1 (zH (n:=1) (zJ kY) (Xn rfl (jG rfl monT xx) (jG rfl monT xi)) (ki (kn rfl (by decide) (by decide)) (by decide)) (by decide) (by decide)) fun v2 H2 x2 W2 k2=>f2 _ _ ?_
 refine seqF fun F3 f3=>jN W2 (Jo (Jm (j4 rfl (by decide) (by omega)) (jG rfl monT x2) (by decide))) fun v3 H3 x3 W3 k3=>f3 _ _ ?_
 refine seqF fun F4 f4=>midE (fun σ' H'=>∃(o:Option V) (b:V),σ'=[some (V.ref p),some (V.str f0),some (V.str g0),some (V.ref wl),some (vx),some (vi),some (vy),o,some b,none,none,none,none]/\PB ys 1 2 H' b/\Wd H H' p wl ys/\TMono H3 H') (fun E4 _ fm4=>qk W3 rfl (by decide) (by decide) (fun H6 W6 k6=>?_) (fun H6 W6 k6=>?_)) fun σ4 H5 hq4=>?_
 ·clear f4
  have m1_6:TMono H1 H6:=((k2.t.trans k3.t).trans k6.t)
  refine seqF fun F7 f7=>jN W6 (zH (n:=1) (zJ kY) (jG rfl monT (monT _ _ _ m1_6 xi)) (ki (KA (kn rfl (by decide) (by decide)) (by decide)) (by decide)) (by decide) (by decide)) fun v7 H7 x7 W7 k7=>f7 _ _ ?_
  have m3_7:TMono H3 H7:=(k6.t.trans k7.t)
  have m1_7:TMono H1 H7:=(m1_6.trans k7.t)
  refine jN W7 (qf (jG rfl monB (monB _ _ _ m3_7 x3)) (Jo (Jn (jG rfl monT x7) (Jl rfl (jG rfl monT (monT _ _ _ m1_7 xx)) (jG rfl monT (monT _ _ _ m1_7 xy))) (by decide) (by decide))) (by decide)) fun v8 H8 x8 W8 k8=>fm4 _ _ ?_
  have m3_8:TMono H3 H8:=(m3_7.trans k8.t)
  exact⟨_,_,rfl,(PB.lift x8),W8,m3_8⟩
 ·clear f4
  exact fm4 _ _ ⟨_,_,rfl,(PB.more (PB.lift (monB _ _ _ k6.t x3)) (by decide)),W6,k6.t⟩
 obtain⟨o5,b5,rfl,x5,W5,k5⟩:=hq4
 refine f4 _ _ ?_
 clear f4
 refine seqF fun F9 f9=>midE (fun σ' H'=>∃(o:Option V) (b:V),σ'=[some (V.ref p),some (V.str f0),some (V.str g0),some (V.ref wl),some (vx),some (vi),some (vy),o5,some b,o,none,none,none]/\PB ys 1 3 H' b/\Wd H H' p wl ys/\TMono H5 H') (fun E9 _ fm9=>qk W5 rfl (by decide) (by decide) (fun H11 W11 k11=>?_) (fun H11 W11 k11=>?_)) fun σ9 H10 hq9=>?_
 ·clear f9
  have m1_11:TMono H1 H11:=(((k2.t.trans k3.t).trans k5).trans k11.t)
  refine seqF fun F12 f12=>jN W11 (YQ (j4 rfl (by decide) (by omega)) (ev_i rfl) (zH (n:=1) (zJ Qe) (jG rfl monT (monT _ _ _ m1_11 xi)) (ki (Kw (by decide) (by decide:(1:Int) < 2)) (by decide)) (by decide) (by decide)) (jG rfl monT (monT _ _ _ m1_11 xy)) (by decide) (by decide)) fun v12 H12 x12 W12 k12=>f12 _ _ ?_
  have m5_12:TMono H5 H12:=(k11.t.trans k12.t)
  have m1_12:TMono H1 H12:=(m1_11.trans k12.t)
  refine jN W12 (qf (jG rfl monB (monB _ _ _ m5_12 x5)) (Jo (ev_if (jG rfl monT (monT _ _ _ m1_12 xi)) (Jo (jG rfl monS x12)) (ev_b0 (d:=0)) (by decide) (by decide))) (by decide)) fun v13 H13 x13 W13 k13=>fm9 _ _ ?_
  have m5_13:TMono H5 H13:=(m5_12.trans k13.t)
  exact⟨_,_,rfl,x13,W13,m5_13⟩
 ·clear f9
  exact fm9 _ _ ⟨_,_,rfl,(PB.more (monB _ _ _ k11.t x5) (by decide)),W11,k11.t⟩
 obtain⟨o10,b10,rfl,x10,W10,k10⟩:=hq9
 refine f9 _ _ ?_
 clear f9
 have m1_10:TMono H1 H10:=(((k2.t.trans k3.t).trans k5).trans k10)
 refine seqF fun F14 f14=>jN W10 (zH (n:=1) (ev_s3 rfl) (jG rfl monT (monT _ _ _ m1_10 xy)) (ki (kn rfl (by decide) (by decide)) (by decide)) (by decide) (by decide)) fun v14 H14 x14 W14 k14=>f14 _ _ ?_
 have m1_14:TMono H1 H14:=(m1_10.trans k14.t)
 refine seqF fun F15 f15=>jN W14 (KY (Jl rfl (jG rfl monT (monT _ _ _ m1_14 xx)) (jG rfl monT (monT _ _ _ m1_14 xy))) (by decide)) fun v15 H15 x15 W15 k15=>f15 _ _ ?_
 have m1_15:TMono H1 H15:=(m1_14.trans k15.t)
 refine seqF fun F16 f16=>jN W15 (KY (Jl rfl (jG rfl monT (monT _ _ _ m1_15 xy)) (jG rfl monT (monT _ _ _ m1_15 xi))) (by decide)) fun v16 H16 x16 W16 k16=>f16 _ _ ?_
 have m10_16:TMono H10 H16:=((k14.t.trans k15.t).trans k16.t)
 have m14_16:TMono H14 H16:=(k15.t.trans k16.t)
 refine seqF fun F17 f17=>jN W16 (qf (jG rfl monB (monB _ _ _ m10_16 x10)) (Xo (ev_if (jG rfl monT (monT _ _ _ m14_16 x14)) (Jo (jG rfl monS (monS _ _ _ k16.t x15))) (ev_b0 (d:=0)) (by decide) (by decide)) (Ev.up (jG rfl monS x16) fun _ _=>StX.lift)) (by decide)) fun v17 H17 x17 W17 k17=>f17 _ _ ?_
 refine KB W17 (Xp (YR rfl) (ev_q2 (j4 rfl (by decide) (by omega)) (j4 rfl (by decide) (by omega))) (jG rfl monB x17) (by decide) (by omega)) fun v H' x W'=>?_
 obtain⟨r,rfl,x⟩:=x
 exact q r H' x W'.B W'.K
theorem scLooped:FnScope ["_law_box_here","_law_f","_law_inner_here","_law_w","_law_n","_law_i","_law_s","_law_x","_law_y","_law_body_here","_law_spot_here","_law_start","_law_loop"] ["_law_box_here","_law_f","_law_inner_here","_law_w"] (defScope sLooped):=fsc
noncomputable def J7:Scope:=⟨.function,[(".0",.local),("_law_one",.local)],false,false,[]⟩
theorem Xd:(["_law_one"]:List Str).Nodup:=by decide+kernel
theorem Xe:CompSc ["_law_box_here","_law_f","_law_inner_here","_law_w","_law_n","_law_i","_law_s","_law_x","_law_y","_law_body_here","_law_spot_here","_law_start","_law_loop"] (defScope sLooped) J7 ["_law_one"] 1 []:=csc
theorem YA{f:Addr}{fd:FuncData}{fT fO:Addr}{fdT fdO:FuncData}(F:Fun K "_law_looped" "_law_looped" sLooped f fd)(cT:Cl P w K mg base 1 fT fdT ["_law_box_here","_law_wide"] spTake "_law_take")(cO:Cl P w K mg base 2 fO fdO ["_law_box_here","_law_a","_law_b"] spOp "_law_op")(mi:mg "int"=none)(mtu:mg "tuple"=none):FnOk P w K mg base CX0 3 f fd ["_law_box_here","_law_f","_law_inner_here","_law_w"] spDefn:=by
 refine F.ok scLooped (fun vs H Q E h=>?_) (fun cdv A outer s H vs Q E hr h=>?_)
 ·refine opq fun Gq kq=>?_
  obtain⟨p,wl,f0,g0,ys,rfl,_⟩:=h
  refine kq ?_
  clear kq
  rfl
 refine opq fun Gq kq=>?_
 obtain⟨p,wl,f0,g0,ys,rfl,B,hw,hyl,q⟩:=h
 refine kq ?_
 clear kq
 refine⟨_,(je (@kQ _ _ _ _ _ _ (@kA _ _ _ _ _ _ _ (["_law_one"]) (1) ([]) _ _ _ _ rfl (@zS _ _ _ _ (@jK _ _ _ _ _ _ _ _ _ _ j8 (pv 3) (@jZ _) (@jF _ _ _ jc))) Xe (fun _ _ _ _ _=>(jx (i:=0) Xd rfl (Or.inl rfl))) (fun _ _ _ _ _=>(@kU _)) (fun _ _ _ _ _=>(jj (ja ji (ja (pv 0) jb)))) (by intro _;rfl)) (@XD _ _ _ _ (5) _ rfl (jA (jx (i:=4) scLooped.nd rfl (Or.inl rfl)) (jA (jx (i:=5) scLooped.nd rfl (Or.inl rfl)) (jA (jx (i:=6) scLooped.nd rfl (Or.inl rfl)) (jA (jx (i:=7) scLooped.nd rfl (Or.inl rfl)) (jA (jx (i:=8) scLooped.nd rfl (Or.inl rfl)) kL))))) (by rfl) (by rfl)) (by rfl) (by rfl) (by rfl)) (je (jo (i:=9) scLooped.nd rfl (Or.inl rfl) (jH (ja (jj (ja ji (ja (@jk _ _ _ _ _ _ _ ju (pv 3) jc (fun _ _=>rfl)) (ja (jj (ja ji (ja ji (ja (pv 5) (ja (jj (ja ji (ja (jg cT.g hr.m rfl cT.m cT.k cT.b .nil pass0 (ja (pv 0) (ja jc jb))) jb))) jb))))) jb)))) jb))) (je (jY (@kD _ _ _ _ _ _ _ _ _ _ _ _ PySem.F.plainAttrs_list PySem.F.slot_list_append PySem.F.type_list_append jP (pv 9) (ja (jj (ja ji (ja (@jk _ _ _ _ _ _ _ ju (pv 3) jc (fun _ _=>rfl)) (ja (pv 2) (ja (jj (ja (pv 7) (ja (@jk _ _ _ _ _ _ _ ju (jH (ja (pv 5) (ja (pv 6) jb))) (@jC _ _ _ _ _ _ _ _ _ kE rfl mi boot_int (ja (@ky _ _ _ _ _ _ _ _ jz (jg cT.g hr.m rfl cT.m cT.k cT.b .nil pass0 (ja (pv 0) (ja jc jb))) jc (nomark _)) jb) (by decide) (by decide) (by rfl) (by rfl)) (fun _ _=>rfl)) jb))) jb))))) jb) (by rfl) (by rfl) (by rfl) (by rfl) (by rfl))) (je (jT (jy (@jl _ _ _ _ _ _ _ _ jz (jg cT.g hr.m rfl cT.m cT.k cT.b .nil pass0 (ja (pv 0) (ja jc jb))) jc (nomark _)) (je (jo (i:=10) scLooped.nd rfl (Or.inl rfl) (jj (ja ji (ja ji (ja (pv 5) (ja (jj (ja ji (ja (jw jS jc (jg cT.g hr.m rfl cT.m cT.k cT.b .nil pass0 (ja (pv 0) (ja jc jb)))) jb))) jb)))))) (jh (jY (@kD _ _ _ _ _ _ _ _ _ _ _ _ PySem.F.plainAttrs_list PySem.F.slot_list_append PySem.F.type_list_append jP (pv 9) (ja (jj (ja ji (ja (pv 10) (ja (@jk _ _ _ _ _ _ _ ju (jH (ja (pv 6) (ja (pv 8) (ja (pv 7) jb)))) (jg cT.g hr.m rfl cT.m cT.k cT.b .nil pass0 (ja (pv 0) (ja jc jb))) (fun _ _=>rfl)) jb)))) jb) (by rfl) (by rfl) (by rfl) (by rfl) (by rfl))))) jr)) (je (jY (@kD _ _ _ _ _ _ _ _ _ _ _ _ PySem.F.plainAttrs_list PySem.F.slot_list_append PySem.F.type_list_append jP (pv 9) (ja (jj (ja ji (ja (@jk _ _ _ _ _ _ _ ju (pv 3) jc (fun _ _=>rfl)) (ja (jg cO.g hr.m rfl cO.m cO.k cO.b .nil pass0 (ja (pv 0) (ja (@jk _ _ _ _ _ _ _ ju (jH (ja (pv 6) (ja (pv 6) (ja (pv 7) jb)))) (jg cT.g hr.m rfl cT.m cT.k cT.b .nil pass0 (ja (pv 0) (ja jc jb))) (fun _ _=>rfl)) (ja (pv 8) jb)))) jb)))) jb) (by rfl) (by rfl) (by rfl) (by rfl) (by rfl))) (je (jT (jy (@jl _ _ _ _ _ _ _ _ jz (jg cT.g hr.m rfl cT.m cT.k cT.b .nil pass0 (ja (pv 0) (ja jc jb))) jc (nomark _)) (jh (@kQ _ _ _ _ _ _ (jj (ja (@jk _ _ _ _ _ _ _ ju (pv 9) jc (fun _ _=>rfl)) (ja (@jk _ _ _ _ _ _ _ ju (pv 9) jc (fun _ _=>rfl)) jb))) (@qd _ _ _ _ _ (2) rfl (jA (@qe _ _ _ _ _ _ _ (pv 9) jc zd (by intro _;rfl)) (jA (@qe _ _ _ _ _ _ _ (pv 9) jc zd (by intro _;rfl)) kL)) (by rfl) (by rfl)) (by rfl) (by rfl) (by rfl))) jr)) (je (jY (@kD _ _ _ _ _ _ _ _ _ _ _ _ PySem.F.plainAttrs_list PySem.F.slot_list_append PySem.F.type_list_append jP (pv 9) (ja (jj (ja ji (ja (@jk _ _ _ _ _ _ _ ju (pv 3) jc (fun _ _=>rfl)) (ja (jj (ja ji (ja ji (ja (pv 5) (ja (jj (ja ji (ja jc jb))) jb))))) jb)))) jb) (by rfl) (by rfl) (by rfl) (by rfl) (by rfl))) (je (jo (i:=11) scLooped.nd rfl (Or.inl rfl) (jj (ja (jj (ja ji (ja (@jk _ _ _ _ _ _ _ ju (pv 3) jc (fun _ _=>rfl)) (ja (jj (ja ji (ja (jg cT.g hr.m rfl cT.m cT.k cT.b .nil pass0 (ja (pv 0) (ja jc jb))) jb))) jb)))) (ja (jj (ja ji (ja (@jk _ _ _ _ _ _ _ ju (pv 3) jc (fun _ _=>rfl)) (ja (jj (ja ji (ja (jg cT.g hr.m rfl cT.m cT.k cT.b .nil pass0 (ja (pv 0) (ja jc jb))) jb))) jb)))) jb)))) (je (jT (jy (@jl _ _ _ _ _ _ _ _ jz (jg cT.g hr.m rfl cT.m cT.k cT.b .nil pass0 (ja (pv 0) (ja jc jb))) jc (nomark _)) (je (jo (i:=11) scLooped.nd rfl (Or.inl rfl) (jw kB (pv 11) (jj (ja (jj (ja ji (ja (@jk _ _ _ _ _ _ _ ju (pv 3) jc (fun _ _=>rfl)) (ja (jj (ja ji (ja (jw jS jc (jg cT.g hr.m rfl cT.m cT.k cT.b .nil pass0 (ja (pv 0) (ja jc jb)))) jb))) jb)))) jb)))) (jh (jo (i:=11) scLooped.nd rfl (Or.inl rfl) (jw kB (pv 11) (jj (ja (jj (ja ji (ja (@jk _ _ _ _ _ _ _ ju (pv 3) jc (fun _ _=>rfl)) (ja (jj (ja ji (ja ji (ja (pv 4) (ja (jj (ja ji (ja jc jb))) jb))))) jb)))) jb)))))) jr)) (je (jo (i:=12) scLooped.nd rfl (Or.inl rfl) (jj (ja ji (ja (jj (ja ji (ja ji (ja (pv 5) (ja (pv 4) jb))))) (ja (@jC _ _ _ _ _ _ _ _ _ jI rfl mtu boot_tuple (ja (pv 9) jb) (by decide) (by decide) (by rfl) (by rfl)) jb))))) (jh (jp (jj (ja (pv 1) (ja (jj (ja (@jk _ _ _ _ _ _ _ ju (pv 3) jc (fun _ _=>rfl)) jb)) (ja (jw kB (pv 11) (jj (ja (pv 12) (ja (jj (ja ji (ja (jj (ja ji (ja jc jb))) (ja (pv 6) jb)))) (ja (jj (ja ji (ja (pv 6) jb))) jb))))) jb)))))))))))))))),?_⟩
 try dsimp only[cxOf,Cx.nox,Cx.wish]
 have W0:Wd H H p wl ys:=⟨B,But.refl,hw⟩
 refine seqF fun F1 f1=>XS W0 rfl hyl fun vn vi vs vx vy H1 xn xi xs xx xy W1=>f1 _ _ ?_
 refine seqF fun F2 f2=>own1 W1 (Jm (j4 rfl (by decide) (by omega)) (zH (n:=1) (zJ kY) (jG rfl monT xi) (ki (kn rfl (by decide) (by decide)) (by decide)) (by decide) (by decide)) (by decide)) fun lb u2 H2 o2 x2 W2 k2=>f2 _ _ ?_
 refine seqF fun F3 f3=>qG W2 rfl o2 (show 1<=100 by decide) (YQ (j4 rfl (by decide) (by omega)) (ev_i rfl) (jG rfl monT (monT _ _ _ k2.t xx)) (ev_pb rfl (by decide) (by decide) (jG rfl monT (monT _ _ _ k2.t xi)) (jG rfl monT (monT _ _ _ k2.t xs))) (by decide) (by decide)) fun u3 H3 x3 o3 W3 k3=>f3 _ _ ?_
 refine seqF fun F4 f4=>midE (fun σ' H'=>∃(o:Option V) (zs:List V),σ'=[some (V.ref p),some (V.str f0),some (V.str g0),some (V.ref wl),some (vn),some (vi),some (vs),some (vx),some (vy),some (V.ref lb),o,none,none]/\Ow H H' p wl lb (u2::u3::zs)/\BdX H' ys 0 zs/\zs.length<=1/\Wd H H' p wl ys/\TMono H3 H') (fun E4 _ fm4=>qk W3 rfl (by decide) (by decide) (fun H6 W6 k6=>?_) (fun H6 W6 k6=>?_)) fun σ4 H5 hq4=>?_
 ·clear f4
  have o6:=o3.fw k6
  have m1_6:TMono H1 H6:=((k2.t.trans k3).trans k6.t)
  refine seqF fun F7 f7=>jN W6 (zH (n:=1) (zJ kY) (jG rfl monT (monT _ _ _ m1_6 xi)) (ki (KA (kn rfl (by decide) (by decide)) (by decide)) (by decide)) (by decide) (by decide)) fun v7 H7 x7 W7 k7=>f7 _ _ ?_
  have o7:=o6.fw k7
  have m1_7:TMono H1 H7:=(m1_6.trans k7.t)
  refine qG W7 rfl o7 (show 2<=100 by decide) (Jn (jG rfl monT x7) (ev_p3 rfl (jG rfl monT (monT _ _ _ m1_7 xs)) (jG rfl monT (monT _ _ _ m1_7 xy)) (jG rfl monT (monT _ _ _ m1_7 xx))) (by decide) (by decide)) fun u8 H8 x8 o8 W8 k8=>fm4 _ _ ?_
  have m3_8:TMono H3 H8:=((k6.t.trans k7.t).trans k8)
  exact⟨_,[u8],rfl,o8,zc x8,Nat.le_refl 1,W8,m3_8⟩
 ·clear f4
  have o6:=o3.fw k6
  exact fm4 _ _ ⟨_,[],rfl,o6,Jx,by decide,W6,k6.t⟩
 obtain⟨w5,zs,rfl,o5,zx,zl,W5,k5⟩:=hq4
 refine f4 _ _ ?_
 clear f4
 have m1_5:TMono H1 H5:=((k2.t.trans k3).trans k5)
 refine seqF fun F9 f9=>qG W5 rfl o5 (show zs.length+1+1<=100 by omega) (qP (j4 rfl (by decide) (by omega)) (Jl rfl (ev_p3 rfl (jG rfl monT (monT _ _ _ m1_5 xs)) (jG rfl monT (monT _ _ _ m1_5 xs)) (jG rfl monT (monT _ _ _ m1_5 xx))) (jG rfl monT (monT _ _ _ m1_5 xy))) (by decide)) fun u9 H9 x9 o9 W9 k9=>f9 _ _ ?_
 have zy:BdX H9 ys 0 (zs++[u9]):=qF (zx.mono k9) (zc x9)
 have zm:(zs++[u9]).length<=2:=by rw[List.length_append];exact Nat.succ_le_succ zl
 refine seqF fun F10 f10=>midE (fun σ' H'=>∃(us:List V),σ'=[some (V.ref p),some (V.str f0),some (V.str g0),some (V.ref wl),some (vn),some (vi),some (vs),some (vx),some (vy),some (V.ref lb),w5,none,none]/\Ow H H' p wl lb us/\BdX H' ys 0 us/\us.length<=4/\Wd H H' p wl ys/\TMono H9 H') (fun E10 _ fm10=>qk W9 rfl (by decide) (by decide) (fun H12 W12 k12=>?_) (fun H12 W12 k12=>?_)) fun σ10 H11 hq10=>?_
 ·clear f10
  have o12:=o9.fw k12
  refine swap_ok W12 rfl o12 fun H13 o13 W13 k13=>fm10 _ _ ?_
  have m3_13:TMono H3 H13:=(((k5.trans k9).trans k12.t).trans k13)
  have m2_13:TMono H2 H13:=((((k3.trans k5).trans k9).trans k12.t).trans k13)
  have m9_13:TMono H9 H13:=(k12.t.trans k13)
  exact⟨_,rfl,o13,jO ((monS _ _ _ m3_13 x3)) (jO ((monS _ _ _ m2_13 x2)) (zy.mono m9_13)),(show(zs++[u9]).length+1+1<=4 by omega),W13,m9_13⟩
 ·clear f10
  have o12:=o9.fw k12
  have m2_12:TMono H2 H12:=(((k3.trans k5).trans k9).trans k12.t)
  have m3_12:TMono H3 H12:=((k5.trans k9).trans k12.t)
  exact fm10 _ _ ⟨_,rfl,o12,jO ((monS _ _ _ m2_12 x2)) (jO ((monS _ _ _ m3_12 x3)) (zy.mono k12.t)),(show(zs++[u9]).length+1+1<=4 by omega),W12,k12.t⟩
 obtain⟨us,rfl,o11,ux,ul,W11,k11⟩:=hq10
 refine f10 _ _ ?_
 clear f10
 have m1_11:TMono H1 H11:=((m1_5.trans k9).trans k11)
 refine seqF fun F14 f14=>qG W11 rfl o11 (by omega) (qP (j4 rfl (by decide) (by omega)) (zH (n:=1) (zJ kY) (jG rfl monT (monT _ _ _ m1_11 xi)) (ki (Kw (by decide) (by decide:(1:Int) < 2)) (by decide)) (by decide) (by decide)) (by decide)) fun u14 H14 x14 o14 W14 k14=>f14 _ _ ?_
 have bx14:BdX H14 ys 0 (us++[u14]):=qF (ux.mono k14) (zc x14)
 have bl:(us++[u14]).length<=5:=by rw[List.length_append];exact Nat.succ_le_succ ul
 refine seqF fun F15 f15=>jN W14 (Xo (qP (j4 rfl (by decide) (by omega)) (ki (kn rfl (by decide) (by decide)) (by decide)) (by decide)) (qP (j4 rfl (by decide) (by omega)) (ki (kn rfl (by decide) (by decide)) (by decide)) (by decide))) fun v15 H15 x15 W15 k15=>f15 _ _ ?_
 have o15:=o14.fw k15
 refine seqF fun F16 f16=>midE (fun σ' H'=>∃(b:V),σ'=[some (V.ref p),some (V.str f0),some (V.str g0),some (V.ref wl),some (vn),some (vi),some (vs),some (vx),some (vy),some (V.ref lb),w5,some b,none]/\Ow H H' p wl lb (us++[u14])/\PB ys 0 4 H' b/\Wd H H' p wl ys/\TMono H15 H') (fun E16 _ fm16=>qk W15 rfl (by decide) (by decide) (fun H18 W18 k18=>?_) (fun H18 W18 k18=>?_)) fun σ16 H17 hq16=>?_
 ·clear f16
  have o18:=o15.fw k18
  refine seqF fun F19 f19=>jN W18 (qf (jG rfl monB (monB _ _ _ k18.t x15)) (Jo (Jm (j4 rfl (by decide) (by omega)) (ki (KA (kn rfl (by decide) (by decide)) (by decide)) (by decide)) (by decide))) (by decide)) fun v19 H19 x19 W19 k19=>f19 _ _ ?_
  have o19:=o18.fw k19
  have m1_19:TMono H1 H19:=((((m1_11.trans k14).trans k15.t).trans k18.t).trans k19.t)
  refine jN W19 (qf (jG rfl monB x19) (Jo (qP (j4 rfl (by decide) (by omega)) (zH (n:=1) (zJ sg_over) (jG rfl monT (monT _ _ _ m1_19 xn)) (ki (Kw (by decide) (by decide:(2:Int) < 3)) (by decide)) (by decide) (by decide)) (by decide))) (by decide)) fun v20 H20 x20 W20 k20=>fm16 _ _ ?_
  have o20:=o19.fw k20
  have m15_20:TMono H15 H20:=((k18.t.trans k19.t).trans k20.t)
  exact⟨_,rfl,o20,x20,W20,m15_20⟩
 ·clear f16
  have o18:=o15.fw k18
  exact fm16 _ _ ⟨_,rfl,o18,(PB.more (monB _ _ _ k18.t x15) (by decide)),W18,k18.t⟩
 obtain⟨b17,rfl,o17,x17,W17,k17⟩:=hq16
 refine f16 _ _ ?_
 clear f16
 have m1_17:TMono H1 H17:=(((m1_11.trans k14).trans k15.t).trans k17)
 have m14_17:TMono H14 H17:=(k15.t.trans k17)
 refine seqF fun F21 f21=>jN W17 (ev_wh (zH (n:=1) (zJ KG) (jG rfl monT (monT _ _ _ m1_17 xi)) (jG rfl monT (monT _ _ _ m1_17 xn)) (by decide) (by decide)) (ev_tl (n:=5) rfl o17 (bx14.mono m14_17) bl) (by decide) (by decide)) fun v21 H21 x21 W21 k21=>f21 _ _ ?_
 have o21:=o17.fw k21
 have m1_21:TMono H1 H21:=(m1_17.trans k21.t)
 refine KB W21 (Xp (YR rfl) (ev_q1 (j4 rfl (by decide) (by omega))) (qf (Ev.up (jG rfl monB (monB _ _ _ k21.t x17)) fun _ _=>PB.lift) (ev_b3 (jG rfl monS x21) (Ev.up (Jn (ki (Kw (by decide) (by decide:(30:Int) < 31)) (by decide)) (jG rfl monT (monT _ _ _ m1_21 xs)) (by decide) (by decide)) fun _ _=>StX.lift) (Ev.up (KY (jG rfl monT (monT _ _ _ m1_21 xs)) (by decide)) fun _ _=>StX.lift)) (by decide)) (by decide) (by omega)) fun v H' x W'=>?_
 obtain⟨r,rfl,x⟩:=x
 exact q r H' x W'.B W'.K
theorem cut2{H:Hp}{ys:List Str}{u v:V}{d:Int}(h0:0<=d)(h1:d < 2)(hu:StX H ys 0 u)(hv:StX H ys 0 v):BdX H ys 0 (cutV [u,v] none (some (1+d)))/\(cutV [u,v] none (some (1+d))).length<=2:=by
 rcases(by omega:d=0∨d=1) with rfl |rfl
 ·exact⟨zc hu,by show 1<=2;decide⟩
 ·exact⟨jO hu (zc hv),by show 2<=2;decide⟩
def P2(ys:List Str)(H:Hp)(w:V):Prop:=∃a u v,w= .ref a/\H a=some (.tup [u,v])/\StX H ys 0 u/\StX H ys 0 v
theorem monP2{ys:List Str}:Mon (P2 ys):=fun _ _ _ m ⟨a,u,v,e,h1,h2,h3⟩=>⟨a,u,v,e,m _ _ h1,h2.mono m,h3.mono m⟩
section
variable {ys:List Str}{H0 Hb:Hp}{p wl:Addr}{σ:L2.St}
theorem ev_two{ta tb:TE}(ha:Ev H0 p wl ys Hb σ ta (fun H v=>StX H ys 0 v))(hb:Ev H0 p wl ys Hb σ tb (fun H v=>StX H ys 0 v)):Ev H0 p wl ys Hb σ (tTup (tCons ta (tCons tb tNil))) (P2 ys):=fun H Q m W q=>
 ha H _ m W fun v2 H2 x2 W2 k2=>hb H2 _ (m.trans k2) W2 fun v3 H3 x3 W3 k3=>⟨sz2,fun r nr=>kh (P:=P2 ys) W3 (fun v' H' x W' k=>q v' H' x W' ((k2.trans k3).trans k)) nr fun t z=>⟨r,_,_,rfl,z,(x2.mono k3.t).mono t,x3.mono t⟩⟩
theorem ev_cut{i:Nat}{v:V}(e:σ[i]?=some (some v))(e0:σ[0]?=some (some (.ref p)))(h:P2 ys Hb v):Ev H0 p wl ys Hb σ (tSl rSlA (tVar i) tNoPart (tPart (tOp (rI0 fun i j=>V.int (i+j)) (tC (.int 1)) (tTk 2)))) (PB ys 0 2):=fun H Q m W q=>
 ⟨v,e,kn e0 (by decide) (by decide) H _ m W fun w H1 ⟨d,e1,d0,d1⟩ W1 k1=>⟨1,d,rfl,e1,_,rfl,by
  obtain⟨a,u,v',rfl,h1,h2,h3⟩:=monP2 _ _ _ (m.trans k1).t h
  have z:=cut2 d0 d1 h2 h3
  exact⟨a,_,rfl,h1,fun r H2 hr s=>q _ H2 ⟨r,_,rfl,hr,z.1.mono (Same.tm s),z.2⟩ (W1.same s) (k1.trans (.same s))⟩⟩⟩
end
theorem scTicking:FnScope ["_law_box_here","_law_f","_law_inner_here","_law_w","_law_n","_law_i","_law_s","_law_x","_law_y","_law_spot_here","_law_body_here","_law_kept","_law_some","_law_start","_law_loop"] ["_law_box_here","_law_f","_law_inner_here","_law_w"] (defScope sTicking):=fsc
noncomputable def JP:Scope:=⟨.function,[(".0",.local),("_law_one",.local)],false,false,[]⟩
theorem Qx:(["_law_one"]:List Str).Nodup:=by decide+kernel
theorem Qy:CompSc ["_law_box_here","_law_f","_law_inner_here","_law_w","_law_n","_law_i","_law_s","_law_x","_law_y","_law_spot_here","_law_body_here","_law_kept","_law_some","_law_start","_law_loop"] (defScope sTicking) JP ["_law_one"] 1 []:=csc
theorem Xf{f:Addr}{fd:FuncData}{fT fO:Addr}{fdT fdO:FuncData}(F:Fun K "_law_ticking" "_law_ticking" sTicking f fd)(cT:Cl P w K mg base 1 fT fdT ["_law_box_here","_law_wide"] spTake "_law_take")(cO:Cl P w K mg base 2 fO fdO ["_law_box_here","_law_a","_law_b"] spOp "_law_op")(mi:mg "int"=none)(mtu:mg "tuple"=none):FnOk P w K mg base CX0 3 f fd ["_law_box_here","_law_f","_law_inner_here","_law_w"] spDefn:=by
 refine F.ok scTicking (fun vs H Q E h=>?_) (fun cdv A outer s H vs Q E hr h=>?_)
 ·refine opq fun Gq kq=>?_
  obtain⟨p,wl,f0,g0,ys,rfl,_⟩:=h
  refine kq ?_
  clear kq
  rfl
 refine opq fun Gq kq=>?_
 obtain⟨p,wl,f0,g0,ys,rfl,B,hw,hyl,q⟩:=h
 refine kq ?_
 clear kq
 refine⟨_,(je (@kQ _ _ _ _ _ _ (@kA _ _ _ _ _ _ _ (["_law_one"]) (1) ([]) _ _ _ _ rfl (@zS _ _ _ _ (@jK _ _ _ _ _ _ _ _ _ _ j8 (pv 3) (@jZ _) (@jF _ _ _ jc))) Qy (fun _ _ _ _ _=>(jx (i:=0) Qx rfl (Or.inl rfl))) (fun _ _ _ _ _=>(@kU _)) (fun _ _ _ _ _=>(jj (ja ji (ja (pv 0) jb)))) (by intro _;rfl)) (@XD _ _ _ _ (5) _ rfl (jA (jx (i:=4) scTicking.nd rfl (Or.inl rfl)) (jA (jx (i:=5) scTicking.nd rfl (Or.inl rfl)) (jA (jx (i:=6) scTicking.nd rfl (Or.inl rfl)) (jA (jx (i:=7) scTicking.nd rfl (Or.inl rfl)) (jA (jx (i:=8) scTicking.nd rfl (Or.inl rfl)) kL))))) (by rfl) (by rfl)) (by rfl) (by rfl) (by rfl)) (je (jo (i:=9) scTicking.nd rfl (Or.inl rfl) (jj (ja ji (ja (jw jS jc (jg cT.g hr.m rfl cT.m cT.k cT.b .nil pass0 (ja (pv 0) (ja jc jb)))) jb)))) (je (jo (i:=10) scTicking.nd rfl (Or.inl rfl) (jH (ja (jj (ja ji (ja (@jk _ _ _ _ _ _ _ ju (pv 3) jc (fun _ _=>rfl)) (ja (pv 9) jb)))) (ja (jj (ja ji (ja (@jk _ _ _ _ _ _ _ ju (pv 3) jc (fun _ _=>rfl)) (ja (@jk _ _ _ _ _ _ _ ju (jH (ja (pv 5) (ja (jj (ja ji (ja (jg cT.g hr.m rfl cT.m cT.k cT.b .nil pass0 (ja (pv 0) (ja jc jb))) jb))) jb))) (jg cT.g hr.m rfl cT.m cT.k cT.b .nil pass0 (ja (pv 0) (ja jc jb))) (fun _ _=>rfl)) jb)))) jb)))) (je (jY (@kD _ _ _ _ _ _ _ _ _ _ _ _ PySem.F.plainAttrs_list PySem.F.slot_list_append PySem.F.type_list_append jP (pv 10) (ja (jj (ja ji (ja (@jk _ _ _ _ _ _ _ ju (pv 3) jc (fun _ _=>rfl)) (ja (pv 2) (ja (jj (ja (@jk _ _ _ _ _ _ _ ju (jH (ja (pv 7) (ja (jj (ja ji (ja jc jb))) jb))) (jg cT.g hr.m rfl cT.m cT.k cT.b .nil pass0 (ja (pv 0) (ja jc jb))) (fun _ _=>rfl)) (ja (@jk _ _ _ _ _ _ _ ju (jH (ja (pv 5) (ja (jj (ja ji (ja jc jb))) jb))) (jg cT.g hr.m rfl cT.m cT.k cT.b .nil pass0 (ja (pv 0) (ja jc jb))) (fun _ _=>rfl)) jb))) jb))))) jb) (by rfl) (by rfl) (by rfl) (by rfl) (by rfl))) (je (jT (jy (@jl _ _ _ _ _ _ _ _ jz (jg cT.g hr.m rfl cT.m cT.k cT.b .nil pass0 (ja (pv 0) (ja jc jb))) jc (nomark _)) (jh (jY (@kD _ _ _ _ _ _ _ _ _ _ _ _ PySem.F.plainAttrs_list PySem.F.slot_list_append PySem.F.type_list_append jP (pv 10) (ja (jj (ja ji (ja (jj (ja ji (ja ji (ja (pv 5) (ja (jj (ja ji (ja (jg cT.g hr.m rfl cT.m cT.k cT.b .nil pass0 (ja (pv 0) (ja jc jb))) jb))) jb))))) (ja (pv 8) jb)))) jb) (by rfl) (by rfl) (by rfl) (by rfl) (by rfl)))) jr)) (je (jo (i:=11) scTicking.nd rfl (Or.inl rfl) (jj (ja ji (ja jc jb)))) (je (jo (i:=12) scTicking.nd rfl (Or.inl rfl) (jH (ja (jj (ja ji (ja (@jk _ _ _ _ _ _ _ ju (pv 3) jc (fun _ _=>rfl)) (ja (pv 11) jb)))) (ja (jj (ja ji (ja (pv 11) (ja (jg cO.g hr.m rfl cO.m cO.k cO.b .nil pass0 (ja (pv 0) (ja (pv 6) (ja (pv 8) jb)))) jb)))) jb)))) (je (jT (jy (@jl _ _ _ _ _ _ _ _ jz (jg cT.g hr.m rfl cT.m cT.k cT.b .nil pass0 (ja (pv 0) (ja jc jb))) jc (nomark _)) (jh (jo (i:=12) scTicking.nd rfl (Or.inl rfl) (jH (ja (jj (ja ji (ja (@jk _ _ _ _ _ _ _ ju (pv 3) jc (fun _ _=>rfl)) (ja (jg cO.g hr.m rfl cO.m cO.k cO.b .nil pass0 (ja (pv 0) (ja (pv 6) (ja (pv 8) jb)))) jb)))) jb)))) jr)) (je (jo (i:=10) scTicking.nd rfl (Or.inl rfl) (jw zK (jw zK (pv 10) (pv 12)) (jH (ja (jj (ja ji (ja (pv 9) (ja (jj (ja ji (ja ji (ja (pv 5) (ja (jj (ja ji (ja jc jb))) jb))))) jb)))) (ja (jj (ja ji (ja (@jk _ _ _ _ _ _ _ ju (pv 3) jc (fun _ _=>rfl)) (ja (jj (ja ji (ja ji (ja (pv 5) (ja (pv 4) jb))))) jb)))) jb))))) (je (jo (i:=13) scTicking.nd rfl (Or.inl rfl) (jj (ja (jj (ja ji (ja (@jk _ _ _ _ _ _ _ ju (pv 3) jc (fun _ _=>rfl)) (ja (jj (ja ji (ja jc jb))) jb)))) (ja (jj (ja ji (ja (pv 9) (ja (jj (ja ji (ja (jg cT.g hr.m rfl cT.m cT.k cT.b .nil pass0 (ja (pv 0) (ja jc jb))) jb))) jb)))) jb)))) (je (jo (i:=14) scTicking.nd rfl (Or.inl rfl) (jj (ja ji (ja (jj (ja ji (ja (@jk _ _ _ _ _ _ _ ju (pv 3) jc (fun _ _=>rfl)) jb))) (ja (@jC _ _ _ _ _ _ _ _ _ jI rfl mtu boot_tuple (ja (pv 10) jb) (by decide) (by decide) (by rfl) (by rfl)) jb))))) (jh (jp (jj (ja (pv 1) (ja (jj (ja (@jk _ _ _ _ _ _ _ ju (pv 3) jc (fun _ _=>rfl)) jb)) (ja (jw kB (@jK _ _ _ _ _ _ _ _ _ _ zT (pv 13) (@jZ _) (@jF _ _ _ (jw jS jc (jg cT.g hr.m rfl cT.m cT.k cT.b .nil pass0 (ja (pv 0) (ja jc jb)))))) (jj (ja (pv 14) (ja (jj (ja ji (ja (pv 6) jb))) jb)))) jb))))))))))))))))),?_⟩
 try dsimp only[cxOf,Cx.nox,Cx.wish]
 have W0:Wd H H p wl ys:=⟨B,But.refl,hw⟩
 refine seqF fun F1 f1=>XS W0 rfl hyl fun vn vi vs vx vy H1 xn xi xs xx xy W1=>f1 _ _ ?_
 refine seqF fun F2 f2=>jN W1 (ki (KA (kn rfl (by decide) (by decide)) (by decide)) (by decide)) fun v2 H2 x2 W2 k2=>f2 _ _ ?_
 refine seqF fun F3 f3=>own2 W2 (Jm (j4 rfl (by decide) (by omega)) (jG rfl monT x2) (by decide)) (Jm (j4 rfl (by decide) (by omega)) (Xn rfl (jG rfl monT (monT _ _ _ k2.t xi)) (ki (kn rfl (by decide) (by decide)) (by decide))) (by decide)) fun lb u3 w3 H3 o3 x3 y3 W3 k3=>f3 _ _ ?_
 have m1_3:TMono H1 H3:=(k2.t.trans k3.t)
 refine seqF fun F4 f4=>qG W3 rfl o3 (show 2<=100 by decide) (YQ (j4 rfl (by decide) (by omega)) (ev_i rfl) (Xn rfl (jG rfl monT (monT _ _ _ m1_3 xx)) (ki (Kw (by decide) (by decide:(3:Int) < 4)) (by decide))) (Xn rfl (jG rfl monT (monT _ _ _ m1_3 xi)) (ki (Kw (by decide) (by decide:(2:Int) < 3)) (by decide))) (by decide) (by decide)) fun u4 H4 x4 o4 W4 k4=>f4 _ _ ?_
 refine seqF fun F5 f5=>midE (fun σ' H'=>∃(us:List V),σ'=[some (V.ref p),some (V.str f0),some (V.str g0),some (V.ref wl),some (vn),some (vi),some (vs),some (vx),some (vy),some (v2),some (V.ref lb),none,none,none,none]/\Ow H H' p wl lb us/\BdX H' ys 0 us/\us.length<=4/\Wd H H' p wl ys/\TMono H4 H') (fun E5 _ fm5=>qk W4 rfl (by decide) (by decide) (fun H7 W7 k7=>?_) (fun H7 W7 k7=>?_)) fun σ5 H6 hq5=>?_
 ·clear f5
  have o7:=o4.fw k7
  have m1_7:TMono H1 H7:=((m1_3.trans k4).trans k7.t)
  refine qG W7 rfl o7 (show 3<=100 by decide) (Jn (zH (n:=1) (zJ kY) (jG rfl monT (monT _ _ _ m1_7 xi)) (ki (kn rfl (by decide) (by decide)) (by decide)) (by decide) (by decide)) (jG rfl monT (monT _ _ _ m1_7 xy)) (by decide) (by decide)) fun u8 H8 x8 o8 W8 k8=>fm5 _ _ ?_
  have m4_8:TMono H4 H8:=(k7.t.trans k8)
  have m3_8:TMono H3 H8:=((k4.trans k7.t).trans k8)
  exact⟨_,rfl,o8,(jO ((monS _ _ _ m3_8 x3)) (jO ((monS _ _ _ m3_8 y3)) (jO ((monS _ _ _ m4_8 x4)) (jO (x8) Jx)))),(show 4<=4 by decide),W8,m4_8⟩
 ·clear f5
  have o7:=o4.fw k7
  have m3_7:TMono H3 H7:=(k4.trans k7.t)
  exact fm5 _ _ ⟨_,rfl,o7,(jO ((monS _ _ _ m3_7 x3)) (jO ((monS _ _ _ m3_7 y3)) (jO ((monS _ _ _ k7.t x4)) Jx))),(show 3<=4 by decide),W7,k7.t⟩
 obtain⟨us,rfl,o6,ux,ul,W6,k6⟩:=hq5
 refine f5 _ _ ?_
 clear f5
 refine seqF fun F9 f9=>jN W6 (ki (Kw (by decide) (by decide:(30:Int) < 31)) (by decide)) fun v9 H9 x9 W9 k9=>f9 _ _ ?_
 have o9:=o6.fw k9
 have m1_9:TMono H1 H9:=(((m1_3.trans k4).trans k6).trans k9.t)
 refine seqF fun F10 f10=>own2 W9 (Jm (j4 rfl (by decide) (by omega)) (jG rfl monT x9) (by decide)) (Jn (jG rfl monT x9) (Jl rfl (jG rfl monT (monT _ _ _ m1_9 xs)) (jG rfl monT (monT _ _ _ m1_9 xy))) (by decide) (by decide)) fun lm u10 w10 H10 z10 x10 y10 W10 k10=>f10 _ _ ?_
 have o10:=o9.fw k10
 refine seqF fun F11 f11=>midE (fun σ' H'=>∃(m:Addr) (zs:List V),σ'=[some (V.ref p),some (V.str f0),some (V.str g0),some (V.ref wl),some (vn),some (vi),some (vs),some (vx),some (vy),some (v2),some (V.ref lb),some (v9),some (.ref m),none,none]/\Ow H H' p wl lb us/\Ow H H' p wl m zs/\BdX H' ys 0 zs/\zs.length<=2/\Wd H H' p wl ys/\TMono H10 H') (fun E11 _ fm11=>qk W10 rfl (by decide) (by decide) (fun H13 W13 k13=>?_) (fun H13 W13 k13=>?_)) fun σ11 H12 hq11=>?_
 ·clear f11
  have o13:=o10.fw k13
  have z13:=z10.fw k13
  have m1_13:TMono H1 H13:=((m1_9.trans k10.t).trans k13.t)
  refine own1 W13 (qP (j4 rfl (by decide) (by omega)) (Jl rfl (jG rfl monT (monT _ _ _ m1_13 xs)) (jG rfl monT (monT _ _ _ m1_13 xy))) (by decide)) fun lq u14 H14 z14 x14 W14 k14=>fm11 _ _ ?_
  have o14:=o13.fw k14
  have m10_14:TMono H10 H14:=(k13.t.trans k14.t)
  exact⟨_,_,rfl,o14,z14,zc x14,(show 1<=2 by decide),W14,m10_14⟩
 ·clear f11
  have o13:=o10.fw k13
  have z13:=z10.fw k13
  exact fm11 _ _ ⟨_,_,rfl,o13,z13,(jO ((monS _ _ _ k13.t x10)) (jO ((monS _ _ _ k13.t y10)) Jx)),(show 2<=2 by decide),W13,k13.t⟩
 obtain⟨lm,zs,rfl,o12,z12,zx,zl,W12,k12⟩:=hq11
 refine f11 _ _ ?_
 clear f11
 have m2_12:TMono H2 H12:=(((((k3.t.trans k4).trans k6).trans k9.t).trans k10.t).trans k12)
 have m1_12:TMono H1 H12:=((m1_9.trans k10.t).trans k12)
 have m6_12:TMono H6 H12:=((k9.t.trans k10.t).trans k12)
 refine seqF fun F15 f15=>cat_ok W12 rfl rfl o12 z12 (by omega) (ux.mono m6_12) zx (Jn (jG rfl monT (monT _ _ _ m2_12 x2)) (zH (n:=1) (zJ kY) (jG rfl monT (monT _ _ _ m1_12 xi)) (ki (Kw (by decide) (by decide:(1:Int) < 2)) (by decide)) (by decide) (by decide)) (by decide) (by decide)) (qP (j4 rfl (by decide) (by omega)) (zH (n:=1) (zJ KG) (jG rfl monT (monT _ _ _ m1_12 xi)) (jG rfl monT (monT _ _ _ m1_12 xn)) (by decide) (by decide)) (by decide)) fun lc cs H15 o15 cx cl W15 k15=>f15 _ _ ?_
 have cm:cs.length<=8:=by omega
 have m2_15:TMono H2 H15:=(m2_12.trans k15.t)
 refine seqF fun F16 f16=>jN W15 (ev_two (qP (j4 rfl (by decide) (by omega)) (ki (Kw (by decide) (by decide:(1:Int) < 2)) (by decide)) (by decide)) (Jn (jG rfl monT (monT _ _ _ m2_15 x2)) (ki (kn rfl (by decide) (by decide)) (by decide)) (by decide) (by decide))) fun v16 H16 x16 W16 k16=>f16 _ _ ?_
 have o16:=o15.fw k16
 refine seqF fun F17 f17=>jN W16 (ev_wh (Jk (j4 rfl (by decide) (by omega))) (ev_tl (n:=8) rfl o16 (cx.mono k16.t) cm) (by decide) (by decide)) fun v17 H17 x17 W17 k17=>f17 _ _ ?_
 have o17:=o16.fw k17
 have m1_17:TMono H1 H17:=(((m1_12.trans k15.t).trans k16.t).trans k17.t)
 refine KB W17 (Xp (YR rfl) (ev_q1 (j4 rfl (by decide) (by omega))) (qf (Ev.up (ev_cut rfl rfl (monP2 _ _ _ k17.t x16)) fun _ _=>PB.lift) (Xo (jG rfl monS x17) (Ev.up (KY (jG rfl monT (monT _ _ _ m1_17 xs)) (by decide)) fun _ _=>StX.lift)) (by decide)) (by decide) (by omega)) fun v H' x W'=>?_
 obtain⟨r,rfl,x⟩:=x
 exact q r H' x W'.B W'.K
theorem cut6{ys:List Str}{lo:Nat}(h:ys.length=14)(h1:lo<=8):(cutS ys (some (lo:Int)) (some ((lo+6:Nat):Int))).length=6:=by
 unfold cutS
 rw[HT.sIx_nat,HT.sIx_nat,List.length_take,List.length_drop]
 omega
theorem ixk{n k:Nat}(h:k < n):ixN n (k:Int)=some k:=by unfold ixN;rw[if_pos (by omega),if_pos (by omega),Int.toNat_natCast]
theorem dfs3{H:Hp}{a b c:Addr}{f1 f2 f3:Str}(ha:DfX H a f1)(hb:DfX H b f2)(hc:DfX H c f3):∃ds,DfsV H ds [.ref a,.ref b,.ref c]/\ds.length=3/\(DfsOk ds/\ds.map Df.f=[f1,f2,f3])/\PaV H ds:=by
 obtain⟨d,d1,d2,p1,d3,d4,rfl⟩:=ha
 obtain⟨e,e1,e2,p2,e3,e4,rfl⟩:=hb
 obtain⟨f,g1,g2,p3,g3,g4,rfl⟩:=hc
 refine⟨[d,e,f],⟨_,_,rfl,d1,_,_,rfl,e1,_,_,rfl,g1,rfl⟩,rfl,⟨fun x hx=>?_,rfl⟩,fun x hx=>?_⟩
 ·simp only[List.mem_cons,List.not_mem_nil,or_false]at hx
  rcases hx with rfl |rfl |rfl
  ·exact d2
  ·exact e2
  ·exact g2
 ·simp only[List.mem_cons,List.not_mem_nil,or_false]at hx
  rcases hx with rfl |rfl |rfl
  ·exact⟨_,d3,d4⟩
  ·exact⟨_,e3,e4⟩
  ·exact⟨_,g3,g4⟩
def spBusy:Sp:=fun vs H Q _=>∃(p:Addr),vs=[.ref p]/\BoxAt H p/\∀(r:Addr) (ds:List Df) (xs:List V) (H':Hp),H' r=some (.tup xs)->DfsV H' ds xs->ds.length=3->DfsN ds->PaV H' ds->BoxAt H' p->But p H H'->Q (.ref r) H'
section
variable {ys:List Str}{H0 Hb:Hp}{p wl:Addr}{σ:L2.St}
theorem ev_ps{K:Frag}{ta tb tc:TE}(e:σ[0]?=some (some (.ref p)))(ha:Ev H0 p wl ys Hb σ ta (PN ys))(hb:Ev H0 p wl ys Hb σ tb (PN ys))(hc:Ev H0 p wl ys Hb σ tc (PN ys)):Ev H0 p wl ys Hb σ (tOp (rIxL K) (tLst (tCons ta (tCons tb (tCons tc tNil)))) (tTk 3)) PI:=fun H Q m W q=>
 ha H _ m W fun v2 H2 ⟨a,e2,_⟩ W2 k2=>hb H2 _ (m.trans k2) W2 fun v3 H3 ⟨b,e3,_⟩ W3 k3=>hc H3 _ ((m.trans k2).trans k3) W3 fun v5 H5 ⟨c,e5,_⟩ W5 k5=>⟨sz3,fun l nl=>kn e (by decide) (by decide) _ _ ((((m.trans k2).trans k3).trans k5).trans (.new nl)) (W5.same (jf nl)) fun v H4 ⟨d,e4,d0,d1⟩ W4 k4=>by
  obtain⟨g,i⟩:=pick3s (a:=a) (b:=b) (c:=c) d0 d1
  rw[<- e2,<- e3,<- e5]at i
  exact⟨l,_,d,_,rfl,e4,SqL.of (k4.b _ _ (W5.B.ne nl) jd),i,q _ H4 ⟨g,rfl⟩ W4 (((k2.trans k3).trans k5).trans ((Fw.new nl).trans k4))⟩⟩
theorem YS{K:Frag}{tf tg:TE}{i j:Int}{lo:Nat}(e0:σ[0]?=some (some (.ref p)))(e1:σ[1]?=some (some (.ref wl))){f:Str}(hf:Ev H0 p wl ys Hb σ tf (PEy f))(hg:Ev H0 p wl ys Hb σ tg PI)(h14:ys.length=14)(hl:lo<=8)(hi:i=(lo:Int))(hj:j=((lo+6:Nat):Int)):
  Ev H0 p wl ys Hb σ (tCall spDefn [] E0 (tCons (tVar 0) (tCons tf (tCons tg (tCons (tSl (rSlL K) (tVar 1) (tPart (tC (.int i))) (tPart (tC (.int j)))) tNil))))) (PD f):=fun H Q m W q=>
 ⟨_,e0,hf H _ m W fun v2 H2 (e2:v2= .str f) W2 k2=>hg H2 _ (m.trans k2) W2 fun v3 H3 ⟨g,e3⟩ W3 k3=>⟨_,e1,_,rfl,_,rfl,wl,_,rfl,SqL.of W3.w,fun r nr=>⟨p,r,f,g,cutS ys (some i) (some j),by rw[e2,e3];rfl,W3.B.upd_new nr,by rw[jd,zf],by rw[hi,hj];exact cut6 h14 hl,fun a H4 x4 B4 c4=>
  q _ H4 ⟨a,rfl,x4⟩ ((W3.same (jf nr)).but B4 c4) ((k2.trans k3).trans ((Fw.new nr).trans (.but (W3.B.upd_new nr) c4)))⟩⟩⟩
theorem Xq{K:Frag}{i:Int}{j k:Nat}{y:Str}(e:σ[j]?=some (some (.ref wl)))(hi:i=(k:Int))(h:ys[k]?=some y):Ev H0 p wl ys Hb σ (tOp (rIxL K) (tVar j) (tC (.int i))) (PEy y):=fun H Q m W q=>
 ⟨_,e,wl,_,_,_,rfl,rfl,SqL.of W.w,(by rw[hi];exact jE (by rw[List.getElem?_map,h];rfl)),q _ H rfl W .refl⟩
theorem ev_d3{ta tb tc:TE}{f1 f2 f3:Str}(ha:Ev H0 p wl ys Hb σ ta (PD f1))(hb:Ev H0 p wl ys Hb σ tb (PD f2))(hc:Ev H0 p wl ys Hb σ tc (PD f3)):Ev H0 p wl ys Hb σ (tTup (tCons ta (tCons tb (tCons tc tNil)))) (fun H v=>∃r ds xs,v= .ref r/\H r=some (.tup xs)/\DfsV H ds xs/\ds.length=3/\(DfsOk ds/\ds.map Df.f=[f1,f2,f3])/\PaV H ds):=fun H Q m W q=>
 ha H _ m W fun v2 H2 x2 W2 k2=>hb H2 _ (m.trans k2) W2 fun v3 H3 x3 W3 k3=>hc H3 _ ((m.trans k2).trans k3) W3 fun v4 H4 x4 W4 k4=>⟨sz3,fun r nr=>q _ _ (by
  have t:=Same.tm (jf (o:=HO.tup [v2,v3,v4]) nr)
  obtain⟨a,e1,h1⟩:=monD _ _ _ t (monD _ _ _ (k3.trans k4).t x2)
  obtain⟨b,e2,h2⟩:=monD _ _ _ t (monD _ _ _ k4.t x3)
  obtain⟨c,e3,h3⟩:=monD _ _ _ t x4
  obtain⟨ds,g⟩:=dfs3 h1 h2 h3
  exact⟨r,ds,_,rfl,by rw[jd,e1,e2,e3],g⟩) (W4.same (jf nr)) (((k2.trans k3).trans k4).trans (.new nr))⟩
end
theorem scBusy:FnScope ["_law_box_here","_law_w","_law_body_here","_law_deeper","_law_further","_law_first"] ["_law_box_here"] (defScope sBusy):=fsc
theorem ok_busy{f:Addr}{fd:FuncData}{fT fO fA fL fK fI:Addr}{fdT fdO fdA fdL fdK fdI:FuncData}(F:Fun K "_law_busy" "_law_busy" sBusy f fd)(cT:Cl P w K mg base 1 fT fdT ["_law_box_here","_law_wide"] spTake "_law_take")(cO:Cl P w K mg base 2 fO fdO ["_law_box_here","_law_a","_law_b"] spOp "_law_op")(cA:Cl P w K mg base 2 fA fdA ["_law_box_here","_law_total"] spNames "_law_names")(cL:Cl P w K mg base 3 fL fdL ["_law_box_here","_law_f","_law_inner_here","_law_w"] spDefn "_law_looped")(cK:Cl P w K mg base 3 fK fdK ["_law_box_here","_law_f","_law_inner_here","_law_w"] spDefn "_law_ticking")(cI:Cl P w K mg base 3 fI fdI ["_law_box_here","_law_f","_law_g","_law_w"] spDefn "_law_inner"):FnOk P w K mg base CX0 4 f fd ["_law_box_here"] spBusy:=by
 refine F.ok scBusy (fun vs H Q E h=>?_) (fun cdv A outer s H vs Q E hr h=>?_)
 ·refine opq fun Gq kq=>?_
  obtain⟨p,rfl,_⟩:=h
  refine kq ?_
  clear kq
  rfl
 refine opq fun Gq kq=>?_
 obtain⟨p,rfl,B,q⟩:=h
 refine kq ?_
 clear kq
 refine⟨_,(je (jo (i:=1) scBusy.nd rfl (Or.inl rfl) (jg cA.g hr.m rfl cA.m cA.k cA.b .nil pass0 (ja (pv 0) (ja jc jb)))) (je (jT (jy (@jl _ _ _ _ _ _ _ _ jz (jg cT.g hr.m rfl cT.m cT.k cT.b .nil pass0 (ja (pv 0) (ja jc jb))) jc (nomark _)) (jh (@kQ _ _ _ _ _ _ (@jk _ _ _ _ _ _ _ ju (pv 1) jc (fun _ _=>rfl)) (@qe _ _ _ _ _ _ _ (pv 1) jc zd (by intro _;rfl)) (by rfl) (by rfl) (by rfl))) jr)) (je (jo (i:=2) scBusy.nd rfl (Or.inl rfl) (jj (ja (jj (ja ji (ja (@jk _ _ _ _ _ _ _ ju (pv 1) jc (fun _ _=>rfl)) (ja (jj (ja ji (ja (@jk _ _ _ _ _ _ _ ju (pv 1) jc (fun _ _=>rfl)) jb))) jb)))) (ja (jj (ja ji (ja (jg cO.g hr.m rfl cO.m cO.k cO.b .nil pass0 (ja (pv 0) (ja (jj (ja ji (ja (@jk _ _ _ _ _ _ _ ju (pv 1) jc (fun _ _=>rfl)) jb))) (ja (jj (ja ji (ja (@jk _ _ _ _ _ _ _ ju (pv 1) jc (fun _ _=>rfl)) jb))) jb)))) jb))) jb)))) (je (jo (i:=3) scBusy.nd rfl (Or.inl rfl) (jj (ja (@jk _ _ _ _ _ _ _ ju (pv 1) jc (fun _ _=>rfl)) (ja (jj (ja (@jk _ _ _ _ _ _ _ ju (pv 1) jc (fun _ _=>rfl)) (ja (@jk _ _ _ _ _ _ _ ju (pv 1) jc (fun _ _=>rfl)) jb))) (ja (pv 2) jb))))) (je (jo (i:=4) scBusy.nd rfl (Or.inl rfl) (@jk _ _ _ _ _ _ _ ju (jH (ja (@jk _ _ _ _ _ _ _ ju (pv 1) jc (fun _ _=>rfl)) (ja (@jk _ _ _ _ _ _ _ ju (pv 1) jc (fun _ _=>rfl)) (ja (@jk _ _ _ _ _ _ _ ju (pv 1) jc (fun _ _=>rfl)) jb)))) (jg cT.g hr.m rfl cT.m cT.k cT.b .nil pass0 (ja (pv 0) (ja jc jb))) (fun _ _=>rfl))) (je (jo (i:=5) scBusy.nd rfl (Or.inl rfl) (jg cL.g hr.m rfl cL.m cL.k cL.b .nil pass0 (ja (pv 0) (ja (@jk _ _ _ _ _ _ _ ju (pv 1) jc (fun _ _=>rfl)) (ja (@jk _ _ _ _ _ _ _ ju (pv 1) jc (fun _ _=>rfl)) (ja (@jK _ _ _ _ _ _ _ _ _ _ j8 (pv 1) (@jF _ _ _ jc) (@jF _ _ _ jc)) jb)))))) (je (jT (jy (@jl _ _ _ _ _ _ _ _ jz (jg cT.g hr.m rfl cT.m cT.k cT.b .nil pass0 (ja (pv 0) (ja jc jb))) jc (nomark _)) (jh (jo (i:=5) scBusy.nd rfl (Or.inl rfl) (jg cK.g hr.m rfl cK.m cK.k cK.b .nil pass0 (ja (pv 0) (ja (@jk _ _ _ _ _ _ _ ju (pv 1) jc (fun _ _=>rfl)) (ja (@jk _ _ _ _ _ _ _ ju (pv 1) jc (fun _ _=>rfl)) (ja (@jK _ _ _ _ _ _ _ _ _ _ j8 (pv 1) (@jF _ _ _ jc) (@jF _ _ _ jc)) jb))))))) jr)) (jh (jp (jj (ja (pv 5) (ja (jg cI.g hr.m rfl cI.m cI.k cI.b .nil pass0 (ja (pv 0) (ja (@jk _ _ _ _ _ _ _ ju (pv 1) jc (fun _ _=>rfl)) (ja (pv 4) (ja (@jK _ _ _ _ _ _ _ _ _ _ j8 (pv 1) (@jF _ _ _ jc) (@jF _ _ _ jc)) jb))))) (ja (pv 3) jb))))))))))))),?_⟩
 try dsimp only[cxOf,Cx.nox,Cx.wish]
 refine seqF fun Fa fa=>⟨_,rfl,p,14,rfl,B,by decide,by decide,fun wl ys Ha nwl hwa hyl hys Ba ka=>fa _ _ ?_⟩
 clear fa
 have wp:wl≠p:=zL Ba hwa
 refine seqF fun Fa fa=>midE (fun σ' H'=>∃ys':List Str,σ'=[some (V.ref p),some (V.ref wl),none,none,none,none]/\H' wl=some (.lst (ys'.map V.str))/\(ys'.length=14/\(ys'.take 3).Nodup/\∀y∈ys'.take 3,y.length<=20)/\BoxAt H' p/\But p H H') (fun E0 _ fm=>qk (W:=⟨Ba,ka,hwa⟩) rfl (by decide) (by decide) (fun Hb Wb kb=>?_) (fun Hb Wb kb=>fm _ _ ⟨_,rfl,Wb.w,⟨by omega,hys.2.sublist (List.take_sublist _ _),fun y hy=>hys.1 y (List.mem_of_mem_take hy)⟩,Wb.B,Wb.K⟩)) fun σ0 H0 hq0=>?_
 ·clear fa
  obtain⟨v1,hv1,hat1⟩:=Jt (ys:=ys) (k:=1) (by decide) (by omega)
  refine⟨_,rfl,wl,_,_,_,rfl,rfl,SqL.of Wb.w,hat1,_,rfl,wl,_,8,8,rfl,rfl,Wb.w,ixk (k:=8) (by rw[List.length_map];omega),fm _ _ ⟨ys.set 8 v1,rfl,?_,⟨by rw[List.length_set];omega,by rw[List.take_set_of_le (by decide)];exact⟨hys.2.sublist (List.take_sublist _ _),fun y hy=>hys.1 y (List.mem_of_mem_take hy)⟩⟩,Wb.B.eq (jm (Ne.symm wp)),Wb.K.upd_own nwl⟩⟩
  rw[jd,List.map_set]
 obtain⟨ys,rfl,hw1,⟨hyl,hnd,hnl⟩,B1,k1⟩:=hq0
 obtain⟨y0,h0⟩:∃y,ys[0]?=some y:=⟨_,List.getElem?_eq_getElem (by omega:0 < ys.length)⟩
 obtain⟨y1,h1⟩:∃y,ys[1]?=some y:=⟨_,List.getElem?_eq_getElem (by omega:1 < ys.length)⟩
 obtain⟨y2,h2⟩:∃y,ys[2]?=some y:=⟨_,List.getElem?_eq_getElem (by omega:2 < ys.length)⟩
 have e3:ys.take 3=[y0,y1,y2]:=by rw[List.take_succ,List.take_succ,List.take_succ,h0,h1,h2];rfl
 rw[e3]at hnd hnl
 refine fa _ _ ?_
 clear fa
 have W1:Wd H H0 p wl ys:=⟨B1,k1,hw1⟩
 generalize H0=H1 at W1
 refine seqF fun F2 f2=>jN W1 (Xo (Jm (j4 rfl (by decide) (by omega)) (Jk (j4 rfl (by decide) (by omega))) (by decide)) (KY (Jl rfl (Jk (j4 rfl (by decide) (by omega))) (Jk (j4 rfl (by decide) (by omega)))) (by decide))) fun v2 H2 x2 W2 k2=>f2 _ _ ?_
 refine seqF fun F3 f3=>jN W2 (Xp (Xq (k:=2) rfl rfl h2) (ev_q2 (j4 rfl (by decide) (by omega)) (j4 rfl (by decide) (by omega))) (Ev.up (jG rfl monB x2) fun _ _=>PB.lift) (by decide) (by omega)) fun v3 H3 x3 W3 k3=>f3 _ _ ?_
 refine seqF fun F4 f4=>jN W3 (ev_ps rfl (j4 rfl (by decide) (by omega)) (j4 rfl (by decide) (by omega)) (j4 rfl (by decide) (by omega))) fun v4 H4 x4 W4 k4=>f4 _ _ ?_
 refine seqF fun F5 f5=>jN W4 (YS (lo:=6) rfl rfl (Xq (k:=0) rfl rfl h0) (Ev.up (j4 rfl (by decide) (by omega)) fun _ _=>PN.i) hyl (by decide) rfl rfl) fun v5 H5 x5 W5 k5=>f5 _ _ ?_
 refine seqF fun F6 f6=>midE (fun σ' H'=>∃(b:V),σ'=[some (V.ref p),some (V.ref wl),some (v2),some (v3),some (v4),some b]/\PD y0 H' b/\Wd H H' p wl ys/\TMono H5 H') (fun E6 _ fm6=>qk W5 rfl (by decide) (by decide) (fun H8 W8 k8=>?_) (fun H8 W8 k8=>?_)) fun σ6 H7 hq6=>?_
 ·clear f6
  refine jN W8 (YS (lo:=6) rfl rfl (Xq (k:=0) rfl rfl h0) (Ev.up (j4 rfl (by decide) (by omega)) fun _ _=>PN.i) hyl (by decide) rfl rfl) fun v9 H9 x9 W9 k9=>fm6 _ _ ?_
  have m5_9:TMono H5 H9:=(k8.t.trans k9.t)
  exact⟨_,rfl,x9,W9,m5_9⟩
 ·clear f6
  exact fm6 _ _ ⟨_,rfl,(monD _ _ _ k8.t x5),W8,k8.t⟩
 obtain⟨b7,rfl,x7,W7,k7⟩:=hq6
 refine f6 _ _ ?_
 clear f6
 have m3_7:TMono H3 H7:=((k4.t.trans k5.t).trans k7)
 refine KB W7 (ev_d3 (jG rfl monD x7) (YS (lo:=7) rfl rfl (Xq (k:=1) rfl rfl h1) (jG rfl monI x4) hyl (by decide) rfl rfl) (jG rfl monD (monD _ _ _ m3_7 x3))) fun v H' x W'=>?_
 obtain⟨r,ds,xs,rfl,g0,g1,g2,g3,g4⟩:=x
 exact q r ds xs H' g0 g1 g2 ⟨g3.1,by rw[g3.2];exact⟨hnd,hnl⟩⟩ g4 W'.B W'.K
noncomputable abbrev sCase:Stmt:=top 49
theorem tot_at{d:Int}(h0:0<=d)(h1:d < 4):∃m:Int,atI [V.int 3,.int 3,.int 3,.int 8] d=some (.int m)/\3<=m/\m<=8:=by
 rcases(by omega:d=0∨d=1∨d=2∨d=3) with rfl |rfl |rfl |rfl
 ·exact⟨3,rfl,by decide,by decide⟩
 ·exact⟨3,rfl,by decide,by decide⟩
 ·exact⟨3,rfl,by decide,by decide⟩
 ·exact⟨8,rfl,by decide,by decide⟩
theorem Zf{H:Hp}{ds:List Df}{vs:List V}(h:DfsV H ds vs){k:Int}(h0:0<=k)(h1:k < (vs.length:Int)):∃d,atI vs k=some (.ref d.p)/\d∈ds/\DfV H d (.ref d.p):=by
 have hk:k.toNat < vs.length:=by omega
 have ek:k=((k.toNat:Nat):Int):=by omega
 obtain⟨d,h2,h3⟩:=h.at k.toNat _ (List.getElem?_eq_getElem hk)
 have e:vs[k.toNat]= .ref d.p:=h3.elim fun _ z=>z.1
 refine⟨d,?_,List.mem_of_getElem? h2,by rw[<- e];exact h3⟩
 rw[ek]
 exact jE (by rw[<- e];exact List.getElem?_eq_getElem hk)
def spCase:Sp:=fun vs H Q _=>∃(p:Addr),vs=[.ref p]/\BoxAt H p/\∀(t r:Addr) (v2 v3:V) (ds:List Df) (xs:List V) (H':Hp),H' t=some (.tup [.ref r,v2,v3])->H' r=some (.tup xs)->DfsV H' ds xs->1<=ds.length->ds.length<=8->DfsN ds->PaV H' ds->BoxAt H' p->But p H H'->Q (.ref t) H'
theorem scCase:FnScope ["_law_box_here","_law_program","_law_total","_law_f","_law_params","_law_body_here"] ["_law_box_here"] (defScope sCase):=fsc
noncomputable def Qz:Scope:=⟨.function,[(".0",.local),("_law_one",.local),("_law_number",.globalImplicit),("_law_box_here",.free)],false,false,[]⟩
theorem ZV:(["_law_one","_law_box_here"]:List Str).Nodup:=by decide+kernel
theorem ZW:CompSc ["_law_box_here","_law_program","_law_total","_law_f","_law_params","_law_body_here"] (defScope sCase) Qz ["_law_one","_law_box_here"] 1 [0]:=csc
theorem ok_case{f:Addr}{fd:FuncData}{fT fN fY fZ:Addr}{fdT fdN fdY fdZ:FuncData}(F:Fun K "_law_case" "_law_case" sCase f fd)(cT:Cl P w K mg base 1 fT fdT ["_law_box_here","_law_wide"] spTake "_law_take")(cN:Cl P w K mg base 2 fN fdN ["_law_box_here"] spNum "_law_number")(cY:Cl P w K mg base 4 fY fdY ["_law_box_here"] spBusy "_law_busy")(cZ:Cl P w K mg base 22 fZ fdZ ["_law_box_here","_law_total","_law_room"] spAny "_law_any")(ml:mg "len"=none)(mtu:mg "tuple"=none):FnOk P w K mg base CX0 23 f fd ["_law_box_here"] spCase:=by
 refine F.ok scCase (fun vs H Q E h=>?_) (fun cdv A outer s H vs Q E hr h=>?_)
 ·refine opq fun Gq kq=>?_
  obtain⟨p,rfl,_⟩:=h
  refine kq ?_
  clear kq
  rfl
 refine opq fun Gq kq=>?_
 obtain⟨p,rfl,B,q⟩:=h
 refine kq ?_
 clear kq
 refine⟨_,(je (jy (@jl _ _ _ _ _ _ _ _ qO (jg cT.g hr.m rfl cT.m cT.k cT.b .nil pass0 (ja (pv 0) (ja jc jb))) jc (nomark _)) (je (jo (i:=1) scCase.nd rfl (Or.inl rfl) (jg cY.g hr.m rfl cY.m cY.k cY.b .nil pass0 (ja (pv 0) jb))) (jh (jp (jj (ja (pv 1) (ja (@jk _ _ _ _ _ _ _ jq (@jk _ _ _ _ _ _ _ jq (pv 1) jc (fun _ _=>rfl)) jc (fun _ _=>rfl)) (ja (jj (ja (jg cT.g hr.m rfl cT.m cT.k cT.b .nil pass0 (ja (pv 0) (ja jc jb))) jb)) jb))))))) jr) (je (jo (i:=2) scCase.nd rfl (Or.inl rfl) (@jk _ _ _ _ _ _ _ ju (jH (ja jc (ja jc (ja jc (ja jc jb))))) (jg cT.g hr.m rfl cT.m cT.k cT.b .nil pass0 (ja (pv 0) (ja jc jb))) (fun _ _=>rfl))) (je (jo (i:=1) scCase.nd rfl (Or.inl rfl) (jg cZ.g hr.m rfl cZ.m cZ.k cZ.b .nil pass0 (ja (pv 0) (ja (jw jS jc (jg cT.g hr.m rfl cT.m cT.k cT.b .nil pass0 (ja (pv 0) (ja (pv 2) jb)))) (ja jc jb))))) (je (@kQ _ _ _ _ _ _ (@jk _ _ _ _ _ _ _ jq (pv 1) (jg cT.g hr.m rfl cT.m cT.k cT.b .nil pass0 (ja (pv 0) (ja (@jB _ _ _ _ _ _ _ _ _ jL rfl ml PySem.boot_len (ja (pv 1) jb) (by decide) (by decide) (by rfl) (by rfl)) jb))) (fun _ _=>rfl)) (@qd _ _ _ _ _ (3) rfl (jA (jx (i:=3) scCase.nd rfl (Or.inl rfl)) (jA (jx (i:=4) scCase.nd rfl (Or.inl rfl)) (jA (jx (i:=5) scCase.nd rfl (Or.inl rfl)) kL))) (by rfl) (by rfl)) (by rfl) (by rfl) (by rfl)) (jh (jp (jj (ja (pv 1) (ja (pv 3) (ja (@jC _ _ _ _ _ _ _ _ _ jI rfl mtu boot_tuple (ja (@kA _ _ _ _ _ _ _ (["_law_one","_law_box_here"]) (1) ([0]) _ _ _ _ rfl (@zj _ _ _ _ (pv 4)) ZW (fun _ _ _ _ _=>(jx (i:=0) ZV rfl (Or.inl rfl))) (fun _ _ _ _ _=>(@kU _)) (fun _ _ _ _ _=>(jg cN.g hr.m rfl cN.m cN.k cN.b .nil pass0 (ja (pv 1) jb))) (by intro _;rfl)) jb) (by decide) (by decide) (by rfl) (by rfl)) jb)))))))))),?_⟩
 try dsimp only[cxOf,Cx.nox,Cx.wish]
 have big:=line24
 refine seqF fun F1 f1=>ifG fun G1 g1=>⟨_,rfl,p,3,rfl,B,by decide,by decide,fun d1 H1 d10 d11 B1 e1=>⟨_,_,rfl,rfl,_,rfl,g1 _ _ ?_⟩⟩
 clear g1
 have k1:But p H H1:=But.of_eq e1
 refine ite2 (fun c=>?_) (fun c=>f1 _ _ ?_)
 ·clear f1
  refine seqF fun F2 f2=>⟨_,rfl,p,rfl,B1,fun r ds xs H2 hr2 hD hl hok hpa B2 k2=>f2 _ _ ?_⟩
  clear f2
  have ln:=hD.len
  obtain⟨d,hat,hd,bs,e,hp,_⟩:=Zf hD (k:=0) (by decide) (by omega)
  refine⟨_,rfl,_,rfl,r,_,_,_,rfl,rfl,SqT.of hr2,hat,d.p,_,_,_,rfl,rfl,SqT.of hp,at0,_,rfl,p,6,rfl,B2,by decide,by decide,fun d3 H3 d30 d31 B3 e3=>?_⟩
  have c3:But p H2 H3:=But.of_eq e3
  refine⟨sz1,fun u nu=>⟨sz3,fun t nt=>?_⟩⟩
  have s4:Same H3 (upd (upd H3 u (.tup [.int d3])) t (.tup [.ref r,.str d.f,.ref u])):=(jf nu).trans (jf nt)
  have tm:=(c3.tm B2).trans (Same.tm s4)
  exact q t r _ _ ds xs _ jd (tm _ _ hr2) (hD.mono tm) (by omega) (by omega) hok (hpa.mono tm) (B3.same s4) ((k1.trans k2).trans (c3.trans (But.of_same s4)))
 clear f1
 refine seqF fun F1 f1=>⟨sz4,fun l nl=>⟨_,rfl,p,4,rfl,B1.upd_new nl,by decide,by decide,fun d2 H2 d20 d21 B2 e2=>?_⟩⟩
 have k2:But p H1 H2:=((But.refl).upd_new nl).trans (But.of_eq e2)
 obtain⟨m,hat,m3,m8⟩:=tot_at d20 d21
 refine⟨l,_,_,_,rfl,rfl,SqL.of (by rw[e2 l (B1.ne nl)];exact jd),hat,f1 _ _ ?_⟩
 clear f1
 refine seqF fun F1 f1=>⟨_,rfl,_,rfl,_,rfl,p,m,rfl,B2,by omega,by omega,fun d3 H3 d30 d31 B3 e3=>⟨_,_,rfl,rfl,p,1+d3,12,rfl,B3,by omega,by omega,by decide,by decide,fun r ds xs H4 hr4 hD hl hok hpa B4 k4=>f1 _ _ ?_⟩⟩
 clear f1
 have ln:=hD.len
 have K4:But p H H4:=(k1.trans k2).trans ((But.of_eq e3).trans k4)
 refine seqF fun F1 f1=>⟨_,rfl,_,rfl,_,rfl,r,_,rfl,.inr (SqT.of hr4),p,_,rfl,B4,by omega,by omega,fun d5 H5 d50 d51 B5 e5=>?_⟩
 have c5:But p H4 H5:=But.of_eq e5
 have tm5:=c5.tm B4
 obtain⟨d,hat,hd,bs,e,hp,_⟩:=Zf (hD.mono tm5) d50 d51
 refine⟨r,_,_,_,rfl,rfl,SqT.of (tm5 _ _ hr4),hat,d.p,_,rfl,SqT.of hp,rfl,_,_,rfl,_,_,rfl,_,_,rfl,rfl,f1 _ _ ?_⟩
 clear f1
 obtain⟨pv,hpv,hpl⟩:=hpa d hd
 have hpv5:=tm5 _ _ hpv
 refine⟨_,rfl,_,rfl,_,rfl,d.pa,rfl,⟨_,SqT.of hpv5⟩,?_⟩
 refine za (K:=K) (xs:=pv.map V.str) (by rw[List.length_map];omega) (fun i zs H6=>zs.length=i/\BoxAt H6 p/\But p H5 H6) ⟨rfl,B5,But.refl⟩ (fun i zs H6 h6=>?_) (fun i x zs H6 hx h6=>?_) (fun zs H6 h6 l nl=>?_)
 ·exact⟨SqT.of (h6.2.2.tm B5 _ _ hpv5),Nat.le_of_eq h6.1⟩
 ·exact⟨_,rfl,p,rfl,h6.2.1,fun e H7 e0 e1 B7 e7=>⟨by rw[List.length_append,h6.1];rfl,B7,h6.2.2.trans (But.of_eq e7)⟩⟩
 ·refine⟨l,_,rfl,.inl ⟨SqL.of jd,fun l2 nl2=>⟨sz3,fun t nt=>?_⟩⟩⟩
  have s7:Same H6 (upd (upd (upd H6 l (.lst zs)) l2 (.tup zs)) t (.tup [.ref r,.str d.f,.ref l2])):=((jf nl).trans (jf nl2)).trans (jf nt)
  have tm:=tm5.trans ((h6.2.2.tm B5).trans (Same.tm s7))
  exact q t r _ _ ds xs _ jd (tm _ _ hr4) (hD.mono tm) (by omega) (by omega) hok (hpa.mono tm) (h6.2.1.same s7) (K4.trans (c5.trans (h6.2.2.trans (But.of_same s7))))
noncomputable abbrev sJoined:Stmt:=top 2
noncomputable abbrev sWorth:Stmt:=top 3
abbrev Tab:=List (Key×V)
def InT(x:Int):Prop:=0<=x/\x < 1000000000000000000
def GT(kvs:Tab):Prop:=∀p∈kvs,∃i,p.2= .int i/\InT i
theorem GT.nil:GT []:=fun _ h=>absurd h List.not_mem_nil
theorem GT.put{kvs:Tab}(h:GT kvs)(k:Key){i:Int}(hi:InT i):GT (putK kvs k (.int i)):=by
 intro p hp
 unfold putK at hp
 split at hp
 ·obtain⟨q,hq,rfl⟩:=List.mem_map.mp hp
  by_cases e:q.1=k
  ·rw[if_pos e];exact⟨i,rfl,hi⟩
  ·rw[if_neg e];exact h q hq
 ·rcases List.mem_append.mp hp with hp |hp
  ·exact h p hp
  ·rw[List.mem_singleton.mp hp];exact⟨i,rfl,hi⟩
theorem GT.val{kvs:Tab}(h:GT kvs){k:Key}{v:V}(e:valV kvs k=some v):∃i,v= .int i/\InT i:=by
 unfold valV at e
 obtain⟨p,hp,rfl⟩:=Option.map_eq_some_iff.mp e
 exact h p (List.mem_of_find?_eq_some hp)
noncomputable def look(kvs:Tab)(k:Key)(z:Int):Int:=match valV kvs k with
 |some (.int i)=>i
 |_=>z
theorem Qh{kvs:Tab}(h:GT kvs)(k:Key)(z:Int):(valV kvs k).getD (.int z)= .int (look kvs k z):=by
 unfold look
 cases e:valV kvs k with
 |none=>rfl
 |some v=>obtain⟨i,rfl,_⟩:=h.val e;rfl
theorem look_in{kvs:Tab}(h:GT kvs){k:Key}{z:Int}(hz:InT z):InT (look kvs k z):=by
 unfold look
 cases e:valV kvs k with
 |none=>exact hz
 |some v=>obtain⟨i,rfl,hi⟩:=h.val e;exact hi
theorem zero_in:InT 0:=⟨by decide,by decide⟩
noncomputable def jn(i:Nat)(x y:Int):Int:=match i with
 |0=>(x+y) % 1000000000000000000
 |1=>(x - y) % 1000000000000000000
 |2=>x*y % 1000000000000000000
 |3=>if y=0 then 0 else x / y
 |4=>if x < y then 1 else 0
 |_=>if x=y then 1 else 0
noncomputable def Tm.ev(kvs:Tab):Tm->Int
 | .num n=>n
 | .var x=>look kvs (.inr x) 0
 | .op i a b=>jn i (a.ev kvs) (b.ev kvs)
theorem jn_in{i:Nat}{x y:Int}(hx:InT x)(hy:InT y):InT (jn i x y):=by
 have hT:(1000000000000000000:Int)≠0:=by decide
 have hP:(0:Int) < 1000000000000000000:=by decide
 match i with
 |0=>exact⟨Int.emod_nonneg _ hT,Int.emod_lt_of_pos _ hP⟩
 |1=>exact⟨Int.emod_nonneg _ hT,Int.emod_lt_of_pos _ hP⟩
 |2=>exact⟨Int.emod_nonneg _ hT,Int.emod_lt_of_pos _ hP⟩
 |3=>
  show InT (if y=0 then 0 else x / y)
  by_cases h:y=0
  ·rw[if_pos h];exact⟨by decide,by decide⟩
  ·rw[if_neg h]
   have h0:=hy.1
   have hy0:0 < y:=by omega
   refine⟨Int.ediv_nonneg hx.1 (by omega),Int.lt_of_le_of_lt ?_ hx.2⟩
   exact Int.ediv_le_self _ hx.1
 |4=>
  show InT (if x < y then 1 else 0)
  split<;>exact⟨by decide,by decide⟩
 |n+5=>
  show InT (if x=y then 1 else 0)
  split<;>exact⟨by decide,by decide⟩
theorem J9{kvs:Tab}(g:GT kvs){ys:List Str}:∀{t:Tm},t.Good ys->InT (t.ev kvs)
 | .num _,h=>h
 | .var x,_=>look_in g zero_in
 | .op _ _ _,h=>jn_in (J9 g h.2.1) (J9 g h.2.2)
def spJoin:Sp:=fun vs H Q _=>∃(i:Nat) (x y:Int),vs=[.str (sgn i),.int x,.int y]/\i < 6/\InT x/\InT y/\Q (.int (jn i x y)) H
def TmK(K:Frag)(H:Hp)(T:Tm)(a:Addr):Prop:=TmAt H T a∨(T= .num 0/\SqT K H a [.str "num",.int 0])
def spWorth(K:Frag)(n:Nat):Sp:=fun vs H Q _=>∃(a d:Addr) (T:Tm) (ys:List Str) (kvs:Tab),vs=[.ref a,.ref d]/\TmK K H T a/\T.depth < n/\T.Good ys/\H d=some (.dK kvs)/\GT kvs/\Q (.int (T.ev kvs)) H
theorem scJoined:FnScope ["sign","left","right"] ["sign","left","right"] (defScope sJoined):=fsc
theorem YB{f:Addr}{fd:FuncData}(F:Fun K "joined" "joined" sJoined f fd){tk:Tok}(mTop:mg "TOP"=some (.int 1000000000000000000 tk)):FnOk P w K mg base CX0 1 f fd ["sign","left","right"] spJoin:=by
 refine F.ok scJoined (fun vs H Q E h=>?_) (fun cdv A outer s H vs Q E hr h=>?_)
 ·obtain⟨i,x,y,rfl,_⟩:=h
  rfl
 obtain⟨i,x,y,rfl,hi,hx,hy,q⟩:=h
 refine⟨_,(je (jy (@jl _ _ _ _ _ _ _ _ jz (pv 0) ji (nomark _)) (jh (jp (jw kr (jw jS (pv 1) (pv 2)) (@zu _ _ (.int 1000000000000000000) _ _ rfl mTop ⟨_,rfl⟩ (by decide))))) jr) (je (jy (@jl _ _ _ _ _ _ _ _ jz (pv 0) ji (nomark _)) (jh (jp (jw kr (jw kR (pv 1) (pv 2)) (@zu _ _ (.int 1000000000000000000) _ _ rfl mTop ⟨_,rfl⟩ (by decide))))) jr) (je (jy (@jl _ _ _ _ _ _ _ _ jz (pv 0) ji (nomark _)) (jh (jp (jw kr (jw kS (pv 1) (pv 2)) (@zu _ _ (.int 1000000000000000000) _ _ rfl mTop ⟨_,rfl⟩ (by decide))))) jr) (je (jy (@jl _ _ _ _ _ _ _ _ jz (pv 0) ji (nomark _)) (jh (jp (@qr _ _ _ _ _ _ _ _ (@jl _ _ _ _ _ _ _ _ jz (pv 2) jc (nomark _)) jc (jw qu (pv 1) (pv 2))))) jr) (je (jy (@jl _ _ _ _ _ _ _ _ jz (pv 0) ji (nomark _)) (jh (jp (@qr _ _ _ _ _ _ _ _ (@jl _ _ _ _ _ _ _ _ Jj (pv 1) (pv 2) (nomark _)) jc jc))) jr) (jh (jp (@qr _ _ _ _ _ _ _ _ (@jl _ _ _ _ _ _ _ _ jz (pv 1) (pv 2) (nomark _)) jc jc)))))))),?_⟩
 obtain⟨hx0,hx1⟩:=hx
 obtain⟨hy0,hy1⟩:=hy
 rcases(by omega:i=0∨i=1∨i=2∨i=3∨i=4∨i=5) with rfl |rfl |rfl |rfl |rfl |rfl
 ·refine⟨_,rfl,rfl,_,rfl,ifY (by decide+kernel) ?_⟩
  exact⟨_,rfl,_,rfl,_,_,rfl,rfl,_,_,rfl,rfl,(by show(0:Int) < 1000000000000000000;decide),q⟩
 ·refine⟨_,rfl,rfl,_,rfl,ifX (by decide+kernel) ?_⟩
  refine⟨_,rfl,rfl,_,rfl,ifY (by decide+kernel) ?_⟩
  exact⟨_,rfl,_,rfl,_,_,rfl,rfl,_,_,rfl,rfl,(by show(0:Int) < 1000000000000000000;decide),q⟩
 ·refine⟨_,rfl,rfl,_,rfl,ifX (by decide+kernel) ?_⟩
  refine⟨_,rfl,rfl,_,rfl,ifX (by decide+kernel) ?_⟩
  refine⟨_,rfl,rfl,_,rfl,ifY (by decide+kernel) ?_⟩
  exact⟨_,rfl,_,rfl,_,_,rfl,rfl,.inl ⟨by omega,by omega⟩,_,_,rfl,rfl,(by show(0:Int) < 1000000000000000000;decide),q⟩
 ·refine⟨_,rfl,rfl,_,rfl,ifX (by decide+kernel) ?_⟩
  refine⟨_,rfl,rfl,_,rfl,ifX (by decide+kernel) ?_⟩
  refine⟨_,rfl,rfl,_,rfl,ifX (by decide+kernel) ?_⟩
  refine⟨_,rfl,rfl,_,rfl,ifY (by decide+kernel) ?_⟩
  have q':Q (.int (if y=0 then 0 else x / y)) H:=q
  refine⟨_,rfl,rfl,_,rfl,?_⟩
  refine ite2 (fun c=>?_) (fun c=>?_)
  ·have c':V.int y=V.int 0:=of_decide_eq_true c
   injection c' with c'
   rw[if_pos c']at q'
   exact q'
  ·have c':y≠0:=fun z=>c (by rw[z];rfl)
   rw[if_neg c']at q'
   exact⟨_,rfl,_,rfl,_,_,rfl,rfl,⟨by omega,by omega⟩,q'⟩
 ·refine⟨_,rfl,rfl,_,rfl,ifX (by decide+kernel) ?_⟩
  refine⟨_,rfl,rfl,_,rfl,ifX (by decide+kernel) ?_⟩
  refine⟨_,rfl,rfl,_,rfl,ifX (by decide+kernel) ?_⟩
  refine⟨_,rfl,rfl,_,rfl,ifX (by decide+kernel) ?_⟩
  refine⟨_,rfl,rfl,_,rfl,ifY (by decide+kernel) ?_⟩
  have q':Q (.int (if x < y then 1 else 0)) H:=q
  refine⟨_,rfl,_,rfl,_,_,rfl,rfl,_,rfl,?_⟩
  refine ite2 (fun c=>?_) (fun c=>?_)
  ·rw[if_pos (of_decide_eq_true c)]at q'
   exact q'
  ·rw[if_neg (of_decide_eq_false (Bool.eq_false_iff.mpr c))]at q'
   exact q'
 ·refine⟨_,rfl,rfl,_,rfl,ifX (by decide+kernel) ?_⟩
  refine⟨_,rfl,rfl,_,rfl,ifX (by decide+kernel) ?_⟩
  refine⟨_,rfl,rfl,_,rfl,ifX (by decide+kernel) ?_⟩
  refine⟨_,rfl,rfl,_,rfl,ifX (by decide+kernel) ?_⟩
  refine⟨_,rfl,rfl,_,rfl,ifX (by decide+kernel) ?_⟩
  have q':Q (.int (if x=y then 1 else 0)) H:=q
  refine⟨_,rfl,_,rfl,rfl,_,rfl,?_⟩
  refine ite2 (fun c=>?_) (fun c=>?_)
  ·have c':V.int x=V.int y:=of_decide_eq_true c
   injection c' with c'
   rw[if_pos c']at q'
   exact q'
  ·have c':x≠y:=fun z=>c (by rw[z];exact decide_eq_true rfl)
   rw[if_neg c']at q'
   exact q'
theorem scWorth:FnScope ["term","held"] ["term","held"] (defScope sWorth):=fsc
theorem ZX{f:Addr}{fd:FuncData}(F:Fun K "worth" "worth" sWorth f fd){n:Nat}(cF:Cl P w K mg base (n+1) f fd ["term","held"] (spWorth K n) "worth")(cJ:Cl P w K mg base 1 fJ fdJ ["sign","left","right"] spJoin "joined"):FnOk P w K mg base CX0 (n+2) f fd ["term","held"] (spWorth K (n+1)):=by
 refine F.ok scWorth (fun vs H Q E h=>?_) (fun cdv A outer s H vs Q E hr h=>?_)
 ·obtain⟨a,d,T,ys,kvs,rfl,_⟩:=h
  rfl
 obtain⟨a,d,T,ys,kvs,rfl,ta,dp,gd,hd,gk,q⟩:=h
 refine⟨_,(je (jy (@jl _ _ _ _ _ _ _ _ jz (@jk _ _ _ _ _ _ _ jq (pv 0) jc (fun _ _=>rfl)) ji (nomark _)) (jh (jp (@jk _ _ _ _ _ _ _ jq (pv 0) jc (fun _ _=>rfl)))) jr) (je (jy (@jl _ _ _ _ _ _ _ _ jz (@jk _ _ _ _ _ _ _ jq (pv 0) jc (fun _ _=>rfl)) ji (nomark _)) (jh (jp (@K5 _ _ _ _ _ _ _ _ _ (hu_of hr) (pv 1) (@jk _ _ _ _ _ _ _ jq (pv 0) jc (fun _ _=>rfl)) jc ⟨by rfl,by rfl,by rfl,by rfl⟩))) jr) (jh (jp (jg cJ.g hr.m rfl cJ.m cJ.k cJ.b .nil pass0 (ja (@jk _ _ _ _ _ _ _ jq (pv 0) jc (fun _ _=>rfl)) (ja (jg cF.g hr rfl cF.m cF.k cF.b .nil pass0 (ja (@jk _ _ _ _ _ _ _ jq (pv 0) jc (fun _ _=>rfl)) (ja (pv 1) jb))) (ja (jg cF.g hr rfl cF.m cF.k cF.b .nil pass0 (ja (@jk _ _ _ _ _ _ _ jq (pv 0) jc (fun _ _=>rfl)) (ja (pv 1) jb))) jb)))))))),?_⟩
 cases T with
 |num m=>
  have ha:SqT K H a [.str "num",.int m]:=ta.elim (fun h=>SqT.of h) fun z=>by cases z.1;exact z.2
  refine⟨_,rfl,a,_,_,_,rfl,rfl,ha,rfl,rfl,_,rfl,ifY (by decide+kernel) ?_⟩
  exact⟨_,rfl,a,_,_,_,rfl,rfl,ha,rfl,q⟩
 |var x=>
  have ha:H a=some (.tup [.str "var",.str x]):=ta.resolve_right fun z=>by cases z.1
  refine⟨_,rfl,a,_,_,_,rfl,rfl,SqT.of ha,rfl,rfl,_,rfl,ifX (by decide+kernel) ?_⟩
  refine⟨_,rfl,a,_,_,_,rfl,rfl,SqT.of ha,rfl,rfl,_,rfl,ifY (by decide+kernel) ?_⟩
  refine⟨_,rfl,d,rfl,.inl ⟨kvs,.inl hd⟩,_,rfl,a,_,_,_,rfl,rfl,SqT.of ha,rfl,_,DGet.k (k:=Sum.inr x) hd,?_⟩
  rw[Qh gk]
  exact q
 |op i t1 t2=>
  obtain⟨p1,p2,ha,h1,h2⟩:=ta.resolve_right fun z=>by cases z.1
  have dp':max t1.depth t2.depth+1 < n+1:=dp
  refine⟨_,rfl,a,_,_,_,rfl,rfl,SqT.of ha,rfl,rfl,_,rfl,ifX (by decide+kernel) ?_⟩
  refine⟨_,rfl,a,_,_,_,rfl,rfl,SqT.of ha,rfl,rfl,_,rfl,ifX (by decide+kernel) ?_⟩
  refine⟨_,rfl,a,_,_,_,rfl,rfl,SqT.of ha,rfl,?_⟩
  refine⟨_,rfl,a,_,_,_,rfl,rfl,SqT.of ha,rfl,_,rfl,p1,d,t1,ys,kvs,rfl,.inl h1,by omega,gd.2.1,hd,gk,?_⟩
  refine⟨_,rfl,a,_,_,_,rfl,rfl,SqT.of ha,rfl,_,rfl,p2,d,t2,ys,kvs,rfl,.inl h2,by omega,gd.2.2,hd,gk,?_⟩
  exact⟨i,_,_,rfl,gd.1,J9 gk gd.2.1,J9 gk gd.2.2,q⟩
theorem ZY{f:Addr}{fd:FuncData}:FnOk P w K mg base CX0 1 f fd ["term","held"] (spWorth K 0):=by
 have no:∀vs H Q E,¬spWorth K 0 vs H Q E:=fun vs H Q E h=>by
  obtain⟨a,d,T,ys,kvs,_,_,h1,_⟩:=h
  exact absurd h1 (Nat.not_lt_zero _)
 exact⟨fun vs H Q E h=>absurd h (no vs H Q E),fun A outer s H args us vs Q E _ _ _ _ h=>absurd h (no vs H Q E)⟩
theorem worths{f fJ:Addr}{fd fdJ:FuncData}(F:Fun K "worth" "worth" sWorth f fd)(bF:Binds K fd ["term","held"] [])(mF:mg "worth"=some (.ref f))(cJ:Cl P w K mg base 1 fJ fdJ ["sign","left","right"] spJoin "joined"):
  ∀n:Nat,FnOk P w K mg base CX0 (n+1) f fd ["term","held"] (spWorth K n)
 |0=>ZY
 |n+1=>ZX F ⟨(worths F bF mF cJ n),bF,F.kp,mF⟩ cJ
noncomputable abbrev sLW:Stmt:=top 52
def spLW(K:Frag)(n:Nat):Sp:=fun vs H Q _=>∃(a d:Addr) (T:Tm) (ys:List Str) (kvs:Tab),vs=[.ref a,.ref d]/\TmK K H T a/\T.depth < n/\T.Good ys/\H d=some (.dK kvs)/\GT kvs/\∀H',Same H H'->Q (.int (T.ev kvs)) H'
theorem scLW:FnScope ["_law_term_here","_law_held","_law_one","_law_other"] ["_law_term_here","_law_held"] (defScope sLW):=fsc
theorem ok_lw{f:Addr}{fd:FuncData}(F:Fun K "_law_worth" "_law_worth" sLW f fd){n:Nat}(cF:Cl P w K mg base (n+1) f fd ["_law_term_here","_law_held"] (spLW K n) "_law_worth")(mi:mg "int"=none)(mm:mg "max"=none):FnOk P w K mg base CX0 (n+2) f fd ["_law_term_here","_law_held"] (spLW K (n+1)):=by
 refine F.ok scLW (fun vs H Q E h=>?_) (fun cdv A outer s H vs Q E hr h=>?_)
 ·refine opq fun Gq kq=>?_
  obtain⟨a,d,T,ys,kvs,rfl,_⟩:=h
  refine kq ?_
  clear kq
  rfl
 refine opq fun Gq kq=>?_
 obtain⟨a,d,T,ys,kvs,rfl,ta,dp,gd,hd,gk,q⟩:=h
 refine kq ?_
 clear kq
 refine⟨_,(je (jy (@jl _ _ _ _ _ _ _ _ jz (@jk _ _ _ _ _ _ _ jq (pv 0) jc (fun _ _=>rfl)) ji (nomark _)) (jh (jp (@jk _ _ _ _ _ _ _ jq (pv 0) jc (fun _ _=>rfl)))) jr) (je (jy (@jl _ _ _ _ _ _ _ _ jz (@jk _ _ _ _ _ _ _ jq (pv 0) jc (fun _ _=>rfl)) ji (nomark _)) (jh (jp (@K5 _ _ _ _ _ _ _ _ _ (hu_of hr) (pv 1) (@jk _ _ _ _ _ _ _ jq (pv 0) jc (fun _ _=>rfl)) jc ⟨by rfl,by rfl,by rfl,by rfl⟩))) jr) (je (jo (i:=2) scLW.nd rfl (Or.inl rfl) (jg cF.g hr rfl cF.m cF.k cF.b .nil pass0 (ja (@jk _ _ _ _ _ _ _ jq (pv 0) jc (fun _ _=>rfl)) (ja (pv 1) jb)))) (je (jo (i:=3) scLW.nd rfl (Or.inl rfl) (jg cF.g hr rfl cF.m cF.k cF.b .nil pass0 (ja (@jk _ _ _ _ _ _ _ jq (pv 0) jc (fun _ _=>rfl)) (ja (pv 1) jb)))) (je (jy (@jl _ _ _ _ _ _ _ _ jz (@jk _ _ _ _ _ _ _ jq (pv 0) jc (fun _ _=>rfl)) ji (nomark _)) (jh (jp (@jk _ _ _ _ _ _ _ ju (jH (ja (jw qu (pv 2) (@jB _ _ _ _ _ _ _ _ _ (X5 rfl) rfl mm boot_max (ja jc (ja (pv 3) jb)) (by decide) (by decide) (by rfl) (by rfl))) (ja jc jb))) (@jC _ _ _ _ _ _ _ _ _ kE rfl mi boot_int (ja (@ky _ _ _ _ _ _ _ _ jz (pv 3) jc (nomark _)) jb) (by decide) (by decide) (by rfl) (by rfl)) (fun _ _=>rfl)))) jr) (je (jy (@jl _ _ _ _ _ _ _ _ jz (@jk _ _ _ _ _ _ _ jq (pv 0) jc (fun _ _=>rfl)) ji (nomark _)) (jh (jp (@jC _ _ _ _ _ _ _ _ _ kE rfl mi boot_int (ja (@ky _ _ _ _ _ _ _ _ Jj (pv 2) (pv 3) (nomark _)) jb) (by decide) (by decide) (by rfl) (by rfl)))) jr) (je (jy (@jl _ _ _ _ _ _ _ _ jz (@jk _ _ _ _ _ _ _ jq (pv 0) jc (fun _ _=>rfl)) ji (nomark _)) (jh (jp (@jC _ _ _ _ _ _ _ _ _ kE rfl mi boot_int (ja (@ky _ _ _ _ _ _ _ _ jz (pv 2) (pv 3) (nomark _)) jb) (by decide) (by decide) (by rfl) (by rfl)))) jr) (jh (jp (jw kr (@jk _ _ _ _ _ _ _ ju (jH (ja (jw jS (pv 2) (pv 3)) (ja (jw kR (pv 2) (pv 3)) (ja (jw kS (pv 2) (pv 3)) jb)))) (@kD _ _ _ _ _ _ _ _ _ _ _ _ PySem.F.plainAttrs_str PySem.F.slot_str_index PySem.F.type_str_index Zw ji (ja (@jk _ _ _ _ _ _ _ jq (pv 0) jc (fun _ _=>rfl)) jb) (by rfl) (by rfl) (by rfl) (by rfl) (by rfl)) (fun _ _=>rfl)) (jw Jr jc jc))))))))))),?_⟩
 try dsimp only[cxOf,Cx.nox,Cx.wish]
 cases T with
 |num m=>
  have ha:SqT K H a [.str "num",.int m]:=ta.elim (fun h=>SqT.of h) fun z=>by cases z.1;exact z.2
  exact seqF fun F1 f1=>⟨_,rfl,a,_,_,_,rfl,rfl,ha,rfl,rfl,_,rfl,ifY (by decide+kernel) ⟨_,rfl,a,_,_,_,rfl,rfl,ha,rfl,q H (Same.refl H)⟩⟩
 |var x=>
  have ha:H a=some (.tup [.str "var",.str x]):=ta.resolve_right fun z=>by cases z.1
  refine seqF fun F1 f1=>⟨_,rfl,a,_,_,_,rfl,rfl,SqT.of ha,rfl,rfl,_,rfl,ifX (by decide+kernel) (f1 _ _ ?_)⟩
  refine seqF fun F1 f1=>⟨_,rfl,a,_,_,_,rfl,rfl,SqT.of ha,rfl,rfl,_,rfl,ifY (by decide+kernel) ⟨_,rfl,d,rfl,.inl ⟨kvs,.inl hd⟩,_,rfl,a,_,_,_,rfl,rfl,SqT.of ha,rfl,_,DGet.k (k:=Sum.inr x) hd,?_⟩⟩
  rw[Qh gk]
  exact q H (Same.refl H)
 |op i t1 t2=>
  obtain⟨p1,p2,ha,h1,h2⟩:=ta.resolve_right fun z=>by cases z.1
  have dp':max t1.depth t2.depth+1 < n+1:=dp
  refine seqF fun F1 f1=>⟨_,rfl,a,_,_,_,rfl,rfl,SqT.of ha,rfl,rfl,_,rfl,ifX (by decide+kernel) (f1 _ _ ?_)⟩
  clear f1
  refine seqF fun F1 f1=>⟨_,rfl,a,_,_,_,rfl,rfl,SqT.of ha,rfl,rfl,_,rfl,ifX (by decide+kernel) (f1 _ _ ?_)⟩
  clear f1
  refine seqF fun F1 f1=>⟨_,rfl,a,_,_,_,rfl,rfl,SqT.of ha,rfl,_,rfl,p1,d,t1,ys,kvs,rfl,.inl h1,by omega,gd.2.1,hd,gk,fun H1 s1=>f1 _ _ ?_⟩
  clear f1
  refine seqF fun F1 f1=>⟨_,rfl,a,_,_,_,rfl,rfl,SqT.of (s1 _ _ ha),rfl,_,rfl,p2,d,t2,ys,kvs,rfl,.inl (h2.same s1),by omega,gd.2.2,s1 _ _ hd,gk,fun H2 s2=>f1 _ _ ?_⟩
  clear f1
  have s12:Same H H2:=s1.trans s2
  replace ha:=s12 _ _ ha
  have qq:∀H',Same H2 H'->Q (.int (jn i (t1.ev kvs) (t2.ev kvs))) H':=fun H' s=>q H' (s12.trans s)
  obtain⟨hx0,hx1⟩:=J9 gk gd.2.1
  obtain⟨hy0,hy1⟩:=J9 gk gd.2.2
  have hi:=gd.1
  generalize t1.ev kvs=x at*
  generalize t2.ev kvs=y at*
  rcases(by omega:i=0∨i=1∨i=2∨i=3∨i=4∨i=5) with rfl |rfl |rfl |rfl |rfl |rfl
  ·refine seqF fun F1 f1=>⟨_,rfl,a,_,_,_,rfl,rfl,SqT.of ha,rfl,rfl,_,rfl,ifX (by decide+kernel) (f1 _ _ ?_)⟩
   clear f1
   refine seqF fun F1 f1=>⟨_,rfl,a,_,_,_,rfl,rfl,SqT.of ha,rfl,rfl,_,rfl,ifX (by decide+kernel) (f1 _ _ ?_)⟩
   clear f1
   refine seqF fun F1 f1=>⟨_,rfl,a,_,_,_,rfl,rfl,SqT.of ha,rfl,rfl,_,rfl,ifX (by decide+kernel) (f1 _ _ ?_)⟩
   clear f1
   refine⟨_,rfl,_,rfl,_,_,rfl,rfl,_,rfl,_,rfl,_,_,rfl,rfl,_,rfl,_,rfl,_,_,rfl,rfl,.inl ⟨by omega,by omega⟩,sz3,fun l nl=>?_⟩
   have ha':=keepN (o:=.lst [.int (x+y),.int (x - y),.int (x*y)]) ha nl
   refine⟨rfl,_,rfl,a,_,_,_,rfl,rfl,SqT.of ha',rfl,_,_,0,[],rfl,rfl,(by decide+kernel),l,_,_,_,rfl,rfl,SqL.of jd,rfl,_,_,rfl,rfl,⟨by decide,by decide,by decide⟩,_,_,rfl,rfl,(by show(0:Int) < (10:Int) ^ (18:Int).toNat;decide),?_⟩
   rw[ten18]
   exact qq _ (jf nl)
  ·refine seqF fun F1 f1=>⟨_,rfl,a,_,_,_,rfl,rfl,SqT.of ha,rfl,rfl,_,rfl,ifX (by decide+kernel) (f1 _ _ ?_)⟩
   clear f1
   refine seqF fun F1 f1=>⟨_,rfl,a,_,_,_,rfl,rfl,SqT.of ha,rfl,rfl,_,rfl,ifX (by decide+kernel) (f1 _ _ ?_)⟩
   clear f1
   refine seqF fun F1 f1=>⟨_,rfl,a,_,_,_,rfl,rfl,SqT.of ha,rfl,rfl,_,rfl,ifX (by decide+kernel) (f1 _ _ ?_)⟩
   clear f1
   refine⟨_,rfl,_,rfl,_,_,rfl,rfl,_,rfl,_,rfl,_,_,rfl,rfl,_,rfl,_,rfl,_,_,rfl,rfl,.inl ⟨by omega,by omega⟩,sz3,fun l nl=>?_⟩
   have ha':=keepN (o:=.lst [.int (x+y),.int (x - y),.int (x*y)]) ha nl
   refine⟨rfl,_,rfl,a,_,_,_,rfl,rfl,SqT.of ha',rfl,_,_,1,[],rfl,rfl,(by decide+kernel),l,_,_,_,rfl,rfl,SqL.of jd,rfl,_,_,rfl,rfl,⟨by decide,by decide,by decide⟩,_,_,rfl,rfl,(by show(0:Int) < (10:Int) ^ (18:Int).toNat;decide),?_⟩
   rw[ten18]
   exact qq _ (jf nl)
  ·refine seqF fun F1 f1=>⟨_,rfl,a,_,_,_,rfl,rfl,SqT.of ha,rfl,rfl,_,rfl,ifX (by decide+kernel) (f1 _ _ ?_)⟩
   clear f1
   refine seqF fun F1 f1=>⟨_,rfl,a,_,_,_,rfl,rfl,SqT.of ha,rfl,rfl,_,rfl,ifX (by decide+kernel) (f1 _ _ ?_)⟩
   clear f1
   refine seqF fun F1 f1=>⟨_,rfl,a,_,_,_,rfl,rfl,SqT.of ha,rfl,rfl,_,rfl,ifX (by decide+kernel) (f1 _ _ ?_)⟩
   clear f1
   refine⟨_,rfl,_,rfl,_,_,rfl,rfl,_,rfl,_,rfl,_,_,rfl,rfl,_,rfl,_,rfl,_,_,rfl,rfl,.inl ⟨by omega,by omega⟩,sz3,fun l nl=>?_⟩
   have ha':=keepN (o:=.lst [.int (x+y),.int (x - y),.int (x*y)]) ha nl
   refine⟨rfl,_,rfl,a,_,_,_,rfl,rfl,SqT.of ha',rfl,_,_,2,[],rfl,rfl,(by decide+kernel),l,_,_,_,rfl,rfl,SqL.of jd,rfl,_,_,rfl,rfl,⟨by decide,by decide,by decide⟩,_,_,rfl,rfl,(by show(0:Int) < (10:Int) ^ (18:Int).toNat;decide),?_⟩
   rw[ten18]
   exact qq _ (jf nl)
  ·refine seqF fun F1 f1=>⟨_,rfl,a,_,_,_,rfl,rfl,SqT.of ha,rfl,rfl,_,rfl,ifY (by decide+kernel) ?_⟩
   refine⟨_,rfl,_,rfl,_,_,rfl,_,_,rfl,rfl,⟨by split<;>omega,by split<;>omega⟩,sz2,fun l nl=>?_⟩
   have q':=qq _ (jf (o:=.lst [.int (x / (if (y:Int) > 1 then y else 1)),.int 0]) nl)
   have q2:Q (.int (if y=0 then 0 else x / y)) (upd H2 l (.lst [.int (x / (if (y:Int) > 1 then y else 1)),.int 0])):=q'
   refine⟨_,rfl,rfl,.inr ⟨_,rfl,l,_,_,_,rfl,rfl,SqL.of jd,(?_:atI _ _=some (.int (if y=0 then 0 else x / y))),q2⟩⟩
   by_cases e:y=0
   ·rw[e];rfl
   ·rw[if_neg e,decide_eq_false (fun z=>e (by injection z))]
    show some (V.int (x / (if (y:Int) > 1 then y else 1)))=_
    by_cases g:(y:Int) > 1
    ·rw[if_pos g]
    ·rw[if_neg g,show y=1 by omega]
  ·refine seqF fun F1 f1=>⟨_,rfl,a,_,_,_,rfl,rfl,SqT.of ha,rfl,rfl,_,rfl,ifX (by decide+kernel) (f1 _ _ ?_)⟩
   clear f1
   refine seqF fun F1 f1=>⟨_,rfl,a,_,_,_,rfl,rfl,SqT.of ha,rfl,rfl,_,rfl,ifY (by decide+kernel) ?_⟩
   have q':Q (.int (if x < y then 1 else 0)) H2:=qq _ (Same.refl H2)
   refine⟨_,rfl,_,rfl,_,_,rfl,rfl,.inr ⟨_,rfl,?_⟩⟩
   by_cases e:x < y
   ·rw[if_pos e]at q';rw[decide_eq_true e];exact q'
   ·rw[if_neg e]at q';rw[decide_eq_false e];exact q'
  ·refine seqF fun F1 f1=>⟨_,rfl,a,_,_,_,rfl,rfl,SqT.of ha,rfl,rfl,_,rfl,ifX (by decide+kernel) (f1 _ _ ?_)⟩
   clear f1
   refine seqF fun F1 f1=>⟨_,rfl,a,_,_,_,rfl,rfl,SqT.of ha,rfl,rfl,_,rfl,ifX (by decide+kernel) (f1 _ _ ?_)⟩
   clear f1
   refine seqF fun F1 f1=>⟨_,rfl,a,_,_,_,rfl,rfl,SqT.of ha,rfl,rfl,_,rfl,ifY (by decide+kernel) ?_⟩
   have q':Q (.int (if x=y then 1 else 0)) H2:=qq _ (Same.refl H2)
   refine⟨_,rfl,_,rfl,rfl,.inr ⟨_,rfl,?_⟩⟩
   by_cases e:x=y
   ·rw[if_pos e]at q';rw[decide_eq_true (by rw[e])];exact q'
   ·rw[if_neg e]at q';rw[decide_eq_false (fun z=>e (by injection z))];exact q'
theorem no_lw{f:Addr}{fd:FuncData}:FnOk P w K mg base CX0 1 f fd ["_law_term_here","_law_held"] (spLW K 0):=by
 have no:∀vs H Q E,¬spLW K 0 vs H Q E:=fun vs H Q E h=>by
  obtain⟨a,d,T,ys,kvs,_,_,h1,_⟩:=h
  exact absurd h1 (Nat.not_lt_zero _)
 exact⟨fun vs H Q E h=>absurd h (no vs H Q E),fun A outer s H args us vs Q E _ _ _ _ h=>absurd h (no vs H Q E)⟩
theorem lws{f:Addr}{fd:FuncData}(F:Fun K "_law_worth" "_law_worth" sLW f fd)(bF:Binds K fd ["_law_term_here","_law_held"] [])(mF:mg "_law_worth"=some (.ref f))(mi:mg "int"=none)(mm:mg "max"=none):
  ∀n:Nat,FnOk P w K mg base CX0 (n+1) f fd ["_law_term_here","_law_held"] (spLW K n)
 |0=>no_lw
 |n+1=>ok_lw F ⟨(lws F bF mF mi mm n),bF,F.kp,mF⟩ mi mm
def TV(H:Hp)(ys:List Str)(t:Addr)(T:Tm):Prop:=TmAt H T t/\TmOk ys T
theorem TV.mono{H H':Hp}(k:TMono H H'){ys:List Str}{t:Addr}{T:Tm}(h:TV H ys t T):TV H' ys t T:=⟨h.1.mono k,h.2⟩
inductive Gl where
 |give (t:Addr) (T:Tm) |nought |go (n:Nat)
structure WD where
 sets:List (Str×Addr×Tm)
 goal:Gl
noncomputable def Gl.gol(nA:Addr):Gl->Gol
 | .give t _=>.give t
 | .nought=>.give nA
 | .go n=>.go (n:Int)
noncomputable def WD.wy(nA:Addr)(w:WD):Wy:=⟨w.sets.map fun s=>(s.1,s.2.1),w.goal.gol nA⟩
def GlV(H:Hp)(ys:List Str)(m:Nat):Gl->Prop
 | .give t T=>TV H ys t T
 | .nought=>True
 | .go n=>n < m
structure WDV(H:Hp)(ys:List Str)(m N:Nat)(w:WD):Prop where
 sets:∀s∈w.sets,TV H ys s.2.1 s.2.2
 len:w.sets.length<=N
 goal:GlV H ys m w.goal
def WyOk(H:Hp)(ys:List Str)(nA:Addr)(m N:Nat)(w:Wy):Prop:=∃d:WD,d.wy nA=w/\WDV H ys m N d
def DdV(H:Hp)(ys:List Str):Dd->Prop
 | .st p=>∃(l:Lf) (vs:List V),H p=some (.tup vs)/\LfV H l vs/\l.Ok ys/\l.isCut=true
 | .ask t=>∃T,TV H ys t T
noncomputable def Dd.ways:Dd->Nat
 | .st _=>1
 | .ask _=>2
structure CtV(H:Hp)(ys:List Str)(nA:Addr)(m N:Nat)(c:Ct):Prop where
 mem:∀x,c.M x->x∈ys
 deed:DdV H ys c.d
 ways:∀w∈c.ws,WyOk H ys nA m N w
 len:c.ws.length=c.d.ways
structure PcV(H:Hp)(ys:List Str)(nA:Addr)(m N:Nat)(pc:Pc):Prop where
 mem:∀x,pc.M x->x∈ys
 way:WyOk H ys nA m N pc.w
section
variable {H H':Hp}{ys:List Str}{nA:Addr}{m N N':Nat}
theorem WyOk.up(hn:N<=N'){w:Wy}(h:WyOk H ys nA m N w):WyOk H ys nA m N' w:=let ⟨d,e,v⟩:=h;⟨d,e,v.sets,Nat.le_trans v.len hn,v.goal⟩
theorem CtV.up(hn:N<=N'){c:Ct}(h:CtV H ys nA m N c):CtV H ys nA m N' c:=⟨h.mem,h.deed,fun w hw=>(h.ways w hw).up hn,h.len⟩
theorem PcV.up(hn:N<=N'){pc:Pc}(h:PcV H ys nA m N pc):PcV H ys nA m N' pc:=⟨h.mem,h.way.up hn⟩
theorem QH{n:Nat}{k:Int}(hk:k=(n:Int))(hn:n < m):WyOk H ys nA m N ⟨[],.go k⟩:=⟨⟨[],.go n⟩,by rw[hk];rfl,(fun _ h=>absurd h List.not_mem_nil),Nat.zero_le _,hn⟩
theorem Jp:∀(b:Bd) {xs:List V} {pc:Pc} {fs:List Ct} {N:Nat},BdV H b xs->b.Ok ys->PcV H ys nA m N pc->(∀c∈fs,CtV H ys nA m N c)->fs.length+b.cuts<=m->
  PcV H ys nA m (N+b.size) (pB (m:Int) b pc fs).1/\∀c∈(pB (m:Int) b pc fs).2,CtV H ys nA m (N+b.size) c
 | .nil,_,_,_,_,_,_,hp,hf,_=>⟨hp,hf⟩
 | .lf p l r,xs,pc,fs,N,hb,ho,hp,hf,hm=>by
  obtain⟨vs,zs,_,h1,h2,h3⟩:=hb
  have hm':fs.length+(l.cut+r.cuts)<=m:=hm
  obtain⟨r1,r2⟩:=Jp r h3 ho.2 hp hf (by omega)
  have hl:=j5 (m:Int) r pc fs
  have s1:N+r.size<=N+(r.size+1):=by omega
  have hM:=Lf.use_in ho.1 r1.mem
  have cut:l.isCut=true->l.cut=1->PcV H ys nA m (N+(r.size+1)) ⟨l.use (pB (m:Int) r pc fs).1.M,⟨[],.go ((m:Int) - ((pB (m:Int) r pc fs).2.length:Int) - 1)⟩⟩/\∀c∈(pB (m:Int) r pc fs).2++[⟨l.use (pB (m:Int) r pc fs).1.M,.st p,[(pB (m:Int) r pc fs).1.w]⟩],CtV H ys nA m (N+(r.size+1)) c:=fun hc h1'=>
   ⟨⟨hM,QH (n:=m - (fs.length+r.cuts) - 1) (by rw[hl];omega) (by omega)⟩,fun c hc'=>by
    rcases List.mem_append.mp hc' with z |z
    ·exact(r2 c z).up s1
    ·rw[List.mem_singleton.mp z]
     exact⟨hM,⟨l,vs,h1,h2,ho.1,hc⟩,fun w hw=>by rw[List.mem_singleton.mp hw];exact r1.way.up s1,rfl⟩⟩
  show PcV H ys nA m (N+(r.size+1)) (pL (m:Int) p l (pB (m:Int) r pc fs)).1/\∀c∈(pL (m:Int) p l (pB (m:Int) r pc fs)).2,CtV H ys nA m (N+(r.size+1)) c
  cases l with
  |gv t T=>exact⟨⟨hM,⟨⟨[],.give t T⟩,rfl,(fun _ h=>absurd h List.not_mem_nil),Nat.zero_le _,h2.2,ho.1⟩⟩,fun c hc=>(r2 c hc).up s1⟩
  |st x t T=>
   refine⟨⟨hM,?_⟩,fun c hc=>(r2 c hc).up s1⟩
   show WyOk H ys nA m _ (setW x t (pB (m:Int) r pc fs).1)
   unfold setW
   split
   ·obtain⟨d,e,v⟩:=r1.way
    refine⟨⟨(x,t,T)::d.sets,d.goal⟩,by rw[<- e];rfl,fun s hs=>?_,Nat.succ_le_succ v.len,v.goal⟩
    rcases List.mem_cons.mp hs with rfl |hs
    ·exact⟨h2.2,ho.1.2⟩
    ·exact v.sets s hs
   ·exact r1.way.up s1
  |rd x t T=>exact cut rfl rfl
  |wr t u T U=>exact cut rfl rfl
  |cl x f q ts=>exact cut rfl rfl
 | .ite p t T a c r,xs,pc,fs,N,hb,ho,hp,hf,hm=>by
  obtain⟨qa,qb,as,bs,zs,_,g1,g0,g2,g3,g4,g5,g6⟩:=hb
  have hm':fs.length+(1+a.cuts+c.cuts+r.cuts)<=m:=hm
  obtain⟨r1,r2⟩:=Jp r g6 ho.2.2.2 hp hf (by omega)
  have hlr:=j5 (m:Int) r pc fs
  obtain⟨c1,c2⟩:=Jp c g5 ho.2.2.1 r1 r2 (by omega)
  have hlc:=j5 (m:Int) c (pB (m:Int) r pc fs).1 (pB (m:Int) r pc fs).2
  obtain⟨a1,a2⟩:=Jp a g4 ho.2.1 (r1.up (Nat.le_add_right _ _)) c2 (by omega)
  have s1:N+r.size+c.size+a.size<=N+(a.size+c.size+r.size+1):=by omega
  have hM:∀x,(Bd.ite p t T a c .nil).use (pB (m:Int) r pc fs).1.M x->x∈ys:=Bd.use_in ⟨ho.1,ho.2.1,ho.2.2.1,trivial⟩ r1.mem
  have hk:(m:Int) - ((pB (m:Int) r pc fs).2.length:Int) - ((Bd.ite p t T a c .nil).cuts:Int)=((m - (fs.length+r.cuts) - (1+a.cuts+c.cuts):Nat):Int):=by
   show(m:Int) - _ - ((1+a.cuts+c.cuts+0:Nat):Int)=_
   rw[hlr]
   omega
  unfold pB
  dsimp only
  refine⟨⟨hM,QH hk (by omega)⟩,fun e he=>?_⟩
  rcases List.mem_append.mp he with z |z
  ·exact(a2 e z).up s1
  ·rw[List.mem_singleton.mp z]
   refine⟨hM,⟨T,g0,ho.1⟩,fun w hw=>?_,rfl⟩
   rcases List.mem_cons.mp hw with rfl |hw
   ·exact a1.way.up s1
   ·rw[List.mem_singleton.mp hw]
    exact c1.way.up (by show _<=N+(a.size+c.size+r.size+1);omega)
 | .loop p t T a r,xs,pc,fs,N,hb,ho,hp,hf,hm=>by
  obtain⟨qa,as,zs,_,g1,g0,g2,g4,g6⟩:=hb
  have hm':fs.length+(1+a.cuts+r.cuts)<=m:=hm
  obtain⟨r1,r2⟩:=Jp r g6 ho.2.2 hp hf (by omega)
  have hlr:=j5 (m:Int) r pc fs
  have hM:∀x,(Bd.loop p t T a .nil).use (pB (m:Int) r pc fs).1.M x->x∈ys:=Bd.use_in ⟨ho.1,ho.2.1,trivial⟩ r1.mem
  have hk:(m:Int) - ((pB (m:Int) r pc fs).2.length:Int) - ((Bd.loop p t T a .nil).cuts:Int)=((m - (fs.length+r.cuts) - (1+a.cuts):Nat):Int):=by
   show(m:Int) - _ - ((1+a.cuts+0:Nat):Int)=_
   rw[hlr]
   omega
  have pl:PcV H ys nA m (N+r.size) ⟨(Bd.loop p t T a .nil).use (pB (m:Int) r pc fs).1.M,⟨[],.go ((m:Int) - ((pB (m:Int) r pc fs).2.length:Int) - ((Bd.loop p t T a .nil).cuts:Int))⟩⟩:=⟨hM,QH hk (by omega)⟩
  obtain⟨a1,a2⟩:=Jp a g4 ho.2.1 pl r2 (by omega)
  have s1:N+r.size+a.size<=N+(a.size+r.size+1):=by omega
  unfold pB
  dsimp only
  refine⟨pl.up (by show _<=N+(a.size+r.size+1);omega),fun e he=>?_⟩
  rcases List.mem_append.mp he with z |z
  ·exact(a2 e z).up s1
  ·rw[List.mem_singleton.mp z]
   refine⟨hM,⟨T,g0,ho.1⟩,fun w hw=>?_,rfl⟩
   rcases List.mem_cons.mp hw with rfl |hw
   ·exact a1.way.up s1
   ·rw[List.mem_singleton.mp hw]
    exact r1.way.up (by show _<=N+(a.size+r.size+1);omega)
end
noncomputable def ctsOf(nA:Addr)(d:Df):List Ct:=(run17 nA d).2.reverse
theorem XT(nA:Addr)(d:Df):(ctsOf nA d).length=d.b.cuts:=by
 unfold ctsOf
 rw[List.length_reverse]
 exact(j5 _ _ _ _).trans (Nat.zero_add _)
theorem run_v{H:Hp}{nA:Addr}{d:Df}{bs:List V}{ys:List Str}(hb:BdV H d.b bs)(ho:d.b.Ok ys):PcV H ys nA d.b.cuts d.b.size (run17 nA d).1/\∀c∈ctsOf nA d,CtV H ys nA d.b.cuts d.b.size c:=by
 have p0:PcV H ys nA d.b.cuts 0 (pc0 nA):=⟨fun x hx=>absurd hx List.not_mem_nil,⟨[],.nought⟩,rfl,(fun _ h=>absurd h List.not_mem_nil),Nat.le_refl _,trivial⟩
 obtain⟨h1,h2⟩:=Jp (m:=d.b.cuts) d.b hb ho p0 (fs:=[]) (fun _ h=>absurd h List.not_mem_nil) (by show 0+_<=_;omega)
 rw[Nat.zero_add]at h1 h2
 exact⟨h1,fun c hc=>h2 c (List.mem_reverse.mp hc)⟩
theorem YC{M:Str->Prop}{ys:List Str}(h:∀x,M x->x∈ys):(canon M).length<=ys.length:=by
 by_cases e:∃ss,Nm ss M
 ·obtain⟨ss,hs⟩:=e
  rw[<- hs.canon]
  exact hs.len h
 ·unfold canon
  rw[dif_neg e]
  exact Nat.zero_le _
noncomputable def zipT(ns:List Str)(is:List Int):Tab:=mergeK [] ((ns.map Sum.inr).zip (is.map V.int))
theorem Qi:∀{more:Tab} {k:Tab},GT k->GT more->GT (mergeK k more)
 | [],_,g,_=>g
 |p::r,k,g,h=>by
  obtain⟨i,e,hi⟩:=h p List.mem_cons_self
  have e2:putK k p.1 p.2=putK k p.1 (.int i):=by rw[e]
  show GT (mergeK (putK k p.1 p.2) r)
  rw[e2]
  exact Qi (g.put _ hi) fun q hq=>h q (List.mem_cons_of_mem _ hq)
theorem Zg{ns:List Str}{is:List Int}(h:∀i∈is,InT i):GT (zipT ns is):=by
 refine Qi GT.nil fun p hp=>?_
 obtain⟨i,hi,e⟩:=List.mem_map.mp (List.of_mem_zip hp).2
 exact⟨i,e.symm,h i hi⟩
noncomputable abbrev sCutAt:Stmt:=top 14
noncomputable abbrev sHeldAt:Stmt:=top 15
structure Prt(H:Hp)(nA:Addr)(d:Df)(ys:List Str)(v:V):Prop where
 tr:TrH H (partT nA d) v []
 bd:∃bs,BdV H d.b bs
 ok:d.b.Ok ys
 y20:ys.length<=20
 sz:d.b.size<=3000
structure CutA(H:Hp)(nA:Addr)(d:Df)(ys:List Str)(c:Ct)(ka na wa:Addr)(dv:V)(wvs:List V):Prop where
 at':H ka=some (.tup [.ref na,dv,.ref wa])
 nms:H na=some (.tup ((canon c.M).map V.str))
 deed:TrH H (ddT c.d) dv []
 wat:H wa=some (.tup wvs)
 ways:TrH H (listT (c.ws.map wayT)) .non wvs
 v:CtV H ys nA d.b.cuts d.b.size c
theorem XU{H:Hp}:∀{ss:List Str} {vs:List V},TrH H (listT (ss.map strT)) .non vs->vs=ss.map V.str
 | [],vs,h=>h
 |s::ss,vs,h=>by
  obtain⟨_,_,y,ys,rfl,⟨rfl,_⟩,h2⟩:=h
  rw[XU h2]
  rfl
section
variable {H H':Hp}{nA:Addr}{d:Df}{ys:List Str}{v:V}
theorem Prt.mono(k:TMono H H')(h:Prt H nA d ys v):Prt H' nA d ys v:=⟨h.tr.mono k,let ⟨bs,hb⟩:=h.bd;⟨bs,hb.mono k⟩,h.ok,h.y20,h.sz⟩
theorem Prt.parts(h:Prt H nA d ys v):∃(a ca:Addr) (wv:V) (cs:List V),v= .ref a/\H a=some (.tup [.str d.f,.ref d.pa,wv,.ref ca])/\TrH H (wayT (run17 nA d).1.w) wv []/\H ca=some (.tup cs)/\TrH H (listT ((ctsOf nA d).map ctT)) .non cs:=by
 obtain⟨_,a,xs,rfl,ha,_,_,y0,ys0,rfl,⟨rfl,_⟩,_,_,y1,ys1,rfl,⟨rfl,_⟩,_,_,wv,ys2,rfl,hw,_,_,y3,ys3,rfl,hc,e⟩:=h.tr
 have e:ys3=[]:=e
 subst e
 obtain⟨_,ca,cs,rfl,hca,hcs⟩:=hc
 exact⟨a,ca,wv,cs,rfl,ha,hw,hca,hcs⟩
theorem Prt.cut{cs:List V}(h:Prt H nA d ys v)(hcs:TrH H (listT ((ctsOf nA d).map ctT)) .non cs){n:Nat}{c:Ct}(hc:(ctsOf nA d)[n]?=some c):∃ka na wa dv wvs,cs[n]?=some (.ref ka)/\CutA H nA d ys c ka na wa dv wvs:=by
 have lc:=zA hcs
 rw[List.length_map]at lc
 have hn:n < cs.length:=by rw[lc];exact(List.getElem?_eq_some_iff.mp hc).1
 have hx:cs[n]?=some cs[n]:=List.getElem?_eq_getElem hn
 obtain⟨tr,ht1,tx⟩:=Jv hcs n _ hx
 rw[List.getElem?_map,hc]at ht1
 cases ht1
 obtain⟨bs,hb⟩:=h.bd
 have cv:=(run_v (nA:=nA) hb h.ok).2 c (List.mem_of_getElem? hc)
 generalize cs[n]=x at hx tx
 obtain⟨_,ka,kv,rfl,hka,_,_,n1,nr,rfl,hn1,_,_,dv,dr,rfl,hdv,_,_,wv,wr,rfl,hwv,e⟩:=tx
 have e:wr=[]:=e
 subst e
 obtain⟨_,na,nv,rfl,hna,hnv⟩:=hn1
 obtain⟨_,wa,wvs,rfl,hwa,hws⟩:=hwv
 rw[XU hnv]at hna
 exact⟨ka,na,wa,dv,wvs,hx,hka,hna,hdv,hwa,hws,cv⟩
end
def spCut(nA:Addr):Sp:=fun vs H Q _=>∃(v:V) (n:Nat) (d:Df) (ys:List Str) (c:Ct),vs=[v,.int (n:Int)]/\Prt H nA d ys v/\(ctsOf nA d)[n]?=some c/\∀(ka na wa:Addr) (dv:V) (wvs:List V),CutA H nA d ys c ka na wa dv wvs->Q (.ref ka) H
def spHeld(nA:Addr):Sp:=fun vs H Q _=>∃(v:V) (n:Nat) (hv:Addr) (d:Df) (ys:List Str) (c:Ct) (is:List Int),vs=[v,.int (n:Int),.ref hv]/\Prt H nA d ys v/\(ctsOf nA d)[n]?=some c/\H hv=some (.tup (is.map V.int))/\is.length=(canon c.M).length/\
 ∀dd:Addr,H dd=none->Q (.ref dd) (upd H dd (.dK (zipT (canon c.M) is)))
theorem XV:∀(ss:List Str),(ss.map (Sum.inr:Str->Key)).map kV=ss.map V.str:=fun ss=>by rw[List.map_map];rfl
theorem scCutAt:FnScope ["part","n"] ["part","n"] (defScope sCutAt):=fsc
theorem ZZ{f:Addr}{fd:FuncData}{nA:Addr}(F:Fun K "cut_at" "cut_at" sCutAt f fd):FnOk P w K mg base CX0 1 f fd ["part","n"] (spCut nA):=by
 refine F.ok scCutAt (fun vs H Q E h=>?_) (fun cdv A outer s H vs Q E hr h=>?_)
 ·refine opq fun Gq kq=>?_
  obtain⟨v,n,d,ys,c,rfl,_⟩:=h
  refine kq ?_
  clear kq
  rfl
 refine opq fun Gq kq=>?_
 obtain⟨v,n,d,ys,c,rfl,hp,hc,q⟩:=h
 refine kq ?_
 clear kq
 refine⟨_,(jh (jp (@jk _ _ _ _ _ _ _ jq (@jk _ _ _ _ _ _ _ jq (pv 0) jc (fun _ _=>rfl)) (pv 1) (fun _ _=>rfl)))),?_⟩
 try dsimp only[cxOf,Cx.nox,Cx.wish]
 obtain⟨a,ca,wv,cs,rfl,ha,hw,hca,hcs⟩:=hp.parts
 obtain⟨ka,na,wa,dv,wvs,hx,ca'⟩:=hp.cut hcs hc
 exact⟨_,rfl,a,_,_,_,rfl,rfl,SqT.of ha,jE (j:=3) rfl,_,rfl,ca,_,_,_,rfl,rfl,SqT.of hca,jE hx,q ka na wa dv wvs ca'⟩
theorem scHeldAt:FnScope ["part","n","held"] ["part","n","held"] (defScope sHeldAt):=fsc
theorem YD{f:Addr}{fd:FuncData}{nA fC:Addr}{fdC:FuncData}(F:Fun K "held_at" "held_at" sHeldAt f fd)(cC:Cl P w K mg base 1 fC fdC ["part","n"] (spCut nA) "cut_at")(mdi:mg "dict"=none)(mzi:mg "zip"=none):FnOk P w K mg base CX0 2 f fd ["part","n","held"] (spHeld nA):=by
 refine F.ok scHeldAt (fun vs H Q E h=>?_) (fun cdv A outer s H vs Q E hr h=>?_)
 ·refine opq fun Gq kq=>?_
  obtain⟨v,n,hv,d,ys,c,is,rfl,_⟩:=h
  refine kq ?_
  clear kq
  rfl
 refine opq fun Gq kq=>?_
 obtain⟨v,n,hv,d,ys,c,is,rfl,hp,hc,hh,hl,q⟩:=h
 refine kq ?_
 clear kq
 refine⟨_,(jh (jp (@XF _ _ _ _ _ _ _ _ rfl mdi rfl mzi rfl (ja (@jk _ _ _ _ _ _ _ jq (jg cC.g hr rfl cC.m cC.k cC.b .nil pass0 (ja (pv 0) (ja (pv 1) jb))) jc (fun _ _=>rfl)) (ja (pv 2) jb)) (by rfl) (by rfl) (by rfl) (by rfl)))),?_⟩
 try dsimp only[cxOf,Cx.nox,Cx.wish]
 refine⟨_,rfl,_,rfl,v,n,d,ys,c,rfl,hp,hc,fun ka na wa dv wvs ca=>⟨ka,_,_,_,rfl,rfl,SqT.of ca.at',at0,_,rfl,na,hv,(canon c.M).map Sum.inr,_,rfl,by rw[XV];exact SqT.of ca.nms,SqT.of hh,by rw[List.length_map,List.length_map,hl],fun l nl=>q l nl⟩⟩
inductive DD where
 |st (p:Addr) (l:Lf) |ask (t:Addr) (T:Tm)
noncomputable def DD.dd:DD->Dd
 | .st p _=>.st p
 | .ask t _=>.ask t
def DDV(H:Hp)(ys:List Str):DD->Prop
 | .st p l=>∃vs,H p=some (.tup vs)/\LfV H l vs/\l.Ok ys/\l.isCut=true
 | .ask t T=>TV H ys t T
theorem DDV.mono{H H':Hp}(k:TMono H H'){ys:List Str}{d:DD}(h:DDV H ys d):DDV H' ys d:=by
 cases d with
 |st p l=>obtain⟨vs,h1,h2,h3⟩:=h;exact⟨vs,k _ _ h1,h2.mono k,h3⟩
 |ask t T=>exact TV.mono k h
theorem dd_of{H:Hp}{ys:List Str}{d:Dd}(h:DdV H ys d):∃e:DD,e.dd=d/\DDV H ys e:=by
 cases d with
 |st p=>obtain⟨l,vs,h⟩:=h;exact⟨.st p l,rfl,vs,h⟩
 |ask t=>obtain⟨T,h⟩:=h;exact⟨.ask t T,rfl,h⟩
theorem KH{H:Hp}:∀{is:List Int},TrH H (listT (is.map intT)) .non (is.map V.int)
 | []=>rfl
 |i::is=>js rfl zM (KH (is:=is))
noncomputable abbrev sDeedL:Stmt:=top 54
noncomputable def deT(k:Tab):DD->Tr
 | .st _ (.rd _ _ T)=>tupT [strT "read",intT (T.ev k)]
 | .st _ (.wr _ _ T U)=>tupT [strT "write",intT (T.ev k),intT (U.ev k)]
 | .st _ (.cl _ f _ ts)=>tupT [strT "call",strT f,tupT (ts.map fun c=>intT (c.2.ev k))]
 | .ask _ T=>tupT [strT "ask",intT (if T.ev k=0 then 0 else 1)]
 |_=>.nil
def spDeedL(nA:Addr):Sp:=fun vs H Q _=>∃(v:V) (n:Nat) (hv:Addr) (d:Df) (ys:List Str) (c:Ct) (is:List Int) (e:DD),vs=[v,.int (n:Int),.ref hv]/\Prt H nA d ys v/\(ctsOf nA d)[n]?=some c/\H hv=some (.tup (is.map V.int))/\is.length=(canon c.M).length/\(∀i∈is,InT i)/\e.dd=c.d/\DDV H ys e/\
 ∀(u:V) (H':Hp),TrH H' (deT (zipT (canon c.M) is) e) u []->Same H H'->Q u H'
theorem scDeedL:FnScope ["_law_part","_law_n","_law_held","_law_deed_here","_law_known"] ["_law_part","_law_n","_law_held"] (defScope sDeedL):=fsc
noncomputable def QA:Scope:=⟨.function,[(".0",.local),("_law_term_here",.local),("_law_worth",.globalImplicit),("_law_known",.free)],false,false,[]⟩
theorem Z0:(["_law_term_here","_law_known"]:List Str).Nodup:=by decide+kernel
theorem Z1:CompSc ["_law_part","_law_n","_law_held","_law_deed_here","_law_known"] (defScope sDeedL) QA ["_law_term_here","_law_known"] 1 [4]:=csc
theorem Z2{f:Addr}{fd:FuncData}{nA fW:Addr}{fdW:FuncData}(F:Fun K "_law_deed" "_law_deed" sDeedL f fd)(cW:Cl P w K mg base 7 fW fdW ["_law_term_here","_law_held"] (spLW K 6) "_law_worth")(mi:mg "int"=none)(mtu:mg "tuple"=none)(mdi:mg "dict"=none)(mzi:mg "zip"=none):FnOk P w K mg base CX0 8 f fd ["_law_part","_law_n","_law_held"] (spDeedL nA):=by
 refine F.ok scDeedL (fun vs H Q E h=>?_) (fun cdv A outer s H vs Q E hr h=>?_)
 ·refine opq fun Gq kq=>?_
  obtain⟨v,n,hv,d,ys,c,is,e,rfl,_⟩:=h
  refine kq ?_
  clear kq
  rfl
 refine opq fun Gq kq=>?_
 obtain⟨v,n,hv,d,ys,c,is,e,rfl,hp,hc,hh,hl,hin,hed,hdv,q⟩:=h
 refine kq ?_
 clear kq
 refine⟨_,(je (jo (i:=3) scDeedL.nd rfl (Or.inl rfl) (@jk _ _ _ _ _ _ _ jq (@jk _ _ _ _ _ _ _ jq (@jk _ _ _ _ _ _ _ jq (pv 0) jc (fun _ _=>rfl)) (pv 1) (fun _ _=>rfl)) jc (fun _ _=>rfl))) (je (jo (i:=4) scDeedL.nd rfl (Or.inr rfl) (@XF _ _ _ _ _ _ _ _ rfl mdi rfl mzi rfl (ja (@jk _ _ _ _ _ _ _ jq (@jk _ _ _ _ _ _ _ jq (@jk _ _ _ _ _ _ _ jq (pv 0) jc (fun _ _=>rfl)) (pv 1) (fun _ _=>rfl)) jc (fun _ _=>rfl)) (ja (pv 2) jb)) (by rfl) (by rfl) (by rfl) (by rfl))) (je (jy (@jl _ _ _ _ _ _ _ _ jz (@jk _ _ _ _ _ _ _ jq (pv 3) jc (fun _ _=>rfl)) ji (nomark _)) (jh (jp (jj (ja ji (ja (jg cW.g hr.m rfl cW.m cW.k cW.b .nil pass0 (ja (@jk _ _ _ _ _ _ _ jq (pv 3) jc (fun _ _=>rfl)) (ja (pv 4) jb))) jb))))) jr) (je (jy (@jl _ _ _ _ _ _ _ _ jz (@jk _ _ _ _ _ _ _ jq (pv 3) jc (fun _ _=>rfl)) ji (nomark _)) (jh (jp (jj (ja ji (ja (jg cW.g hr.m rfl cW.m cW.k cW.b .nil pass0 (ja (@jk _ _ _ _ _ _ _ jq (pv 3) jc (fun _ _=>rfl)) (ja (pv 4) jb))) (ja (jg cW.g hr.m rfl cW.m cW.k cW.b .nil pass0 (ja (@jk _ _ _ _ _ _ _ jq (pv 3) jc (fun _ _=>rfl)) (ja (pv 4) jb))) jb)))))) jr) (je (jy (@jl _ _ _ _ _ _ _ _ jz (@jk _ _ _ _ _ _ _ jq (pv 3) jc (fun _ _=>rfl)) ji (nomark _)) (jh (jp (jj (ja ji (ja (@jC _ _ _ _ _ _ _ _ _ kE rfl mi boot_int (ja (@ky _ _ _ _ _ _ _ _ Xm (jg cW.g hr.m rfl cW.m cW.k cW.b .nil pass0 (ja (@jk _ _ _ _ _ _ _ jq (pv 3) jc (fun _ _=>rfl)) (ja (pv 4) jb))) jc (nomark _)) jb) (by decide) (by decide) (by rfl) (by rfl)) jb))))) jr) (jh (jp (jj (ja ji (ja (@jk _ _ _ _ _ _ _ jq (pv 3) jc (fun _ _=>rfl)) (ja (@jC _ _ _ _ _ _ _ _ _ jI rfl mtu boot_tuple (ja (@kA _ _ _ _ _ _ _ (["_law_term_here","_law_known"]) (1) ([4]) _ _ _ _ rfl (@zj _ _ _ _ (@jk _ _ _ _ _ _ _ jq (pv 3) jc (fun _ _=>rfl))) Z1 (fun _ _ _ _ _=>(jx (i:=0) Z0 rfl (Or.inl rfl))) (fun _ _ _ _ _=>(@kU _)) (fun _ _ _ _ _=>(jg cW.g hr.m rfl cW.m cW.k cW.b .nil pass0 (ja (pv 0) (ja (pv 1) jb)))) (by intro _;rfl)) jb) (by decide) (by decide) (by rfl) (by rfl)) jb))))))))))),?_⟩
 try dsimp only[cxOf,Cx.nox,Cx.wish]
 have big:=line24
 obtain⟨a,ca,pwv,cs,rfl,ha,_,hca,hcs⟩:=hp.parts
 obtain⟨ka,na,wa,dv,wvs,hx,cu⟩:=hp.cut hcs hc
 have deed:=cu.deed
 rw[<- hed]at deed
 refine seqF fun F1 f1=>⟨_,rfl,a,_,_,_,rfl,rfl,SqT.of ha,jE (j:=3) rfl,_,rfl,ca,_,_,_,rfl,rfl,SqT.of hca,jE hx,ka,_,_,_,rfl,rfl,SqT.of cu.at',at1,f1 _ _ ?_⟩
 clear f1
 refine seqF fun F1 f1=>⟨_,rfl,a,_,_,_,rfl,rfl,SqT.of ha,jE (j:=3) rfl,_,rfl,ca,_,_,_,rfl,rfl,SqT.of hca,jE hx,ka,_,_,_,rfl,rfl,SqT.of cu.at',at0,_,rfl,na,hv,(canon c.M).map Sum.inr,_,rfl,by rw[XV];exact SqT.of cu.nms,SqT.of hh,by rw[List.length_map,List.length_map,hl],fun dd ndd=>f1 _ _ ?_⟩
 clear f1
 have s1:Same H (upd H dd (.dK (zipT (canon c.M) is))):=jf ndd
 have d1:upd H dd (.dK (zipT (canon c.M) is)) dd=some (.dK (zipT (canon c.M) is)):=jd
 show tSeq _ _ _ _ (upd H dd (.dK (zipT (canon c.M) is)))
 generalize upd H dd (.dK (zipT (canon c.M) is))=H1 at s1 d1
 have g0:GT (zipT (canon c.M) is):=Zg hin
 generalize zipT (canon c.M) is=k at d1 g0 q
 have dk:=hdv.mono (Same.tm s1)
 cases e with
 |ask t T=>
  obtain⟨_,p,xs,rfl,hp0,_,_,y0,z0,rfl,⟨rfl,_⟩,_,_,y1,z1,rfl,⟨rfl,_⟩,e⟩:=deed
  have e:z1=[]:=e
  subst e
  have hp1:=s1 _ _ hp0
  refine seqF fun F1 f1=>⟨_,rfl,p,_,_,_,rfl,rfl,SqT.of hp1,at0,rfl,_,rfl,ifX (by decide+kernel) (f1 _ _ ?_)⟩
  clear f1
  refine seqF fun F1 f1=>⟨_,rfl,p,_,_,_,rfl,rfl,SqT.of hp1,at0,rfl,_,rfl,ifX (by decide+kernel) (f1 _ _ ?_)⟩
  clear f1
  refine seqF fun F1 f1=>⟨_,rfl,p,_,_,_,rfl,rfl,SqT.of hp1,at0,rfl,_,rfl,ifY (by decide+kernel) ⟨_,rfl,p,_,_,_,rfl,rfl,SqT.of hp1,at1,_,rfl,t,dd,T,ys,k,rfl,.inl dk.1,dk.2.2,dk.2.1,d1,g0,fun H2 s2=>⟨rfl,.inr ⟨_,rfl,sz2,fun r nr=>?_⟩⟩⟩⟩
  refine q _ _ (jJ jd (js rfl jV (js rfl ⟨?_,rfl⟩ jD))) (s1.trans (s2.trans (jf nr)))
  by_cases z:T.ev k=0
  ·rw[if_pos z,z];rfl
  ·rw[if_neg z,if_pos (by simp [z])]
 |st p l=>
  have ed:dv= .ref p:=deed.1
  subst ed
  obtain⟨vs,hp1,hlv,hok,hct⟩:=dk
  cases l with
  |rd x t T=>
   obtain⟨rfl,ht⟩:=hlv
   refine seqF fun F1 f1=>⟨_,rfl,p,_,_,_,rfl,rfl,SqT.of hp1,at0,rfl,_,rfl,ifY (by decide+kernel) ⟨_,rfl,p,_,_,_,rfl,rfl,SqT.of hp1,jE (j:=2) rfl,_,rfl,t,dd,T,ys,k,rfl,.inl ht,hok.2.2,hok.2.1,d1,g0,fun H2 s2=>⟨sz2,fun r nr=>?_⟩⟩⟩
   exact q _ _ (jJ jd (js rfl jV (js rfl zM jD))) (s1.trans (s2.trans (jf nr)))
  |wr t u T U=>
   obtain⟨rfl,ht,hu⟩:=hlv
   refine seqF fun F1 f1=>⟨_,rfl,p,_,_,_,rfl,rfl,SqT.of hp1,at0,rfl,_,rfl,ifX (by decide+kernel) (f1 _ _ ?_)⟩
   clear f1
   refine seqF fun F1 f1=>⟨_,rfl,p,_,_,_,rfl,rfl,SqT.of hp1,at0,rfl,_,rfl,ifY (by decide+kernel) ⟨_,rfl,p,_,_,_,rfl,rfl,SqT.of hp1,at1,_,rfl,t,dd,T,ys,k,rfl,.inl ht,hok.1.2,hok.1.1,d1,g0,fun H2 s2=>⟨_,rfl,p,_,_,_,rfl,rfl,SqT.of (s2 _ _ hp1),jE (j:=2) rfl,_,rfl,u,dd,U,ys,k,rfl,.inl (hu.same s2),hok.2.2,hok.2.1,s2 _ _ d1,g0,fun H3 s3=>⟨sz3,fun r nr=>?_⟩⟩⟩⟩
   exact q _ _ (jJ jd (js rfl jV (js rfl zM (js rfl zM jD)))) (s1.trans (s2.trans (s3.trans (jf nr))))
  |cl x f' qa ts=>
   obtain⟨rfl,hq,hts⟩:=hlv
   refine seqF fun F1 f1=>⟨_,rfl,p,_,_,_,rfl,rfl,SqT.of hp1,at0,rfl,_,rfl,ifX (by decide+kernel) (f1 _ _ ?_)⟩
   clear f1
   refine seqF fun F1 f1=>⟨_,rfl,p,_,_,_,rfl,rfl,SqT.of hp1,at0,rfl,_,rfl,ifX (by decide+kernel) (f1 _ _ ?_)⟩
   clear f1
   refine seqF fun F1 f1=>⟨_,rfl,p,_,_,_,rfl,rfl,SqT.of hp1,at0,rfl,_,rfl,ifX (by decide+kernel) (f1 _ _ ?_)⟩
   clear f1
   have l6:ts.length<=6:=hok.2.1
   refine⟨_,rfl,p,_,_,_,rfl,rfl,SqT.of hp1,jE (j:=2) rfl,_,rfl,p,_,_,_,rfl,rfl,SqT.of hp1,jE (j:=3) rfl,qa,rfl,⟨_,SqT.of hq⟩,?_⟩
   refine za (K:=K) (xs:=ts.map fun c=>V.ref c.1) (by rw[List.length_map];omega) (fun i zs Hx=>zs=(ts.take i).map (fun c=>V.int (c.2.ev k))/\Same H1 Hx) ⟨rfl,Same.refl _⟩ (fun i zs Hx h=>?_) (fun i x zs Hx hx h=>?_) (fun zs Hx h l nl=>?_)
   ·obtain⟨rfl,sx⟩:=h
    exact⟨SqT.of (sx _ _ hq),by rw[List.length_map,List.length_take];omega⟩
   ·obtain⟨rfl,sx⟩:=h
    rw[List.getElem?_map]at hx
    obtain⟨y,hy,rfl⟩:=Option.map_eq_some_iff.mp hx
    have ym:=List.mem_of_getElem? hy
    refine⟨_,rfl,_,rfl,y.1,dd,y.2,ys,k,rfl,.inl ((hts y ym).same sx),(hok.2.2 y ym).2,(hok.2.2 y ym).1,sx _ _ d1,g0,fun H2 s2=>⟨?_,sx.trans s2⟩⟩
    rw[List.take_add_one,hy,List.map_append]
    rfl
   ·obtain⟨rfl,sx⟩:=h
    rw[List.length_map,List.take_length]
    refine⟨l,_,rfl,.inl ⟨SqL.of jd,fun tl ntl=>⟨sz3,fun r nr=>?_⟩⟩⟩
    refine q _ _ (jJ jd (js rfl jV (js rfl jV (js rfl (jJ (keepN jd nr) ?_) jD)))) (s1.trans (sx.trans ((jf nl).trans ((jf ntl).trans (jf nr)))))
    have:=KH (H:=upd (upd (upd Hx l (.lst (ts.map (fun c=>V.int (c.2.ev k))))) tl (.tup (ts.map (fun c=>V.int (c.2.ev k))))) r (.tup [.str "call",.str f',.ref tl])) (is:=ts.map fun c=>c.2.ev k)
    rw[List.map_map,List.map_map]at this
    exact this
  |st x t T=>cases hct
  |gv t T=>cases hct
noncomputable abbrev sAlike:Stmt:=top 55
noncomputable def _root_.L2.Tr.len:Tr->Nat
 | .cons _ t=>t.len+1
 |_=>0
noncomputable def _root_.L2.Tr.Pl:Tr->Prop
 | .lf v=>(∃i,v= .int i)∨∃s,v= .str s
 | .tp l=>l.Pl/\l.len<=1000
 | .nil=>True
 | .cons h t=>h.Pl/\t.Pl
theorem QI{H:Hp}:∀{l:Tr} {xs:List V},l.isL=true->TrH H l .non xs->xs.length=l.len
 | .nil,xs,_,h=>by have e:xs=[]:=h;rw[e];rfl
 | .cons h t,xs,_,k=>by
  obtain⟨_,e2,y,ys,rfl,_,k2⟩:=k
  show ys.length+1=t.len+1
  rw[QI e2 k2]
 | .lf _,_,e,_=>Bool.noConfusion e
 | .tp _,_,e,_=>Bool.noConfusion e
theorem Zh{H:Hp}:∀{l:Tr} {xs ys:List V},l.isL=true->l.Pl->TrH H l .non xs->TrH H l .non ys->∀(i:Nat) (x y:V),xs[i]?=some x->ys[i]?=some y->∃t:Tr,t.isL=false/\t.Pl/\t.dep<=l.dep/\TrH H t x []/\TrH H t y []
 | .nil,xs,ys,_,_,h,_,i,x,y,hx,_=>by have e:xs=[]:=h;rw[e]at hx;simp at hx
 | .cons h t,xs,ys,_,p,k,k',i,x,y,hx,hy=>by
  obtain⟨e1,e2,a,as,rfl,g1,g2⟩:=k
  obtain⟨_,_,b,bs,rfl,g1',g2'⟩:=k'
  cases i with
  |zero=>
   cases hx
   cases hy
   exact⟨h,e1,p.1,Nat.le_max_left _ _,g1,g1'⟩
  |succ i=>
   obtain⟨u,q1,q2,q3,q4⟩:=Zh e2 p.2 g2 g2' i x y (by simpa using hx) (by simpa using hy)
   exact⟨u,q1,q2,Nat.le_trans q3 (Nat.le_max_right _ _),q4⟩
 | .lf _,_,_,e,_,_,_,_,_,_,_,_=>Bool.noConfusion e
 | .tp _,_,_,e,_,_,_,_,_,_,_,_=>Bool.noConfusion e
structure Kt(K:Frag):Prop where
 tt:kitOne K (.type "tuple") (.type "tuple")=some true
 it:kitOne K (.type "int") (.type "tuple")=some false
 il:kitOne K (.type "int") (.type "list")=some false
 ii:kitOne K (.type "int") (.type "int")=some true
 ib:kitOne K (.type "int") (.type "bool")=some false
 st:kitOne K (.type "str") (.type "tuple")=some false
 sl:kitOne K (.type "str") (.type "list")=some false
 si:kitOne K (.type "str") (.type "int")=some false
 ss:kitOne K (.type "str") (.type "str")=some true
theorem any_tt{K:Frag}{t a b:Value}(h:kitOne K t a=some true):kitAny K t [a,b]=some true:=by
 unfold kitAny
 rw[h]
def spAlike(n:Nat):Sp:=fun vs H Q _=>∃(x y:V) (t:Tr),vs=[x,y]/\TrH H t x []/\TrH H t y []/\t.isL=false/\t.Pl/\t.dep < n/\∀H',Same H H'->Q (.bl true) H'
theorem scAlike:FnScope ["_law_one","_law_other"] ["_law_one","_law_other"] (defScope sAlike):=fsc
noncomputable def YE:Scope:=⟨.function,[(".0",.local),("_law_mine",.local),("_law_yours",.local),("_law_alike",.globalImplicit)],false,false,[]⟩
theorem Zi:(["_law_mine","_law_yours"]:List Str).Nodup:=by decide+kernel
theorem cs_al1:CompSc ["_law_one","_law_other"] (defScope sAlike) YE ["_law_mine","_law_yours"] 2 []:=csc
theorem Z3{f:Addr}{fd:FuncData}{n:Nat}(F:Fun K "_law_alike" "_law_alike" sAlike f fd)(cF:Cl P w K mg base (n+1) f fd ["_law_one","_law_other"] (spAlike n) "_law_alike")(ml:mg "len"=none)(mtu:mg "tuple"=none)(mli:mg "list"=none)(mi:mg "int"=none)(mbo:mg "bool"=none)(mst:mg "str"=none)(mis:mg "isinstance"=none)(mal:mg "all"=none)(mz:mg "zip"=none)(kt:Kt K):FnOk P w K mg base CX0 (n+2) f fd ["_law_one","_law_other"] (spAlike (n+1)):=by
 refine F.ok scAlike (fun vs H Q E h=>?_) (fun cdv A outer s H vs Q E hr h=>?_)
 ·refine opq fun Gq kq=>?_
  obtain⟨x,y,tr,rfl,_⟩:=h
  refine kq ?_
  clear kq
  rfl
 refine opq fun Gq kq=>?_
 obtain⟨x,y,tr,rfl,hx,hy,hL,hP,hd,q⟩:=h
 refine kq ?_
 clear kq
 refine⟨_,(je (jy (@PW.pt _ _ _ (@KU _ _ _ _ _ _ _ (@qc _ _ _ (@jB _ _ _ _ _ _ _ _ _ jU rfl mis boot_isinstance (ja (pv 0) (ja (@kK _ _ (.ty "tuple") _ _ rfl mtu boot_tuple rfl (by decide) (by decide)) jb)) (by decide) (by decide) (by rfl) (by rfl)) (by intro _;rfl)) (@Jq _ _ _ _ (@qc _ _ _ (@jB _ _ _ _ _ _ _ _ _ jU rfl mis boot_isinstance (ja (pv 0) (ja (@kK _ _ (.ty "list") _ _ rfl mli boot_list rfl (by decide) (by decide)) jb)) (by decide) (by decide) (by rfl) (by rfl)) (by intro _;rfl))))) (je (jy (@PW.pt _ _ _ (@KU _ _ _ _ _ _ _ (@jl _ _ _ _ _ _ _ _ Xm (@jB _ _ _ _ _ _ _ _ _ jU rfl mis boot_isinstance (ja (pv 0) (ja (@kK _ _ (.ty "tuple") _ _ rfl mtu boot_tuple rfl (by decide) (by decide)) jb)) (by decide) (by decide) (by rfl) (by rfl)) (@jB _ _ _ _ _ _ _ _ _ jU rfl mis boot_isinstance (ja (pv 1) (ja (@kK _ _ (.ty "tuple") _ _ rfl mtu boot_tuple rfl (by decide) (by decide)) jb)) (by decide) (by decide) (by rfl) (by rfl)) (nomark _)) (@Jq _ _ _ _ (@QC _ _ _ _ (@qc _ _ _ (@jB _ _ _ _ _ _ _ _ _ J3 rfl mis boot_isinstance (ja (pv 1) (ja (jj (ja (@kK _ _ (.ty "tuple") _ _ rfl mtu boot_tuple rfl (by decide) (by decide)) (ja (@kK _ _ (.ty "list") _ _ rfl mli boot_list rfl (by decide) (by decide)) jb))) jb)) (by decide) (by decide) (by rfl) (by rfl)) (by intro _;rfl)))))) (jh (jp (@Xk _ _ _ _))) jr) (jh (jp (@Kx _ _ _ _ _ _ _ (@ky _ _ _ _ _ _ _ _ jz (@jB _ _ _ _ _ _ _ _ _ jL rfl ml PySem.boot_len (ja (pv 0) jb) (by decide) (by decide) (by rfl) (by rfl)) (@jB _ _ _ _ _ _ _ _ _ jL rfl ml PySem.boot_len (ja (pv 1) jb) (by decide) (by decide) (by rfl) (by rfl)) (nomark _)) (@QD _ _ _ _ _ (@jB _ _ _ _ _ _ _ _ _ (Zu rfl) rfl mal boot_all (ja (@kA _ _ _ _ _ _ _ (["_law_mine","_law_yours"]) (2) ([]) _ _ _ _ rfl (@pi_zip _ _ _ _ _ _ _ _ _ (false) (false) rfl mz boot_zip (ja (pv 0) (ja (pv 1) jb)) (by rfl) (by rfl)) cs_al1 (fun _ _ _ _ _=>XJ (K:=K) (n:=2) rfl rfl (jA (jx (i:=0) Zi rfl (Or.inl rfl)) (jA (jx (i:=1) Zi rfl (Or.inl rfl)) kL)) rfl rfl) (fun _ _ _ _ _=>(@kU _)) (fun _ _ _ _ _=>(jg cF.g hr rfl cF.m cF.k cF.b .nil pass0 (ja (pv 0) (ja (pv 1) jb)))) (by intro _;rfl)) jb) (by decide) (by decide) (by rfl) (by rfl))))))) jr) (je (jy (@qc _ _ _ (@jB _ _ _ _ _ _ _ _ _ jU rfl mis boot_isinstance (ja (pv 0) (ja (@kK _ _ (.ty "int") _ _ rfl mi boot_int rfl (by decide) (by decide)) jb)) (by decide) (by decide) (by rfl) (by rfl)) (by intro _;rfl)) (jh (jp (@Kx _ _ _ _ _ _ _ (@jB _ _ _ _ _ _ _ _ _ jU rfl mis boot_isinstance (ja (pv 1) (ja (@kK _ _ (.ty "int") _ _ rfl mi boot_int rfl (by decide) (by decide)) jb)) (by decide) (by decide) (by rfl) (by rfl)) (@Kx _ _ _ _ _ _ _ (@pe_not _ _ _ _ (@jB _ _ _ _ _ _ _ _ _ jU rfl mis boot_isinstance (ja (pv 1) (ja (@kK _ _ (.ty "bool") _ _ rfl mbo boot_bool rfl (by decide) (by decide)) jb)) (by decide) (by decide) (by rfl) (by rfl))) (@QD _ _ _ _ _ (@ky _ _ _ _ _ _ _ _ jz (pv 0) (pv 1) (nomark _))))))) jr) (jh (jp (@Kx _ _ _ _ _ _ _ (@jB _ _ _ _ _ _ _ _ _ jU rfl mis boot_isinstance (ja (pv 1) (ja (@kK _ _ (.ty "str") _ _ rfl mst boot_str rfl (by decide) (by decide)) jb)) (by decide) (by decide) (by rfl) (by rfl)) (@QD _ _ _ _ _ (@ky _ _ _ _ _ _ _ _ jz (pv 0) (pv 1) (nomark _)))))))),?_⟩
 try dsimp only[cxOf,Cx.nox,Cx.wish]
 have big:=line24
 cases tr with
 |nil=>cases hL
 |cons h t=>cases hL
 |lf v=>
  obtain⟨rfl,_⟩:=hx
  obtain⟨rfl,_⟩:=hy
  rcases hP with ⟨i,rfl⟩ | ⟨s',rfl⟩
  ·refine seqF fun F1 f1=>⟨_,rfl,_,_,_,_,_,rfl,rfl,TyOf.int _,kt.it,_,rfl,iteF ⟨_,rfl,_,_,_,_,_,rfl,rfl,TyOf.int _,kt.il,_,rfl,iteF (f1 _ _ ?_)⟩⟩
   clear f1
   refine seqF fun F1 f1=>⟨_,rfl,_,_,_,_,_,rfl,rfl,TyOf.int _,kt.ii,_,rfl,iteT ⟨_,rfl,_,_,_,_,_,rfl,rfl,TyOf.int _,kt.ii,_,rfl,iteT ⟨_,rfl,_,_,_,_,_,rfl,rfl,TyOf.int _,kt.ib,_,rfl,_,rfl,iteT ⟨_,rfl,_,rfl,rfl,?_⟩⟩⟩⟩
   rw[decide_eq_true rfl]
   exact q _ (Same.refl _)
  ·refine seqF fun F1 f1=>⟨_,rfl,_,_,_,_,_,rfl,rfl,TyOf.str _,kt.st,_,rfl,iteF ⟨_,rfl,_,_,_,_,_,rfl,rfl,TyOf.str _,kt.sl,_,rfl,iteF (f1 _ _ ?_)⟩⟩
   clear f1
   refine seqF fun F1 f1=>⟨_,rfl,_,_,_,_,_,rfl,rfl,TyOf.str _,kt.si,_,rfl,iteF (f1 _ _ ?_)⟩
   clear f1
   refine⟨_,rfl,_,_,_,_,_,rfl,rfl,TyOf.str _,kt.ss,_,rfl,iteT ⟨_,rfl,_,rfl,rfl,?_⟩⟩
   rw[decide_eq_true rfl]
   exact q _ (Same.refl _)
 |tp l=>
  obtain⟨hl,a,xs,rfl,ha,hxs⟩:=hx
  obtain⟨_,b,ys,rfl,hb,hys⟩:=hy
  have lx:=QI hl hxs
  have ly:=QI hl hys
  have hw:=hP.2
  have dp:l.dep+1 < n+1:=hd
  refine seqF fun F1 f1=>⟨_,rfl,_,_,_,_,_,rfl,rfl,TyOf.tup ha,kt.tt,_,rfl,iteT (iteT ?_)⟩
  refine seqF fun F2 f2=>⟨_,rfl,_,_,_,_,_,rfl,rfl,TyOf.tup ha,kt.tt,_,rfl,_,_,_,_,_,rfl,rfl,TyOf.tup hb,kt.tt,rfl,_,rfl,iteF ⟨_,rfl,sz2,fun t nt=>⟨b,t,ys,["tuple","list"],true,rfl,keepN hb nt,jd,any_tt kt.tt,_,rfl,iteF (f2 _ _ ?_)⟩⟩⟩
  clear f2
  have s1:Same H (upd H t (.tup [.ty "tuple",.ty "list"])):=jf nt
  show tRet _ _ _ (upd H t (.tup [.ty "tuple",.ty "list"]))
  generalize upd H t (.tup [.ty "tuple",.ty "list"])=H1 at s1
  refine⟨_,rfl,a,_,rfl,.inr (SqT.of (s1 _ _ ha)),_,rfl,b,_,rfl,.inr (SqT.of (s1 _ _ hb)),rfl,_,rfl,?_⟩
  rw[decide_eq_true (show V.int (xs.length:Int)=V.int (ys.length:Int) by rw[lx,ly])]
  refine iteT ⟨_,rfl,_,rfl,a,b,rfl,⟨_,SqT.of (s1 _ _ ha)⟩,⟨_,SqT.of (s1 _ _ hb)⟩,?_⟩
  refine Yu (K:=K) (xs:=xs) (ys:=ys) (by omega) (by omega) (fun i zs Hx=>zs=(List.replicate i true).map V.bl/\Same H1 Hx) ⟨rfl,Same.refl _⟩ (fun i zs Hx h=>?_) (fun i x y zs Hx p hx hy h np=>?_) (fun zs Hx h l nl=>?_)
  ·obtain⟨rfl,sx⟩:=h
   exact⟨SqT.of (sx _ _ (s1 _ _ ha)),SqT.of (sx _ _ (s1 _ _ hb)),by rw[List.length_map,List.length_replicate];exact Nat.le_refl _⟩
  ·obtain⟨rfl,sx⟩:=h
   have s2:=(s1.trans sx).trans (jf (o:=.tup [x,y]) np)
   obtain⟨t',q1,q2,q3,q4,q5⟩:=Zh hl hP.1 hxs hys i x y hx hy
   exact⟨_,rfl,_,rfl,x,y,t',rfl,q4.mono (Same.tm s2),q5.mono (Same.tm s2),q1,q2,by omega,fun H3 s3=>⟨by rw[List.replicate_succ',List.map_append];rfl,(sx.trans (jf np)).trans s3⟩⟩
  ·obtain⟨rfl,sx⟩:=h
   refine⟨l,List.replicate xs.length true,rfl,SqL.of jd,?_⟩
   have e1:(List.replicate xs.length true).all id=true:=List.all_eq_true.mpr fun x hx=>(List.mem_replicate.mp hx).2
   rw[e1]
   exact q _ (s1.trans (sx.trans (jf nl)))
theorem Z4{f:Addr}{fd:FuncData}:FnOk P w K mg base CX0 1 f fd ["_law_one","_law_other"] (spAlike 0):=by
 have no:∀vs H Q E,¬spAlike 0 vs H Q E:=fun vs H Q E h=>by
  obtain⟨x,y,t,_,_,_,_,_,h1,_⟩:=h
  exact absurd h1 (Nat.not_lt_zero _)
 exact⟨fun vs H Q E h=>absurd h (no vs H Q E),fun A outer s H args us vs Q E _ _ _ _ h=>absurd h (no vs H Q E)⟩
theorem alikes{f:Addr}{fd:FuncData}(F:Fun K "_law_alike" "_law_alike" sAlike f fd)(bF:Binds K fd ["_law_one","_law_other"] [])(mF:mg "_law_alike"=some (.ref f))(ml:mg "len"=none)(mtu:mg "tuple"=none)(mli:mg "list"=none)(mi:mg "int"=none)(mbo:mg "bool"=none)(mst:mg "str"=none)(mis:mg "isinstance"=none)(mal:mg "all"=none)(mz:mg "zip"=none)(kt:Kt K):
  ∀n:Nat,FnOk P w K mg base CX0 (n+1) f fd ["_law_one","_law_other"] (spAlike n)
 |0=>Z4
 |n+1=>Z3 F ⟨(alikes F bF mF ml mtu mli mi mbo mst mis mal mz kt n),bF,F.kp,mF⟩ ml mtu mli mi mbo mst mis mal mz kt
noncomputable abbrev sWorths:Stmt:=top 16
noncomputable abbrev sDeedAt:Stmt:=top 17
def spWorths:Sp:=fun vs H Q _=>∃(a d:Addr) (ts:List (Addr×Tm)) (ys:List Str) (k:Tab),vs=[.ref a,.ref d]/\H a=some (.tup (ts.map fun c=>V.ref c.1))/\ts.length<=6/\(∀c∈ts,TmAt H c.2 c.1/\TmOk ys c.2)/\H d=some (.dK k)/\GT k/\
 ∀(r:Addr) (H':Hp),H' r=some (.tup (ts.map fun c=>V.int (c.2.ev k)))->Same H H'->Q (.ref r) H'
theorem scWorths:FnScope ["terms","numbers"] ["terms","numbers"] (defScope sWorths):=fsc
noncomputable def Xg:Scope:=⟨.function,[(".0",.local),("term",.local),("worth",.globalImplicit),("numbers",.free)],false,false,[]⟩
theorem nd_wos1:(["term","numbers"]:List Str).Nodup:=by decide+kernel
theorem cs_wos1:CompSc ["terms","numbers"] (defScope sWorths) Xg ["term","numbers"] 1 [1]:=csc
theorem YF{f:Addr}{fd:FuncData}{fW:Addr}{fdW:FuncData}(F:Fun K "worths" "worths" sWorths f fd)(cW:Cl P w K mg base 7 fW fdW ["term","held"] (spWorth K 6) "worth")(mtu:mg "tuple"=none):FnOk P w K mg base CX0 8 f fd ["terms","numbers"] spWorths:=by
 refine F.ok scWorths (fun vs H Q E h=>?_) (fun cdv A outer s H vs Q E hr h=>?_)
 ·refine opq fun Gq kq=>?_
  obtain⟨a,dd,ts,ys,k,rfl,_⟩:=h
  refine kq ?_
  clear kq
  rfl
 refine opq fun Gq kq=>?_
 obtain⟨a,dd,ts,ys,k,rfl,ha,l6,hts,hd,gk,q⟩:=h
 refine kq ?_
 clear kq
 refine⟨_,(jh (jp (@jC _ _ _ _ _ _ _ _ _ jI rfl mtu boot_tuple (ja (@kA _ _ _ _ _ _ _ (["term","numbers"]) (1) ([1]) _ _ _ _ rfl (@zj _ _ _ _ (pv 0)) cs_wos1 (fun _ _ _ _ _=>(jx (i:=0) nd_wos1 rfl (Or.inl rfl))) (fun _ _ _ _ _=>(@kU _)) (fun _ _ _ _ _=>(jg cW.g hr.m rfl cW.m cW.k cW.b .nil pass0 (ja (pv 0) (ja (pv 1) jb)))) (by intro _;rfl)) jb) (by decide) (by decide) (by rfl) (by rfl)))),?_⟩
 try dsimp only[cxOf,Cx.nox,Cx.wish]
 have big:=line24
 refine⟨_,rfl,a,rfl,⟨_,SqT.of ha⟩,?_⟩
 refine za (K:=K) (xs:=ts.map fun c=>V.ref c.1) (by rw[List.length_map];omega) (fun i zs Hx=>zs=(ts.take i).map (fun c=>V.int (c.2.ev k))/\Hx=H) ⟨rfl,rfl⟩ (fun i zs Hx h=>?_) (fun i x zs Hx hx h=>?_) (fun zs Hx h l nl=>?_)
 ·obtain⟨rfl,rfl⟩:=h
  exact⟨SqT.of ha,by rw[List.length_map,List.length_take];omega⟩
 ·obtain⟨rfl,rfl⟩:=h
  rw[List.getElem?_map]at hx
  obtain⟨y,hy,rfl⟩:=Option.map_eq_some_iff.mp hx
  have ym:=List.mem_of_getElem? hy
  refine⟨_,rfl,_,rfl,y.1,dd,y.2,ys,k,rfl,.inl (hts y ym).1,(hts y ym).2.2,(hts y ym).2.1,hd,gk,?_,rfl⟩
  rw[List.take_add_one,hy,List.map_append]
  rfl
 ·obtain⟨rfl,rfl⟩:=h
  rw[List.length_map,List.take_length]
  exact⟨l,_,rfl,.inl ⟨SqL.of jd,fun tl ntl=>q tl _ jd ((jf nl).trans (jf ntl))⟩⟩
theorem scDeedAt:FnScope ["part","n","held","numbers","deed","word"] ["part","n","held"] (defScope sDeedAt):=fsc
theorem YG{f:Addr}{fd:FuncData}{nA fH fC fW fS:Addr}{fdH fdC fdW fdS:FuncData}(F:Fun K "deed_at" "deed_at" sDeedAt f fd)(cH:Cl P w K mg base 2 fH fdH ["part","n","held"] (spHeld nA) "held_at")(cC:Cl P w K mg base 1 fC fdC ["part","n"] (spCut nA) "cut_at")(cW:Cl P w K mg base 7 fW fdW ["term","held"] (spWorth K 6) "worth")(cS:Cl P w K mg base 8 fS fdS ["terms","numbers"] spWorths "worths"):FnOk P w K mg base CX0 9 f fd ["part","n","held"] (spDeedL nA):=by
 refine F.ok scDeedAt (fun vs H Q E h=>?_) (fun cdv A outer s H vs Q E hr h=>?_)
 ·refine opq fun Gq kq=>?_
  obtain⟨v,n,hv,d,ys,c,is,e,rfl,_⟩:=h
  refine kq ?_
  clear kq
  rfl
 refine opq fun Gq kq=>?_
 obtain⟨v,n,hv,d,ys,c,is,e,rfl,hp,hc,hh,hl,hin,hed,hdv,q⟩:=h
 refine kq ?_
 clear kq
 refine⟨_,(je (jo (i:=3) scDeedAt.nd rfl (Or.inl rfl) (jg cH.g hr.m rfl cH.m cH.k cH.b .nil pass0 (ja (pv 0) (ja (pv 1) (ja (pv 2) jb))))) (je (jo (i:=4) scDeedAt.nd rfl (Or.inl rfl) (@jk _ _ _ _ _ _ _ jq (jg cC.g hr.m rfl cC.m cC.k cC.b .nil pass0 (ja (pv 0) (ja (pv 1) jb))) jc (fun _ _=>rfl))) (je (jo (i:=5) scDeedAt.nd rfl (Or.inl rfl) (@jk _ _ _ _ _ _ _ jq (pv 4) jc (fun _ _=>rfl))) (je (jy (@jl _ _ _ _ _ _ _ _ jz (pv 5) ji (nomark _)) (jh (jp (jj (ja (pv 5) (ja (@qr _ _ _ _ _ _ _ _ (@jl _ _ _ _ _ _ _ _ jz (jg cW.g hr.m rfl cW.m cW.k cW.b .nil pass0 (ja (@jk _ _ _ _ _ _ _ jq (pv 4) jc (fun _ _=>rfl)) (ja (pv 3) jb))) jc (nomark _)) jc jc) jb))))) jr) (je (jy (@jl _ _ _ _ _ _ _ _ jz (pv 5) ji (nomark _)) (jh (jp (jj (ja (pv 5) (ja (@jk _ _ _ _ _ _ _ jq (pv 4) jc (fun _ _=>rfl)) (ja (jg cS.g hr.m rfl cS.m cS.k cS.b .nil pass0 (ja (@jk _ _ _ _ _ _ _ jq (pv 4) jc (fun _ _=>rfl)) (ja (pv 3) jb))) jb)))))) jr) (je (jy (@jl _ _ _ _ _ _ _ _ jz (pv 5) ji (nomark _)) (jh (jp (jj (ja (pv 5) (ja (jg cW.g hr.m rfl cW.m cW.k cW.b .nil pass0 (ja (@jk _ _ _ _ _ _ _ jq (pv 4) jc (fun _ _=>rfl)) (ja (pv 3) jb))) jb))))) jr) (jh (jp (jw kB (jj (ja (pv 5) jb)) (jg cS.g hr.m rfl cS.m cS.k cS.b .nil pass0 (ja (@jK _ _ _ _ _ _ _ _ _ _ zT (pv 4) (@jF _ _ _ jc) (@jZ _)) (ja (pv 3) jb)))))))))))),?_⟩
 try dsimp only[cxOf,Cx.nox,Cx.wish]
 have big:=line24
 obtain⟨a,ca,pwv,cs,rfl,ha,_,hca,hcs⟩:=hp.parts
 refine seqF fun F1 f1=>⟨_,rfl,_,rfl,_,rfl,.ref a,n,hv,d,ys,c,is,rfl,hp,hc,hh,hl,fun dd ndd=>f1 _ _ ?_⟩
 clear f1
 have s1:Same H (upd H dd (.dK (zipT (canon c.M) is))):=jf ndd
 have d1:upd H dd (.dK (zipT (canon c.M) is)) dd=some (.dK (zipT (canon c.M) is)):=jd
 show tSeq _ _ _ _ (upd H dd (.dK (zipT (canon c.M) is)))
 generalize upd H dd (.dK (zipT (canon c.M) is))=H1 at s1 d1
 have g0:GT (zipT (canon c.M) is):=Zg hin
 generalize zipT (canon c.M) is=k at d1 g0 q
 have dk:=hdv.mono (Same.tm s1)
 refine seqF fun F1 f1=>⟨_,rfl,_,rfl,.ref a,n,d,ys,c,rfl,hp.mono (Same.tm s1),hc,fun ka na wa dv wvs cu=>⟨ka,_,_,_,rfl,rfl,SqT.of cu.at',at1,f1 _ _ ?_⟩⟩
 clear f1
 have deed:=cu.deed
 rw[<- hed]at deed
 cases e with
 |ask t T=>
  obtain⟨_,p,xs,rfl,hp1,_,_,y0,z0,rfl,⟨rfl,_⟩,_,_,y1,z1,rfl,⟨rfl,_⟩,e⟩:=deed
  have e:z1=[]:=e
  subst e
  refine seqF fun F1 f1=>⟨_,rfl,p,_,_,_,rfl,rfl,SqT.of hp1,at0,f1 _ _ ?_⟩
  clear f1
  refine seqF fun F1 f1=>⟨_,rfl,rfl,_,rfl,ifY (by decide+kernel) ⟨_,rfl,_,rfl,p,_,_,_,rfl,rfl,SqT.of hp1,at1,_,rfl,t,dd,T,ys,k,rfl,.inl dk.1,dk.2.2,dk.2.1,d1,g0,rfl,_,rfl,?_⟩⟩
  by_cases z:T.ev k=0
  ·refine ifY (by rw[z];decide+kernel) ⟨sz2,fun r nr=>q _ _ (jJ jd (js rfl jV (js rfl ⟨?_,rfl⟩ jD))) (s1.trans (jf nr))⟩
   rw[if_pos z]
  ·refine ifX (by rw[decide_eq_false];intro e;injection e with e;exact z e) ⟨sz2,fun r nr=>q _ _ (jJ jd (js rfl jV (js rfl ⟨?_,rfl⟩ jD))) (s1.trans (jf nr))⟩
   rw[if_neg z]
 |st p l=>
  have ed:dv= .ref p:=deed.1
  subst ed
  obtain⟨vs,hp1,hlv,hok,hct⟩:=dk
  cases l with
  |rd x t T=>
   obtain⟨rfl,ht⟩:=hlv
   refine seqF fun F1 f1=>⟨_,rfl,p,_,_,_,rfl,rfl,SqT.of hp1,at0,f1 _ _ ?_⟩
   clear f1
   refine seqF fun F1 f1=>⟨_,rfl,rfl,_,rfl,ifX (by decide+kernel) (f1 _ _ ?_)⟩
   clear f1
   refine seqF fun F1 f1=>⟨_,rfl,rfl,_,rfl,ifX (by decide+kernel) (f1 _ _ ?_)⟩
   clear f1
   refine seqF fun F1 f1=>⟨_,rfl,rfl,_,rfl,ifY (by decide+kernel) ⟨_,rfl,_,rfl,p,_,_,_,rfl,rfl,SqT.of hp1,jE (j:=2) rfl,_,rfl,t,dd,T,ys,k,rfl,.inl ht,hok.2.2,hok.2.1,d1,g0,sz2,fun r nr=>?_⟩⟩
   exact q _ _ (jJ jd (js rfl jV (js rfl zM jD))) (s1.trans (jf nr))
  |wr t u T U=>
   obtain⟨rfl,ht,hu⟩:=hlv
   refine seqF fun F1 f1=>⟨_,rfl,p,_,_,_,rfl,rfl,SqT.of hp1,at0,f1 _ _ ?_⟩
   clear f1
   refine seqF fun F1 f1=>⟨_,rfl,rfl,_,rfl,ifX (by decide+kernel) (f1 _ _ ?_)⟩
   clear f1
   refine seqF fun F1 f1=>⟨_,rfl,rfl,_,rfl,ifX (by decide+kernel) (f1 _ _ ?_)⟩
   clear f1
   refine seqF fun F1 f1=>⟨_,rfl,rfl,_,rfl,ifX (by decide+kernel) (f1 _ _ ?_)⟩
   clear f1
   refine⟨_,rfl,sz1,fun r1 nr1=>⟨_,rfl,1,rfl,p,_,rfl,jf nr1 _ _ hp1,fun r2 H2 hr2 s2=>⟨_,rfl,r2,dd,[(t,T),(u,U)],ys,k,rfl,hr2,(by show 2<=6;decide),?_,s2 _ _ (jf nr1 _ _ d1),g0,fun r3 H3 hr3 s3=>⟨r1,r3,_,_,rfl,rfl,s3 _ _ (s2 _ _ jd),hr3,sz3,fun r4 H4 hr4 s4=>?_⟩⟩⟩⟩
   ·intro y hy
    have s12:=(jf (o:=.tup [.str "write"]) nr1).trans s2
    simp only[List.mem_cons,List.not_mem_nil,or_false]at hy
    rcases hy with rfl |rfl
    ·exact⟨ht.same s12,hok.1⟩
    ·exact⟨hu.same s12,hok.2⟩
   ·exact q _ _ (jJ hr4 (js rfl jV (js rfl zM (js rfl zM jD)))) (s1.trans ((jf nr1).trans (s2.trans (s3.trans s4))))
  |cl x f' qa ts=>
   obtain⟨rfl,hq,hts⟩:=hlv
   refine seqF fun F1 f1=>⟨_,rfl,p,_,_,_,rfl,rfl,SqT.of hp1,at0,f1 _ _ ?_⟩
   clear f1
   refine seqF fun F1 f1=>⟨_,rfl,rfl,_,rfl,ifX (by decide+kernel) (f1 _ _ ?_)⟩
   clear f1
   have l6:ts.length<=6:=hok.2.1
   refine seqF fun F1 f1=>⟨_,rfl,rfl,_,rfl,ifY (by decide+kernel) ⟨_,rfl,_,rfl,p,_,_,_,rfl,rfl,SqT.of hp1,jE (j:=2) rfl,_,rfl,p,_,_,_,rfl,rfl,SqT.of hp1,jE (j:=3) rfl,_,rfl,qa,dd,ts,ys,k,rfl,hq,l6,fun y hy=>⟨hts y hy,hok.2.2 y hy⟩,d1,g0,fun r2 H2 hr2 s2=>⟨sz3,fun r nr=>?_⟩⟩⟩
   refine q _ _ (jJ jd (js rfl jV (js rfl jV (js rfl (jJ (keepN hr2 nr) ?_) jD)))) (s1.trans (s2.trans (jf nr)))
   have:=KH (H:=upd H2 r (.tup [.str "call",.str f',.ref r2])) (is:=ts.map fun c=>c.2.ev k)
   rw[List.map_map,List.map_map]at this
   exact this
  |st x t T=>cases hct
  |gv t T=>cases hct
noncomputable abbrev sNamedP:Stmt:=top 11
noncomputable abbrev sPartOf:Stmt:=top 13
noncomputable abbrev sRefused:Stmt:=top 56
noncomputable abbrev sInitN:Stmt:=inClass (top 8) 0
def NX(o:HO):Prop:=∀φ,o≠ .ext φ
def Kp(H H':Hp):Prop:=∀b o,NX o->H b=some o->H' b=some o
theorem Kp.of_same{H H':Hp}(s:Same H H'):Kp H H':=fun b o _ e=>s _ _ e
theorem Kp.trans{H H1 H2:Hp}(a:Kp H H1)(b:Kp H1 H2):Kp H H2:=fun c o n e=>b c o n (a c o n e)
def nextE(E:XK):XK:=fun C d H'=>∀x T T' c,C= .ref c->H' x=some (TxO c d T x)->H' T=some (TbO T)->H' T'=none->E (.ref c) d (upd (upd H' T' (TbO T')) x (TxO c d T' x))
theorem YH{P:Program}{w:World}{K:Frag}{mg:Str->Option Value}{base:Heap}{N:List Str}{qual:Str}{scope:Scope}{f:Addr}{cd:Value}{A:Around}{outer:List Env}{s₀:Shared}{H₀:Hp}{E:XK}:Passes (CX1 P w) (cxOf (CX1 P w) P w K mg base N qual scope f cd A outer s₀ H₀ E) (nextE E):=
 passes1 fun x C d T T' H' hx hT hn h=>h x T T' C rfl hx hT hn
theorem Ji{H H':Hp}{x T T' C:Addr}{d:Option Addr}{b:Addr}{o:HO}(e:H' b=some o)(n:NX o)(hx:H' x=some (TxO C d T x))(hn:H' T'=none):upd (upd H' T' (TbO T')) x (TxO C d T' x) b=some o:=by
 have n1:b≠x:=fun z=>by
  rw[z,hx]at e
  injection e with e
  exact n _ e.symm
 rw[jm n1,jm (jv e hn)]
 exact e
structure XIn(K:Frag)(C:Addr)(f:Str):Prop where
 x:XCls K C
 no:NoAttr K C f
 cd:∃cd,clsIn K C=some cd/\cd.hasDict=true/\veTail cd.mro=true
def spInit(C:Addr)(f:Str):Sp:=fun vs H Q _=>∃x v,vs=[.ref x,v]/\H x=some (ExO C none x)/\∀dx,H dx=none->Q .non (upd (upd H x (ExO C (some dx) x)) dx (.xd [(f,v)]))
structure XC(P:Program)(w:World)(K:Frag)(mg:Str->Option Value)(base:Heap)(C fI:Addr)(fdI:FuncData)(cn:Str):Prop where
 mkr:XMk K C
 ini:findIn K (.ref C) "__init__"=some (some (.ref fI))
 fn:isFn K (.ref fI)=true
 g:FnOk P w K mg base CX0 1 fI fdI ["self","name"] (spInit C "name")
 b:Binds K fdI ["self","name"] []
 m:mg cn=some (.ref C)
 x:XCls K C
 ty:typeIn K (.ref C)=some (.type "type")
def XO(H:Hp)(C:Addr)(x:Str)(E:XK):Prop:=∀dx H',Kp H H'->H' dx=some (.xd [("name",.str x)])->E (.ref C) (some dx) H'
theorem nx_xd{x:Str}:NX (.xd [("name",.str x)]):=fun φ z=>by cases z
theorem XO.next{H H1:Hp}{C:Addr}{x:Str}{E:XK}(h:XO H C x E)(s:Same H H1):XO H1 C x (nextE E):=fun dx H' k e y T T' c ec hx hT hn=>by
 cases ec
 exact h dx _ (fun b o nx eb=>Ji (H:=H) (k b o nx (s _ _ eb)) nx hx hn) (Ji (H:=H) e nx_xd hx hn)
theorem fly_out{H:Hp}{x dx C:Addr}{y:Str}{E:XK}(hx:H x=none)(hdx:upd H x (ExO C none x) dx=none)(h:XO H C y E):
  ∀T,upd (upd (upd H x (ExO C none x)) x (ExO C (some dx) x)) dx (.xd [("name",.str y)]) T=none->
   E (.ref C) (some dx) (upd (upd (upd (upd (upd H x (ExO C none x)) x (ExO C (some dx) x)) dx (.xd [("name",.str y)])) T (TbO T)) x (TxO C (some dx) T x)):=by
 intro T hT
 have xd:dx≠x:=fun e=>by rw[e,jd]at hdx;cases hdx
 have xT:T≠x:=fun e=>by rw[e,jm (Ne.symm xd),jd]at hT;cases hT
 have dT:T≠dx:=fun e=>by rw[e,jd]at hT;cases hT
 have hT0:H T=none:=by rw[jm dT,jm xT,jm xT]at hT;exact hT
 have hd0:H dx=none:=by rw[jm xd]at hdx;exact hdx
 refine h dx _ (fun b o _ e=>?_) ?_
 ·rw[jm (jv e hx),jm (jv e hT0),jm (jv e hd0),jm (jv e hx),jm (jv e hx)]
  exact e
 ·rw[jm xd,jm (Ne.symm dT),jd]
theorem fly_at{H:Hp}{x dx C:Addr}{o:HO}(hdx:upd H x (ExO C none x) dx=none):upd (upd (upd H x (ExO C none x)) x (ExO C (some dx) x)) dx o x=some (ExO C (some dx) x):=by
 have ne:dx≠x:=fun e=>by rw[e,jd]at hdx;cases hdx
 rw[jm (Ne.symm ne),jd]
def Nmd(H:Hp)(x:V)(g:Str):Prop:=∃p r,x= .ref p/\H p=some (.tup (.str g::r))
def spNa:Sp:=fun vs H Q _=>∃(a:Addr) (f:Str) (xs:List V) (i:Nat) (v:V),vs=[.ref a,.str f]/\H a=some (.tup xs)/\xs[i]?=some v/\Nmd H v f/\(∀j x,j < i->xs[j]?=some x->∃g,Nmd H x g/\g≠f)/\Q v H
def spNx(CN:Addr):Sp:=fun vs H _ E=>∃(a:Addr) (f:Str) (xs:List V),vs=[.ref a,.str f]/\H a=some (.tup xs)/\(∀x∈xs,∃g,Nmd H x g/\g≠f)/\XO H CN f E
def spRef:Sp:=fun vs H Q _=>∃(a:Addr) (f:Str) (xs:List V),vs=[.ref a,.str f]/\H a=some (.tup xs)/\(∀x∈xs,∃g,Nmd H x g/\g≠f)/\∀H',Kp H H'->Q (.str f) H'
structure Nx(K:Frag)(CN CC CW CB:Addr):Prop where
 x:XCls K CN
 kN:kitOne K (.ref CN) (.ref CN)=some true
 kC:kitOne K (.ref CN) (.ref CC)=some false
 kW:kitOne K (.ref CN) (.ref CW)=some false
 mb:mroIn K CN (.ref CB)=some true
 no:NoAttr K CN "name"
theorem J8{X:Cx}{K:Frag}(hK:X.K=K):CallR X (.builtin "isinstance") (fun xs H Q=>∃a C fs y c b,xs=[.ref a,y]/\clsV y=some c/\ExcC H a C fs/\XCls K C/\kitOne K (.ref C) c=some b/\Q (.bl b) H):=by
 subst hK
 exact KK
theorem JQ{X:Cx}{K:Frag}(hK:X.K=K):CallR X (.builtin "isinstance") (fun xs H Q=>∃(a C:Addr) (fs:List (Str×V)) (tp:Addr) (cs:List Addr) (b:Bool),xs=[.ref a,.ref tp]/\H tp=some (.tup (cs.map V.ref))/\ExcC H a C fs/\XCls K C/\kitAny K (.ref C) (cs.map Value.ref)=some b/\Q (.bl b) H):=by
 subst hK
 exact J4
theorem Z5{X:Cx}{K:Frag}{g:Str}{pos:Pos}{e:Expr}{ta:TE}(hK:X.K=K)(he:PE X e ta)(hb:attributeBase e g X.env (eval e X.env)=eval e X.env):PE X (.Attribute e g pos) (tFldC K ta g):=by
 subst hK
 exact pe_fldC he hb
theorem XX{H H':Hp}{a C:Addr}{fs:List (Str×V)}(s:Same H H')(e:ExcC H a C fs):ExcC H' a C fs:=by
 rcases e with ⟨h,T,e⟩ | ⟨dx,T,e,e2⟩
 ·exact .inl ⟨h,T,s _ _ e⟩
 ·exact .inr ⟨dx,T,s _ _ e,s _ _ e2⟩
theorem any_ff{K:Frag}{t a b:Value}(h:kitOne K t a=some false)(h2:kitOne K t b=some false):kitAny K t [a,b]=some false:=by
 unfold kitAny
 rw[h]
 show kitAny K t [b]=some false
 unfold kitAny
 rw[h2]
 rfl
theorem scInitN:FnScope ["self","name"] ["self","name"] (defScope sInitN):=fsc
theorem Z7{f:Addr}{fd:FuncData}(F:Fun K "__init__" "NoName.__init__" sInitN f fd){C:Addr}(xi:XIn K C "name"):FnOk P w K mg base CX0 1 f fd ["self","name"] (spInit C "name"):=by
 refine F.ok scInitN (fun vs H Q E h=>?_) (fun cdv A outer s H vs Q E hr h=>?_)
 ·refine opq fun Gq kq=>?_
  obtain⟨x,v,rfl,_⟩:=h
  refine kq ?_
  clear kq
  rfl
 refine opq fun Gq kq=>?_
 obtain⟨x,v,rfl,hx,q⟩:=h
 refine kq ?_
 clear kq
 refine⟨_,(jh (@ps_fldX _ _ _ _ _ _ _ _ (pv 0) (pv 1) (by rfl))),?_⟩
 try dsimp only[cxOf,Cx.nox,Cx.wish]
 refine opq fun Gq kq=>?_
 obtain⟨cd,h1,h2,h3⟩:=xi.cd
 refine kq ?_
 clear kq
 exact⟨_,rfl,_,rfl,x,C,cd,rfl,hx,xi.x,xi.no,h1,h2,h3,fun dx n=>q dx n⟩
theorem scNamedP:FnScope ["ones","f","one"] ["ones","f"] (defScope sNamedP):=fsc
theorem YI{f:Addr}{fd:FuncData}(F:Fun K "named" "named" sNamedP f fd):FnOk P w K mg base CX0 1 f fd ["ones","f"] spNa:=by
 refine F.ok scNamedP (fun vs H Q E h=>?_) (fun cdv A outer s H vs Q E hr h=>?_)
 ·refine opq fun Gq kq=>?_
  obtain⟨a,f,xs,i,v,rfl,_⟩:=h
  refine kq ?_
  clear kq
  rfl
 refine opq fun Gq kq=>?_
 obtain⟨a,f,xs,i,v,rfl,ha,hi,hN,hlt,q⟩:=h
 refine kq ?_
 clear kq
 refine⟨_,(je (@kl _ _ _ _ _ _ _ _ PassesOwn.never rfl (@zj _ _ _ _ (pv 0)) (jx (i:=2) scNamedP.nd rfl (Or.inl rfl)) (jh (jy (@jl _ _ _ _ _ _ _ _ jz (@jk _ _ _ _ _ _ _ jq (pv 2) jc (fun _ _=>rfl)) (pv 1) (nomark _)) (jh (jp (pv 2))) jr)) (by intro _;rfl)) (@pss_no _ _)),?_⟩
 try dsimp only[cxOf,Cx.nox,Cx.wish]
 have hil:i < xs.length:=(List.getElem?_eq_some_iff.mp hi).1
 refine seqF fun F1 f1=>forE fun J j=>⟨_,rfl,a,rfl,⟨_,SqT.of ha⟩,j _ _ ?_⟩
 clear j
 refine Jz (K:=K) (xs:=xs) (fun k σ H'=>(∃o2,σ=[some (.ref a),some (.str f),o2])/\H'=H/\k<=i) ⟨⟨_,rfl⟩,rfl,Nat.zero_le _⟩ (fun k σ H' _ h=>by rw[h.2.1];exact SqT.of ha) ?_ (fun σ H' h=>?_)
 ·intro E2 rt k x σ H2 hx fE Gq kq h
  obtain⟨⟨o2,rfl⟩,rfl,hk⟩:=h
  refine kq ?_
  clear kq
  by_cases ek:k=i
  ·subst ek
   rw[hi]at hx
   cases hx
   obtain⟨p,r,rfl,h1⟩:=id hN
   show tIfS _ _ _ E2 _ _
   refine ifE fun G1 kT kF=>⟨_,rfl,p,_,_,_,rfl,rfl,SqT.of h1,at0,_,rfl,rfl,_,rfl,?_⟩
   rw[decide_eq_true (rfl:V.str f=V.str f)]
   refine kT _ ?_
   show tRet _ E2 _ _
   unfold tRet
   rw[rt]
   exact⟨_,rfl,q⟩
  ·obtain⟨g,⟨p,r,rfl,h1⟩,ne⟩:=hlt k x (by omega) hx
   show tIfS _ _ _ E2 _ _
   refine ifE fun G1 kT kF=>⟨_,rfl,p,_,_,_,rfl,rfl,SqT.of h1,at0,_,rfl,rfl,_,rfl,?_⟩
   rw[decide_eq_false (fun z=>ne (by injection z))]
   exact kF _ (fE _ _ ⟨⟨_,rfl⟩,rfl,by omega⟩)
 ·obtain⟨_,_,hk⟩:=h
  exact absurd hk (by omega)
theorem YJ{f:Addr}{fd:FuncData}(F:Fun K "named" "named" sNamedP f fd){CN fIN:Addr}{fdIN:FuncData}(XN:XC P w K mg base CN fIN fdIN "NoName"):FnOk P w K mg base (CX1 P w) 3 f fd ["ones","f"] (spNx CN):=by
 refine F.ok1 scNamedP (fun vs H Q E h=>?_) (fun cdv A outer s H vs Q E hr h=>?_)
 ·refine opq fun Gq kq=>?_
  obtain⟨a,f,xs,rfl,_⟩:=h
  refine kq ?_
  clear kq
  rfl
 refine opq fun Gq kq=>?_
 obtain⟨a,f,xs,rfl,ha,hn,qn⟩:=h
 refine kq ?_
 clear kq
 refine⟨_,(je (@kl _ _ _ _ _ _ _ _ PassesOwn.leaving rfl (@zj _ _ _ _ (pv 0)) (jx (i:=2) scNamedP.nd rfl (Or.inl rfl)) (jh (jy (@jl _ _ _ _ _ _ _ _ jz (@jk _ _ _ _ _ _ _ jq (pv 2) jc (fun _ _=>rfl)) (pv 1) (nomark _)) (jh (jp (pv 2))) jr)) (by intro _;rfl)) (jh (@ZB _ _ _ _ _ rfl Yl (@Zz _ _ _ _ _ _ _ _ _ _ _ _ _ _ _ XN.mkr XN.ini XN.fn XN.g hr rfl XN.m XN.b pass0 (ja (pv 1) jb) (by decide) (by rfl) (by rfl))))),?_⟩
 try dsimp only[cxOf,Cx.nox,Cx.wish]
 refine seqF fun F1 f1=>forE fun J j=>⟨_,rfl,a,rfl,⟨_,SqT.of ha⟩,j _ _ ?_⟩
 clear j
 refine Jz (K:=K) (xs:=xs) (fun k σ H'=>(∃o2,σ=[some (.ref a),some (.str f),o2])/\H'=H) ⟨⟨_,rfl⟩,rfl⟩ (fun k σ H' _ h=>by rw[h.2];exact SqT.of ha) ?_ (fun σ H' h=>?_)
 ·clear f1
  intro E2 rt k x σ H2 hx fE Gq kq h
  obtain⟨⟨o2,rfl⟩,rfl⟩:=h
  refine kq ?_
  clear kq
  obtain⟨g,⟨p,r,rfl,h1⟩,ne⟩:=hn x (List.mem_of_getElem? hx)
  show tIfS _ _ _ E2 _ _
  refine ifE fun G1 kT kF=>⟨_,rfl,p,_,_,_,rfl,rfl,SqT.of h1,at0,_,rfl,rfl,_,rfl,?_⟩
  rw[decide_eq_false (fun z=>ne (by injection z))]
  exact kF _ (fE _ _ ⟨⟨_,rfl⟩,rfl⟩)
 ·obtain⟨⟨o2,rfl⟩,rfl⟩:=h
  refine f1 _ _ ?_
  exact⟨_,rfl,(by show 1<=1000;decide),fun x0 n0=>⟨x0,_,rfl,jd,fun d0 nd0=>⟨rfl,x0,CN,some d0,rfl,fly_at nd0,XN.x,XN.ty,fly_out n0 nd0 (qn)⟩⟩⟩
theorem scPartOf:FnScope ["parts","f"] ["parts","f"] (defScope sPartOf):=fsc
theorem YK{f:Addr}{fd:FuncData}{fN:Addr}{fdN:FuncData}(F:Fun K "part_of" "part_of" sPartOf f fd)(cN:Cl P w K mg base 1 fN fdN ["ones","f"] spNa "named"):FnOk P w K mg base CX0 2 f fd ["parts","f"] spNa:=by
 refine F.ok scPartOf (fun vs H Q E h=>?_) (fun cdv A outer s H vs Q E hr h=>?_)
 ·refine opq fun Gq kq=>?_
  obtain⟨a,f,xs,i,v,rfl,_⟩:=h
  refine kq ?_
  clear kq
  rfl
 refine opq fun Gq kq=>?_
 obtain⟨a,f,xs,i,v,rfl,ha,hi,hN,hlt,q⟩:=h
 refine kq ?_
 clear kq
 refine⟨_,(jh (jp (jg cN.g hr.m rfl cN.m cN.k cN.b .nil pass0 (ja (pv 0) (ja (pv 1) jb))))),?_⟩
 try dsimp only[cxOf,Cx.nox,Cx.wish]
 exact⟨_,rfl,_,rfl,a,f,xs,i,v,rfl,ha,hi,hN,hlt,q⟩
theorem Xh{f:Addr}{fd:FuncData}{fN:Addr}{fdN:FuncData}(F:Fun K "part_of" "part_of" sPartOf f fd){CN:Addr}(GN:FnOk P w K mg base (CX1 P w) 3 fN fdN ["ones","f"] (spNx CN))(bN:Binds K fdN ["ones","f"] [])(kN:keepIn K (.ref fN)=true)(mN:mg "named"=some (.ref fN)):FnOk P w K mg base (CX1 P w) 4 f fd ["parts","f"] (spNx CN):=by
 refine F.ok1 scPartOf (fun vs H Q E h=>?_) (fun cdv A outer s H vs Q E hr h=>?_)
 ·refine opq fun Gq kq=>?_
  obtain⟨a,f,xs,rfl,_⟩:=h
  refine kq ?_
  clear kq
  rfl
 refine opq fun Gq kq=>?_
 obtain⟨a,f,xs,rfl,ha,hn,qn⟩:=h
 refine kq ?_
 clear kq
 refine⟨_,(jh (jp (jg GN hr.m rfl mN kN bN .nil YH (ja (pv 0) (ja (pv 1) jb))))),?_⟩
 try dsimp only[cxOf,Cx.nox,Cx.wish]
 exact⟨_,rfl,_,rfl,a,f,xs,rfl,ha,hn,qn.next (fun _ _ e=>e)⟩
theorem scRefused:FnScope ["_law_parts","_law_f","_law_caught","e"] ["_law_parts","_law_f"] (defScope sRefused):=fsc
theorem Xi{f:Addr}{fd:FuncData}{CN CC CW CB fP:Addr}{fdP:FuncData}(F:Fun K "_law_refused" "_law_refused" sRefused f fd)(GP:FnOk P w K mg base (CX1 P w) 4 fP fdP ["parts","f"] (spNx CN))(bP:Binds K fdP ["parts","f"] [])(kP:keepIn K (.ref fP)=true)(mP:mg "part_of"=some (.ref fP))(nx:Nx K CN CC CW CB)(gN:mg "NoName"=some (.ref CN))(gC:mg "NoCount"=some (.ref CC))(gW:mg "Twice"=some (.ref CW))(gB:mg "BookError"=some (.ref CB))(hB:clsIn K CB≠none)(tB:typeIn K (.ref CB)=some (.type "type"))(mB:mroIn K CB (.type "BaseException")=some true)(mis:mg "isinstance"=none):FnOk P w K mg base CX0 5 f fd ["_law_parts","_law_f"] spRef:=by
 refine F.ok scRefused (fun vs H Q E h=>?_) (fun cdv A outer s H vs Q E hr h=>?_)
 ·refine opq fun Gq kq=>?_
  obtain⟨a,f,xs,rfl,_⟩:=h
  refine kq ?_
  clear kq
  rfl
 refine opq fun Gq kq=>?_
 obtain⟨a,f,xs,rfl,ha,hn,q⟩:=h
 refine kq ?_
 clear kq
 refine⟨_,(je (jo (i:=2) scRefused.nd rfl (Or.inl rfl) (@pe_non _ _ _)) (je (@ps_try _ _ _ _ _ _ _ _ _ _ _ _ (3) rfl rfl (@ZD _ _ _ _ (@ZC _ _ _ _ _ _ _ _ _ _ _ _ _ _ GP hr.m rfl mP kP bP .nil (ja (pv 0) (ja (pv 1) jb)) (by decide) (by rfl) (by rfl)) (by rfl)) rfl gB hB tB mB scRefused.nd rfl rfl (fun _=>(jh (jy (L2.PW.pt (@qD _ _ _ _ _ _ _ (@qc _ _ _ (@jB _ _ _ _ _ _ _ _ _ (J8 (K:=K) (by rfl)) rfl mis boot_isinstance (ja (pv 3) (ja (@zu _ _ (.ref CN) _ _ rfl gN rfl (by decide)) jb)) (by decide) (by decide) (by rfl) (by rfl)) (by intro _;rfl)) (@zR _ _ _ _ (@QC _ _ _ _ (@qc _ _ _ (@jB _ _ _ _ _ _ _ _ _ (JQ (K:=K) (by rfl)) rfl mis boot_isinstance (ja (pv 3) (ja (jj (ja (@zu _ _ (.ref CC) _ _ rfl gC rfl (by decide)) (ja (@zu _ _ (.ref CW) _ _ rfl gW rfl (by decide)) jb))) jb)) (by decide) (by decide) (by rfl) (by rfl)) (by intro _;rfl)))))) (jh (jo (i:=2) scRefused.nd rfl (Or.inl rfl) (Z5 (K:=K) (by rfl) (pv 3) (by rfl)))) jr))) (by decide)) (jh (jp (pv 2))))),?_⟩
 try dsimp only[cxOf,Cx.nox,Cx.wish]
 refine seqF fun F1 f1=>f1 _ _ ?_
 clear f1
 refine seqF fun F1 f1=>⟨_,rfl,_,rfl,a,f,xs,rfl,ha,hn,fun dx H' kp hdx x C T eC hx hT hTx=>?_⟩
 cases eC
 refine⟨nx.mb,fun T' nT'=>?_⟩
 have c3:Kp H (upd (upd H' T' (TbO T')) x (TxO CN (some dx) T' x)):=fun b o n e=>Ji (H:=H) (kp _ _ n e) n hx nT'
 have c4:ExcC (upd (upd H' T' (TbO T')) x (TxO CN (some dx) T' x)) x CN [("name",.str f)]:=.inr ⟨dx,T',jd,Ji (H:=H) hdx nx_xd hx nT'⟩
 generalize upd (upd H' T' (TbO T')) x (TxO CN (some dx) T' x)=H3 at c3 c4
 refine⟨_,rfl,x,CN,_,_,_,_,rfl,rfl,c4,nx.x,nx.kN,_,rfl,?_⟩
 refine ifY rfl ⟨_,rfl,sz2,fun tp ntp=>⟨x,CN,[("name",.str f)],tp,[CC,CW],false,rfl,jd,XX (jf ntp) c4,nx.x,any_ff nx.kC nx.kW,_,rfl,ifY rfl ⟨_,rfl,x,CN,[("name",.str f)],.str f,rfl,XX (jf ntp) c4,nx.x,nx.no,rfl,f1 _ _ ⟨_,rfl,q _ (c3.trans (Kp.of_same (jf ntp)))⟩⟩⟩⟩
noncomputable abbrev sHelds:Stmt:=top 57
def Hld(H:Hp)(nA:Addr)(d:Df)(x:V):Prop:=∃(r hv:Addr) (n:Nat) (c:Ct) (is:List Int),x= .ref r/\H r=some (.tup [.int (n:Int),.ref hv])/\(ctsOf nA d)[n]?=some c/\H hv=some (.tup (is.map V.int))/\is.length=(canon c.M).length/\∀i∈is,InT i
theorem Hld.mono{H H':Hp}(k:TMono H H'){nA:Addr}{d:Df}{x:V}(h:Hld H nA d x):Hld H' nA d x:=by
 obtain⟨r,hv,n,c,is,e,h1,h2,h3,h4⟩:=h
 exact⟨r,hv,n,c,is,e,k _ _ h1,h2,k _ _ h3,h4⟩
theorem up3{H:Hp}{a b c:Addr}{x y z:HO}(h:H a=none)(k:upd H a x b=none)(l:upd (upd H a x) b y c=none):Same H (upd (upd (upd H a x) b y) c z)/\upd (upd (upd H a x) b y) c z b=some y/\upd (upd (upd H a x) b y) c z c=some z:=⟨((jf h).trans (jf k)).trans (jf l),keepN jd l,jd⟩
def spHelds(nA:Addr):Sp:=fun vs H Q _=>∃(p:Addr) (v:V) (d:Df) (ys:List Str),vs=[.ref p,v]/\BoxAt H p/\Prt H nA d ys v/\
 ∀(l:Addr) (zs:List V) (H':Hp),H' l=some (.lst zs)->zs.length<=9000->(∀x∈zs,Hld H' nA d x)->But p H H'->Q (.ref l) H'
inductive HI(nA:Addr)(d:Df)(p l:Addr)(σ0:L2.St)(H:Hp)(m:Nat)(σ:L2.St)(H':Hp):Prop
 |mk (o3 o4:Option V) (zs:List V) (e0:σ=σ0++[o3,o4]) (e1:H' l=some (.lst zs)) (e2:zs.length<=m) (e3:∀x∈zs,Hld H' nA d x) (e4:BoxAt H' p) (e5:TMono H H') (e6:∀c o,c≠p->c≠l->H c=some o->H' c=some o):HI nA d p l σ0 H m σ H'
theorem scHelds:FnScope ["_law_box_here","_law_part","_law_found","_law_turn","_law_n"] ["_law_box_here","_law_part"] (defScope sHelds):=fsc
noncomputable def QB:Scope:=⟨.function,[(".0",.local),("_law_x",.local),("_law_number",.globalImplicit),("_law_box_here",.free)],false,false,[]⟩
theorem Z8:(["_law_x","_law_box_here"]:List Str).Nodup:=by decide+kernel
theorem Z9:CompSc ["_law_box_here","_law_part","_law_found","_law_turn","_law_n"] (defScope sHelds) QB ["_law_x","_law_box_here"] 1 [0]:=csc
theorem ok_helds{f:Addr}{fd:FuncData}{nA fU:Addr}{fdU:FuncData}(F:Fun K "_law_helds" "_law_helds" sHelds f fd)(cU:Cl P w K mg base 2 fU fdU ["_law_box_here"] spNum "_law_number")(ml:mg "len"=none)(mr:mg "range"=none)(mtu:mg "tuple"=none):FnOk P w K mg base CX0 3 f fd ["_law_box_here","_law_part"] (spHelds nA):=by
 refine F.ok scHelds (fun vs H Q E h=>?_) (fun cdv A outer s H vs Q E hr h=>?_)
 ·refine opq fun Gq kq=>?_
  obtain⟨p,v,d,ys,rfl,_⟩:=h
  refine kq ?_
  clear kq
  rfl
 refine opq fun Gq kq=>?_
 obtain⟨p,v,d,ys,rfl,B,hp,q⟩:=h
 refine kq ?_
 clear kq
 refine⟨_,(je (jo (i:=2) scHelds.nd rfl (Or.inl rfl) (jH jb)) (je (@kl _ _ _ _ _ _ _ _ PassesOwn.never rfl (@ke _ _ _ _ _ _ rfl mr (ja jc jb) (by rfl)) (jx (i:=3) scHelds.nd rfl (Or.inl rfl)) (jh (@kl _ _ _ _ _ _ _ _ PassesOwn.never rfl (@ke _ _ _ _ _ _ rfl mr (ja (@jB _ _ _ _ _ _ _ _ _ jL rfl ml PySem.boot_len (ja (@jk _ _ _ _ _ _ _ jq (pv 1) jc (fun _ _=>rfl)) jb) (by decide) (by decide) (by rfl) (by rfl)) jb) (by rfl)) (jx (i:=4) scHelds.nd rfl (Or.inl rfl)) (jh (jY (@kD _ _ _ _ _ _ _ _ _ _ _ _ PySem.F.plainAttrs_list PySem.F.slot_list_append PySem.F.type_list_append jP (pv 2) (ja (jj (ja (pv 4) (ja (@jC _ _ _ _ _ _ _ _ _ jI rfl mtu boot_tuple (ja (@kA _ _ _ _ _ _ _ (["_law_x","_law_box_here"]) (1) ([0]) _ _ _ _ rfl (@zj _ _ _ _ (@jk _ _ _ _ _ _ _ jq (@jk _ _ _ _ _ _ _ jq (@jk _ _ _ _ _ _ _ jq (pv 1) jc (fun _ _=>rfl)) (pv 4) (fun _ _=>rfl)) jc (fun _ _=>rfl))) Z9 (fun _ _ _ _ _=>(jx (i:=0) Z8 rfl (Or.inl rfl))) (fun _ _ _ _ _=>(@kU _)) (fun _ _ _ _ _=>(jg cU.g hr.m rfl cU.m cU.k cU.b .nil pass0 (ja (pv 1) jb))) (by intro _;rfl)) jb) (by decide) (by decide) (by rfl) (by rfl)) jb))) jb) (by rfl) (by rfl) (by rfl) (by rfl) (by rfl)))) (by intro _;rfl))) (by intro _;rfl)) (jh (jp (pv 2))))),?_⟩
 try dsimp only[cxOf,Cx.nox,Cx.wish]
 have big:=line24
 obtain⟨a,ca,pwv,cs,rfl,ha,_,hca,hcs⟩:=hp.parts
 have cl:=zA hcs
 rw[List.length_map,XT]at cl
 have c3:=j9 d.b
 have c4:=hp.sz
 refine seqF fun F1 f1=>⟨Nat.zero_le _,fun l nl=>f1 _ _ ?_⟩
 clear f1
 have lp:l≠p:=B.ne nl
 have s1:Same H (upd H l (.lst [])):=jf nl
 have l1:upd H l (.lst []) l=some (.lst []):=jd
 generalize upd H l (.lst [])=H1 at s1 l1
 have B1:=B.same s1
 have hp1:=hp.mono (Same.tm s1)
 have ha1:=s1 _ _ ha
 have hca1:=s1 _ _ hca
 refine seqF fun F1 f1=>forE fun J j=>⟨3,rfl,by decide,by decide,j _ _ ?_⟩
 clear j
 refine kJ (lo:=0) (fun m σ H'=>HI nA d p l [some (.ref p),some (.ref a),some (.ref l)] H1 (m*3000) σ H') ⟨_,_,[],rfl,l1,Nat.zero_le _,(fun _ h=>absurd h List.not_mem_nil),B1,(fun _ _ h=>h),fun _ _ _ _ h=>h⟩ ?_ (fun σ H' h=>f1 _ _ ?_)
 ·intro E2 hE2 m σ H2 hm fin2 Gq kq h
  obtain⟨o3,o4,zs,rfl,l2,zl,zok,B2,t2,k2⟩:=h
  clear f1
  refine kq ?_
  clear kq
  refine forE fun J j=>⟨_,rfl,a,_,_,_,rfl,rfl,SqT.of (t2 _ _ ha1),jE (j:=3) rfl,ca,_,rfl,.inr (SqT.of (t2 _ _ hca1)),cs.length,rfl,by omega,by omega,j _ _ ?_⟩
  clear j
  refine kJ (lo:=0) (fun n σ H'=>HI nA d p l [some (.ref p),some (.ref a),some (.ref l)] H1 (m*3000+n) σ H') ⟨_,_,zs,rfl,l2,zl,zok,B2,t2,k2⟩ ?_ (fun σ H' h=>?_)
  ·intro E3 hE3 n σ H3 hn fin3 Gq kq h
   obtain⟨o3',o4',zs,rfl,l3,zl,zok,B3,t3,k3⟩:=h
   clear fin2
   refine kq ?_
   clear kq
   have en:(0:Int)+(n:Int)=(n:Int):=by omega
   rw[en]
   have hnc:n < (ctsOf nA d).length:=by rw[XT];omega
   have hc:=List.getElem?_eq_getElem hnc
   generalize (ctsOf nA d)[n]=c at hc
   have hp3:=hp1.mono t3
   obtain⟨ka,na,wa,dv,wvs,hx,cu⟩:=hp3.cut (TrH.mono (t:=listT ((ctsOf nA d).map ctT)) ((Same.tm s1).trans t3) hcs) hc
   have z1:=Nat.le_trans (YC cu.v.mem) hp.y20
   show tDrop _ E3 ([some (.ref p),some (.ref a),some (.ref l),o3',some (.int (n:Int))]) H3
   refine⟨_,rfl,.inl ⟨rfl,_,SqL.of l3⟩,_,rfl,_,rfl,a,_,_,_,rfl,rfl,SqT.of (t3 _ _ ha1),jE (j:=3) rfl,_,rfl,ca,_,_,_,rfl,rfl,SqT.of (t3 _ _ hca1),jE hx,ka,_,_,_,rfl,rfl,SqT.of cu.at',at0,na,rfl,⟨_,SqT.of cu.nms⟩,?_⟩
   refine za (K:=K) (xs:=(canon c.M).map V.str) (by rw[List.length_map];omega) (fun i zs Hx=>(∃is:List Int,is.length=i/\zs=is.map V.int/\∀j∈is,InT j)/\BoxAt Hx p/\But p H3 Hx) ⟨⟨[],rfl,rfl,(fun _ h=>absurd h List.not_mem_nil)⟩,B3,But.refl⟩ (fun i zs Hx h=>?_) (fun i x zs Hx hx h=>?_) (fun zs2 Hx h q1 nq1=>?_)
   ·obtain⟨⟨is,e1,rfl,_⟩,Bx,kx⟩:=h
    exact⟨SqT.of (kx.tm B3 _ _ cu.nms),by rw[List.length_map,e1];exact Nat.le_refl _⟩
   ·obtain⟨⟨is,e1,rfl,hi⟩,Bx,kx⟩:=h
    refine⟨_,rfl,p,rfl,Bx,fun e H7 e0 e1' B7 e7=>⟨⟨is++[e],by rw[List.length_append,e1];rfl,by rw[List.map_append];rfl,fun j hj=>?_⟩,B7,kx.trans (But.of_eq e7)⟩⟩
    rcases List.mem_append.mp hj with hj |hj
    ·exact hi j hj
    ·rw[List.mem_singleton.mp hj];exact⟨e0,e1'⟩
   obtain⟨⟨is,e1,rfl,hin⟩,Bx,kx⟩:=h
   rw[List.length_map]at e1
   refine⟨q1,_,rfl,.inl ⟨SqL.of jd,fun hv nhv=>⟨sz2,fun r nr=>?_⟩⟩⟩
   obtain⟨sx,hh,hr1⟩:=up3 nq1 nhv nr
   generalize upd (upd (upd Hx q1 (.lst (is.map V.int))) hv (.tup (is.map V.int))) r (.tup [.int (n:Int),.ref hv])=H4 at sx hh hr1
   have l4:=sx _ _ (kx _ _ lp l3)
   have B4:=Bx.same sx
   have t4:TMono H3 H4:=(kx.tm B3).trans (Same.tm sx)
   refine⟨l,_,_,rfl,rfl,l4,by omega,?_⟩
   have t5:TMono H4 (upd H4 l (.lst (zs++[.ref r]))):=fun b us e=>by rw[jm (fun x=>by rw[x,l4]at e;cases e)];exact e
   refine fin3 _ _ ⟨_,_,_,rfl,jd,by rw[List.length_append,List.length_singleton];omega,fun x hx=>?_,B4.eq (jm (Ne.symm lp)),t3.trans (t4.trans t5),fun c o h1 h2 h3=>by rw[jm h2];exact sx _ _ (kx _ _ h1 (k3 c o h1 h2 h3))⟩
   rcases List.mem_append.mp hx with hx |hx
   ·exact(zok x hx).mono (t4.trans t5)
   ·rw[List.mem_singleton.mp hx]
    exact⟨r,hv,n,c,is,rfl,t5 _ _ hr1,hc,t5 _ _ hh,e1,hin⟩
  ·obtain⟨o3',o4',zs,rfl,l3,zl,zok,B3,t3,k3⟩:=h
   exact fin2 _ _ ⟨_,_,zs,rfl,l3,by omega,zok,B3,t3,k3⟩
 ·obtain⟨o3',o4',zs,rfl,l3,zl,zok,B3,t3,k3⟩:=h
  exact⟨_,rfl,q l zs H' l3 zl zok fun c o n e=>k3 c o n (jv e nl) (s1 _ _ e)⟩
noncomputable abbrev sLaw:Stmt:=top 58
theorem JB:∀{ts:List Tr} {k:Nat},(∀t∈ts,t.dep<=k)->(listT ts).dep<=k
 | [],_,_=>Nat.zero_le _
 |t::ts,k,h=>by
  have h1:=h t List.mem_cons_self
  have h2:=JB (ts:=ts) (k:=k) fun u hu=>h u (List.mem_cons_of_mem _ hu)
  show max t.dep (listT ts).dep<=k
  omega
theorem zg{ts:List Tr}{k:Nat}(h:∀t∈ts,t.dep<=k):(tupT ts).dep<=k+1:=Nat.succ_le_succ (JB h)
theorem zU{α:Type}{f:α->Tr}{xs:List α}{k:Nat}(h:∀x∈xs,(f x).dep<=k):∀t∈xs.map f,t.dep<=k:=fun t ht=>by
 obtain⟨x,hx,rfl⟩:=List.mem_map.mp ht
 exact h x hx
theorem XY(w:Wy):(wayT w).dep<=3:=by
 refine zg (k:=2) fun t ht=>?_
 rcases List.mem_cons.mp ht with rfl |ht
 ·exact zg (k:=1) (zU fun x _=>Nat.le_refl 1)
 ·rw[List.mem_singleton.mp ht]
  cases w.goal with
  |go n=>exact(by decide:1<=2)
  |give t=>exact(by decide:1<=2)
theorem dep_ct(c:Ct):(ctT c).dep<=5:=by
 refine zg (k:=4) fun t ht=>?_
 rcases List.mem_cons.mp ht with rfl |ht
 ·exact Nat.le_trans (zg (k:=0) (zU fun x _=>Nat.le_refl 0)) (by decide)
 ·rcases List.mem_cons.mp ht with rfl |ht
  ·cases c.d with
   |st p=>exact Nat.zero_le _
   |ask t=>exact(by decide:1<=4)
  ·rw[List.mem_singleton.mp ht]
   exact zg (k:=3) (zU fun x _=>XY x)
theorem Qj(nA:Addr)(d:Df):(partT nA d).dep<=7:=by
 refine zg (k:=6) fun t ht=>?_
 rcases List.mem_cons.mp ht with rfl |ht
 ·exact Nat.zero_le _
 ·rcases List.mem_cons.mp ht with rfl |ht
  ·exact Nat.zero_le _
  ·rcases List.mem_cons.mp ht with rfl |ht
   ·exact Nat.le_trans (XY _) (by decide)
   ·rw[List.mem_singleton.mp ht]
    exact zg (k:=5) (zU fun x _=>dep_ct x)
theorem YL(nA:Addr)(ds:List Df):(listT (ds.map (partT nA))).dep < 16:=Nat.lt_of_le_of_lt (JB (zU fun d _=>Qj nA d)) (by decide)
theorem XZ:∀{ts:List Tr},(∀t∈ts,t.Pl)->(listT ts).Pl
 | [],_=>trivial
 |t::ts,h=>⟨h t List.mem_cons_self,XZ fun u hu=>h u (List.mem_cons_of_mem _ hu)⟩
theorem Qk:∀(ts:List Tr),(listT ts).len=ts.length
 | []=>rfl
 |t::ts=>congrArg (·+1) (Qk ts)
theorem tup_pl{ts:List Tr}(h:∀t∈ts,t.Pl)(hl:ts.length<=1000):(tupT ts).Pl:=⟨XZ h,by rw[Qk];exact hl⟩
def spLaw(K:Frag):Sp:=fun vs H Q _=>∃(a:Addr) (ns:List Int),vs=[.ref a]/\SqL K H a (ns.map V.int)/\ns.length<=63/\∀H',Q (.bl true) H'
theorem de_ok{H:Hp}{ys:List Str}{k:Tab}{e:DD}(h:DDV H ys e):(deT k e).isL=false/\(deT k e).Pl/\(deT k e).dep < 4:=by
 have i1:∀i:Int,(intT i).Pl:=fun i=>.inl ⟨i,rfl⟩
 have s1:∀s:Str,(strT s).Pl:=fun s=>.inr ⟨s,rfl⟩
 cases e with
 |ask t T=>exact⟨rfl,⟨⟨s1 _,i1 _,trivial⟩,(by show 2<=1000;decide)⟩,(by show 1 < 4;decide)⟩
 |st p l=>
  obtain⟨vs,_,_,hok,hct⟩:=h
  cases l with
  |rd x t T=>exact⟨rfl,⟨⟨s1 _,i1 _,trivial⟩,(by show 2<=1000;decide)⟩,(by show 1 < 4;decide)⟩
  |wr t u T U=>exact⟨rfl,⟨⟨s1 _,i1 _,i1 _,trivial⟩,(by show 3<=1000;decide)⟩,(by show 1 < 4;decide)⟩
  |cl x f' qa ts=>
   have l6:ts.length<=6:=hok.2.1
   refine⟨rfl,⟨⟨s1 _,s1 _,tup_pl (fun u hu=>?_) (by rw[List.length_map];omega),trivial⟩,(by show 3<=1000;decide)⟩,?_⟩
   ·obtain⟨x,_,rfl⟩:=List.mem_map.mp hu
    exact i1 _
   ·have e:=zg (k:=0) (zU (xs:=ts) (f:=fun c=>intT (c.2.ev k)) fun x _=>Nat.le_refl 0)
    show max 0 (max 0 (max (tupT (ts.map fun c=>intT (c.2.ev k))).dep 0))+1 < 4
    omega
  |st x t T=>cases hct
  |gv t T=>cases hct
theorem ix_tupK{X:Cx}{K:Frag}(hK:X.K=K):IxR X (rIxT K):=by
 subst hK
 exact jq
theorem KI{H:Hp}{nA:Addr}{d:Df}{v:V}(h:TrH H (partT nA d) v []):Nmd H v d.f:=by
 obtain⟨_,a,xs,rfl,ha,_,_,y0,ys0,rfl,⟨rfl,_⟩,_⟩:=h
 exact⟨a,_,rfl,ha⟩
theorem up1{H:Hp}{l:Addr}{o:HO}(n:H l=none):Same H (upd H l o)/\upd H l o l=some o:=⟨jf n,jd⟩
theorem up2{H:Hp}{l m:Addr}{o u:HO}(n:H l=none)(k:upd H l o m=none):Same H (upd (upd H l o) m u)/\upd (upd H l o) m u m=some u:=⟨(jf n).trans (jf k),jd⟩
noncomputable abbrev Z6(a p r:Addr)(u v:V)(f:Addr)(t:L2.St):L2.St:=some (.ref a)::some (.ref p)::some (.ref r)::some u::some v::some (.ref f)::t
theorem Kp.tm{H H':Hp}(k:Kp H H'):TMono H H':=fun b xs e=>k b _ (fun φ z=>by cases z) e
theorem scLaw:FnScope ["_law_script","_law_box_here","_law_program","_law_f","_law_args","_law_parts","_law_k","_law_part","_law_helds_here","_law_n","_law_held","_law_heads","_law_other"] ["_law_script"] (defScope sLaw):=fsc
noncomputable def Xj:Scope:=⟨.function,[(".0",.local),("_law_one",.local)],false,false,[]⟩
theorem nd_law1:(["_law_one"]:List Str).Nodup:=by decide+kernel
theorem cs_law1:CompSc ["_law_script","_law_box_here","_law_program","_law_f","_law_args","_law_parts","_law_k","_law_part","_law_helds_here","_law_n","_law_held","_law_heads","_law_other"] (defScope sLaw) Xj ["_law_one"] 1 []:=csc
theorem ok_law{f:Addr}{fd:FuncData}{nA fB fC fM fP fH fA fD fE fR:Addr}{fdB fdC fdM fdP fdH fdA fdD fdE fdR:FuncData}(F:Fun K "law" "law" sLaw f fd)(cB:Cl P w K mg base 1 fB fdB ["_law_script","_law_k"] (spBox K) "_law_box")(cC:Cl P w K mg base 23 fC fdC ["_law_box_here"] spCase "_law_case")(cM:Cl P w K mg base 65 fM fdM ["program"] (spMade K nA) "made")(cP:Cl P w K mg base 2 fP fdP ["parts","f"] spNa "part_of")(cH:Cl P w K mg base 3 fH fdH ["_law_box_here","_law_part"] (spHelds nA) "_law_helds")(cA:Cl P w K mg base 5 fA fdA ["_law_one","_law_other"] (spAlike 4) "_law_alike")(cD:Cl P w K mg base 8 fD fdD ["_law_part","_law_n","_law_held"] (spDeedL nA) "_law_deed")(cE:Cl P w K mg base 9 fE fdE ["part","n","held"] (spDeedL nA) "deed_at")(cR:Cl P w K mg base 5 fR fdR ["_law_parts","_law_f"] spRef "_law_refused")(ml:mg "len"=none)(mr:mg "range"=none):FnOk P w K mg base CX0 66 f fd ["_law_script"] (spLaw K):=by
 refine F.ok scLaw (fun vs H Q E h=>?_) (fun cdv A outer s H vs Q E hr h=>?_)
 ·refine opq fun Gq kq=>?_
  obtain⟨a,ns,rfl,_⟩:=h
  refine kq ?_
  clear kq
  rfl
 refine opq fun Gq kq=>?_
 obtain⟨a,ns,rfl,hS,h63,q⟩:=h
 refine kq ?_
 clear kq
 refine⟨_,(je (jo (i:=1) scLaw.nd rfl (Or.inl rfl) (jg cB.g hr.m rfl cB.m cB.k cB.b .nil pass0 (ja (pv 0) (ja jc jb)))) (je (@kQ _ _ _ _ _ _ (jg cC.g hr.m rfl cC.m cC.k cC.b .nil pass0 (ja (pv 1) jb)) (@qd _ _ _ _ _ (3) rfl (jA (jx (i:=2) scLaw.nd rfl (Or.inl rfl)) (jA (jx (i:=3) scLaw.nd rfl (Or.inl rfl)) (jA (jx (i:=4) scLaw.nd rfl (Or.inl rfl)) kL))) (by rfl) (by rfl)) (by rfl) (by rfl) (by rfl)) (je (jo (i:=5) scLaw.nd rfl (Or.inl rfl) (jg cM.g hr.m rfl cM.m cM.k cM.b .nil pass0 (ja (pv 2) jb))) (je (@kl _ _ _ _ _ _ _ _ PassesOwn.never rfl (@ke _ _ _ _ _ _ rfl mr (ja (@jB _ _ _ _ _ _ _ _ _ jL rfl ml PySem.boot_len (ja (pv 5) jb) (by decide) (by decide) (by rfl) (by rfl)) jb) (by rfl)) (jx (i:=6) scLaw.nd rfl (Or.inl rfl)) (je (jo (i:=7) scLaw.nd rfl (Or.inl rfl) (@jk _ _ _ _ _ _ _ jq (pv 5) (pv 6) (fun _ _=>rfl))) (je (jy (@jl _ _ _ _ _ _ _ _ (op_neTr (d:=16) (Nat.lt_of_le_of_lt (Nat.add_le_add_left (by decide:16<=64) _) hr.units)) (jg cP.g hr.m rfl cP.m cP.k cP.b .nil pass0 (ja (pv 5) (ja (@jk _ _ _ _ _ _ _ jq (@jk _ _ _ _ _ _ _ jq (pv 2) (pv 6) (fun _ _=>rfl)) jc (fun _ _=>rfl)) jb))) (pv 7) (nomark _)) (jh (jp (@Xk _ _ _ _))) jr) (je (jo (i:=8) scLaw.nd rfl (Or.inl rfl) (jg cH.g hr.m rfl cH.m cH.k cH.b .nil pass0 (ja (jg cB.g hr.m rfl cB.m cB.k cB.b .nil pass0 (ja (pv 0) (ja (jw jS jc (pv 6)) jb))) (ja (pv 7) jb)))) (jh (@kl _ _ _ _ _ _ _ _ PassesOwn.never rfl (@zS _ _ _ _ (jw zK (pv 8) (@jK _ _ _ _ _ _ _ _ _ _ j8 (pv 8) (@jZ _) (@jF _ _ _ jc)))) (@qd _ _ _ _ _ (2) rfl (jA (jx (i:=9) scLaw.nd rfl (Or.inl rfl)) (jA (jx (i:=10) scLaw.nd rfl (Or.inl rfl)) kL)) (by rfl) (by rfl)) (jh (jy (@QC _ _ _ _ (@qc _ _ _ (jg cA.g hr.m rfl cA.m cA.k cA.b .nil pass0 (ja (jg cD.g hr.m rfl cD.m cD.k cD.b .nil pass0 (ja (pv 7) (ja (pv 9) (ja (pv 10) jb)))) (ja (jg cE.g hr.m rfl cE.m cE.k cE.b .nil pass0 (ja (pv 7) (ja (pv 9) (ja (pv 10) jb)))) jb))) (by intro _;rfl))) (jh (jp (@Xk _ _ _ _))) jr)) (by intro _;rfl)))))) (by intro _;rfl)) (je (@Xx _ _ _ _ _ _ _ _ _ _ (11) (["_law_one"]) (1) ([]) _ _ _ _ scLaw.nd rfl (Or.inl rfl) rfl (@zj _ _ _ _ (pv 2)) cs_law1 (fun _ _ _ _ _=>(jx (i:=0) nd_law1 rfl (Or.inl rfl))) (fun _ _ _ _ _=>(@kU _)) (fun _ _ _ _ _=>(@jk _ _ _ _ _ _ _ (ix_tupK (K:=K) rfl) (pv 0) jc (fun _ _=>rfl))) (by rfl) (by first |exact .inl rfl |exact .inr rfl) (by intro _;rfl)) (je (@kl _ _ _ _ _ _ _ _ PassesOwn.never rfl (@zS _ _ _ _ (jH (ja ji (ja ji (ja (jw km (@jK _ _ _ _ _ _ _ _ _ _ Y3 (@jk _ _ _ _ _ _ _ ju (pv 11) jc (fun _ _=>rfl)) (@jZ _) (@jF _ _ _ (@YM _ _ _ _ _ _ QE jc))) ji) (ja (jw km (@jK _ _ _ _ _ _ _ _ _ _ Y3 (@jk _ _ _ _ _ _ _ ju (pv 11) (@YM _ _ _ _ _ _ QE jc) (fun _ _=>rfl)) (@jZ _) (@jF _ _ _ (@YM _ _ _ _ _ _ QE jc))) ji) jb)))))) (jx (i:=12) scLaw.nd rfl (Or.inl rfl)) (jh (jy (L2.PW.pt (@qD _ _ _ _ _ _ _ (@jl _ _ _ _ _ _ _ _ zE (pv 12) (pv 11) rfl) (@zR _ _ _ _ (@jl _ _ _ _ _ _ _ _ Xm (jg cR.g hr.m rfl cR.m cR.k cR.b .nil pass0 (ja (pv 5) (ja (pv 12) jb))) (pv 12) (nomark _))))) (jh (jp (@Xk _ _ _ _))) jr)) (by intro _;rfl)) (jh (jp (@ky _ _ _ _ _ _ _ _ (op_eqTr (d:=16) (Nat.lt_of_le_of_lt (Nat.add_le_add_left (by decide:16<=64) _) hr.units)) (pv 5) (jg cM.g hr.m rfl cM.m cM.k cM.b .nil pass0 (ja (pv 2) jb)) (nomark _)))))))))),?_⟩
 try dsimp only[cxOf,Cx.nox,Cx.wish]
 have big:=line24
 refine seqF fun F1 f1=>⟨_,rfl,a,ns,1,rfl,hS,by decide,by decide,fun p H1 np B1 e1=>f1 _ _ ?_⟩
 clear f1
 refine seqF fun F1 f1=>⟨_,rfl,p,rfl,B1,fun t r v2 v3 ds xs H2 ht hr2 hD l1 l8 hdn hpa B2 k2=>⟨t,_,rfl,SqT.of ht,rfl,_,_,rfl,_,_,rfl,_,_,rfl,rfl,f1 _ _ ?_⟩⟩
 clear f1
 obtain⟨hok,hnd,hnl⟩:=hdn
 have s2:Same H H2:=fun c o e=>k2 _ _ (jv e np) (by rw[e1 c (jv e np)];exact e)
 have lx:=hD.len
 refine seqF fun F1 f1=>⟨_,rfl,r,ds,xs,rfl,hr2,hD,by omega,hok,fun v H5 tv s5=>f1 _ _ ?_⟩
 clear f1
 have tv0:=tv
 refine opq fun Gq kq=>?_
 obtain⟨_,fa,fs,rfl,hfa,hfs⟩:=tv
 refine kq ?_
 clear kq
 have lf:=zA hfs
 rw[List.length_map]at lf
 have s05:=s2.trans s5
 have r5:=s5 _ _ hr2
 have D5:=hD.mono (Same.tm s5)
 refine seqF fun F1 f1=>forE fun J j=>⟨_,rfl,fa,_,rfl,.inr (SqT.of hfa),_,rfl,by omega,by omega,j _ _ ?_⟩
 clear j
 refine kJ (lo:=0) (fun i σ H'=>∃o6 o7 o8 o9 o10,σ=(Z6 a p r v2 v3 fa [o6,o7,o8,o9,o10,none,none])/\Same H5 H') ⟨_,_,_,_,_,rfl,Same.refl _⟩ ?_ (fun σ H' h=>f1 _ _ ?_)
 ·intro E hE i σ H6 hi fin Gq kq h
  obtain⟨o6,o7,o8,o9,o10,rfl,s6⟩:=h
  clear f1
  have hif:i < fs.length:=by omega
  have hx:fs[i]?=some fs[i]:=List.getElem?_eq_getElem hif
  generalize fs[i]=v at hx
  obtain⟨tr,ht1,tx⟩:=Jv hfs i v hx
  rw[List.getElem?_map]at ht1
  obtain⟨d,hd,rfl⟩:=Option.map_eq_some_iff.mp ht1
  have dm:=List.mem_of_getElem? hd
  obtain⟨⟨ys,y20,okb⟩,hdp,hsz⟩:=hok d dm
  have hxi:i < xs.length:=by omega
  have hxr:=List.getElem?_eq_getElem hxi
  generalize xs[i]=xr at hxr
  obtain⟨d',hd',bs,rfl,hdt,_,hbd⟩:=D5.at i _ hxr
  rw[hd]at hd'
  cases hd'
  have P5:Prt H5 nA d ys v:=⟨tx,⟨bs,hbd⟩,okb,y20,hsz⟩
  obtain⟨va,ca,pwv,cs,rfl,hva,hvw,hca,hcs⟩:=P5.parts
  refine kq ?_
  clear kq
  have ei:(0:Int)+(i:Int)=(i:Int):=by omega
  rw[ei]
  show tSeq (tAsg _ _) _ E ((Z6 a p r v2 v3 fa [some (.int (i:Int)),o7,o8,o9,o10,none,none])) H6
  refine seqF fun F1 f1=>⟨_,rfl,_,rfl,fa,_,_,_,rfl,rfl,SqT.of (s6 _ _ hfa),jE hx,f1 _ _ ?_⟩
  clear f1
  have t6:=Same.tm s6
  refine seqF fun F1 f1=>⟨_,rfl,_,rfl,_,rfl,r,_,_,_,rfl,rfl,SqT.of (s6 _ _ r5),jE hxr,d.p,_,_,_,rfl,rfl,SqT.of (s6 _ _ hdt),at0,fa,d.f,fs,i,.ref va,rfl,s6 _ _ hfa,hx,KI (tx.mono t6),fun j x hj hjx=>?_,_,rfl,?_⟩
  ·obtain⟨tr,ht2,tx2⟩:=Jv hfs j x hjx
   rw[List.getElem?_map]at ht2
   obtain⟨d2,hd2,rfl⟩:=Option.map_eq_some_iff.mp ht2
   refine⟨d2.f,KI (tx2.mono t6),fun ef=>?_⟩
   have hil:=(List.getElem?_eq_some_iff.mp hd).1
   refine JA.mp hnd j i hj (by rw[List.length_map];exact hil) ?_
   rw[List.getElem?_map,List.getElem?_map,hd,hd2]
   exact congrArg some ef
  have dl:=Qj nA d
  refine⟨listT [strT d.f,refT d.pa,wayT (run17 nA d).1.w,tupT ((run17 nA d).2.reverse.map ctT)],Nat.lt_of_lt_of_le (Nat.lt_succ_self _) (Nat.le_trans dl (by decide)),TrH.at (tx.mono t6),TrH.at (tx.mono t6),_,rfl,iteF (f1 _ _ ?_)⟩
  clear f1
  refine seqF fun F1 f1=>⟨_,rfl,_,rfl,_,_,rfl,rfl,a,ns,2+(i:Int),rfl,(s05.trans s6).seq hS,by omega,by omega,fun rb H7 nrb B7 e7=>?_⟩
  have k67:Same H6 H7:=fun c o e=>by rw[e7 c (jv e nrb)];exact e
  have s7:=s6.trans k67
  have n5:H5 rb=none:=s6.free nrb
  refine⟨_,rfl,rb,.ref va,d,ys,rfl,B7,P5.mono (Same.tm s7),fun lh zs H8 hl8 zl zok k8=>f1 _ _ ?_⟩
  clear f1
  have s8:Same H5 H8:=fun c o e=>k8 _ _ (jv e n5) (s7 _ _ e)
  refine forE fun J j=>⟨_,rfl,_,rfl,1,rfl,lh,zs,rfl,SqL.of hl8,fun pz npz=>⟨lh,pz,zs,_,rfl,rfl,jf npz _ _ hl8,jd,?_,fun p2 np2=>⟨p2,rfl,⟨_,SqL.of jd⟩,j _ _ ?_⟩⟩⟩
  ·have:(cutV zs none (some 1)).length<=zs.length:=by unfold cutV;rw[List.length_take,List.length_drop];omega
   omega
  clear j
  obtain⟨sF,pF⟩:=up2 npz np2
  generalize upd (upd H8 pz (.lst (cutV zs none (some 1)))) p2 (.lst (zs++cutV zs none (some 1)))=HF at sF pF
  have sF5:=s8.trans sF
  refine qK (K:=K) (a:=p2) (xs:=zs++cutV zs none (some 1)) (fun m σ H2=>∃o9' o10',σ=(Z6 a p r v2 v3 fa [some (.int (i:Int)),some (.ref va),some (.ref lh),o9',o10',none,none])/\Same HF H2) ⟨_,_,rfl,Same.refl _⟩ (fun m σ H2 _ h=>by obtain⟨_,_,_,h⟩:=h;exact SqL.of (h _ _ pF)) ?_ (fun σ H2 h=>?_)
  ·intro E2 hE2 m x σ HG hx2 fin2 Gq kq h
   obtain⟨o9',o10',rfl,sG⟩:=h
   have xm:x∈zs:=by
    rcases List.mem_append.mp (List.mem_of_getElem? hx2) with h |h
    ·exact h
    ·exact List.mem_of_mem_drop (List.mem_of_mem_take h)
   obtain⟨rr,hv,n,c,is,rfl,hrr,hc,hh,hl,hin⟩:=zok x xm
   refine kq ?_
   clear kq
   have sFG:=sF.trans sG
   have PG:=P5.mono (Same.tm (sF5.trans sG))
   have sG5:=sF5.trans sG
   refine tgE fun F6 f6=>⟨rr,_,rfl,SqT.of (sFG _ _ hrr),rfl,_,_,rfl,_,_,rfl,rfl,f6 _ _ ?_⟩
   clear f6
   obtain⟨ka,na,wa,dv,wvs,hxx,cu⟩:=PG.cut (TrH.mono (t:=listT ((ctsOf nA d).map ctT)) (Same.tm sG5) hcs) hc
   obtain⟨e,he,hev⟩:=dd_of (cu.v.deed)
   have ok:=fun k=>de_ok (k:=k) hev
   show tIfS _ _ _ E2 ((Z6 a p r v2 v3 fa [some (.int (i:Int)),some (.ref va),some (.ref lh),some (.int (n:Int)),some (.ref hv),none,none])) HG
   exact⟨_,rfl,_,rfl,_,rfl,.ref va,n,hv,d,ys,c,is,e,rfl,PG,hc,sFG _ _ hh,hl,hin,he,hev,fun u1 HI t1 sI=>⟨_,rfl,_,rfl,_,rfl,.ref va,n,hv,d,ys,c,is,e,rfl,PG.mono (Same.tm sI),hc,sI _ _ (sFG _ _ hh),hl,hin,he,hev.mono (Same.tm sI),fun u2 HJ t2 sJ=>⟨u1,u2,_,rfl,t1.mono (Same.tm sJ),t2,(ok _).1,(ok _).2.1,(ok _).2.2,fun HK sK=>⟨_,rfl,iteF (fin2 _ _ ⟨_,_,rfl,sG.trans (sI.trans (sJ.trans sK))⟩)⟩⟩⟩⟩
  ·obtain⟨o9',o10',rfl,sG⟩:=h
   exact fin _ _ ⟨_,_,_,_,_,rfl,sF5.trans sG⟩
 ·obtain⟨o6,o7,o8,o9,o10,rfl,s6⟩:=h
  clear f1
  have r6:=s6 _ _ r5
  have D6:=D5.mono (Same.tm s6)
  refine seqF fun F1 f1=>⟨_,rfl,r,rfl,⟨_,SqT.of r6⟩,?_⟩
  refine za (K:=K) (xs:=xs) (by omega) (fun i zs Hx=>zs=(ds.take i).map (fun d=>V.str d.f)/\Hx=H') ⟨rfl,rfl⟩ (fun i zs Hx h=>?_) (fun i x zs Hx hx h=>?_) (fun zs Hx h lh nlh=>f1 _ _ ?_)
  ·obtain⟨rfl,rfl⟩:=h
   exact⟨SqT.of r6,by rw[List.length_map,List.length_take];omega⟩
  ·obtain⟨rfl,rfl⟩:=h
   obtain⟨d,hd,bs,rfl,hdt,_⟩:=D6.at i x hx
   refine⟨_,rfl,d.p,_,_,_,rfl,rfl,SqT.of hdt,at0,?_,rfl⟩
   rw[List.take_add_one,hd,List.map_append]
   rfl
  obtain⟨rfl,rfl⟩:=h
  clear f1
  rw[lx,List.take_length]
  obtain⟨s7,h7⟩:=up1 (o:=.lst (ds.map fun d=>V.str d.f)) nlh
  show tSeq _ _ _ ((Z6 a p r v2 v3 fa [o6,o7,o8,o9,o10,some (.ref lh),none])) (upd Hx lh (.lst (ds.map fun d=>V.str d.f)))
  generalize upd Hx lh (.lst (ds.map fun d=>V.str d.f))=H7 at s7 h7
  have hl0:0 < ds.length:=by omega
  have at1':atI (ds.map fun d=>V.str d.f) 0=some (.str ds[0].f):=jE (j:=0) (by rw[List.getElem?_map,List.getElem?_eq_getElem hl0];rfl)
  have atL:atI (ds.map fun d=>V.str d.f) (-1)=some (.str (ds[ds.length - 1]'(by omega)).f):=by
   have e:ixN (ds.map fun d=>V.str d.f).length (-1)=some (ds.length - 1):=by
    unfold ixN
    rw[List.length_map,if_neg (by decide),if_pos (by omega)]
    congr 1
    omega
   unfold atI
   rw[e]
   show(ds.map fun d=>V.str d.f)[ds.length - 1]?=_
   rw[List.getElem?_map,List.getElem?_eq_getElem (by omega)]
   rfl
  have b0:=hnl ds[0].f (List.mem_map.mpr ⟨_,List.getElem_mem hl0,rfl⟩)
  have b1:=hnl (ds[ds.length - 1]'(by omega)).f (List.mem_map.mpr ⟨_,List.getElem_mem (by omega),rfl⟩)
  refine seqF fun F1 f1=>forE fun J j=>⟨_,rfl,lh,_,_,_,rfl,rfl,SqL.of h7,at1',1,rfl, -1,rfl,_,rfl,by omega,fun z1 hz1=>⟨_,_,rfl,rfl,(by show z1.length+1<=sizeLine;omega),_,rfl,1,rfl,lh,_,_,_,rfl,rfl,SqL.of h7,atL,1,rfl, -1,rfl,_,rfl,by omega,fun z2 hz2=>⟨_,_,rfl,rfl,(by show z2.length+1<=sizeLine;omega),sz4,fun lq nlq=>⟨lq,rfl,⟨_,SqL.of jd⟩,j _ _ ?_⟩⟩⟩⟩
  clear j
  generalize z1++("q":Str)=w1 at nlq ⊢
  generalize z2++("x":Str)=w2 at nlq ⊢
  obtain⟨s8,q8⟩:=up1 (o:=.lst ((["a","q",w1,w2]:List Str).map V.str)) nlq
  show ForW _ _ _ _ ((Z6 a p r v2 v3 fa [o6,o7,o8,o9,o10,some (.ref lh),none])) (upd H7 lq (.lst ((["a","q",w1,w2]:List Str).map V.str)))
  generalize upd H7 lq (.lst ((["a","q",w1,w2]:List Str).map V.str))=H8 at s8 q8
  generalize (["a","q",w1,w2]:List Str)=os at q8
  have h8:=s8 _ _ h7
  have s58:=(s6.trans s7).trans s8
  have nxl:∀zs,NX (HO.lst zs):=fun zs φ z=>by cases z
  refine qK (K:=K) (a:=lq) (xs:=os.map V.str) (fun m σ H2=>∃o12,σ=(Z6 a p r v2 v3 fa [o6,o7,o8,o9,o10,some (.ref lh),o12])/\Kp H8 H2) ⟨_,rfl,fun _ _ _ e=>e⟩ (fun m σ H2 _ h=>by obtain⟨_,_,h⟩:=h;exact SqL.of (h _ _ (nxl _) q8)) ?_ (fun σ H2 h=>f1 _ _ ?_)
  ·intro E2 hE2 m x σ HG hx2 fin2 Gq kq h
   obtain⟨o12,rfl,kG⟩:=h
   clear f1
   rw[List.getElem?_map]at hx2
   obtain⟨ot,hot,rfl⟩:=Option.map_eq_some_iff.mp hx2
   refine kq ?_
   clear kq
   have hG:=kG _ _ (nxl _) h8
   have tG:TMono H5 HG:=(Same.tm s58).trans kG.tm
   show tIfS _ _ _ E2 ((Z6 a p r v2 v3 fa [o6,o7,o8,o9,o10,some (.ref lh),some (.str ot)])) HG
   refine ifG fun G' g'=>⟨_,rfl,_,rfl,lh,_,rfl,.inl (SqL.of hG),rfl,(by rw[List.all_eq_true];intro v hv;obtain⟨e,_,rfl⟩:=List.mem_map.mp hv;rfl),_,rfl,?_⟩
   refine ite2 (fun ca=>?_) (fun ca=>?_)
   ·have nin:∀d∈ds,d.f≠ot:=fun d hd e=>by
     have ca':(!inV (.str ot) (ds.map fun d=>V.str d.f))=true:=ca
     rw[Bool.not_eq_true']at ca'
     unfold inV at ca'
     rw[List.any_eq_false]at ca'
     exact ca' (.str d.f) (List.mem_map.mpr ⟨d,hd,rfl⟩) (by rw[e];simp [eqV])
    refine⟨_,rfl,_,rfl,fa,ot,fs,rfl,tG _ _ hfa,fun x hx=>?_,fun HI kI=>⟨_,rfl,rfl,_,rfl,g' _ _ (ifX (by simp) (fin2 _ _ ⟨_,rfl,kG.trans kI⟩))⟩⟩
    obtain⟨j,hj⟩:=List.getElem?_of_mem hx
    obtain⟨tr,ht2,tx2⟩:=Jv hfs j x hj
    rw[List.getElem?_map]at ht2
    obtain⟨d2,hd2,rfl⟩:=Option.map_eq_some_iff.mp ht2
    exact⟨d2.f,KI (tx2.mono tG),nin d2 (List.mem_of_getElem? hd2)⟩
   ·exact g' _ _ (iteF (fin2 _ _ ⟨_,rfl,kG⟩))
  ·obtain⟨o12,rfl,kG⟩:=h
   have tG:TMono H5 H2:=(Same.tm s58).trans kG.tm
   exact⟨_,rfl,_,rfl,r,ds,xs,rfl,tG _ _ r5,D5.mono tG,by omega,hok,fun v10 H10 tv10 s10=>⟨listT (ds.map (partT nA)),YL nA ds,(tv0.mono (tG.trans (Same.tm s10))).at,tv10.at,q _⟩⟩
theorem cls_of{K:Frag}{C:Addr}{oc:Value}{od:Option Addr}{cd:ClassData}{sl:Array (Option Value)}(e:K.lookup C=some ⟨oc,od,.cls cd,sl⟩):clsIn K C=some cd:=by unfold clsIn;rw[e]
theorem tail_B{K:Frag}{B:Addr}(e:excIn K B bmVE "ValueError.__new__"=true):tailIn K bmVE (.ref B::bmVE)=true:=by
 obtain⟨nm,q,N,bs,bm,hdct,sn,sub,ab,col,dd,k0,k1,k2,k3,k5,hK,hT,hok,hni⟩:=Yj e
 have h1:tailIn K bmVE bmVE=true:=by unfold tailIn;simp
 unfold tailIn
 dsimp only
 rw[hK]
 simp only[hok,hni,h1,beq_self_eq_true,Bool.and_self,Bool.or_true]
@[elab_as_elim] theorem us1 {P:List Value->Prop}:∀(us:List Value),us.length=1->(∀a,P [a])->P us
 | [a],_,q=>q a
theorem _root_.L2.Fun.b1{K:Frag}{x q:Str}{st:Stmt}{f:Addr}{fd:FuncData}{ps:List Str}(F:Fun K x q st f fd)(h:∀(kV doc pm:Value) (an:Option Addr) (cdv ct a:Value),bindArgs (fnOf x q (defArgs st) (defBody st) (defScope st) .none kV doc pm an cdv ct) ⟨[a],[]⟩=pure (ps.zip [a]):=by intros;rfl)(e:ps.length=1:=by rfl):Binds K fd ps []:=F.binds fun kV doc pm an cdv ct us hl=>us1 us (hl.trans e) fun a=>h kV doc pm an cdv ct a
@[elab_as_elim] theorem us2 {P:List Value->Prop}:∀(us:List Value),us.length=2->(∀a b,P [a,b])->P us
 | [a,b],_,q=>q a b
theorem _root_.L2.Fun.b2{K:Frag}{x q:Str}{st:Stmt}{f:Addr}{fd:FuncData}{ps:List Str}(F:Fun K x q st f fd)(h:∀(kV doc pm:Value) (an:Option Addr) (cdv ct a b:Value),bindArgs (fnOf x q (defArgs st) (defBody st) (defScope st) .none kV doc pm an cdv ct) ⟨[a,b],[]⟩=pure (ps.zip [a,b]):=by intros;rfl)(e:ps.length=2:=by rfl):Binds K fd ps []:=F.binds fun kV doc pm an cdv ct us hl=>us2 us (hl.trans e) fun a b=>h kV doc pm an cdv ct a b
@[elab_as_elim] theorem us3 {P:List Value->Prop}:∀(us:List Value),us.length=3->(∀a b c,P [a,b,c])->P us
 | [a,b,c],_,q=>q a b c
theorem _root_.L2.Fun.b3{K:Frag}{x q:Str}{st:Stmt}{f:Addr}{fd:FuncData}{ps:List Str}(F:Fun K x q st f fd)(h:∀(kV doc pm:Value) (an:Option Addr) (cdv ct a b c:Value),bindArgs (fnOf x q (defArgs st) (defBody st) (defScope st) .none kV doc pm an cdv ct) ⟨[a,b,c],[]⟩=pure (ps.zip [a,b,c]):=by intros;rfl)(e:ps.length=3:=by rfl):Binds K fd ps []:=F.binds fun kV doc pm an cdv ct us hl=>us3 us (hl.trans e) fun a b c=>h kV doc pm an cdv ct a b c
@[elab_as_elim] theorem us4 {P:List Value->Prop}:∀(us:List Value),us.length=4->(∀a b c d,P [a,b,c,d])->P us
 | [a,b,c,d],_,q=>q a b c d
theorem _root_.L2.Fun.b4{K:Frag}{x q:Str}{st:Stmt}{f:Addr}{fd:FuncData}{ps:List Str}(F:Fun K x q st f fd)(h:∀(kV doc pm:Value) (an:Option Addr) (cdv ct a b c d:Value),bindArgs (fnOf x q (defArgs st) (defBody st) (defScope st) .none kV doc pm an cdv ct) ⟨[a,b,c,d],[]⟩=pure (ps.zip [a,b,c,d]):=by intros;rfl)(e:ps.length=4:=by rfl):Binds K fd ps []:=F.binds fun kV doc pm an cdv ct us hl=>us4 us (hl.trans e) fun a b c d=>h kV doc pm an cdv ct a b c d
@[elab_as_elim] theorem us5 {P:List Value->Prop}:∀(us:List Value),us.length=5->(∀a b c d e,P [a,b,c,d,e])->P us
 | [a,b,c,d,e],_,q=>q a b c d e
theorem _root_.L2.Fun.b5{K:Frag}{x q:Str}{st:Stmt}{f:Addr}{fd:FuncData}{ps:List Str}(F:Fun K x q st f fd)(h:∀(kV doc pm:Value) (an:Option Addr) (cdv ct a b c d e:Value),bindArgs (fnOf x q (defArgs st) (defBody st) (defScope st) .none kV doc pm an cdv ct) ⟨[a,b,c,d,e],[]⟩=pure (ps.zip [a,b,c,d,e]):=by intros;rfl)(e:ps.length=5:=by rfl):Binds K fd ps []:=F.binds fun kV doc pm an cdv ct us hl=>us5 us (hl.trans e) fun a b c d e=>h kV doc pm an cdv ct a b c d e
def FnAt(K:Frag)(py q:Str)(st:Stmt)(f:Addr):Prop:=∃(oc:Value) (od:Option Addr) (kV dc pm:Value) (an:Option Addr) (cd ct:Value) (sl:Array (Option Value)),K.lookup f=some ⟨oc,od,.func (fnOf py q (defArgs st) (defBody st) (defScope st) .none kV dc pm an cd ct),sl⟩/\codeIn K cd q=true/\keepIn K (.ref f)=true
def Top(K:Frag)(py:Str)(st:Stmt)(f:Addr):Prop:=nsIn K mainGlobals py=some (some (.ref f))/\FnAt K py py st f
section
variable {K:Frag}{py q:Str}{st:Stmt}{f:Addr}{oc:Value}{od:Option Addr}{kV dc pm:Value}{an:Option Addr}{cd ct:Value}{sl:Array (Option Value)}
theorem fnA(l:K.lookup f=some ⟨oc,od,.func (fnOf py q (defArgs st) (defBody st) (defScope st) .none kV dc pm an cd ct),sl⟩)(c:codeIn K cd q=true)(k:keepIn K (.ref f)=true):FnAt K py q st f:=⟨_,_,_,_,_,_,_,_,_,l,c,k⟩
theorem topA(a:nsIn K mainGlobals py=some (some (.ref f)))(l:K.lookup f=some ⟨oc,od,.func (fnOf py py (defArgs st) (defBody st) (defScope st) .none kV dc pm an cd ct),sl⟩)(c:codeIn K cd py=true)(k:keepIn K (.ref f)=true):Top K py st f:=⟨a,fnA l c k⟩
theorem FnAt.go(h:FnAt K py q st f):∃fd,Fun K py q st f fd/\keepIn K (.ref f)=true:=by
 obtain⟨oc,od,kV,dc,pm,an,cd,ct,sl,l,c,k⟩:=h
 exact⟨_,YY l c k,k⟩
theorem Top.go{h:Heap}{mg:Str->Option Value}(t:Top K py st f)(X:K.In h)(G:h.Ns mainGlobals mg):∃fd,Fun K py py st f fd/\keepIn K (.ref f)=true/\mg py=some (.ref f):=by
 obtain⟨fd,F,k⟩:=t.2.go
 exact⟨fd,F,k,mg_of X G t.1⟩
end
theorem all_mk{l:PySem.W.OpenLaw}{w:World}{K:Frag}{h:Heap}{mg:Str->Option Value}{fa fNi fOw fUb fUo fUa fBi fMc fDe fPg fPs fPm fMa fBx fTk fNu fNm fTm fPo fSt fBo fAn fOp fIn fLo fTi fBu fCa fJo fWo fNd fPf fCu fHe fWs fDa fLw fDl fAk fRf fHs fZ fmI fmB fmO fmC fmW fIN nA clsC xW xN xC xB:Addr}(X:K.In h)(G:h.Ns mainGlobals mg)(hfa:mg "law"=some (.ref fa))
  {odN:Option Addr} {nN:Nat} {slN:Array (Option Value)} {rN0 rN1 tTop:Tok} {cdE:ClassData} {ocE:Value} {odE:Option Addr} {slE:Array (Option Value)} {nmxN qnxN:Str} {nsAxN:Addr} {bsxN subxN:List Value} {snxN:List Str} {abxN:Bool} {colxN:Option Bool} {ddxN:Option Addr} {k0xN k1xN k2xN k3xN k5xN:Option Value}
  (tNi:Top K "names_in" sNamesIn fNi)
  (tOw:Top K "own_terms" sOwn fOw)
  (tUb:Top K "used_behind_terms" sUbt fUb)
  (tUo:Top K "used_ahead_of" sUof fUo)
  (tUa:Top K "used_ahead" sUah fUa)
  (tBi:Top K "bodies_in" sBin fBi)
  (tMc:Top K "many_cuts" sMany fMc)
  (tDe:Top K "deed_of" sDeed fDe)
  (tPg:Top K "place_of_give" sPgive fPg)
  (tPs:Top K "place_of_set" sPset fPs)
  (tPm:Top K "part_made" sPart fPm)
  (tMa:Top K "made" sMade fMa)
  (tBx:Top K "_law_box" sBox fBx)
  (tTk:Top K "_law_take" sTake fTk)
  (tNu:Top K "_law_number" sNumber fNu)
  (tNm:Top K "_law_names" sNames fNm)
  (tTm:Top K "_law_term" sTerm fTm)
  (tPo:Top K "_law_spot" sSpot fPo)
  (tSt:Top K "_law_statement" sStm fSt)
  (tBo:Top K "_law_body" sBody fBo)
  (tAn:Top K "_law_any" sAny fAn)
  (tOp:Top K "_law_op" sOp fOp)
  (tIn:Top K "_law_inner" sInner fIn)
  (tLo:Top K "_law_looped" sLooped fLo)
  (tTi:Top K "_law_ticking" sTicking fTi)
  (tBu:Top K "_law_busy" sBusy fBu)
  (tCa:Top K "_law_case" sCase fCa)
  (tJo:Top K "joined" sJoined fJo)
  (tWo:Top K "worth" sWorth fWo)
  (tNd:Top K "named" sNamedP fNd)
  (tPf:Top K "part_of" sPartOf fPf)
  (tCu:Top K "cut_at" sCutAt fCu)
  (tHe:Top K "held_at" sHeldAt fHe)
  (tWs:Top K "worths" sWorths fWs)
  (tDa:Top K "deed_at" sDeedAt fDa)
  (tLw:Top K "_law_worth" sLW fLw)
  (tDl:Top K "_law_deed" sDeedL fDl)
  (tAk:Top K "_law_alike" sAlike fAk)
  (tRf:Top K "_law_refused" sRefused fRf)
  (tHs:Top K "_law_helds" sHelds fHs)
  (tZ:Top K "law" sLaw fZ)
  (gNo:nsIn K mainGlobals "NOUGHT"=some (some (.ref nA))) (lNo:K.lookup nA=some ⟨.type "tuple",odN,.seq #[.str "num" rN0,.int 0 rN1] nN,slN⟩) (gCl:nsIn K mainGlobals "Cutting"=some (some (.ref clsC))) (vTop:nsIn K mainGlobals "TOP"=some (some (.int 1000000000000000000 tTop)))
  (vxW:nsIn K mainGlobals "Twice"=some (some (.ref xW)))
  (vxN:nsIn K mainGlobals "NoName"=some (some (.ref xN)))
  (vxC:nsIn K mainGlobals "NoCount"=some (some (.ref xC)))
  (vxB:nsIn K mainGlobals "BookError"=some (some (.ref xB)))
  (lE:K.lookup xB=some ⟨ocE,odE,.cls cdE,slE⟩) (tpE:typeIn K (.ref xB)=some (.type "type")) (mbE:mroIn K xB (.type "BaseException")=some true)
  (excE:excIn K xB bmVE "ValueError.__new__"=true)
  (XcxN:XCls K xN)
  (kpxN:keepIn K (.ref xN)=true) (mexN:mroIn K xN (.ref xB)=some true) (tpxN:typeIn K (.ref xN)=some (.type "type"))
  (obxN:K.lookup xN=some (excClassObj nmxN qnxN xN nsAxN bsxN (.ref xB::bmVE) true snxN subxN abxN colxN ddxN k0xN k1xN k2xN k3xN k5xN "ValueError.__new__")) (noxN:findIn K (.ref xN) "name"=some none) (caxN:specialIn K (.ref xN) "__call__"=some (some (.builtin "type.__call__"))) (tyxN:PySem.W.instIn K (.ref xN) (.type "type")=some true)
  (xIN:findIn K (.ref xN) "__init__"=some (some (.ref fIN))) (iIN:isFn K (.ref fIN)=true)
  (ck:CK K clsC) (mk:Mk K clsC fmI) (meB:Meth K clsC "place_of_body" fmB) (meO:Meth K clsC "place_of" fmO) (meC:Meth K clsC "place_of_cut" fmC) (meW:Meth K clsC "ways_of" fmW)
  (lmI:FnAt K "__init__" "Cutting.__init__" sIniM fmI)
  (lmB:FnAt K "place_of_body" "Cutting.place_of_body" sBoM fmB)
  (lmO:FnAt K "place_of" "Cutting.place_of" sPlM fmO)
  (lmC:FnAt K "place_of_cut" "Cutting.place_of_cut" sCuM fmC)
  (lmW:FnAt K "ways_of" "Cutting.ways_of" sWaM fmW)
  (lIN:FnAt K "__init__" "NoName.__init__" sInitN fIN)
  (zlen:nsIn K mainGlobals "len"=some none)
  (zint:nsIn K mainGlobals "int"=some none)
  (zrange:nsIn K mainGlobals "range"=some none)
  (zlist:nsIn K mainGlobals "list"=some none)
  (zreversed:nsIn K mainGlobals "reversed"=some none)
  (zisinstance:nsIn K mainGlobals "isinstance"=some none)
  (ztuple:nsIn K mainGlobals "tuple"=some none)
  (zsorted:nsIn K mainGlobals "sorted"=some none)
  (zset:nsIn K mainGlobals "set"=some none)
  (zzip:nsIn K mainGlobals "zip"=some none)
  (zdict:nsIn K mainGlobals "dict"=some none)
  (zmax:nsIn K mainGlobals "max"=some none)
  (zstr:nsIn K mainGlobals "str"=some none)
  (zbool:nsIn K mainGlobals "bool"=some none)
  (zall:nsIn K mainGlobals "all"=some none)
  (kt:Kt K)
  (yNN:kitOne K (.ref xN) (.ref xN)=some true) (yNC:kitOne K (.ref xN) (.ref xC)=some false) (yNW:kitOne K (.ref xN) (.ref xW)=some false)
  :∃fd:FuncData,(∀(s:Shared) (v:Value),BindsTo s fd ⟨[v],[]⟩ [("_law_script",v)])/\∀base:Heap,K.In base->base.Ns mainGlobals mg->FnOk l.prog w K mg base CX0 66 fa fd ["_law_script"] (spLaw K):=by
 have e:=hfa.symm.trans (mg_of X G tZ.1)
 cases e
 obtain⟨dNi,FNi,kNi,mNi⟩:=tNi.go X G
 obtain⟨dOw,FOw,kOw,mOw⟩:=tOw.go X G
 obtain⟨dUb,FUb,kUb,mUb⟩:=tUb.go X G
 obtain⟨dUo,FUo,kUo,mUo⟩:=tUo.go X G
 obtain⟨dUa,FUa,kUa,mUa⟩:=tUa.go X G
 obtain⟨dBi,FBi,kBi,mBi⟩:=tBi.go X G
 obtain⟨dMc,FMc,kMc,mMc⟩:=tMc.go X G
 obtain⟨dDe,FDe,kDe,mDe⟩:=tDe.go X G
 obtain⟨dPg,FPg,kPg,mPg⟩:=tPg.go X G
 obtain⟨dPs,FPs,kPs,mPs⟩:=tPs.go X G
 obtain⟨dPm,FPm,kPm,mPm⟩:=tPm.go X G
 obtain⟨dMa,FMa,kMa,mMa⟩:=tMa.go X G
 obtain⟨dBx,FBx,kBx,mBx⟩:=tBx.go X G
 obtain⟨dTk,FTk,kTk,mTk⟩:=tTk.go X G
 obtain⟨dNu,FNu,kNu,mNu⟩:=tNu.go X G
 obtain⟨dNm,FNm,kNm,mNm⟩:=tNm.go X G
 obtain⟨dTm,FTm,kTm,mTm⟩:=tTm.go X G
 obtain⟨dPo,FPo,kPo,mPo⟩:=tPo.go X G
 obtain⟨dSt,FSt,kSt,mSt⟩:=tSt.go X G
 obtain⟨dBo,FBo,kBo,mBo⟩:=tBo.go X G
 obtain⟨dAn,FAn,kAn,mAn⟩:=tAn.go X G
 obtain⟨dOp,FOp,kOp,mOp⟩:=tOp.go X G
 obtain⟨dIn,FIn,kIn,mIn⟩:=tIn.go X G
 obtain⟨dLo,FLo,kLo,mLo⟩:=tLo.go X G
 obtain⟨dTi,FTi,kTi,mTi⟩:=tTi.go X G
 obtain⟨dBu,FBu,kBu,mBu⟩:=tBu.go X G
 obtain⟨dCa,FCa,kCa,mCa⟩:=tCa.go X G
 obtain⟨dJo,FJo,kJo,mJo⟩:=tJo.go X G
 obtain⟨dWo,FWo,kWo,mWo⟩:=tWo.go X G
 obtain⟨dNd,FNd,kNd,mNd⟩:=tNd.go X G
 obtain⟨dPf,FPf,kPf,mPf⟩:=tPf.go X G
 obtain⟨dCu,FCu,kCu,mCu⟩:=tCu.go X G
 obtain⟨dHe,FHe,kHe,mHe⟩:=tHe.go X G
 obtain⟨dWs,FWs,kWs,mWs⟩:=tWs.go X G
 obtain⟨dDa,FDa,kDa,mDa⟩:=tDa.go X G
 obtain⟨dLw,FLw,kLw,mLw⟩:=tLw.go X G
 obtain⟨dDl,FDl,kDl,mDl⟩:=tDl.go X G
 obtain⟨dAk,FAk,kAk,mAk⟩:=tAk.go X G
 obtain⟨dRf,FRf,kRf,mRf⟩:=tRf.go X G
 obtain⟨dHs,FHs,kHs,mHs⟩:=tHs.go X G
 obtain⟨dmI,FmI,kmI⟩:=lmI.go
 obtain⟨dmB,FmB,kmB⟩:=lmB.go
 obtain⟨dmO,FmO,kmO⟩:=lmO.go
 obtain⟨dmC,FmC,kmC⟩:=lmC.go
 obtain⟨dmW,FmW,kmW⟩:=lmW.go
 obtain⟨dIN,FIN,kIN⟩:=lIN.go
 obtain⟨ocZ,odZ,kVZ,dcZ,pmZ,anZ,cdZ,ctZ,slZ,lZ,cZ,kZ⟩:=tZ.2
 have FZ:=YY (st:=sLaw) lZ cZ kZ
 have nlen:=mg_none_of X G zlen
 have nint:=mg_none_of X G zint
 have nrange:=mg_none_of X G zrange
 have nlist:=mg_none_of X G zlist
 have nreversed:=mg_none_of X G zreversed
 have nisinstance:=mg_none_of X G zisinstance
 have ntuple:=mg_none_of X G ztuple
 have nsorted:=mg_none_of X G zsorted
 have nset:=mg_none_of X G zset
 have nzip:=mg_none_of X G zzip
 have ndict:=mg_none_of X G zdict
 have nmax:=mg_none_of X G zmax
 have nstr:=mg_none_of X G zstr
 have nbool:=mg_none_of X G zbool
 have nall:=mg_none_of X G zall
 have hNo:Nought K nA:=fun H=>.inr ⟨_,_,_,lNo,rfl,rfl,sz2,(.cons ⟨_,rfl⟩ (.cons ⟨_,rfl⟩ .nil))⟩
 refine⟨fnOf "law" "law" (defArgs sLaw) (defBody sLaw) (defScope sLaw) .none kVZ dcZ pmZ anZ cdZ ctZ,fun s v=>.of_eq rfl,fun base _ _=>?_⟩
 have GTk:FnOk l.prog w K mg base CX0 1 fTk _ _ spTake:=ok_take FTk
 have GBx:FnOk l.prog w K mg base CX0 1 fBx _ _ (spBox K):=ok_box FBx nlen nint
 have GNu:FnOk l.prog w K mg base CX0 2 fNu _ _ spNum:=Yx FNu ⟨GTk,FTk.b2,kTk,mTk⟩
 have GNm:FnOk l.prog w K mg base CX0 2 fNm _ _ spNames:=ZM FNm GTk FTk.b2 kTk mTk nrange
 have GTm:FnOk l.prog w K mg base CX0 6 fTm _ _ (spTerm 4):=terms (P:=l.prog) (w:=w) (base:=base) FTm FTm.b3 mTm ⟨GTk,FTk.b2,kTk,mTk⟩ ⟨GNu,FNu.b1,kNu,mNu⟩ nlen 4
 have GPo:FnOk l.prog w K mg base CX0 7 fPo _ _ spSpot:=ok_spot FPo ⟨GTk,FTk.b2,kTk,mTk⟩ ⟨GTm,FTm.b3,kTm,mTm⟩
 have SS:=stms (P:=l.prog) (w:=w) (base:=base) FSt FBo ⟨GTk,FTk.b2,kTk,mTk⟩ ⟨GTm,FTm.b3,kTm,mTm⟩ ⟨GPo,FPo.b2,kPo,mPo⟩ FSt.b5 mSt FBo.b5 mBo nlen ntuple nrange
 have GBo:FnOk l.prog w K mg base CX0 21 fBo _ _ (spBody 6):=(SS 6).2
 have GAn:FnOk l.prog w K mg base CX0 22 fAn _ _ spAny:=ok_any FAn ⟨GTk,FTk.b2,kTk,mTk⟩ ⟨GNm,FNm.b2,kNm,mNm⟩ ⟨GBo,FBo.b5,kBo,mBo⟩ nlen nrange ntuple nint
 have GOp:FnOk l.prog w K mg base CX0 2 fOp _ _ spOp:=ok_op FOp ⟨GTk,FTk.b2,kTk,mTk⟩
 have GIn:FnOk l.prog w K mg base CX0 3 fIn _ _ spDefn:=ZU FIn ⟨GTk,FTk.b2,kTk,mTk⟩ ⟨GOp,FOp.b3,kOp,mOp⟩
 have GLo:FnOk l.prog w K mg base CX0 3 fLo _ _ spDefn:=YA FLo ⟨GTk,FTk.b2,kTk,mTk⟩ ⟨GOp,FOp.b3,kOp,mOp⟩ nint ntuple
 have GTi:FnOk l.prog w K mg base CX0 3 fTi _ _ spDefn:=Xf FTi ⟨GTk,FTk.b2,kTk,mTk⟩ ⟨GOp,FOp.b3,kOp,mOp⟩ nint ntuple
 have GBu:FnOk l.prog w K mg base CX0 4 fBu _ _ spBusy:=ok_busy FBu ⟨GTk,FTk.b2,kTk,mTk⟩ ⟨GOp,FOp.b3,kOp,mOp⟩ ⟨GNm,FNm.b2,kNm,mNm⟩ ⟨GLo,FLo.b4,kLo,mLo⟩ ⟨GTi,FTi.b4,kTi,mTi⟩ ⟨GIn,FIn.b4,kIn,mIn⟩
 have GCa:FnOk l.prog w K mg base CX0 23 fCa _ _ spCase:=ok_case FCa ⟨GTk,FTk.b2,kTk,mTk⟩ ⟨GNu,FNu.b1,kNu,mNu⟩ ⟨GBu,FBu.b1,kBu,mBu⟩ ⟨GAn,FAn.b3,kAn,mAn⟩ nlen ntuple
 have NS:=nmins (P:=l.prog) (w:=w) (base:=base) FNi FNi.b1 mNi nset nsorted
 have GNi:FnOk l.prog w K mg base CX0 7 fNi _ _ (spNmIn 6):=NS 6
 have GNc:FnOk l.prog w K mg base CX0 7 fNi _ _ (spNmC K):=ok_nmC (fN:=fNi) (fdN:=dNi) FNi ⟨NS 5,FNi.b1,kNi,mNi⟩ nset nsorted
 have GOw:FnOk l.prog w K mg base CX0 1 fOw _ _ spOwn:=ok_own FOw
 have US:=uahs (P:=l.prog) (w:=w) (base:=base) FUa FUb FUo FUa.b2 mUa FUb.b2 mUb FUo.b2 mUo ⟨GOw,FOw.b1,kOw,mOw⟩ ⟨GNi,FNi.b1,kNi,mNi⟩ nlist nset nsorted nreversed
 have GUo:FnOk l.prog w K mg base CX0 31 fUo _ _ (spUof 7):=(US 7).2
 have GUz:FnOk l.prog w K mg base CX0 10 fUo _ _ (spUof 0):=(US 0).2
 have GBi:FnOk l.prog w K mg base CX0 1 fBi _ _ spBin:=ok_bin FBi
 have GMc:FnOk l.prog w K mg base CX0 2 fMc _ _ spMany:=ok_many FMc ⟨GBi,FBi.b1,kBi,mBi⟩ nlist
 have GDe:FnOk l.prog w K mg base CX0 1 fDe _ _ spDeed:=ok_deed FDe
 have GPg:FnOk l.prog w K mg base CX0 8 fPg _ _ spPgive:=ZP FPg ⟨GNi,FNi.b1,kNi,mNi⟩
 have GPc:FnOk l.prog w K mg base CX0 8 fPg _ _ (spPgC K):=ok_pgC FPg ⟨GNc,FNi.b1,kNi,mNi⟩
 have GPs:FnOk l.prog w K mg base CX0 11 fPs _ _ spPset:=ok_pset FPs ⟨GUz,FUo.b2,kUo,mUo⟩
 have GmB:FnOk l.prog w K mg base CX0 63 fmB _ _ (spPB clsC 8):=pbs (P:=l.prog) (w:=w) (base:=base) ck FmB FmO FmC FmW FmB.b3 meB FmO.b3 meO FmC.b3 meC FmW.b4 meW ⟨GMc,FMc.b1,kMc,mMc⟩ ⟨GUo,FUo.b2,kUo,mUo⟩ ⟨GDe,FDe.b1,kDe,mDe⟩ ⟨GPg,FPg.b1,kPg,mPg⟩ ⟨GPs,FPs.b2,kPs,mPs⟩ nlen ntuple nreversed 8 (Nat.le_refl _)
 have GmI:FnOk l.prog w K mg base CX0 3 fmI _ _ (spIni clsC):=ok_ini FmI ck ⟨GMc,FMc.b1,kMc,mMc⟩
 have GPm:FnOk l.prog w K mg base CX0 64 fPm _ _ (spPart K nA):=ok_part FPm ck mk GmI FmI.b2 (mg_of X G gCl) (mg_of X G gNo) hNo GmB FmB.b3 meB ⟨GPc,FPg.b1,kPg,mPg⟩ ntuple nreversed
 have GMa:FnOk l.prog w K mg base CX0 65 fMa _ _ (spMade K nA):=ok_made FMa ⟨GPm,FPm.b3,kPm,mPm⟩ ntuple
 have GJo:FnOk l.prog w K mg base CX0 1 fJo _ _ spJoin:=YB FJo (mg_of X G vTop)
 have GWo:FnOk l.prog w K mg base CX0 7 fWo _ _ (spWorth K 6):=worths (P:=l.prog) (w:=w) (base:=base) FWo FWo.b2 mWo ⟨GJo,FJo.b3,kJo,mJo⟩ 6
 have GCu:FnOk l.prog w K mg base CX0 1 fCu _ _ (spCut nA):=ZZ FCu
 have GHe:FnOk l.prog w K mg base CX0 2 fHe _ _ (spHeld nA):=YD FHe ⟨GCu,FCu.b2,kCu,mCu⟩ ndict nzip
 have GWs:FnOk l.prog w K mg base CX0 8 fWs _ _ spWorths:=YF FWs ⟨GWo,FWo.b2,kWo,mWo⟩ ntuple
 have GDa:FnOk l.prog w K mg base CX0 9 fDa _ _ (spDeedL nA):=YG FDa ⟨GHe,FHe.b3,kHe,mHe⟩ ⟨GCu,FCu.b2,kCu,mCu⟩ ⟨GWo,FWo.b2,kWo,mWo⟩ ⟨GWs,FWs.b2,kWs,mWs⟩
 have GLw:FnOk l.prog w K mg base CX0 7 fLw _ _ (spLW K 6):=lws (P:=l.prog) (w:=w) (base:=base) FLw FLw.b2 mLw nint nmax 6
 have GDl:FnOk l.prog w K mg base CX0 8 fDl _ _ (spDeedL nA):=Z2 FDl ⟨GLw,FLw.b2,kLw,mLw⟩ nint ntuple ndict nzip
 have GAk:FnOk l.prog w K mg base CX0 5 fAk _ _ (spAlike 4):=alikes (P:=l.prog) (w:=w) (base:=base) FAk FAk.b2 mAk nlen ntuple nlist nint nbool nstr nisinstance nall nzip kt 4
 have TE:=tail_B excE
 have hE:clsIn K xB≠none:=by
  unfold clsIn
  rw[lE]
  intro z
  cases z
 have GIN:FnOk l.prog w K mg base CX0 1 fIN _ _ (spInit xN "name"):=Z7 FIN ⟨XcxN,noxN,_,cls_of obxN,rfl,rfl⟩
 have MzN:XC l.prog w K mg base xN fIN _ "NoName":=⟨⟨⟨_,_,_,_,_,_,_,_,_,_,_,_,_,_,_,_,obxN,TE⟩,caxN,tyxN,kpxN⟩,xIN,iIN,GIN,FIN.b2,mg_of X G vxN,XcxN,tpxN⟩
 have GNd:FnOk l.prog w K mg base CX0 1 fNd _ _ spNa:=YI FNd
 have GPf:FnOk l.prog w K mg base CX0 2 fPf _ _ spNa:=YK FPf ⟨GNd,FNd.b2,kNd,mNd⟩
 have GNx:FnOk l.prog w K mg base (CX1 l.prog w) 3 fNd _ _ (spNx xN):=YJ FNd MzN
 have GPx:FnOk l.prog w K mg base (CX1 l.prog w) 4 fPf _ _ (spNx xN):=Xh FPf (GNx) FNd.b2 kNd mNd
 have nx:Nx K xN xC xW xB:=⟨XcxN,yNN,yNC,yNW,mexN,noxN⟩
 have GRf:FnOk l.prog w K mg base CX0 5 fRf _ _ spRef:=Xi FRf (GPx) FPf.b2 kPf mPf nx (mg_of X G vxN) (mg_of X G vxC) (mg_of X G vxW) (mg_of X G vxB) hE tpE mbE nisinstance
 have GHs:FnOk l.prog w K mg base CX0 3 fHs _ _ (spHelds nA):=ok_helds FHs ⟨GNu,FNu.b1,kNu,mNu⟩ nlen nrange ntuple
 exact ok_law FZ ⟨GBx,FBx.b2,kBx,mBx⟩ ⟨GCa,FCa.b1,kCa,mCa⟩ ⟨GMa,FMa.b1,kMa,mMa⟩ ⟨GPf,FPf.b2,kPf,mPf⟩ ⟨GHs,FHs.b2,kHs,mHs⟩ ⟨GAk,FAk.b2,kAk,mAk⟩ ⟨GDl,FDl.b3,kDl,mDl⟩ ⟨GDa,FDa.b3,kDa,mDa⟩ ⟨GRf,FRf.b2,kRf,mRf⟩ nlen nrange
theorem walk{l:PySem.W.OpenLaw}{q:Program}{loose:List Str}{XP:(Str->Option Value)->Heap->Prop}{YP:World->Heap->Prop}{d:DefRec}{K:Params->Frag}(hn:l.most=some 63)(hdf:d.params.defaults=[])
  (hY:∀(w:World) (h:Heap),YP w h->(K w.params).In h)
  (F:∀(w:World) (mg:Str->Option Value) (fa:Addr) (h:Heap),(K w.params).In h->h.Ns mainGlobals mg->mg d.name=some (.ref fa)->
   ∃fd:FuncData,(∀(s:Shared) (u:Value),BindsTo s fd ⟨[u],[]⟩ [("_law_script",u)])/\∀base:Heap,(K w.params).In base->base.Ns mainGlobals mg->FnOk l.prog w (K w.params) mg base CX0 66 fa fd ["_law_script"] (spLaw (K w.params))):
  PySem.W.WalkO q loose XP YP l.row.toRowW d [] (fun f vs=>PySem.call f vs):=
 L2.walk_of (n:=63) (k:=66) (x:="_law_script") (CX:=fun _=>CX0) (sp:=fun w=>spLaw (K w.params)) hn (by decide) hdf ⟨rfl,by decide,by decide⟩ hY F (fun _ _ a ns hl _ hS=>⟨a,ns,rfl,hS,hl,fun _=>rfl⟩) fun _ _ _ _ _ z=>z
end K20
namespace PySem.W.Fast
def tw5196115349949984486:=0
def tw12542936345402254913:=0
def tw5072371800923303598:=0
def tw1823909442412695307:=0
def tw3594956973699287844:=0
def tw2948531290705730823:=0
def tw9561055523412085042:=0
def tw10072640399785876502:=0
def tw15946496695689948445:=0
def tw3859078853765827285:=0
def tw17888243781030680861:=0
def tw17640531386022309342:=0
def tw11711626872703464358:=0
def tw7493937038177739964:=0
def tw8959440888175637596:=0
def tw5347498512047548678:=0
def tw8223773148807431857:=0
def tw5769775658198614469:=0
def tw11731596116599726822:=0
def tw9860758328256451423:=0
def tw17619563772146820826:=0
def tw16172649610317298041:=0
def tw14867036875543360887:=0
def tw10095233626611772312:=0
def tw16113429500109371161:=0
def tw5922505974368851000:=0
def tw8113119967086191823:=0
def tw16736910340177863376:=0
def tw8621550847402875271:=0
def tw1297019591404714288:=0
def tw8258909406259654077:=0
def tw2753896844566855632:=0
def tw5997992845193592224:=0
def tw5901987526049392524:=0
def tw17087688697117770406:=0
def tw6991233825811393367:=0
def tw1859416746088112424:=0
def tw3594848242572535254:=0
def tw3255885450025548817:=0
def tw6595082503815034925:=0
def tw3963173789013816836:=0
def tw13894815647208941437:=0
def tw8135186750330875458:=0
def tw7972320201318944017:=0
def tw1087953765020251304:=0
def tw12102647255303538764:=0
def tw3142009136466771903:=0
def tw15393989958649592149:=0
def tw10540028144238706423:=0
def tw3494563228243706304:=0
def tw3878465387271278501:=0
def tw8992477040937813746:=0
def tw8763364419691644163:=0
def tw5908205264794067606:=0
def tw1865150486486519361:=0
def tw10560705774614237697:=0
def tw7617347427245040965:=0
def tw16550674737345612951:=0
def tw5122605650672048304:=0
def tw1127116389351846462:=0
def tw16368386811918428727:=0
def tw11263799453309221223:=0
def tw18080335273008403756:=0
def tw2517775578159921948:=0
def tw2347362171844318156:=0
def tw11336445855867717425:=0
def tw10010874677253089943:=0
def tw3111366812458561381:=0
def tw11706031780254565226:=0
def tw8716284129853119195:=0
def tw13784970885797697694:=0
def tw10738149620651646069:=0
def tw3841399503997551615:=0
def tw6917913227155409515:=0
def tw8941895711520821377:=0
def tw4154789406481348705:=0
def tw13265347318614735596:=0
def tw7545316042854765872:=0
def tw16306981126809765549:=0
def tw13155690775653053075:=0
def tw17220206953733756613:=0
def tw14044352564757591232:=0
end PySem.W.Fast
open PySem PySem.W PyProof.Rows PySem.W.X
theorem K20.walkX {q : Program} {loose : List PySem.Str} {XP : (PySem.Str → Option Value) → Heap → Prop} {K : Params → Frag} {as : List Addr} {n t : Nat} {r : RowW} {d : DefRec} {kwd : List (PySem.Str × PySem.Expr)} {run : Value → List Value → Sem Value}
    (e : ∀ P, as = (K P).map (·.1)) (h : WalkO q loose XP (InK K) r d kwd run) : WalkX q loose XP (obsZ as) (valZ K n t) r d kwd run :=
  fun w s₀ s₁ mg mb G Y a o pm cd doc dV kV h1 h2 h3 h4 h5 h6 args vals as' L => h w s₀ s₁ mg mb G (InK.keeps w _ _ (z_facts e Y).2.1 L.keeps) a o pm cd doc dV kV h1 h2 h3 h4 h5 h6 args vals as'
set_option maxRecDepth 100000 in
set_option maxHeartbeats 0 in
theorem PySem.Challenge.cw_againbook_k20_deeds_of_cuts_holds : PySem.Challenge.rw_againbook_k20_deeds_of_cuts.Holds := by
  w_on; o_law; z_head; (case hw => w_witness2)
  refine K20.walkX (fun _ => by rfl) (K20.walk (l := PySem.Challenge.rw_againbook_k20_deeds_of_cuts) rfl rfl (fun w h Y => Y) ?F)
  case F =>
    intro w mg fa h KX G hmg
    apply K20.all_mk KX G hmg
    iterate 41 (apply K20.topA;iterate 4 k_is)
    iterate 11 k_is
    k_exc
    constructor<;>k_is
    iterate 9 k_is
    refine ⟨⟨?_,?_,?_,?_⟩,?_,?_⟩;iterate 4 k_is
    iterate 2 (unfold L2.NoAttr;k_is)
    constructor;iterate 4 k_is
    iterate 4 (constructor;iterate 3 k_is)
    iterate 6 (apply K20.fnA;iterate 3 k_is)
    iterate 15 k_is
    constructor;iterate 9 kit_is
    iterate 3 kit_is
