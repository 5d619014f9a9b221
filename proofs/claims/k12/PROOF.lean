import PyProof.Rows.All
import Wide.All
import OpenK.AllK
import Wide.FinOn
import Lean
import PyProof.EqAt
import PyProof.EqKinds
import PyProof.TupleCall
import PySem.Challenge.RW_againbook_k12_whole_plain_runs
set_option Elab.async false
set_option linter.all false
set_option maxRecDepth 100000
set_option genSizeOf false
theorem sz0:0≤PySem.sizeLine:=by decide
theorem sz1:1≤PySem.sizeLine:=by decide
theorem sz2:2≤PySem.sizeLine:=by decide
theorem sz3:3≤PySem.sizeLine:=by decide
theorem sz4:4≤PySem.sizeLine:=by decide
set_option Elab.async false
set_option linter.all false
set_option maxRecDepth 100000
set_option maxHeartbeats 4000000
open PySem.W (keepIn Frag nsIn kitOne fnOf mg_of codeIn findIn mroIn isFn mg_none_of kia_one typeIn emptyDict clsIn instObj hasDictIn kitAny specialIn callWith_K excIn lookIn plainGet notCls tailIn)
namespace L2
open PySem PySem.Spec PyProof.Rows
abbrev Key:=Sum Int Str
noncomputable def keyIs:Key->Value->Bool
 | .inl k,v=>Value.isInt k v
 | .inr x,v=>Value.isStrOf x v
noncomputable def keyH(w:World):Key->Int
 | .inl k=>hashInt k
 | .inr x=>hashStr w x
theorem jQ:∀{k:Key} {v:Value},keyIs k v=true->(∃i t,k=Sum.inl i/\v=Value.int i t)∨(∃x t,k=Sum.inr x/\v=Value.str x t)
 | .inl i,v,h=>by
  obtain⟨t,e⟩:=Value.isInt_shape (k:=i) (v:=v) h
  exact .inl ⟨i,t,rfl,e⟩
 | .inr x,v,h=>by
  obtain⟨t,e⟩:=Value.isStrOf_shape (x:=x) (v:=v) h
  exact .inr ⟨x,t,rfl,e⟩
theorem XX(i:Int)(t:Tok):keyIs (.inl i) (.int i t)=true:=by simp [keyIs,Value.isInt]
theorem XY(x:Str)(t:Tok):keyIs (.inr x) (.str x t)=true:=by simp [keyIs,Value.isStrOf]
theorem key_ll(a b:Int):decide ((Sum.inl a:Key)=Sum.inl b)=(a==b):=by
 by_cases e:a=b
 ·subst e;simp
 ·have h:¬(Sum.inl a:Key)=Sum.inl b:=fun q=>e (Sum.inl.inj q)
  rw[decide_eq_false h]
  exact(beq_eq_false_iff_ne.mpr e).symm
theorem key_rr(a b:Str):decide ((Sum.inr a:Key)=Sum.inr b)=decide (a=b):=by
 by_cases e:a=b
 ·subst e;simp
 ·have h:¬(Sum.inr a:Key)=Sum.inr b:=fun q=>e (Sum.inr.inj q)
  rw[decide_eq_false h,decide_eq_false e]
theorem key_lr(a:Int)(b:Str):decide ((Sum.inl a:Key)=Sum.inr b)=false:=decide_eq_false (fun q=>nomatch q)
theorem key_rl(a:Str)(b:Int):decide ((Sum.inr a:Key)=Sum.inl b)=false:=decide_eq_false (fun q=>nomatch q)
noncomputable def mixKind(prog:Program)(w:World):PySem.KeyKind prog w Key where
 is:=keyIs
 hash:=keyH w
 inj:=fun v a b ha hb=>by
  rcases jQ ha with ⟨i,t,rfl,rfl⟩ | ⟨x,t,rfl,rfl⟩
  ·rcases jQ hb with ⟨j,u,rfl,e⟩ | ⟨y,u,rfl,e⟩
   ·injection e with e1 _;rw[e1]
   ·exact nomatch e
  ·rcases jQ hb with ⟨j,u,rfl,e⟩ | ⟨y,u,rfl,e⟩
   ·exact nomatch e
   ·injection e with e1 _;rw[e1]
 byValue:=fun k v h=>by
  rcases jQ h with ⟨i,t,rfl,rfl⟩ | ⟨x,t,rfl,rfl⟩<;>rfl
 pyHash:=fun hv h=>by
  rcases jQ hv with ⟨i,t,rfl,rfl⟩ | ⟨x,t,rfl,rfl⟩
  ·exact wpAny_pyHash_int h
  ·exact wpAny_pyHash_str h
 eqBool:=fun hu hv h=>by
  rcases jQ hu with ⟨i,t,rfl,rfl⟩ | ⟨x,t,rfl,rfl⟩
  ·rcases jQ hv with ⟨j,u,rfl,rfl⟩ | ⟨y,u,rfl,rfl⟩
   ·rw[key_ll]at h;exact wpAny_eqBool_int h
   ·rw[key_lr]at h;exact SeqAt.EqAt.int_str i t y u _ _ _ _ h
  ·rcases jQ hv with ⟨j,u,rfl,rfl⟩ | ⟨y,u,rfl,rfl⟩
   ·rw[key_rl]at h;exact SeqAt.EqAt.str_int x t j u _ _ _ _ h
   ·rw[key_rr]at h;exact wpAny_eqBool_str h
 «strs»:=fun k x t v h=>by
  rcases jQ h with ⟨i,u,rfl,e⟩ | ⟨y,u,rfl,e⟩
  ·exact nomatch e
  ·injection e with e1 _
   subst e1
   cases v<;>rfl
theorem QA(prog:Program)(w:World)(i:Int)(t:Tok):(mixKind prog w).is (.inl i) (.int i t)=true:=XX i t
theorem QB(prog:Program)(w:World)(x:Str)(t:Tok):(mixKind prog w).is (.inr x) (.str x t)=true:=XY x t
end L2
namespace L2
open PySem PySem.Spec PyProof.Rows
inductive V where
 |non |bl (b:Bool) |int (i:Int) |str (x:Str) |byt (b:Array UInt8) |flt (b:UInt64) |ref (a:Addr) |ty (n:String)
 deriving DecidableEq
set_option genInjectivity false
def RelV:V->Value->Prop
 | .non,u=>u=Value.none
 | .bl b,u=>u=Value.bool b
 | .int i,u=>∃t,u=Value.int i t
 | .str x,u=>∃t,u=Value.str x t
 | .byt b,u=>∃t,u=Value.bytes b t
 | .flt b,u=>∃t,u=Value.float b t
 | .ref a,u=>u=Value.ref a
 | .ty n,u=>u=Value.type n
abbrev Vals:List V->List Value->Prop:=Paired RelV
theorem Vals.length{xs:List V}{us:List Value}(r:Vals xs us):xs.length=us.length:=Paired.length r
theorem Vals.get:∀{xs:List V} {us:List Value} {i:Nat} {x:V},Vals xs us->xs[i]?=some x->∃u,us[i]?=some u/\RelV x u
 |_,_,_,_,.nil,e=>by simp at e
 |_,_,0,_,.cons r _,e=>by simp at e;subst e;exact⟨_,rfl,r⟩
 |_,_,i+1,x,.cons _ t,e=>by
  obtain⟨u,h1,h2⟩:=Vals.get (i:=i) (x:=x) t (by simpa using e)
  exact⟨u,by simpa using h1,h2⟩
theorem Vals.set{x:V}{u:Value}(r:RelV x u):∀{xs:List V} {us:List Value} (i:Nat),Vals xs us->Vals (xs.set i x) (us.set i u)
 |_,_,_,.nil=>.nil
 |_,_,0,.cons _ t=>.cons r t
 |_,_,i+1,.cons q t=>.cons q (Vals.set r i t)
theorem Vals.append:∀{xs ys:List V} {us ws:List Value},Vals xs us->Vals ys ws->Vals (xs++ys) (us++ws)
 |_,_,_,_,.nil,s=>s
 |_,_,_,_,.cons r t,s=>.cons r (Vals.append t s)
theorem Vals.take:∀{xs:List V} {us:List Value} (n:Nat),Vals xs us->Vals (xs.take n) (us.take n)
 |_,_,0,_=>.nil
 |_,_,_+1,.nil=>.nil
 |_,_,n+1,.cons r t=>.cons r (Vals.take n t)
theorem Vals.drop:∀{xs:List V} {us:List Value} (n:Nat),Vals xs us->Vals (xs.drop n) (us.drop n)
 |_,_,0,r=>r
 |_,_,_+1,.nil=>.nil
 |_,_,n+1,.cons _ t=>Vals.drop n t
theorem Vals.none_of:∀{xs:List V} {us:List Value} {i:Nat},Vals xs us->xs[i]?=none->us[i]?=none:=fun {xs us i} r e=>by
 have h1:=r.length
 have h2:xs.length<=i:=List.getElem?_eq_none_iff.mp e
 exact List.getElem?_eq_none_iff.mpr (by omega)
def RelO:Option V->Option Value->Prop
 |some v,some u=>RelV v u
 |none,none=>True
 |_,_=>False
def KV{κ:Type}:List (κ×V)->List (κ×Value)->Prop:=Paired fun(p:κ×V) (q:κ×Value)=>p.1=q.1/\RelV p.2 q.2
noncomputable def kV:Key->V
 | .inl i=>.int i
 | .inr x=>.str x
inductive HO where
 |lst (xs:List V)
 |tup (xs:List V)
 |dK (kvs:List (Key×V)) |dT (kvs:List (List Key×V))
 |set (S:Int->Bool) (n:Nat)
 |ins (C dx:Addr) (fs:List (Str×V))
 |own (x:Addr)
 |xd (fs:List (Str×V))
 |met (f x:Addr)
 |rng (lo hi:Int)
 |frz (o:Obj) (u:HO)
 |tbl (ps:Array Value)
 |ext (φ:Heap->Prop)
abbrev Hp:=Addr->Option HO
noncomputable def upd(H:Hp)(a:Addr)(o:HO):Hp:=fun b=>if b=a then some o else H b
theorem je{H:Hp}{a:Addr}{o:HO}:upd H a o a=some o:=by unfold upd;rw[if_pos rfl]
theorem jf{H:Hp}{a b:Addr}{o:HO}(h:b≠a):upd H a o b=H b:=by unfold upd;rw[if_neg h]
theorem jz{H:Hp}{a b:Addr}{o u:HO}(h:H a=some o)(h':H b=some u)(d:o≠u):a≠b:=by
 intro e;subst e;rw[h]at h';exact d (Option.some.inj h')
theorem jl{H:Hp}{a b:Addr}{o:HO}(h:H a=some o)(h':H b=none):a≠b:=by
 intro e;subst e;rw[h]at h';cases h'
section
variable (P:Program)(w:World)
def ObjOk(H:Hp)(h:Heap)(a:Addr):HO->Prop
 | .lst xs=>xs.length<=sizeLine/\∃(its:List Value) (n:Nat),Vals xs its/\h.get? a=some { cls:=.type "list",data:=.seq its.toArray n }
 | .tup xs=>xs.length<=sizeLine/\∃its:List Value,Vals xs its/\IsTup h a its.toArray
 | .dK kvs=>kvs.length<=sizeLine/\(a==sysModules)=false/\∃vs,KV kvs vs/\h.DictOf (mixKind P w) a vs
 | .dT kvs=>kvs.length<=sizeLine/\(a==sysModules)=false/\∃xs:List (List Key×Addr×Value),
   Paired (fun(p:List Key×V) (q:List Key×Addr×Value)=>p.1=q.1/\H q.2.1=some (.tup (p.1.map kV))/\RelV p.2 q.2.2) kvs xs/\
   ∃o es ep,h.get? a=some o/\o.ExactDict/\o.data= .dict es ep/\es.toList=xs.map (entryOfKey (tupleKind (mixKind P w)))/\(xs.map (·.1)).Nodup
 | .set S n=>h.SetOf (intKind P w) a S n
 | .ins C dx fs=>H dx=some (.own a)/\fs.length<=1000/\dx≠a/\h.get? a=some (instObj C dx)/\
   ∃mA,h.Ns1 dx mA/\(∀f,RelO (fs.lookup f) (mA f))/\PySem.Within mA (fs.map (·.1))
 | .own _=>∃o,h.get? a=some o
 | .xd fs=>∃mA,h.Ns1 a mA/\∀f,RelO (fs.lookup f) (mA f)
 | .rng lo hi=>∃t u v,h.get? a=some { cls:=.type "range",data:=.fields #[.int lo t,.int hi u,.int 1 v] }
 | .frz o u=>h.get? a=some o/\ObjOk H h a u
 | .tbl ps=>h.get? a=some { cls:=.none,data:=.fields ps }
 | .met f x=>h.get? a=some (PySem.W.methodObj (.ref f) (.ref x))
 | .ext φ=>φ h/\(∃o,h.get? a=some o)/\∀h1 h2:Heap,φ h1->(∀o,h1.get? a=some o->h2.get? a=some o)->φ h2
def HOk(H:Hp)(h:Heap):Prop:=∀a o,H a=some o->ObjOk P w H h a o
end
section
variable {P:Program}{w:World}{H H':Hp}{h h':Heap}{a:Addr}{o:HO}
theorem ObjOk.lt(x:ObjOk P w H h a o):a < h.objs.size:=by
 cases o with
 |lst xs=>obtain⟨_,_,_,_,e⟩:=x;exact Heap.lt_size e
 |tup xs=>obtain⟨_,_,_,p⟩:=x;exact p.lt
 |dK kvs=>obtain⟨_,_,_,_,o,_,_,e,_⟩:=x;exact Heap.lt_size e
 |dT kvs=>obtain⟨_,_,_,_,o,_,_,e,_⟩:=x;exact Heap.lt_size e
 |set S n=>obtain⟨o,_,_,_,e,_⟩:=x;exact Heap.lt_size e
 |ins C dx fs=>obtain⟨_,_,_,e,_⟩:=x;exact Heap.lt_size e
 |own y=>obtain⟨_,e⟩:=x;exact Heap.lt_size e
 |xd fs=>obtain⟨_,⟨_,_,_,e,_⟩,_⟩:=x;exact Heap.lt_size e
 |rng lo hi=>obtain⟨_,_,_,e⟩:=x;exact Heap.lt_size e
 |frz ob u=>obtain⟨e,_⟩:=x;exact Heap.lt_size e
 |tbl ps=>exact Heap.lt_size (show h.get? a=some _ from x)
 |met f y=>exact Heap.lt_size (show h.get? a=some _ from x)
 |ext φ=>obtain⟨_,⟨_,e⟩,_⟩:=x;exact Heap.lt_size e
theorem Paired.mapP{α β:Type}{F G:α->β->Prop}:∀{l₁:List α} {l₂:List β},Paired F l₁ l₂->(∀a b,F a b->G a b)->Paired G l₁ l₂
 |_,_,.nil,_=>.nil
 |_,_,.cons r t,f=>.cons (f _ _ r) (Paired.mapP t f)
theorem ObjOk.stay(x:ObjOk P w H h a o)(k:∀b u,(b=a∨H b=some (.own a))->h.get? b=some u->h'.get? b=some u)
  (ho:∀b,H b=some (.own a)->H' b=some (.own a)) (ht:∀b xs,H b=some (.tup xs)->H' b=some (.tup xs)):ObjOk P w H' h' a o:=by
 induction o with
 |lst xs=>obtain⟨z,its,n,r,e⟩:=x;exact⟨z,its,n,r,k _ _ (.inl rfl) e⟩
 |tup xs=>obtain⟨z,its,r,ob,e,c⟩:=x;exact⟨z,its,r,ob,k _ _ (.inl rfl) e,c⟩
 |dK kvs=>obtain⟨z,y,vs,r,ob,es,ep,e,c⟩:=x;exact⟨z,y,vs,r,ob,es,ep,k _ _ (.inl rfl) e,c⟩
 |dT kvs=>
  obtain⟨z,y,xs,r,ob,es,ep,e,c⟩:=x
  exact⟨z,y,xs,Paired.mapP r fun p q z=>⟨z.1,ht _ _ z.2.1,z.2.2⟩,ob,es,ep,k _ _ (.inl rfl) e,c⟩
 |set S n=>obtain⟨ob,es,ep,t,e,c⟩:=x;exact⟨ob,es,ep,t,k _ _ (.inl rfl) e,c⟩
 |ins C dx fs=>
  obtain⟨d,z,ne,e,mA,⟨od,es,ep,e2,c⟩,r⟩:=x
  exact⟨ho _ d,z,ne,k _ _ (.inl rfl) e,mA,⟨od,es,ep,k _ _ (.inr d) e2,c⟩,r⟩
 |own y=>obtain⟨ob,e⟩:=x;exact⟨ob,k _ _ (.inl rfl) e⟩
 |xd fs=>obtain⟨mA,⟨od,es,ep,e,c⟩,r⟩:=x;exact⟨mA,⟨od,es,ep,k _ _ (.inl rfl) e,c⟩,r⟩
 |rng lo hi=>obtain⟨t,u,v,e⟩:=x;exact⟨t,u,v,k _ _ (.inl rfl) e⟩
 |frz ob u ih=>obtain⟨e,q⟩:=x;exact⟨k _ _ (.inl rfl) e,ih q⟩
 |tbl ps=>
  have e:h.get? a=some { cls:=.none,data:=.fields ps }:=x
  show h'.get? a=some { cls:=.none,data:=.fields ps }
  exact k a _ (.inl rfl) e
 |met f y=>
  have e:h.get? a=some (PySem.W.methodObj (.ref f) (.ref y)):=x
  show h'.get? a=some (PySem.W.methodObj (.ref f) (.ref y))
  exact k a _ (.inl rfl) e
 |ext φ=>obtain⟨p,⟨o,e⟩,st⟩:=x;exact⟨st _ _ p fun o q=>k _ _ (.inl rfl) q,⟨o,k _ _ (.inl rfl) e⟩,st⟩
theorem HOk.lt(x:HOk P w H h)(e:H a=some o):a < h.objs.size:=(x a o e).lt
theorem HOk.fresh(x:HOk P w H h)(e:h.objs.size<=a):H a=none:=by
 cases q:H a with
 |none=>rfl
 |some u=>exact absurd (Nat.lt_of_lt_of_le (x.lt q) e) (Nat.lt_irrefl _)
theorem HOk.kept(x:HOk P w H h)(k:∀b u,h.get? b=some u->h'.get? b=some u):HOk P w H h':=fun a o e=>
 (x a o e).stay (fun b u _ q=>k b u q) (fun _ q=>q) fun _ _ q=>q
theorem HOk.laid(x:HOk P w H h)(k:∀b u,h.get? b=some u->h'.get? b=some u)(hp:h.objs.size<=a)(new:ObjOk P w (upd H a o) h' a o):HOk P w (upd H a o) h':=fun b u e=>by
 have hn:=x.fresh hp
 by_cases hb:b=a
 ·subst hb;rw[je]at e;cases e;exact new
 ·rw[jf hb]at e
  exact(x b u e).stay (fun c v _ q=>k c v q) (fun c q=>by rw[jf (jl q hn)];exact q) fun c xs q=>by rw[jf (jl q hn)];exact q
end
def Rd(H:Hp)(a:Addr)(u:HO):Prop:=H a=some u∨∃o,H a=some (.frz o u)
theorem Rd.ok{P:Program}{w:World}{H:Hp}{h:Heap}{a:Addr}{u:HO}(r:Rd H a u)(x:HOk P w H h):ObjOk P w H h a u:=by
 rcases r with r | ⟨o,r⟩
 ·exact x a u r
 ·obtain⟨_,q⟩:=x a _ r
  exact q
def Mut:Option HO->Prop
 |some (.lst _)=>True
 |some (.dK _)=>True
 |some (.dT _)=>True
 |some (.set _ _)=>True
 |some (.ins _ _ _)=>True
 |some (.ext _)=>True
 |_=>False
section
variable {P:Program}{w:World}{H:Hp}{h h':Heap}{x e:Addr}{o':HO}
theorem HOk.write(ok:HOk P w H h)(mu:Mut (H x))(he:e=x∨H e=some (.own x))(k:∀b u,b≠e->h.get? b=some u->h'.get? b=some u)(heo:∃u,h'.get? e=some u)
  (new:ObjOk P w (upd H x o') h' x o'):HOk P w (upd H x o') h':=fun b u q=>by
 have nown:∀c y,H c=some (.own y)->c≠x:=fun c y r z=>by subst z;rw[r]at mu;exact mu
 have ntup:∀c xs,H c=some (.tup xs)->c≠x:=fun c xs r z=>by subst z;rw[r]at mu;exact mu
 by_cases hb:b=x
 ·subst hb;rw[je]at q;cases q;exact new
 ·rw[jf hb]at q
  by_cases hbe:b=e
  ·have q':H b=some (.own x):=by
    rcases he with z |z
    ·exact absurd (hbe.trans z) hb
    ·rw[hbe];exact z
   rw[q]at q';cases q'
   obtain⟨v,hv⟩:=heo
   exact⟨v,by rw[hbe];exact hv⟩
  ·refine(ok b u q).stay (fun c v hc r=>k c v ?_ r) (fun c r=>by rw[jf (nown c b r)];exact r) fun c xs r=>by rw[jf (ntup c xs r)];exact r
   rcases hc with rfl |hc
   ·exact hbe
   ·rintro rfl
    rcases he with z |z
    ·exact nown c b hc z
    ·rw[hc]at z;cases z;exact hb rfl
end
structure Un(fs ex:List Addr)(H H':Hp)(h h':Heap):Prop where
 keep:∀b o,h.get? b=some o->H b=none->b∉fs->b∉ex->h'.get? b=some o
 slot:∀b o,h.get? b=some o->H b=none->b∈fs->b∉ex->∃sl,h'.get? b=some { o with slots:=sl }
 free:∀b o,h.get? b=some o->H b=none->b∉ex->H' b=none
 there:∀b o,h.get? b=some o->b∉ex->∃o',h'.get? b=some o'
 tups:∀b xs,H b=some (.tup xs)->H' b=some (.tup xs)
 frzs:∀b o u,H b=some (.frz o u)->H' b=some (.frz o u)
 tbls:∀b ps,H b=some (.tbl ps)->∃more,H' b=some (.tbl (ps++more))
section
variable {fs fs' ex ex':List Addr}{H H1 H2:Hp}{h h1 h2 h':Heap}{a x e:Addr}{o:HO}
theorem Un.any(u:Un fs ex H H1 h h1){b:Addr}{ob:Obj}(q:h.get? b=some ob)(n:H b=none)(hx:b∉ex):∃sl,h1.get? b=some { ob with slots:=sl }:=by
 by_cases hb:b∈fs
 ·exact u.slot b ob q n hb hx
 ·exact⟨ob.slots,u.keep b ob q n hb hx⟩
theorem Un.kept(k:∀b u,h.get? b=some u->h'.get? b=some u):Un fs ex H H h h':=
 ⟨fun b ob q _ _ _=>k b ob q,fun b ob q _ _ _=>⟨ob.slots,k b ob q⟩,fun _ _ _ n _=>n,fun b ob q _=>⟨ob,k b ob q⟩,fun _ _ q=>q,fun _ _ _ q=>q,fun _ ps q=>⟨#[],by rw[q];simp⟩⟩
theorem Un.refl:Un fs ex H H h h:=Un.kept fun _ _ q=>q
theorem Un.laid(k:∀b u,h.get? b=some u->h'.get? b=some u)(hp:h.objs.size<=a)(hn:H a=none):Un fs ex H (upd H a o) h h' where
 keep:=fun b u q _ _ _=>k b u q
 slot:=fun b u q _ _ _=>⟨u.slots,k b u q⟩
 free:=fun b u q n _=>by rw[jf (Nat.ne_of_lt (Nat.lt_of_lt_of_le (Heap.lt_size q) hp))];exact n
 there:=fun b u q _=>⟨u,k b u q⟩
 tups:=fun b xs q=>by rw[jf (jl q hn)];exact q
 frzs:=fun b u xs q=>by rw[jf (jl q hn)];exact q
 tbls:=fun b ps q=>⟨#[],by rw[jf (jl q hn),q];simp⟩
theorem Un.write(mu:Mut (H x))(he:e=x∨H e=some (.own x))(k:∀b u,b≠e->h.get? b=some u->h'.get? b=some u)(heo:∃u,h'.get? e=some u):Un fs ex H (upd H x o) h h':=by
 have hx:∀b,H b=none->b≠x:=fun b n z=>by subst z;rw[n]at mu;exact mu
 have hb:∀b,H b=none->b≠e:=fun b n z=>by
  subst z
  rcases he with r |r
  ·exact hx b n r
  ·rw[n]at r;cases r
 have hm:∀b u,H b=some u->¬Mut (some u)->b≠x:=fun b u q nm z=>by subst z;rw[q]at mu;exact nm mu
 refine⟨fun b u q n _ _=>k b u (hb b n) q,fun b u q n _ _=>⟨u.slots,k b u (hb b n) q⟩,fun b u q n _=>by rw[jf (hx b n)];exact n,fun b u q _=>?_,
  fun b xs q=>by rw[jf (hm b _ q fun z=>z)];exact q,fun b u xs q=>by rw[jf (hm b _ q fun z=>z)];exact q,fun b ps q=>⟨#[],by rw[jf (hm b _ q fun z=>z),q];simp⟩⟩
 by_cases hbe:b=e
 ·subst hbe;exact heo
 ·exact⟨u,k b u hbe q⟩
end
noncomputable def trk(h:Heap)(H:Hp):List Addr:=(List.range h.objs.size).filter fun a=>(H a).isSome
noncomputable def hidT(h:Heap)(H:Hp):Heap:=PySem.W.hideAll h (trk h H)
theorem XZ(h:Heap)(H:Hp):(hidT h H).objs.size=h.objs.size:=PySem.W.hideAll_size _ _
theorem Zi{h:Heap}{H:Hp}{b:Addr}{o:Obj}(e:h.get? b=some o)(n:H b=none):(hidT h H).get? b=some o:=
 PySem.W.hideAll_get _ e fun hm=>by
  have q:(H b).isSome=true:=(List.mem_filter.mp hm).2
  rw[n]at q;simp at q
theorem Z5{h:Heap}{H:Hp}{b:Addr}{o:Obj}(e:(hidT h H).get? b=some o):h.get? b=some o/\H b=none:=by
 have e':h.get? b=some o:=PySem.W.of_hideAll (trk h H) e
 refine⟨e',?_⟩
 cases q:H b with
 |none=>rfl
 |some x=>
  have hm:b∈trk h H:=List.mem_filter.mpr ⟨List.mem_range.mpr (Heap.lt_size e'),by simp [q]⟩
  have z:(hidT h H).get? b=none:=PySem.W.hideAll_none (trk h H) hm
  rw[z]at e;cases e
end L2
namespace L2
open PySem PySem.Spec PyProof.Rows
structure Mod(K:Frag)(mg:Str->Option Value)(base:Heap):Prop where
 kin:K.In base
 glob:base.Ns mainGlobals mg
 blt:∃mb,base.Ns builtinsNs mb/\∀x:Str,x≠"__name__"->mb x=bootBuiltins x
 nolimit:base.NoLimit
structure Cx where
 prog:Program
 w:World
 K:Frag
 mg:Str->Option Value
 base:Heap
 A:Around
 N:List Str
 s₀:Shared
 H₀:Hp
 env:Env
 outer:List Env
 stack:List Env
 ex:List Addr
 fn:Str->Bool
 calm:Bool
 pn:List (Addr×Obj)
 xe:Value->Shared->Prop
noncomputable def frs(l:List Env):List Addr:=l.filterMap (·.frame)
noncomputable abbrev Cx.fs(X:Cx):List Addr:=frs X.outer
def Vis(sc:Scope)(x:Str):Prop:=sc.names.lookup x=some .local∨sc.names.lookup x=some .cell∨sc.names.lookup x=some .free
def Loc(sc:Scope)(x:Str):Prop:=sc.names.lookup x=some .local∨sc.names.lookup x=some .cell
def Look(env:Env)(h:Heap)(m:Str->Option Value)(x:Str)(u:Value):Prop:=
 (env.kindOf x=some .local/\m x=some u)∨((env.kindOf x=some .cell∨env.kindOf x=some .free)/\∃c,env.cells.lookup x=some c/\h.IsCell c (some u))
structure Cx.Ok(X:Cx):Prop where
 mod:Mod X.K X.mg X.base
 kind:X.env.scope.kind= .function
 glob:X.env.globals=mainGlobals
 blt:X.env.builtins=builtinsNs
 above:X.s₀.heap.objs.size<=X.env.locals
 inj:∀x y c,X.env.cells.lookup x=some c->X.env.cells.lookup y=some c->x=y
 has:∀x,(X.env.kindOf x=some .cell∨X.env.kindOf x=some .free)->∃c,X.env.cells.lookup x=some c
 cab:∀x c,X.fn x=true->X.env.cells.lookup x=some c->X.s₀.heap.objs.size<=c
 hd:X.calm=true->X.A.handled=none
 frames:X.A.frames=some X.stack
 stk:X.stack=X.outer∨(X.stack=X.env::X.outer/\X.env.frame=some X.env.locals)
 exf:∀b∈X.ex,b≠X.env.locals/\∀x c,X.env.cells.lookup x=some c->c≠b
 bs:∀b o,X.base.get? b=some o->X.s₀.heap.get? b=some o/\X.H₀ b=none
 bsz:X.base.objs.size<=X.s₀.heap.objs.size
 noex:∀b o,X.base.get? b=some o->b∉X.ex
 exfs:∀b∈X.ex,b∉X.fs
 funs:X.s₀.heap.FunFrames X.base X.outer
 frf:∀b∈X.fs,X.H₀ b=none
structure Inv(X:Cx)(pins:List (Addr×Obj))(σ:List (Option V))(H:Hp)(s:Shared):Prop where
 ok:X.Ok
 os:s.os=X.s₀.os
 bare:AllBare s.gens
 base:Un X.fs X.ex X.H₀ H X.s₀.heap s.heap
 loc:∃m,s.heap.Ns X.env.locals m/\∀(i:Nat) (x:Str) (v:V),X.N[i]?=some x->σ[i]?=some (some v)->Vis X.env.scope x->∃u,RelV v u/\Look X.env s.heap m x u
 cell:∀x c,X.env.cells.lookup x=some c->∃v,s.heap.IsCell c v
 free:H X.env.locals=none
 freeC:∀x c,X.env.cells.lookup x=some c->H c=none
 pin:∀p∈X.pn++pins,s.heap.get? p.1=some p.2/\H p.1=none/\p.1≠X.env.locals/\p.1∉X.fs/\∀v,p.2.data≠ .cell v
 hok:HOk X.prog X.w H s.heap
 len:σ.length=X.N.length
section
variable {X:Cx}{pins:List (Addr×Obj)}{σ:List (Option V)}{H H':Hp}{s:Shared}{h':Heap}
theorem Cx.Ok.nofr(ok:X.Ok){b:Addr}{o:Obj}(e:X.base.get? b=some o):b∉X.fs:=fun hb=>by
 have:=(ok.funs.mem hb).1
 rw[e]at this;cases this
theorem Inv.bs(I:Inv X pins σ H s):∀b o,X.base.get? b=some o->s.heap.get? b=some o/\H b=none:=fun b o e=>
 ⟨I.base.keep b o (I.ok.bs b o e).1 (I.ok.bs b o e).2 (I.ok.nofr e) (I.ok.noex b o e),I.base.free b o (I.ok.bs b o e).1 (I.ok.bs b o e).2 (I.ok.noex b o e)⟩
theorem Inv.bk(I:Inv X pins σ H s):∀b o,X.base.get? b=some o->s.heap.get? b=some o:=fun b o e=>(I.bs b o e).1
theorem Inv.mod(I:Inv X pins σ H s):Mod X.K X.mg X.base:=I.ok.mod
theorem Inv.kIn(I:Inv X pins σ H s):X.K.In s.heap:=I.ok.mod.kin.keeps I.bk
theorem Inv.lt(I:Inv X pins σ H s):X.env.locals < s.heap.objs.size:=let ⟨_,hn,_⟩:=I.loc;hn.lt
theorem Inv.sz(I:Inv X pins σ H s):X.s₀.heap.objs.size<=s.heap.objs.size:=Nat.le_trans I.ok.above (Nat.le_of_lt I.lt)
theorem Inv.nofs(I:Inv X pins σ H s){a:Addr}(h:s.heap.objs.size<=a):a∉X.fs:=fun hb=>by
 obtain⟨_,o,ho,_⟩:=I.ok.funs.mem hb
 exact absurd (Nat.lt_of_lt_of_le (Heap.lt_size ho) (Nat.le_trans I.sz h)) (Nat.lt_irrefl _)
theorem Inv.cne(I:Inv X pins σ H s):∀x c,X.env.cells.lookup x=some c->c≠X.env.locals:=fun x c e z=>by
 obtain⟨v,o,ho,hd⟩:=I.cell x c e
 obtain⟨m,⟨o',es,ep,ho',hd',_⟩,_⟩:=I.loc
 rw[z,ho']at ho;cases ho;rw[hd']at hd;cases hd
theorem Inv.funs(I:Inv X pins σ H s):s.heap.FunFrames X.base X.outer:=by
 have all:∀(l:List Env),(∀b∈frs l,b∈X.fs)->X.s₀.heap.FunFrames X.base l->s.heap.FunFrames X.base l:=by
  intro l
  induction l with
  |nil=>intro _ _;trivial
  |cons env r ih=>
   intro hs hl
   obtain⟨hk,⟨L,o,hf,hn,ho,hd⟩,hr⟩:=hl
   have hL:L∈X.fs:=hs L (by unfold frs;rw[List.filterMap_cons,hf];exact List.mem_cons_self)
   obtain⟨sl,e⟩:=I.base.slot L o ho (I.ok.frf L hL) hL fun z=>I.ok.exfs L z hL
   exact⟨hk,⟨L,_,hf,hn,e,hd⟩,ih (fun b hb=>hs b (by unfold frs;rw[List.filterMap_cons,hf];exact List.mem_cons_of_mem _ hb)) hr⟩
 exact all X.outer (fun _ hb=>hb) I.ok.funs
theorem Inv.stack(I:Inv X pins σ H s):s.heap.FunFrames X.base X.stack:=by
 rcases I.ok.stk with e | ⟨e,hf⟩
 ·rw[e];exact I.funs
 ·rw[e]
  obtain⟨m,hn,_⟩:=I.loc
  refine .cons (by rw[I.ok.kind];decide) hf hn ?_ I.funs
  exact Heap.get?_none_of_le (Nat.le_trans I.ok.bsz I.ok.above)
theorem Inv.stkSub(I:Inv X pins σ H s):∀b∈frs X.stack,b∈X.env.locals::X.fs:=fun b hb=>by
 rcases I.ok.stk with e | ⟨e,hf⟩
 ·rw[e]at hb;exact List.mem_cons_of_mem _ hb
 ·rw[e]at hb
  unfold frs at hb
  rw[List.filterMap_cons,hf]at hb
  exact hb
theorem Inv.stkFree(I:Inv X pins σ H s):∀b∈frs X.stack,H b=none:=fun b hb=>by
 rcases List.mem_cons.mp (I.stkSub b hb) with e |hb
 ·rw[e];exact I.free
 ·obtain⟨_,o,ho,_⟩:=I.ok.funs.mem hb
  exact I.base.free b o ho (I.ok.frf b hb) fun z=>I.ok.exfs b z hb
theorem Inv.step{g':Array GenState}{t':Nat}{d':Drawn}{ch:List Addr}(I:Inv X pins σ H s)
  (hch:∀b∈ch,(b∈X.ex∨X.s₀.heap.objs.size<=b)/\b≠X.env.locals/\(∀x c,X.env.cells.lookup x=some c->c≠b)/\∀p∈X.pn++pins,p.1≠b)
  (keep:∀b o,b≠X.env.locals->b∉X.fs->b∉ch->s.heap.get? b=some o->H b=none->h'.get? b=some o)
  (slot:∀b o,b≠X.env.locals->b∈X.fs->b∉ch->s.heap.get? b=some o->H b=none->∃sl,h'.get? b=some { o with slots:=sl }) (free:∀b o,b∉ch->s.heap.get? b=some o->H b=none->H' b=none)
  (there:∀b o,b∉ch->s.heap.get? b=some o->∃o',h'.get? b=some o')
  (tups:∀b xs,H b=some (.tup xs)->H' b=some (.tup xs)) (frzs:∀b o u,H b=some (.frz o u)->H' b=some (.frz o u)) (tbls:∀b ps,H b=some (.tbl ps)->∃more,H' b=some (.tbl (ps++more)))
  (ns:∀m,s.heap.Ns X.env.locals m->h'.Ns X.env.locals m) (hok:HOk X.prog X.w H' h') (hg:AllBare g'):
  Inv X pins σ H' { s with heap:=h',gens:=g',drawn:=d',toks:=t' }:=by
 have neL:∀b o,X.s₀.heap.get? b=some o->b≠X.env.locals:=fun b o e=>Nat.ne_of_lt (Nat.lt_of_lt_of_le (Heap.lt_size e) I.ok.above)
 have neC:∀b o,X.s₀.heap.get? b=some o->b∉X.ex->b∉ch:=fun b o e hx hb=>by
  rcases(hch b hb).1 with z |z
  ·exact hx z
  ·exact absurd (Nat.lt_of_lt_of_le (Heap.lt_size e) z) (Nat.lt_irrefl _)
 have cellK:∀x c,X.env.cells.lookup x=some c->∀v,s.heap.IsCell c v->h'.IsCell c v:=fun x c e v ⟨o,ho,hd⟩=>by
  have nch:c∉ch:=fun z=>(hch c z).2.2.1 x c e rfl
  by_cases hc:c∈X.fs
  ·obtain⟨sl,q⟩:=slot c o (I.cne x c e) hc nch ho (I.freeC x c e)
   exact⟨_,q,hd⟩
  ·exact⟨o,keep c o (I.cne x c e) hc nch ho (I.freeC x c e),hd⟩
 refine⟨I.ok,I.os,hg,⟨fun b o e n hb hx=>?_,fun b o e n hb hx=>?_,fun b o e n hx=>?_,fun b o e hx=>?_,fun b xs e=>tups b xs (I.base.tups b xs e),fun b o xs e=>frzs b o xs (I.base.frzs b o xs e),fun b ps e=>?_⟩,?_,fun x c e=>?_,?_,fun x c e=>?_,fun p hp=>?_,hok,I.len⟩
 ·exact keep b o (neL b o e) hb (neC b o e hx) (I.base.keep b o e n hb hx) (I.base.free b o e n hx)
 ·obtain⟨sl,e1⟩:=I.base.slot b o e n hb hx
  obtain⟨sl',e2⟩:=slot b _ (neL b o e) hb (neC b o e hx) e1 (I.base.free b o e n hx)
  exact⟨sl',e2⟩
 ·obtain⟨o',e1⟩:=I.base.there b o e hx
  exact free b o' (neC b o e hx) e1 (I.base.free b o e n hx)
 ·obtain⟨o',e1⟩:=I.base.there b o e hx
  exact there b o' (neC b o e hx) e1
 ·obtain⟨m1,e1⟩:=I.base.tbls b ps e
  obtain⟨m2,e2⟩:=tbls b _ e1
  exact⟨m1++m2,by rw[e2,Array.append_assoc]⟩
 ·obtain⟨m,hn,hl⟩:=I.loc
  refine⟨m,ns m hn,fun i x v e1 e2 e3=>?_⟩
  obtain⟨u,r,l⟩:=hl i x v e1 e2 e3
  refine⟨u,r,?_⟩
  rcases l with l | ⟨k,c,e,z⟩
  ·exact .inl l
  ·exact .inr ⟨k,c,e,cellK x c e _ z⟩
 ·obtain⟨v,z⟩:=I.cell x c e
  exact⟨v,cellK x c e v z⟩
 ·obtain⟨m,⟨o,_,_,ho,_⟩,_⟩:=I.loc
  exact free _ o (fun z=>(hch _ z).2.1 rfl) ho I.free
 ·obtain⟨v,o,ho,hd⟩:=I.cell x c e
  exact free c o (fun z=>(hch c z).2.2.1 x c e rfl) ho (I.freeC x c e)
 ·obtain⟨e,n,ne,nf,d⟩:=I.pin p hp
  have nch:p.1∉ch:=fun z=>(hch p.1 z).2.2.2 p hp rfl
  exact⟨keep p.1 p.2 ne nf nch e n,free p.1 p.2 nch e n,ne,nf,d⟩
theorem Inv.un{t':Nat}(I:Inv X pins σ H s)(u:Un X.fs [] H H' s.heap h')(hok:HOk X.prog X.w H' h'):Inv X pins σ H' { s with heap:=h',toks:=t' }:=by
 obtain⟨m,⟨o,es,ep,ho,r⟩,_⟩:=id I.loc
 obtain⟨sl,hL⟩:=u.any ho I.free (by simp)
 exact I.step (g':=s.gens) (d':=s.drawn) (ch:=[]) (fun _ z=>nomatch z) (fun b o _ hb _ e n=>u.keep b o e n hb (by simp)) (fun b o _ hb _ e n=>u.slot b o e n hb (by simp)) (fun b o _ e n=>u.free b o e n (by simp)) (fun b o _ e=>u.there b o e (by simp)) u.tups u.frzs u.tbls (fun m' hm=>by
  obtain⟨o',es',ep',ho',r'⟩:=hm
  rw[ho]at ho';cases ho'
  exact⟨_,es',ep',hL,r'⟩) hok I.bare
theorem Inv.call{g':Array GenState}{t':Nat}{d':Drawn}{ch:List Addr}(I:Inv X pins σ H s)(u:Un (frs X.stack) ch H H' s.heap h')(hok:HOk X.prog X.w H' h')(hg:AllBare g')
  (hch:∀b∈ch,(b∈X.ex∨X.s₀.heap.objs.size<=b)/\b≠X.env.locals/\(∀x c,X.env.cells.lookup x=some c->c≠b)/\∀p∈X.pn++pins,p.1≠b):
  Inv X pins σ H' { s with heap:=h',gens:=g',drawn:=d',toks:=t' }:=by
 obtain⟨m,⟨o,es,ep,ho,r⟩,_⟩:=id I.loc
 obtain⟨sl,hL⟩:=u.any ho I.free fun z=>(hch _ z).2.1 rfl
 exact I.step (ch:=ch) hch (fun b o hL hb hc e n=>u.keep b o e n (fun z=>(List.mem_cons.mp (I.stkSub b z)).elim hL hb) hc) (fun b o _ _ hc e n=>u.any e n hc) (fun b o hc e n=>u.free b o e n hc) (fun b o hc e=>u.there b o e hc) u.tups u.frzs u.tbls (fun m' hm=>by
  obtain⟨o',es',ep',ho',r'⟩:=hm
  rw[ho]at ho';cases ho'
  exact⟨_,es',ep',hL,r'⟩) hok hg
theorem Inv.turned{t':Nat}{it:Addr}(I:Inv X pins σ H s)(k:∀b o,b≠it->s.heap.get? b=some o->h'.get? b=some o)(hn:H it=none)(hL:it≠X.env.locals)
  (h1:it∈X.ex∨X.s₀.heap.objs.size<=it) (h2:∀x c,X.env.cells.lookup x=some c->c≠it) (h3:∀p∈X.pn++pins,p.1≠it):Inv X pins σ H { s with heap:=h',toks:=t' }:=by
 have nit:∀b u,H b=some u->b≠it:=fun b u e z=>by rw[z,hn]at e;cases e
 refine I.step (g':=s.gens) (d':=s.drawn) (ch:=[it]) (fun b hb=>?_) (fun b o _ _ hc e _=>k b o (fun z=>hc (by simp [z])) e) (fun b o _ _ hc e _=>⟨o.slots,k b o (fun z=>hc (by simp [z])) e⟩) (fun _ _ _ _ n=>n)
  (fun b o hc e=>⟨o,k b o (fun z=>hc (by simp [z])) e⟩) (fun _ _ e=>e) (fun _ _ _ e=>e) (fun b ps e=>⟨#[],by rw[e];simp⟩) (fun m hm=>?_) (fun b u e=>?_) I.bare
 ·have e:b=it:=by simpa using hb
  subst e
  exact⟨h1,hL,h2,h3⟩
 ·obtain⟨o,es,ep,ho,r⟩:=hm
  exact⟨o,es,ep,k _ o (Ne.symm hL) ho,r⟩
 ·refine(I.hok b u e).stay (fun c v hc q=>k c v ?_ q) (fun _ q=>q) fun _ _ q=>q
  rcases hc with z |z
  ·rw[z];exact nit b u e
  ·exact nit c _ z
theorem Inv.tok(I:Inv X pins σ H s)(t:Nat):Inv X pins σ H { s with toks:=t }:=I.un (h':=s.heap) (t':=t) Un.refl I.hok
theorem Inv.kept{t':Nat}(I:Inv X pins σ H s)(k:∀b u,s.heap.get? b=some u->h'.get? b=some u):Inv X pins σ H { s with heap:=h',toks:=t' }:=I.un (Un.kept k) (I.hok.kept k)
theorem Inv.laid{a:Addr}{o:HO}{t':Nat}(I:Inv X pins σ H s)(k:∀b u,s.heap.get? b=some u->h'.get? b=some u)(hp:s.heap.objs.size<=a)(new:ObjOk X.prog X.w (upd H a o) h' a o):
  Inv X pins σ (upd H a o) { s with heap:=h',toks:=t' }:=I.un (Un.laid k hp (I.hok.fresh hp)) (I.hok.laid k hp new)
theorem Inv.write{x e:Addr}{o:HO}{t':Nat}(I:Inv X pins σ H s)(mu:Mut (H x))(he:e=x∨H e=some (.own x))(k:∀b u,b≠e->s.heap.get? b=some u->h'.get? b=some u)(heo:∃u,h'.get? e=some u)
  (new:ObjOk X.prog X.w (upd H x o) h' x o):Inv X pins σ (upd H x o) { s with heap:=h',toks:=t' }:=I.un (Un.write mu he k heo) (I.hok.write mu he k heo new)
theorem Inv.pins_of{pins':List (Addr×Obj)}(I:Inv X pins σ H s)(h:∀p∈pins',s.heap.get? p.1=some p.2/\H p.1=none/\p.1≠X.env.locals/\p.1∉X.fs/\∀v,p.2.data≠ .cell v):Inv X pins' σ H s:=
 ⟨I.ok,I.os,I.bare,I.base,I.loc,I.cell,I.free,I.freeC,fun p hp=>(List.mem_append.mp hp).elim (fun z=>I.pin p (List.mem_append_left _ z)) (h p),I.hok,I.len⟩
theorem JZ{N:List Str}(hN:N.Nodup){i j:Nat}{x:Str}(a:N[i]?=some x)(b:N[j]?=some x):i=j:=by
 obtain⟨h1,e1⟩:=List.getElem?_eq_some_iff.mp a
 obtain⟨h2,e2⟩:=List.getElem?_eq_some_iff.mp b
 exact(List.getElem_inj hN).mp (e1.trans e2.symm)
theorem KB{M:Model}{A:Around}{E:Value->Shared->Prop}{i:Nat}{x:Str}{v:V}{u:Value}{Q:Unit->Shared->Prop}(I:Inv X pins σ H s)(hN:X.N.Nodup)(hi:X.N[i]?=some x)(hx:Loc X.env.scope x)(r:RelV v u)
  (h:∀s',Inv X pins (σ.set i (some v)) H s'->(∃a,Heap.SameBut a s.heap s'.heap/\(a=X.env.locals∨X.env.cells.lookup x=some a))->Q () s') (hf:X.fn x=true∨X.env.scope.names.lookup x=some .local:=by first |exact .inl rfl |exact .inr rfl |assumption):wpAny M A (storeName X.env x u) Q E s:=by
 obtain⟨m,hn,hl⟩:=id I.loc
 have hcls:(X.env.scope.kind== .class||(X.env.scope.kind== .module&&X.env.locals != X.env.globals))=false:=by rw[I.ok.kind];rfl
 have hiσ:i < σ.length:=by rw[I.len];exact(List.getElem?_eq_some_iff.mp hi).1
 have cne:=I.cne
 have tracked:∀{a:Addr} {h':Heap},(∃o,s.heap.get? a=some o/\H a=none)->Heap.SameBut a s.heap h'->HOk X.prog X.w H h':=fun {a h'} ha hs b ob e=>by
  obtain⟨_,_,hfree⟩:=ha
  refine(I.hok b ob e).stay (fun c w' hc q=>(hs.2 c ?_).trans q) (fun _ q=>q) fun _ _ q=>q
  rintro rfl
  rcases hc with rfl |hc
  ·rw[hfree]at e;cases e
  ·rw[hfree]at hc;cases hc
 rcases hx with hk |hk
 ·refine wpAny_storeName_local hk hn (fun h' hn' hs=>?_) hcls
  obtain⟨oL,_,_,hoL,_⟩:=id hn
  refine h _ ⟨I.ok,I.os,I.bare,⟨fun b o e n hb hx=>?_,fun b o e n hb hx=>?_,I.base.free,fun b o e hx=>?_,I.base.tups,I.base.frzs,I.base.tbls⟩,⟨_,hn',fun j y v' e1 e2 e3=>?_⟩,fun y c e=>?_,I.free,I.freeC,fun p hp=>?_,tracked ⟨oL,hoL,I.free⟩ hs,by simpa using I.len⟩ ⟨_,hs,.inl rfl⟩
  ·exact(hs.2 b (Nat.ne_of_lt (Nat.lt_of_lt_of_le (Heap.lt_size e) I.ok.above))).trans (I.base.keep b o e n hb hx)
  ·obtain⟨sl,e1⟩:=I.base.slot b o e n hb hx
   exact⟨sl,(hs.2 b (Nat.ne_of_lt (Nat.lt_of_lt_of_le (Heap.lt_size e) I.ok.above))).trans e1⟩
  ·obtain⟨o',e1⟩:=I.base.there b o e hx
   exact⟨o',(hs.2 b (Nat.ne_of_lt (Nat.lt_of_lt_of_le (Heap.lt_size e) I.ok.above))).trans e1⟩
  ·by_cases hj:j=i
   ·subst hj
    rw[hi]at e1;cases e1
    rw[List.getElem?_set_self hiσ]at e2
    cases e2
    exact⟨u,r,.inl ⟨hk,by simp⟩⟩
   ·rw[List.getElem?_set_ne (Ne.symm hj)]at e2
    obtain⟨u',r',q⟩:=hl j y v' e1 e2 e3
    refine⟨u',r',?_⟩
    rcases q with ⟨k,e⟩ | ⟨k,c,e,z⟩
    ·refine .inl ⟨k,?_⟩
     have:y≠x:=fun e=>hj (JZ hN e1 (e▸hi))
     simp [this,e]
    ·exact .inr ⟨k,c,e,z.sameBut hs (cne y c e)⟩
  ·obtain⟨w',z⟩:=I.cell y c e
   exact⟨w',z.sameBut hs (cne y c e)⟩
  ·obtain⟨e,n,ne,nf,d⟩:=I.pin p hp
   exact⟨(hs.2 p.1 ne).trans e,n,ne,nf,d⟩
 ·have hfn:X.fn x=true:=by
   rcases hf with z |z
   ·exact z
   ·rw[z]at hk;cases hk
  obtain⟨c,hc⟩:=I.ok.has x (.inl hk)
  obtain⟨w',z⟩:=I.cell x c hc
  refine wpAny_storeName_cell I.ok.kind hk hc z (fun h' hc' hs=>?_)
  obtain⟨oc,hoc,hocd⟩:=id z
  refine h { s with heap:=h' } ⟨I.ok,I.os,I.bare,⟨fun b o e n hb hx=>?_,fun b o e n hb hx=>?_,I.base.free,fun b o e hx=>?_,I.base.tups,I.base.frzs,I.base.tbls⟩,⟨m,hn.sameBut hs (Ne.symm (cne x c hc)),fun j y v' e1 e2 e3=>?_⟩,fun y c' e=>?_,I.free,I.freeC,fun p hp=>?_,tracked ⟨oc,hoc,I.freeC x c hc⟩ hs,by simpa using I.len⟩ ⟨c,hs,.inr hc⟩
  ·exact(hs.2 b (Nat.ne_of_lt (Nat.lt_of_lt_of_le (Heap.lt_size e) (I.ok.cab x c hfn hc)))).trans (I.base.keep b o e n hb hx)
  ·obtain⟨sl,e1⟩:=I.base.slot b o e n hb hx
   exact⟨sl,(hs.2 b (Nat.ne_of_lt (Nat.lt_of_lt_of_le (Heap.lt_size e) (I.ok.cab x c hfn hc)))).trans e1⟩
  ·obtain⟨o',e1⟩:=I.base.there b o e hx
   exact⟨o',(hs.2 b (Nat.ne_of_lt (Nat.lt_of_lt_of_le (Heap.lt_size e) (I.ok.cab x c hfn hc)))).trans e1⟩
  ·by_cases hj:j=i
   ·subst hj
    rw[hi]at e1;cases e1
    rw[List.getElem?_set_self hiσ]at e2
    cases e2
    exact⟨u,r,.inr ⟨.inl hk,c,hc,hc'⟩⟩
   ·rw[List.getElem?_set_ne (Ne.symm hj)]at e2
    obtain⟨u',r',q⟩:=hl j y v' e1 e2 e3
    refine⟨u',r',?_⟩
    rcases q with q | ⟨k,c',e,z'⟩
    ·exact .inl q
    ·refine .inr ⟨k,c',e,z'.sameBut hs ?_⟩
     rintro rfl
     exact hj (JZ hN e1 (I.ok.inj _ _ _ e hc▸hi))
  ·by_cases hcc:c'=c
   ·subst hcc;exact⟨_,hc'⟩
   ·obtain⟨w2,z2⟩:=I.cell y c' e
    exact⟨w2,z2.sameBut hs hcc⟩
  ·obtain⟨e,n,ne,nf,d⟩:=I.pin p hp
   refine⟨(hs.2 p.1 ?_).trans e,n,ne,nf,d⟩
   intro q
   rw[q,hoc]at e
   have q':oc=p.2:=Option.some.inj e
   exact d w' (by rw[<- q'];exact hocd)
theorem zk{M:Model}{A:Around}{E:Value->Shared->Prop}{i:Nat}{x:Str}{v:V}{u:Value}{Q:Unit->Shared->Prop}(I:Inv X pins σ H s)(hN:X.N.Nodup)(hi:X.N[i]?=some x)(hx:Loc X.env.scope x)(r:RelV v u)
  (h:∀s',Inv X pins (σ.set i (some v)) H s'->Q () s') (hf:X.fn x=true∨X.env.scope.names.lookup x=some .local:=by first |exact .inl rfl |exact .inr rfl |assumption):wpAny M A (storeName X.env x u) Q E s:=
 KB I hN hi hx r (fun s' I' _=>h s' I') hf
theorem Inv.call'{s':Shared}{ch:List Addr}(I:Inv X pins σ H s)(ho:s'.os=s.os)(u:Un (frs X.stack) ch H H' s.heap s'.heap)(hok:HOk X.prog X.w H' s'.heap)(hg:AllBare s'.gens)
  (hch:∀b∈ch,(b∈X.ex∨X.s₀.heap.objs.size<=b)/\b≠X.env.locals/\(∀x c,X.env.cells.lookup x=some c->c≠b)/\∀p∈X.pn++pins,p.1≠b):Inv X pins σ H' s':=by
 obtain⟨h',g',d',t',o'⟩:=s'
 have e:o'=s.os:=ho
 subst e
 exact I.call (g':=g') (t':=t') (d':=d') u hok hg hch
end
abbrev XK:=Value->Option Addr->Hp->Prop
abbrev St:=List (Option V)
abbrev VK:=V->Hp->Prop
abbrev TE:=St->Hp->VK->Prop
abbrev TT:=St->Hp->(Bool->Hp->Prop)->Prop
abbrev TA:=St->Hp->(List V->Hp->Prop)->Prop
structure Ends where
 nx:St->Hp->Prop
 rt:VK
 bk:St->Hp->Prop:=fun _ _=>False
 ct:St->Hp->Prop:=fun _ _=>False
abbrev TS:=Ends->St->Hp->Prop
def EP(X:Cx)(pins:List (Addr×Obj))(σ:St)(Q:VK)(u:Value)(s':Shared):Prop:=∃v H',Inv X pins σ H' s'/\RelV v u/\Q v H'
def TP(X:Cx)(pins:List (Addr×Obj))(σ:St)(Q:Bool->Hp->Prop)(b:Bool)(s':Shared):Prop:=∃H',Inv X pins σ H' s'/\Q b H'
def AP(X:Cx)(pins:List (Addr×Obj))(σ:St)(Q:List V->Hp->Prop)(us:List Value)(s':Shared):Prop:=∃vs H',Inv X pins σ H' s'/\Vals vs us/\Q vs H'
def SP(X:Cx)(pins:List (Addr×Obj))(D:Ends)(f:Flow)(s':Shared):Prop:=
 match f with
 | .next=>∃σ' H',Inv X pins σ' H' s'/\D.nx σ' H'
 | .brk=>∃σ' H',Inv X pins σ' H' s'/\D.bk σ' H'
 | .cont=>∃σ' H',Inv X pins σ' H' s'/\D.ct σ' H'
 | .ret u=>∃v σ' H',Inv X pins σ' H' s'/\RelV v u/\D.rt v H'
def PE(X:Cx)(e:Expr)(t:TE):Prop:=
 ∀(pins:List (Addr×Obj)) (s:Shared) (σ:St) (H:Hp) (Q:VK),Inv X pins σ H s->t σ H Q->wpAny (model X.prog X.w) X.A (eval e X.env) (EP X pins σ Q) X.xe s
def PT(X:Cx)(e:Expr)(t:TT):Prop:=
 ∀(pins:List (Addr×Obj)) (s:Shared) (σ:St) (H:Hp) (Q:Bool->Hp->Prop),Inv X pins σ H s->t σ H Q->wpAny (model X.prog X.w) X.A (isTrue e X.env (eval e X.env)) (TP X pins σ Q) X.xe s
def PW(X:Cx)(e:Expr)(t:TT):Prop:=
 ∀(whole:Sem Value) (pins:List (Addr×Obj)) (s:Shared) (σ:St) (H:Hp) (Q:Bool->Hp->Prop),Inv X pins σ H s->t σ H Q->wpAny (model X.prog X.w) X.A (isTrue e X.env whole) (TP X pins σ Q) X.xe s
theorem PW.pt{X:Cx}{e:Expr}{t:TT}(h:PW X e t):PT X e t:=h _
def PA(X:Cx)(es:List Expr)(t:TA):Prop:=
 ∀(pos:Pos) (pins:List (Addr×Obj)) (s:Shared) (σ:St) (H:Hp) (Q:List V->Hp->Prop),Inv X pins σ H s->t σ H Q->wpAny (model X.prog X.w) X.A (spliced (backTo pos (starEach es X.env))) (AP X pins σ Q) X.xe s
def PS(X:Cx)(st:Stmt)(t:TS):Prop:=
 ∀(pins:List (Addr×Obj)) (s:Shared) (σ:St) (H:Hp) (D:Ends),Inv X pins σ H s->t D σ H->wpAny (model X.prog X.w) X.A (exec st X.env) (SP X pins D) X.xe s
def PSs(X:Cx)(st:List Stmt)(t:TS):Prop:=
 ∀(pins:List (Addr×Obj)) (s:Shared) (σ:St) (H:Hp) (D:Ends),Inv X pins σ H s->t D σ H->wpAny (model X.prog X.w) X.A (execs st X.env) (SP X pins D) X.xe s
theorem thn{α:Type}{t:Sem α}{Q Q':α->Shared->Prop}{M:Model}{A:Around}{E:Value->Shared->Prop}{s:Shared}(h:wpAny M A t Q E s)(hQ:∀a s,Q a s->Q' a s):wpAny M A t Q' E s:=wpAny_mono h hQ fun _ _ x=>x
section
variable {X:Cx}
def tVar(i:Nat):TE:=fun σ H Q=>∃v,σ[i]?=some (some v)/\Q v H
def tC(v:V):TE:=fun _ H Q=>Q v H
theorem pe_var{i:Nat}{x:Str}{pos:Pos}(hN:X.N[i]?=some x)(hv:Vis X.env.scope x)(hd:(x==("__debug__":Str))=false:=by decide)(hcd:(x==("__classdict__":Str))=false:=by decide):PE X (.Name x pos) (tVar i):=by
 intro pins s σ H Q I h
 obtain⟨v,e,h⟩:=h
 obtain⟨m,hn,hl⟩:=I.loc
 obtain⟨u,r,l⟩:=hl i x v hN e hv
 have fin:EP X pins σ Q u s:=⟨v,H,I,r,h⟩
 rcases l with ⟨hk,hm⟩ | ⟨hk,c,hc,hcell⟩
 ·exact wpAny_Name (wpAny_loadName_local I.ok.kind hk hn hm fin) hd
 ·rcases hk with hk |hk
  ·exact wpAny_Name (wpAny_loadName_cell I.ok.kind hk hc hcell fin) hd
  ·exact wpAny_Name (wpAny_loadName_free I.ok.kind hk hc hcell fin hcd) hd
theorem jc{i j pos}:PE X (.Constant (.int i) j pos) (tC (.int i)):=fun _ _ _ H _ I h=>wpAny_Constant_int ⟨.int i,H,I.tok _,⟨_,rfl⟩,h⟩
theorem qm{b j pos}:PE X (.Constant (.bool b) j pos) (tC (.bl b)):=fun _ _ _ H _ I h=>Constant_bool ⟨.bl b,H,I,rfl,h⟩
theorem QP{j pos}:PE X (.Constant .none j pos) (tC .non):=fun _ _ _ H _ I h=>Constant_none ⟨.non,H,I,rfl,h⟩
theorem ji{x j pos}:PE X (.Constant (.str x) j pos) (tC (.str x)):=fun _ _ _ H _ I h=>Calls.Constant_str ⟨.str x,H,I.tok _,⟨_,rfl⟩,h⟩
def Gl(X:Cx)(x:Str):Prop:=X.env.kindOf x=some .globalImplicit
theorem zE{E:Value->Shared->Prop}{pins:List (Addr×Obj)}{s:Shared}{σ:St}{H:Hp}{x:Str}{u:Value}{pos:Pos}{Q:Value->Shared->Prop}(I:Inv X pins σ H s)(hg:Gl X x)(hm:X.mg x=some u)(h:Q u s)
  (hd:(x==("__debug__":Str))=false:=by decide):wpAny (model X.prog X.w) X.A (eval (.Name x pos) X.env) Q E s:=
 Calls.Name_function_global I.ok.kind hg (Calls.loadGlobal_global (by rw[I.ok.glob];exact I.mod.glob.keeps I.bk) hm h) hd
theorem zP{E:Value->Shared->Prop}{pins:List (Addr×Obj)}{s:Shared}{σ:St}{H:Hp}{x:Str}{u:Value}{pos:Pos}{Q:Value->Shared->Prop}(I:Inv X pins σ H s)(hg:Gl X x)(hm:X.mg x=none)(hv:bootBuiltins x=some u)(h:Q u s)
  (hn:x≠"__name__":=by decide) (hd:(x==("__debug__":Str))=false:=by decide):wpAny (model X.prog X.w) X.A (eval (.Name x pos) X.env) Q E s:=by
 obtain⟨mb,h1,h2⟩:=I.mod.blt
 exact Calls.Name_function_global I.ok.kind hg (Calls.loadGlobal_builtin (by rw[I.ok.glob];exact I.mod.glob.keeps I.bk) hm (by rw[I.ok.blt];exact h1.keeps I.bk) ((h2 x hn).trans hv) h) hd
theorem kr{x:Str}{v:V}{u:Value}{pos:Pos}(hg:Gl X x)(hm:X.mg x=some u)(r:RelV v u)(hd:(x==("__debug__":Str))=false:=by decide):PE X (.Name x pos) (tC v):=
 fun _ _ _ H _ I h=>zE I hg hm ⟨v,H,I,r,h⟩ hd
theorem qF{x:Str}{v:V}{u:Value}{pos:Pos}(hg:Gl X x)(hm:X.mg x=none)(hv:bootBuiltins x=some u)(r:RelV v u)(hn:x≠"__name__":=by decide)(hd:(x==("__debug__":Str))=false:=by decide):PE X (.Name x pos) (tC v):=
 fun _ _ _ H _ I h=>zP I hg hm hv ⟨v,H,I,r,h⟩ hn hd
variable {a b:Expr}{ta tb:TE}{pos:Pos}
def PC(X:Cx)(op:CmpOp)(a b:Expr)(t:TE):Prop:=
 ∀(pins:List (Addr×Obj)) (s:Shared) (σ:St) (H:Hp) (Q:VK),Inv X pins σ H s->t σ H Q->
  wpAny (model X.prog X.w) X.A (eval a X.env) (fun v s₁=>wpAny (model X.prog X.w) X.A (eval b X.env) (fun u s₂=>wpAny (model X.prog X.w) X.A (compareOp op v u) (EP X pins σ Q) X.xe s₂) X.xe s₁) X.xe s
def tNotN(ta:TE):TE:=fun σ H Q=>ta σ H fun x H1=>Q (.bl (!decide (x= .non))) H1
theorem RelV.none_iff{x:V}{v:Value}(r:RelV x v):(v==Value.none)=decide (x= .non):=by
 cases x with
 |non=>cases r;rfl
 |bl _=>cases r;rfl
 |int _=>obtain⟨t,rfl⟩:=r;rfl
 |str _=>obtain⟨t,rfl⟩:=r;rfl
 |byt _=>obtain⟨t,rfl⟩:=r;rfl
 |flt _=>obtain⟨t,rfl⟩:=r;rfl
 |ref _=>cases r;rfl
 |ty _=>cases r;rfl
theorem Z6{j pos'}(ha:PE X a ta):PC X .IsNot a (.Constant .none j pos') (tNotN ta):=by
 intro pins s σ H Q I h
 refine thn (ha pins s σ H _ I h) fun v s1 ⟨x,H1,I1,r1,q1⟩=>?_
 exact Constant_none (isnot_none_gen ⟨.bl _,H1,I1,by rw[r1.none_iff];rfl,q1⟩)
def tB(t:TE):TT:=fun σ H Q=>t σ H fun x H1=>∃c,x= .bl c/\Q c H1
theorem YW{op:CmpOp}{t:TE}(h:PC X op a b t)(h1:behindInMarks op b=false:=by first |exact nobehind _ (by decide) (by decide) |rfl):PT X (.Compare a [op] [b] pos) (tB t):=by
 intro pins s σ H Q I hw
 refine wpAny_isTrue_Compare1 (thn (h pins s σ H _ I hw) fun v s1 h1=>thn h1 fun u s2 h2=>thn h2 fun c s3 ⟨x,H1,I1,r1,q1⟩=>?_) h1
 obtain⟨d,rfl,q⟩:=q1
 cases r1
 exact wpAny_truthy_bool ⟨H1,I1,q⟩
theorem ky{e:Expr}{t:TE}(h:PE X e t)(he:∀whole,isTrue e X.env whole=(do let v <- whole;standAt e.pos;holding [v] (truthy v)):=by intro _;rfl):PT X e (tB t):=by
 intro pins s σ H Q I hw
 refine isTrue_plain (thn (h pins s σ H _ I hw) fun v s1 ⟨x,H1,I1,r1,q1⟩=>?_) (he _)
 obtain⟨d,rfl,q⟩:=q1
 cases r1
 exact wpAny_truthy_bool ⟨H1,I1,q⟩
variable {tA tB':TT}{rest:List Expr}
def tAnd(t u:TT):TT:=fun σ H Q=>t σ H fun c H1=>if c=true then u σ H1 Q else Q false H1
def tOr(t u:TT):TT:=fun σ H Q=>t σ H fun c H1=>if c=true then Q true H1 else u σ H1 Q
def tNot(t:TT):TT:=fun σ H Q=>t σ H fun c H1=>Q (!c) H1
theorem qg(ha:PT X a tA):PW X (.BoolOp .And [a] pos) tA:=by
 intro wh pins s σ H Q I h
 refine isTrue_and (thn (ha pins s σ H Q I h) fun c s1 e=>?_)
 cases c with
 |true=>exact isTrue_and_nil e
 |false=>exact e
theorem qu(ha:PT X a tA):PW X (.BoolOp .Or [a] pos) tA:=by
 intro wh pins s σ H Q I h
 refine isTrue_or (thn (ha pins s σ H Q I h) fun c s1 e=>?_)
 cases c with
 |false=>exact isTrue_or_nil e
 |true=>exact e
theorem Jd(ha:PT X a tA)(hb:PW X (.BoolOp .And (b::rest) pos) tB'):PW X (.BoolOp .And (a::b::rest) pos) (tAnd tA tB'):=by
 intro wh pins s σ H Q I h
 refine isTrue_and (thn (ha pins s σ H _ I h) fun c s1 ⟨H1,I1,q1⟩=>?_)
 cases c with
 |true=>exact hb wh pins s1 σ H1 Q I1 q1
 |false=>exact⟨H1,I1,q1⟩
theorem Jp(ha:PT X a tA)(hb:PW X (.BoolOp .Or (b::rest) pos) tB'):PW X (.BoolOp .Or (a::b::rest) pos) (tOr tA tB'):=by
 intro wh pins s σ H Q I h
 refine isTrue_or (thn (ha pins s σ H _ I h) fun c s1 ⟨H1,I1,q1⟩=>?_)
 cases c with
 |true=>exact⟨H1,I1,q1⟩
 |false=>exact hb wh pins s1 σ H1 Q I1 q1
theorem zp(ha:PT X a tA):PT X (.UnaryOp .Not a pos) (tNot tA):=by
 intro pins s σ H Q I h
 exact isTrue_not (ha pins s σ H (fun c H1=>Q (!c) H1) I h)
def tAndV(ta tb:TE):TE:=fun σ H Q=>ta σ H fun x H1=>∃c,x= .bl c/\if c=true then tb σ H1 Q else Q (.bl false) H1
def tOrV(ta tb:TE):TE:=fun σ H Q=>ta σ H fun x H1=>∃c,x= .bl c/\if c=true then Q (.bl true) H1 else tb σ H1 Q
def tNotV(ta:TE):TE:=fun σ H Q=>ta σ H fun x H1=>∃c,x= .bl c/\Q (.bl (!c)) H1
theorem YX{op}{t:TE}(h:PE X a t):PE X (.BoolOp op [a] pos) t:=fun pins s σ H Q I hw=>BoolOp_one (h pins s σ H Q I hw)
theorem pe_and(ha:PE X a ta)(hb:PE X (.BoolOp .And (b::rest) pos) tb):PE X (.BoolOp .And (a::b::rest) pos) (tAndV ta tb):=by
 intro pins s σ H Q I h
 refine BoolOp_and (thn (ha pins s σ H _ I h) fun v s1 ⟨x,H1,I1,r1,q1⟩=>?_)
 obtain⟨c,rfl,q1⟩:=q1
 cases r1
 refine wpAny_truthy_bool ?_
 cases c with
 |true=>exact hb pins s1 σ H1 Q I1 q1
 |false=>exact⟨.bl false,H1,I1,rfl,q1⟩
theorem pe_or(ha:PE X a ta)(hb:PE X (.BoolOp .Or (b::rest) pos) tb):PE X (.BoolOp .Or (a::b::rest) pos) (tOrV ta tb):=by
 intro pins s σ H Q I h
 refine BoolOp_or (thn (ha pins s σ H _ I h) fun v s1 ⟨x,H1,I1,r1,q1⟩=>?_)
 obtain⟨c,rfl,q1⟩:=q1
 cases r1
 refine wpAny_truthy_bool ?_
 cases c with
 |false=>exact hb pins s1 σ H1 Q I1 q1
 |true=>exact⟨.bl true,H1,I1,rfl,q1⟩
theorem YY(ha:PE X a ta):PE X (.UnaryOp .Not a pos) (tNotV ta):=by
 intro pins s σ H Q I h
 refine UnaryOp_ (thn (ha pins s σ H _ I h) fun v s1 ⟨x,H1,I1,r1,q1⟩=>?_)
 obtain⟨c,rfl,q1⟩:=q1
 cases r1
 exact not_of (wpAny_truthy_bool ⟨.bl (!c),H1,I1,rfl,q1⟩)
def tIf(t:TT)(ta tb:TE):TE:=fun σ H Q=>t σ H fun c H1=>if c=true then ta σ H1 Q else tb σ H1 Q
theorem z0{c:Expr}(hc:PT X c tA)(ha:PE X a ta)(hb:PE X b tb):PE X (.IfExp c a b pos) (tIf tA ta tb):=by
 intro pins s σ H Q I h
 refine wpAny_IfExp (thn (hc pins s σ H _ I h) fun d s1 ⟨H1,I1,q1⟩=>?_)
 cases d with
 |true=>exact ha pins s1 σ H1 Q I1 q1
 |false=>exact hb pins s1 σ H1 Q I1 q1
end
def SqL(K:Frag)(H:Hp)(a:Addr)(xs:List V):Prop:=
 Rd H a (.lst xs)∨
  ∃(o:Obj) (its:Array Value) (n:Nat),K.lookup a=some o/\o.cls= .type "list"/\o.dict=none/\o.data= .seq its n/\its.size<=sizeLine/\Vals xs its.toList
def SqT(K:Frag)(H:Hp)(a:Addr)(xs:List V):Prop:=
 Rd H a (.tup xs)∨
  ∃(o:Obj) (its:Array Value) (n:Nat),K.lookup a=some o/\o.cls= .type "tuple"/\o.data= .seq its n/\its.size<=sizeLine/\Vals xs its.toList
noncomputable def absV:Value->Option V
 | .none=>some .non
 | .bool b=>some (.bl b)
 | .int i _=>some (.int i)
 | .str x _=>some (.str x)
 | .bytes b _=>some (.byt b)
 | .float b _=>some (.flt b)
 | .ref a=>some (.ref a)
 | .type n=>some (.ty n)
 |_=>none
theorem RelV.abs{x:V}{u:Value}(r:RelV x u):absV u=some x:=by
 cases x with
 |non=>cases r;rfl
 |bl _=>cases r;rfl
 |int _=>obtain⟨t,rfl⟩:=r;rfl
 |str _=>obtain⟨t,rfl⟩:=r;rfl
 |byt _=>obtain⟨t,rfl⟩:=r;rfl
 |flt _=>obtain⟨t,rfl⟩:=r;rfl
 |ref _=>cases r;rfl
 |ty _=>cases r;rfl
theorem RelV.inj{x y:V}{u:Value}(r:RelV x u)(q:RelV y u):x=y:=Option.some.inj (r.abs.symm.trans q.abs)
theorem Vals.inj:∀{xs ys:List V} {us:List Value},Vals xs us->Vals ys us->xs=ys
 |_,_,_,.nil,.nil=>rfl
 |_,_,_,.cons r t,.cons r' t'=>by rw[r.inj r',Vals.inj t t']
section
variable {X:Cx}{pins:List (Addr×Obj)}{σ:St}{H:Hp}{s:Shared}{a:Addr}{xs ys:List V}
theorem SqL.of{K:Frag}(h:H a=some (.lst xs)):SqL K H a xs:=.inl (.inl h)
theorem SqT.of{K:Frag}(h:H a=some (.tup xs)):SqT K H a xs:=.inl (.inl h)
theorem Inv.list(I:Inv X pins σ H s)(h:SqL X.K H a xs):∃its:List Value,Vals xs its/\PlainL s.heap a its.toArray/\xs.length<=sizeLine:=by
 rcases h with h | ⟨o,its,n,hk,hc,hd,hs,hz,r⟩
 ·obtain⟨z,its,n,r,e⟩:=h.ok I.hok
  exact⟨its,r,⟨_,n,e,rfl,rfl,rfl⟩,z⟩
 ·refine⟨its.toList,r,⟨o,n,I.kIn a o hk,hc,hd,by simpa using hs⟩,?_⟩
  have e:=r.length
  simp only[Array.length_toList]at e
  omega
theorem Inv.tuple(I:Inv X pins σ H s)(h:SqT X.K H a xs):∃its:List Value,Vals xs its/\IsTup s.heap a its.toArray/\xs.length<=sizeLine:=by
 rcases h with h | ⟨o,its,n,hk,hc,hs,hz,r⟩
 ·obtain⟨z,its,r,p⟩:=h.ok I.hok
  exact⟨its,r,p,z⟩
 ·refine⟨its.toList,r,⟨o,I.kIn a o hk,hc,n,by simpa using hs⟩,?_⟩
  have e:=r.length
  simp only[Array.length_toList]at e
  omega
theorem Inv.list_inj(I:Inv X pins σ H s)(h:SqL X.K H a xs)(h':SqL X.K H a ys):xs=ys:=by
 obtain⟨its,r,⟨o,n,e,_,_,d⟩,_⟩:=I.list h
 obtain⟨its',r',⟨o',n',e',_,_,d'⟩,_⟩:=I.list h'
 rw[e]at e';cases e'
 rw[d]at d'
 injection d' with d1 _
 have:its=its':=by simpa using congrArg Array.toList d1
 subst this
 exact r.inj r'
theorem Inv.tuple_inj(I:Inv X pins σ H s)(h:SqT X.K H a xs)(h':SqT X.K H a ys):xs=ys:=by
 obtain⟨its,r,⟨o,e,_,n,d⟩,_⟩:=I.tuple h
 obtain⟨its',r',⟨o',e',_,n',d'⟩,_⟩:=I.tuple h'
 rw[e]at e';cases e'
 rw[d]at d'
 injection d' with d1 _
 have:its=its':=by simpa using congrArg Array.toList d1
 subst this
 exact r.inj r'
end
noncomputable abbrev Cx.wish(X:Cx)(E:Value->Shared->Prop):Cx:={ X with xe:=E }
noncomputable abbrev Cx.nox(X:Cx):Cx:=X.wish fun _ _=>False
theorem Cx.Ok.wish{X:Cx}(ok:X.Ok)(E:Value->Shared->Prop):(X.wish E).Ok:=
 ⟨ok.mod,ok.kind,ok.glob,ok.blt,ok.above,ok.inj,ok.has,ok.cab,ok.hd,ok.frames,ok.stk,ok.exf,ok.bs,ok.bsz,ok.noex,ok.exfs,ok.funs,ok.frf⟩
theorem Cx.Ok.unwish{X:Cx}{E:Value->Shared->Prop}(ok:(X.wish E).Ok):X.Ok:=
 ⟨ok.mod,ok.kind,ok.glob,ok.blt,ok.above,ok.inj,ok.has,ok.cab,ok.hd,ok.frames,ok.stk,ok.exf,ok.bs,ok.bsz,ok.noex,ok.exfs,ok.funs,ok.frf⟩
section
variable {X:Cx}{pins:List (Addr×Obj)}{σ:St}{H:Hp}{s:Shared}{E:Value->Shared->Prop}
theorem Inv.wish(I:Inv X pins σ H s)(E:Value->Shared->Prop):Inv (X.wish E) pins σ H s:=⟨I.ok.wish E,I.os,I.bare,I.base,I.loc,I.cell,I.free,I.freeC,I.pin,I.hok,I.len⟩
theorem Inv.unwish(I:Inv (X.wish E) pins σ H s):Inv X pins σ H s:=⟨I.ok.unwish,I.os,I.bare,I.base,I.loc,I.cell,I.free,I.freeC,I.pin,I.hok,I.len⟩
theorem SP.unwish{D:Ends}{f:Flow}{s':Shared}(h:SP (X.wish E) pins D f s'):SP X pins D f s':=by
 cases f with
 |next=>obtain⟨σ',H',I,q⟩:=h;exact⟨σ',H',I.unwish,q⟩
 |brk=>obtain⟨σ',H',I,q⟩:=h;exact⟨σ',H',I.unwish,q⟩
 |cont=>obtain⟨σ',H',I,q⟩:=h;exact⟨σ',H',I.unwish,q⟩
 |ret u=>obtain⟨v,σ',H',I,r,q⟩:=h;exact⟨v,σ',H',I.unwish,r,q⟩
theorem PSs.nox{st:List Stmt}{t:TS}(h:PSs X.nox st t):PSs X st t:=fun pins s σ H D I hw=>
 wpAny_mono (h pins s σ H D (I.wish _) hw) (fun _ _ q=>q.unwish) fun _ _ z=>False.elim z
end
section
variable {X:Cx}{st:Stmt}{rest:List Stmt}{t u:TS}{e:Expr}{te:TE}{pos:Pos}
def tNext:TS:=fun D σ H=>D.nx σ H
def tSeq(t u:TS):TS:=fun D σ H=>t { D with nx:=u D } σ H
theorem jq:PSs X [] tNext:=fun _ _ σ H _ I h=>wpAny_execs_nil ⟨σ,H,I,h⟩
theorem jd(h1:PS X st t)(h2:PSs X rest u):PSs X (st::rest) (tSeq t u):=by
 intro pins s σ H D I h
 refine wpAny_execs_cons (thn (h1 pins s σ H { D with nx:=u D } I h) fun f s1 q=>?_)
 cases f with
 |next=>
  obtain⟨σ',H',I',q⟩:=q
  exact h2 pins s1 σ' H' D I' q
 |ret v=>exact q
 |brk=>exact q
 |cont=>exact q
theorem jj(h1:PS X st t):PSs X [st] t:=by
 intro pins s σ H D I h
 refine wpAny_execs_cons (thn (h1 pins s σ H D I h) fun f s1 q=>?_)
 cases f with
 |next=>exact wpAny_execs_nil q
 |ret v=>exact q
 |brk=>exact q
 |cont=>exact q
theorem Inv.quiet{pins:List (Addr×Obj)}{σ:St}{H:Hp}{s:Shared}(I:Inv X pins σ H s):interactive X.env=false:=by simp [interactive,I.ok.kind]
def tDrop(te:TE):TS:=fun D σ H=>te σ H fun _ H1=>D.nx σ H1
theorem jU(he:PE X e te)(hs:swapsWith e none pos.line X.env=pure false:=by rfl):PS X (.Expr e pos) (tDrop te):=by
 intro pins s σ H D I h
 exact wpAny_Expr_any (thn (he pins s σ H _ I h) fun v s1 ⟨x,H1,I1,r1,q1⟩=>⟨σ,H1,I1,q1⟩) I.quiet hs
def tRet(te:TE):TS:=fun D σ H=>te σ H D.rt
theorem jv(he:PE X e te):PS X (.Return (some e) pos) (tRet te):=by
 intro pins s σ H D I h
 exact wpAny_Return_some (thn (he pins s σ H _ I h) fun v s1 ⟨x,H1,I1,r1,q1⟩=>⟨x,σ,H1,I1,r1,q1⟩)
def tRetN:TS:=fun D _ H=>D.rt .non H
theorem Z7:PS X (.Return none pos) tRetN:=fun _ _ σ H _ I h=>wpAny_Return_none ⟨.non,σ,H,I,rfl,h⟩
def tIfS(c:TT)(t u:TS):TS:=fun D σ H=>c σ H fun b H1=>if b=true then t D σ H1 else u D σ H1
theorem jy{c:Expr}{a b:List Stmt}{tc:TT}(hc:PT X c tc)(ha:PSs X a t)(hb:PSs X b u):PS X (.If c a b pos) (tIfS tc t u):=by
 intro pins s σ H D I h
 refine wpAny_If (thn (hc pins s σ H _ I h) fun d s1 ⟨H1,I1,q1⟩=>?_)
 cases d with
 |true=>exact ha pins s1 σ H1 D I1 q1
 |false=>exact hb pins s1 σ H1 D I1 q1
end
abbrev TG:=V->St->Hp->(St->Hp->Prop)->Prop
abbrev TGs:=List V->St->Hp->(St->Hp->Prop)->Prop
def PG(X:Cx)(target:Expr)(t:TG):Prop:=
 ∀(pins:List (Addr×Obj)) (s:Shared) (σ:St) (H:Hp) (v:V) (u:Value) (Q:St->Hp->Prop),Inv X pins σ H s->RelV v u->t v σ H Q->
  wpAny (model X.prog X.w) X.A (assign target X.env u) (fun _ s'=>∃σ' H',Inv X pins σ' H' s'/\Q σ' H') X.xe s
def PGs(X:Cx)(ts:List Expr)(t:TGs):Prop:=
 ∀(pins:List (Addr×Obj)) (s:Shared) (σ:St) (H:Hp) (vs:List V) (us:List Value) (Q:St->Hp->Prop),Inv X pins σ H s->Vals vs us->t vs σ H Q->
  wpAny (model X.prog X.w) X.A (assignInOrder ((assignEach ts X.env).map (·.2)) us) (fun _ s'=>∃σ' H',Inv X pins σ' H' s'/\Q σ' H') X.xe s
abbrev TSet:=V->V->V->Hp->(Hp->Prop)->Prop
def PSet(X:Cx)(t:TSet):Prop:=
 ∀(pins:List (Addr×Obj)) (s:Shared) (σ:St) (H:Hp) (o i v:V) (ov iv u:Value) (Q:Hp->Prop),Inv X pins σ H s->RelV o ov->RelV i iv->RelV v u->t o i v H Q->
  wpAny (model X.prog X.w) X.A (setItem ov iv u) (fun _ s'=>∃H',Inv X pins σ H' s'/\Q H') X.xe s
section
variable {X:Cx}{pos:Pos}
def gName(i:Nat):TG:=fun v σ H Q=>Q (σ.set i (some v)) H
theorem jx{i:Nat}{x:Str}(hN:X.N.Nodup)(hi:X.N[i]?=some x)(hx:Loc X.env.scope x)(hf:X.fn x=true∨X.env.scope.names.lookup x=some .local:=by first |exact .inl rfl |exact .inr rfl |assumption):PG X (.Name x pos) (gName i):=by
 intro pins s σ H v u Q I r h
 exact wpAny_assign_Name (zk I hN hi hx r (fun s' I'=>⟨_,H,I',h⟩) hf)
def gNil:TGs:=fun vs σ H Q=>vs=[]/\Q σ H
def gCons(t:TG)(u:TGs):TGs:=fun vs σ H Q=>∃v r,vs=v::r/\t v σ H fun σ' H'=>u r σ' H' Q
theorem zi:PGs X [] gNil:=by
 intro pins s σ H vs us Q I r h
 obtain⟨e,h⟩:=h
 subst e
 cases r
 exact assignInOrder_nil ⟨σ,H,I,h⟩
theorem jE{e:Expr}{es:List Expr}{t:TG}{u:TGs}(h1:PG X e t)(h2:PGs X es u)
  (hs:(assignEach (e::es) X.env).map (·.2)=assign e X.env::(assignEach es X.env).map (·.2):=by rfl):PGs X (e::es) (gCons t u):=by
 intro pins s σ H vs us Q I r h
 obtain⟨v,vr,e1,h⟩:=h
 subst e1
 cases r with
 |cons r rr=>
  rw[hs]
  refine assignInOrder_cons (thn (h1 pins s σ H _ _ _ I r h) fun _ s1 ⟨σ1,H1,I1,q1⟩=>?_)
  exact h2 pins s1 σ1 H1 _ _ Q I1 rr q1
def gTup(K:Frag)(n:Nat)(t:TGs):TG:=fun v σ H Q=>∃a xs,v= .ref a/\SqT K H a xs/\xs.length=n/\t xs σ H Q
theorem zX{es:List Expr}{k:Nat}{t:TGs}{n:Nat}(hc:X.calm=true)(h:PGs X es t)
  (hn:(assignEach es X.env).length=n:=by rfl) (hst:(assignEach es X.env).findIdx? (·.1)=none:=by rfl):PG X (.Tuple es k pos) (gTup X.K n t):=by
 intro pins s σ H v u Q I r hw
 obtain⟨a,xs,e1,hq,hl,hw⟩:=hw
 subst e1
 cases r
 obtain⟨its,rv,ht,hz⟩:=I.tuple hq
 refine assign_Tuple_tuple (I.ok.hd hc) ht (by simp [hn,<- hl,rv.length]) hst fun h' hx=>?_
 have I1:Inv X pins σ H { s with heap:=h' }:=I.kept (t':=s.toks) fun b o e=>hx b o (Nat.ne_of_lt (Heap.lt_size e)) e
 exact h pins _ σ H xs _ Q I1 (by simpa using rv) hw
def gSub(to ti:TE)(t:TSet):TG:=fun v σ H Q=>to σ H fun o H1=>ti σ H1 fun i H2=>t o i v H2 fun H3=>Q σ H3
theorem qv{o i:Expr}{to ti:TE}{t:TSet}(ho:PE X o to)(hi:PE X i ti)(hs:PSet X t)
  (ha:∀v,assign (.Subscript o i pos) X.env v=(do
   let ov <- holding [v] (eval o X.env)
   let iv <- holding [v,ov] (eval i X.env)
   standAt pos
   holding [v,ov,iv] (setItem ov iv v)
   release [v,ov,iv] []):=by intro _;rfl):PG X (.Subscript o i pos) (gSub to ti t):=by
 intro pins s σ H v u Q I r h
 rw[ha]
 refine wpAny_bind (wpAny_holding (thn (ho pins s σ H _ I h) fun ov s1 ⟨x,H1,I1,r1,q1⟩=>?_))
 refine wpAny_bind (wpAny_holding (thn (hi pins s1 σ H1 _ I1 q1) fun iv s2 ⟨y,H2,I2,r2,q2⟩=>?_))
 refine wpAny_bind (wpAny_standAt (wpAny_bind (wpAny_holding (thn (hs pins s2 σ H2 x y v ov iv u _ I2 r1 r2 r q2) fun _ s3 ⟨H3,I3,q3⟩=>?_))))
 exact wpAny_release ⟨σ,H3,I3,q3⟩
def tAsg(te:TE)(g:TG):TS:=fun D σ H=>te σ H fun x H1=>g x σ H1 D.nx
theorem kE{tg e:Expr}{te:TE}{g:TG}(he:PE X e te)(hg:PG X tg g)(hs:swapsWithSole [tg] e pos.line X.env=pure false:=by rfl)(hw:swappedStores [tg] e X.env=pure none:=by rfl)
  (h1:(assignEach [tg] X.env).map (·.2)=[assign tg X.env]:=by rfl):PS X (.Assign [tg] e pos) (tAsg te g):=by
 intro pins s σ H D I h
 refine wpAny_Assign_stores (thn (he pins s σ H _ I h) fun v s1 ⟨x,H1,I1,r1,q1⟩=>?_) hs hw
 rw[h1]
 exact thn (hg pins s1 σ H1 x v _ I1 r1 q1) fun _ s2 q=>q
theorem jo{i:Nat}{x:Str}{e:Expr}{te:TE}{pos':Pos}(hN:X.N.Nodup)(hi:X.N[i]?=some x)(hx:Loc X.env.scope x)(he:PE X e te)(hs:swapsWith e (some (.Name x pos')) pos.line X.env=pure false:=by rfl)(hf:X.fn x=true∨X.env.scope.names.lookup x=some .local:=by first |exact .inl rfl |exact .inr rfl |assumption):
  PS X (.Assign [.Name x pos'] e pos) (tAsg te (gName i)):=by
 intro pins s σ H D I h
 refine wpAny_Assign_Name (thn (he pins s σ H _ I h) fun v s1 ⟨y,H1,I1,r1,q1⟩=>?_) hs
 exact zk I1 hN hi hx r1 (fun s2 I2=>⟨_,H1,I2,q1⟩) hf
end
section
variable {X:Cx}{pos:Pos}
def tWhile(c:TT)(tb:TS):TS:=fun D σ H=>∃W:Nat->St->Hp->Prop,(∃m,W m σ H)/\∀m σ H,W m σ H->
 c σ H fun b H1=>if b=true then ∃N:St->Hp->Prop,(∀σ' H',N σ' H'->∃m',m' < m/\W m' σ' H')/\tb { D with nx:=N,ct:=N,bk:=D.nx } σ H1 else D.nx σ H1
theorem Qk{c:Expr}{body:List Stmt}{tc:TT}{tb:TS}(hp:PassesOwn (model X.prog X.w) X.A X.env X.xe)(hc:PT X c tc)(hb:PSs X body tb):PS X (.While c body [] pos) (tWhile tc tb):=by
 intro pins s σ H D I h
 obtain⟨W,⟨m0,w0⟩,turn⟩:=h
 refine wpAny_While (codeAny_whileLoop (fun n s'=>∃σ' H',Inv X pins σ' H' s'/\W n σ' H') ?_ m0 ⟨σ,H,I,w0⟩)
 rintro n s1 ⟨σ1,H1,I1,w1⟩
 refine wpAny_passesOwn hp (thn (hc pins s1 σ1 H1 _ I1 (turn n σ1 H1 w1)) fun b s2 ⟨H2,I2,q2⟩=>?_)
 cases b with
 |true=>
  obtain⟨N,hN,q2⟩:=q2
  rw[if_pos rfl]
  refine wpAny_passesOwn hp (thn (hb pins s2 σ1 H2 _ I2 q2) fun f s3 q3=>?_)
  cases f with
  |next=>
   obtain⟨σ3,H3,I3,n3⟩:=q3
   obtain⟨m',hm,w3⟩:=hN σ3 H3 n3
   exact⟨m',hm,σ3,H3,I3,w3⟩
  |cont=>
   obtain⟨σ3,H3,I3,n3⟩:=q3
   obtain⟨m',hm,w3⟩:=hN σ3 H3 n3
   exact⟨m',hm,σ3,H3,I3,w3⟩
  |brk=>exact q3
  |ret v=>exact q3
 |false=>
  rw[if_neg Bool.false_ne_true]
  exact wpAny_execs_nil ⟨σ1,H2,I2,q2⟩
end
structure It where
 go:Nat->Hp->Prop
 yld:Nat->Hp->V->Hp->Prop
 stop:Nat->Hp->Prop
def FpOk(X:Cx)(pins:List (Addr×Obj))(H:Hp)(b:Addr):Prop:=
 H b=none/\b≠X.env.locals/\b∉X.fs/\(b∈X.ex∨X.s₀.heap.objs.size<=b)/\(∀x c,X.env.cells.lookup x=some c->c≠b)/\∀p∈X.pn++pins,p.1≠b
theorem Inv.fpOk{X:Cx}{pins:List (Addr×Obj)}{σ:St}{H H':Hp}{s:Shared}{b:Addr}(I:Inv X pins σ H s)(hb:s.heap.objs.size<=b)(hn:H' b=none):FpOk X pins H' b:=by
 refine⟨hn,Nat.ne_of_gt (Nat.lt_of_lt_of_le I.lt hb),I.nofs hb,.inr (Nat.le_trans I.sz hb),fun x c e z=>?_,fun p hp z=>?_⟩
 ·obtain⟨v,q⟩:=I.cell x c e
  exact absurd (Nat.lt_of_lt_of_le q.lt (by rw[z];exact hb)) (Nat.lt_irrefl _)
 ·exact absurd (Nat.lt_of_lt_of_le (Heap.lt_size (I.pin p hp).1) (by rw[z];exact hb)) (Nat.lt_irrefl _)
structure Turn(P:Program)(w:World)(K:Frag)(tg:Expr)(J:It)(fp:List Addr)(it:Addr)(tn:Nat->Heap->Prop):Prop where
 mem:it∈fp
 obj:∀i h,tn i h->∀b∈fp,∃o,h.get? b=some o/\∀v,o.data≠ .cell v
 keep:∀i h h',tn i h->(∀b∈fp,∀o,h.get? b=some o->h'.get? b=some o)->tn i h'
 item:∀(X:Cx),X.prog=P->X.w=w->X.K=K->X.calm=true->∀(i:Nat) (pins:List (Addr×Obj)) (s:Shared) (σ:St) (H:Hp) (E:Value->Shared->Prop),Inv X pins σ H s->(∀b∈fp,FpOk X pins H b)->tn i s.heap->J.go i H->
  wpAny (model P w) X.A (pyNext (.ref it)) (fun r s1=>∃u,r=some u/\
   wpAny (model P w) X.A (letOwnedTupleGo tg (.ref it) u) (fun _ s2=>∃x H',Inv X pins σ H' s2/\RelV x u/\J.yld i H x H'/\tn (i+1) s2.heap/\∀b∈fp,H' b=none) E s1) E s
 done:∀(X:Cx),X.prog=P->X.w=w->X.K=K->X.calm=true->∀(i:Nat) (pins:List (Addr×Obj)) (s:Shared) (σ:St) (H:Hp) (E:Value->Shared->Prop),Inv X pins σ H s->(∀b∈fp,FpOk X pins H b)->tn i s.heap->J.stop i H->
  wpAny (model P w) X.A (pyNext (.ref it)) (fun r s1=>r=none/\Inv X pins σ H s1) E s
 self:∀(A:Around) (i:Nat) (s:Shared) (Q:Value->Shared->Prop) (E:Value->Shared->Prop),tn i s.heap->Q (.ref it) s->wpAny (model P w) A (pyIter (.ref it)) Q E s
abbrev TI:=St->Hp->(It->Hp->Prop)->Prop
def PIE(X:Cx)(pins:List (Addr×Obj))(σ:St)(tg:Expr)(R:It->Hp->Prop)(itv:Value)(s2:Shared):Prop:=
 ∃(it:Addr) (fp:List Addr) (tn:Nat->Heap->Prop) (J:It) (H':Hp),itv= .ref it/\Inv X pins σ H' s2/\Turn X.prog X.w X.K tg J fp it tn/\tn 0 s2.heap/\(∀b∈fp,FpOk X pins H' b)/\R J H'
def PI(X:Cx)(tg iter:Expr)(wi:TI):Prop:=
 ∀(pins:List (Addr×Obj)) (s:Shared) (σ:St) (H:Hp) (R:It->Hp->Prop),Inv X pins σ H s->wi σ H R->
  wpAny (model X.prog X.w) X.A (eval iter X.env) (fun v s1=>wpAny (model X.prog X.w) X.A (pyIter v) (PIE X pins σ tg R) X.xe s1) X.xe s
theorem YO{M : Model}{A : Around}{E : Value -> Shared -> Prop}{s : Shared}{tg : Expr}{it : Addr}{u : Value}{o : Obj}{n : String}{vs : Array Value}{Q : Unit -> Shared -> Prop}(ho : s.heap.get? it = some o)(hc : o.cls = .type n)(hd : o.data = .fields vs)
    (hn : ["enumerate", "zip", "dict_itemiterator", "dict_reverseitemiterator", "odict_iterator", "itertools.zip_longest", "itertools.pairwise"].contains n = false) (hQ : Q () s) : wpAny M A (letOwnedTupleGo tg (.ref it) u) Q E s := by
  unfold letOwnedTupleGo
  cases tg <;> first
    | exact wpAny_pure hQ
    | (cases u <;> first
        | exact wpAny_pure hQ
        | (refine wpAny_bind (wpAny_load ho ?_)
           rw [hc, hd]
           show wpAny M A (if (["enumerate", "zip", "dict_itemiterator", "dict_reverseitemiterator", "odict_iterator", "itertools.zip_longest", "itertools.pairwise"].contains n && vs[0]? == some (rawInt _)) = true then _ else _) Q E s
           rw [if_neg (by intro h; rw [hn, Bool.false_and] at h; cases h)]
           exact wpAny_pure hQ))
noncomputable def Itl(K:Frag)(a:Addr):It:=
 ⟨fun i H=>∃xs x,SqL K H a xs/\xs[i]?=some x,fun i H x H'=>H'=H/\∀xs,SqL K H a xs->xs[i]?=some x,fun i H=>∃xs,SqL K H a xs/\xs.length<=i⟩
noncomputable def Itt(K:Frag)(a:Addr):It:=
 ⟨fun i H=>∃xs x,SqT K H a xs/\xs[i]?=some x,fun i H x H'=>H'=H/\∀xs,SqT K H a xs->xs[i]?=some x,fun i H=>∃xs,SqT K H a xs/\xs.length<=i⟩
noncomputable def Itr(lo:Int)(n:Nat):It:=⟨fun i _=>i < n,fun i H x H'=>H'=H/\x= .int (lo+i),fun i _=>n<=i⟩
theorem X0{P:Program}{w:World}{K:Frag}{tg:Expr}(a it:Addr):Turn P w K tg (Itl K a) [it] it (fun i h=>h.IsListIter it a i) where
 mem:=by simp
 obj:=fun i h st b hb=>by
  have e:b=it:=by simpa using hb
  subst e
  obtain⟨o,e,c,d⟩:=st
  exact⟨o,e,fun v z=>by rw[d]at z;cases z⟩
 keep:=fun i h h' st k=>st.at fun o e=>k it (by simp) o e
 item:=by
  intro X hP hw hK hc i pins s σ H E I hf st hg
  subst hP hw hK
  obtain⟨xs,x,hq,hx⟩:=hg
  obtain⟨its,rv,p,hz⟩:=I.list hq
  obtain⟨u,hu,ru⟩:=rv.get hx
  obtain⟨f0,f1,f2,f3,f4,f5⟩:=hf it (by simp)
  refine wpAny_pyNext_list_item st p.isList (x:=u) (by simpa using hu) fun h' st' sb=>?_
  have I1:Inv X pins σ H { s with heap:=h' }:=I.turned (t':=s.toks) (fun b o hb e=>(sb.2 b hb).trans e) f0 f1 f3 f4 f5
  obtain⟨o,e,c,d⟩:=id st'
  exact⟨u,rfl,YO (s:={ s with heap:=h' }) e c d (by decide) ⟨x,H,I1,ru,⟨rfl,fun ys hy=>by rw[I.list_inj hy hq];exact hx⟩,st',fun b hb=>(hf b hb).1⟩⟩
 done:=by
  intro X hP hw hK hc i pins s σ H E I hf st hg
  subst hP hw hK
  obtain⟨xs,hq,hx⟩:=hg
  obtain⟨its,rv,p,hz⟩:=I.list hq
  obtain⟨f0,f1,f2,f3,f4,f5⟩:=hf it (by simp)
  have hl:=rv.length
  exact wpAny_pyNext_list_end (I.ok.hd hc) st p.isList (by simp;omega) fun h' eb=>⟨rfl,I.turned (t':=s.toks) (fun b o hb e=>eb b o hb e) f0 f1 f3 f4 f5⟩
 self:=fun _ _ _ _ _ st h=>wpAny_pyIter_listiter st h
theorem QW{P:Program}{w:World}{K:Frag}{tg:Expr}(a it:Addr):Turn P w K tg (Itt K a) [it] it (fun i h=>h.IsTupleIter it a i) where
 mem:=by simp
 obj:=fun i h st b hb=>by
  have e:b=it:=by simpa using hb
  subst e
  obtain⟨o,e,c,d⟩:=st
  exact⟨o,e,fun v z=>by rw[d]at z;cases z⟩
 keep:=fun i h h' st k=>st.at fun o e=>k it (by simp) o e
 item:=by
  intro X hP hw hK hc i pins s σ H E I hf st hg
  subst hP hw hK
  obtain⟨xs,x,hq,hx⟩:=hg
  obtain⟨its,rv,p,hz⟩:=I.tuple hq
  obtain⟨u,hu,ru⟩:=rv.get hx
  obtain⟨f0,f1,f2,f3,f4,f5⟩:=hf it (by simp)
  refine wpAny_pyNext_tuple_item st (show s.heap.IsTuple a its.toArray from p) (x:=u) (by simpa using hu) fun h' st' sb=>?_
  have I1:Inv X pins σ H { s with heap:=h' }:=I.turned (t':=s.toks) (fun b o hb e=>(sb.2 b hb).trans e) f0 f1 f3 f4 f5
  obtain⟨o,e,c,d⟩:=id st'
  exact⟨u,rfl,YO (s:={ s with heap:=h' }) e c d (by decide) ⟨x,H,I1,ru,⟨rfl,fun ys hy=>by rw[I.tuple_inj hy hq];exact hx⟩,st',fun b hb=>(hf b hb).1⟩⟩
 done:=by
  intro X hP hw hK hc i pins s σ H E I hf st hg
  subst hP hw hK
  obtain⟨xs,hq,hx⟩:=hg
  obtain⟨its,rv,p,hz⟩:=I.tuple hq
  obtain⟨f0,f1,f2,f3,f4,f5⟩:=hf it (by simp)
  have hl:=rv.length
  exact wpAny_pyNext_tuple_end (I.ok.hd hc) st (show s.heap.IsTuple a its.toArray from p) (by simp;omega) fun h' eb=>⟨rfl,I.turned (t':=s.toks) (fun b o hb e=>eb b o hb e) f0 f1 f3 f4 f5⟩
 self:=fun _ _ _ _ _ st h=>wpAny_pyIter_tupleiter st h
theorem QX{P:Program}{w:World}{K:Frag}{tg:Expr}(it:Addr)(lo:Int)(n:Nat):Turn P w K tg (Itr lo n) [it] it (fun i h=>IsRangeIter h it (lo+(i:Nat)*1) ((n:Int) - (i:Nat)) 1) where
 mem:=by simp
 obj:=fun i h st b hb=>by
  have e:b=it:=by simpa using hb
  subst e
  exact⟨_,st,fun v z=>by
   have z':Data.fields _=Data.cell v:=z
   cases z'⟩
 keep:=fun i h h' st k=>k it (by simp) _ st
 item:=by
  intro X hP hw hK hc i pins s σ H E I hf st hg
  subst hP hw hK
  obtain⟨f0,f1,f2,f3,f4,f5⟩:=hf it (by simp)
  have W:=Walks.range (prog:=X.prog) (w:=X.w) (I.ok.hd hc) it lo 1 n
  refine W.item i s _ _ hg st fun v h' tk hv st' kk=>?_
  obtain⟨t,rfl⟩:=hv
  have I1:Inv X pins σ H { s with heap:=h',toks:=tk }:=I.turned (fun b o hb e=>kk b o (by simpa using hb) e) f0 f1 f3 f4 f5
  refine⟨_,rfl,YO (s:={ s with heap:=h',toks:=tk }) (n:="range_iterator") st' rfl rfl (by decide) ⟨.int (lo+i),H,I1,⟨t,?_⟩,⟨rfl,rfl⟩,st',fun b hb=>(hf b hb).1⟩⟩
  rw[Int.mul_one]
 done:=by
  intro X hP hw hK hc i pins s σ H E I hf st hg
  subst hP hw hK
  obtain⟨f0,f1,f2,f3,f4,f5⟩:=hf it (by simp)
  exact wpAny_pyNext_range_end (I.ok.hd hc) st (by have:n<=i:=hg;omega) fun h' eb=>⟨rfl,I.turned (t':=s.toks) (fun b o hb e=>eb b o hb e) f0 f1 f3 f4 f5⟩
 self:=fun _ _ _ _ _ st h=>wpAny_pyIter_rangeiter st h
section
variable {X:Cx}{tg:Expr}
def iList(K:Frag)(tl:TE):TI:=fun σ H R=>tl σ H fun x H1=>∃a,x= .ref a/\(∃xs,SqL K H1 a xs)/\R (Itl K a) H1
def iTup(K:Frag)(tl:TE):TI:=fun σ H R=>tl σ H fun x H1=>∃a,x= .ref a/\(∃xs,SqT K H1 a xs)/\R (Itt K a) H1
theorem JC{l:Expr}{tl:TE}(hl:PE X l tl):PI X tg l (iList X.K tl):=by
 intro pins s σ H R I h
 refine thn (hl pins s σ H _ I h) fun v s1 ⟨x,H1,I1,r1,q1⟩=>?_
 obtain⟨a,e,⟨xs,hq⟩,q⟩:=q1
 subst e
 cases r1
 obtain⟨its,rv,p,hz⟩:=I1.list hq
 refine wpAny_pyIter_list p.isList ?_
 refine⟨s1.heap.objs.size,[s1.heap.objs.size],_,_,H1,rfl,I1.kept (t':=s1.toks) fun b o e=>Heap.get?_push_of_some _ e,X0 a _,⟨_,Heap.get?_push_size _ rfl,rfl,rfl⟩,fun b hb=>?_,q⟩
 have e:b=s1.heap.objs.size:=by simpa using hb
 subst e
 exact I1.fpOk (Nat.le_refl _) (I1.hok.fresh (Nat.le_refl _))
theorem zI{l:Expr}{tl:TE}(hl:PE X l tl):PI X tg l (iTup X.K tl):=by
 intro pins s σ H R I h
 refine thn (hl pins s σ H _ I h) fun v s1 ⟨x,H1,I1,r1,q1⟩=>?_
 obtain⟨a,e,⟨xs,hq⟩,q⟩:=q1
 subst e
 cases r1
 obtain⟨its,rv,p,hz⟩:=I1.tuple hq
 refine wpAny_pyIter_tuple (show s1.heap.IsTuple a its.toArray from p) ?_
 refine⟨s1.heap.objs.size,[s1.heap.objs.size],_,_,H1,rfl,I1.kept (t':=s1.toks) fun b o e=>Heap.get?_push_of_some _ e,QW a _,⟨_,Heap.get?_push_size _ rfl,rfl,rfl⟩,fun b hb=>?_,q⟩
 have e:b=s1.heap.objs.size:=by simpa using hb
 subst e
 exact I1.fpOk (Nat.le_refl _) (I1.hok.fresh (Nat.le_refl _))
theorem Zj{pins:List (Addr×Obj)}{σ:St}{H:Hp}{s:Shared}{R:It->Hp->Prop}{E:Value->Shared->Prop}{lo hi:Int}{t u v:Tok}{tk:Nat}(I:Inv X pins σ H s)(h1: -(2 ^ 62)<=lo)(h2:lo < 2 ^ 62)(h3: -(2 ^ 62)<=hi)(h4:hi < 2 ^ 62)
  (q:R (Itr lo (hi - lo).toNat) H):wpAny (model X.prog X.w) X.A (pyIter (.ref s.heap.objs.size)) (PIE X pins σ tg R) E { s with heap:=s.heap.push { cls:=.type "range",data:=.fields #[.int lo t,.int hi u,.int 1 v] },toks:=tk }:=by
 refine wpAny_pyIter_range (IsRange.new ..) (small_one h1 h2 h3 h4) ?_
 have I1:Inv X pins σ H { s with heap:=s.heap.push { cls:=.type "range",data:=.fields #[.int lo t,.int hi u,.int 1 v] },toks:=tk }:=I.kept fun b o e=>Heap.get?_push_of_some _ e
 refine⟨(s.heap.push { cls:=.type "range",data:=.fields #[.int lo t,.int hi u,.int 1 v] }).objs.size,[(s.heap.push { cls:=.type "range",data:=.fields #[.int lo t,.int hi u,.int 1 v] }).objs.size],_,_,H,rfl,
  I1.kept (t':=tk) fun b o e=>Heap.get?_push_of_some _ e,QX _ lo (hi - lo).toNat,?_,fun b hb=>?_,q⟩
 ·have e1:lo+((0:Nat):Int)*1=lo:=by simp
  have e2:(((hi - lo).toNat:Nat):Int) - ((0:Nat):Int)=Builtin.Range.rangeSize lo hi 1:=by rw[rangeSize_one];split<;>omega
  show IsRangeIter _ _ (lo+((0:Nat):Int)*1) ((((hi - lo).toNat:Nat):Int) - ((0:Nat):Int)) 1
  rw[e1,e2]
  exact Heap.get?_push_size _ rfl
 ·have e:b=(s.heap.push { cls:=.type "range",data:=.fields #[.int lo t,.int hi u,.int 1 v] }).objs.size:=by simpa using hb
  subst e
  exact I1.fpOk (Nat.le_refl _) (I1.hok.fresh (Nat.le_refl _))
def iRng1(ta:TA):TI:=fun σ H R=>ta σ H fun vs H1=>∃j:Int,vs=[.int j]/\ -(2 ^ 62)<=j/\j < 2 ^ 62/\R (Itr 0 j.toNat) H1
theorem kQ{a:Expr}{ta:TA}{p pos:Pos}(hg:Gl X "range")(hm:X.mg "range"=none)(ha:PA X [a] ta)(hs:starEach [a] X.env=[(false,eval a X.env)]:=by rfl):PI X tg (.Call (.Name "range" p) [a] [] pos) (iRng1 ta):=by
 intro pins s σ H R I h
 refine Call_ (zP I hg hm boot_range (PyProof.Rows.callWith_type1 (thn (ha pos pins s σ H _ I h) fun us s1 ⟨vs,H1,I1,r1,q1⟩=>?_) hs rfl))
 obtain⟨j,e,q1,q2,q⟩:=q1
 subst e
 cases r1 with
 |cons r rr=>
  cases rr
  obtain⟨t,rfl⟩:=r
  exact call_range_1 (Zj I1 (by omega) (by omega) q1 q2 (by simpa using q))
def tFor(wi:TI)(g:TG)(tb:TS):TS:=fun D σ H=>wi σ H fun J H1=>∃W:Nat->Nat->St->Hp->Prop,(∃m,W 0 m σ H1)/\∀i m σ H,W i m σ H->
 (J.stop i H/\D.nx σ H)∨(J.go i H/\∃N:St->Hp->Prop,(∀σ' H',N σ' H'->∃m',m' < m/\W (i+1) m' σ' H')/\∀x H',J.yld i H x H'->g x σ H' fun σ2 H2=>tb { D with nx:=N,ct:=N,bk:=D.nx } σ2 H2)
noncomputable def pinsAt(fp:List Addr)(h:Heap):List (Addr×Obj):=fp.filterMap fun b=>(h.get? b).map fun o=>(b,o)
theorem zg{fp:List Addr}{h:Heap}{b:Addr}{o:Obj}(hb:b∈fp)(e:h.get? b=some o):(b,o)∈pinsAt fp h:=List.mem_filterMap.mpr ⟨b,hb,by rw[e];rfl⟩
theorem X1{fp:List Addr}{h:Heap}{p:Addr×Obj}(hp:p∈pinsAt fp h):p.1∈fp/\h.get? p.1=some p.2:=by
 obtain⟨b,hb,e⟩:=List.mem_filterMap.mp hp
 cases q:h.get? b with
 |none=>rw[q]at e;cases e
 |some o=>
  rw[q]at e
  have e':(b,o)=p:=Option.some.inj e
  subst e'
  exact⟨hb,q⟩
theorem Inv.pinned{pins:List (Addr×Obj)}{σ:St}{H:Hp}{s:Shared}{fp:List Addr}(I:Inv X pins σ H s)(hf:∀b∈fp,FpOk X pins H b)(ho:∀b∈fp,∃o,s.heap.get? b=some o/\∀v,o.data≠ .cell v):Inv X (pins++pinsAt fp s.heap) σ H s:=
 I.pins_of fun p hp=>(List.mem_append.mp hp).elim (fun z=>I.pin p (List.mem_append_right _ z)) fun z=>by
  obtain⟨hb,e⟩:=X1 z
  obtain⟨f0,f1,f2,_⟩:=hf p.1 hb
  obtain⟨o,e',d⟩:=ho p.1 hb
  rw[e]at e';cases e'
  exact⟨e,f0,f1,f2,d⟩
theorem Inv.unpinned{pins pl:List (Addr×Obj)}{σ:St}{H:Hp}{s:Shared}(I:Inv X (pins++pl) σ H s):Inv X pins σ H s:=I.pins_of fun p hp=>I.pin p (List.mem_append_right _ (List.mem_append_left _ hp))
theorem zJ{iter:Expr}{body:List Stmt}{wi:TI}{g:TG}{tb:TS}{pos:Pos}(hp:PassesOwn (model X.prog X.w) X.A X.env X.xe)(hc:X.calm=true)(hi:PI X tg iter wi)(hg:PG X tg g)(hb:PSs X body tb)
  (hs:∀x,foldedSetIterable iter X.env x=pure x:=by intro _;rfl):PS X (.For tg iter body [] pos) (tFor wi g tb):=by
 intro pins s σ H D I h
 refine wpAny_For (thn (hi pins s σ H _ I h) fun v s1 h1=>thn h1 fun itv s2 h2=>?_) hs
 obtain⟨it,fp,tn,J,H2,e,I2,T,st2,f2,W,⟨m0,w0⟩,turn⟩:=h2
 subst e
 have stat:∀{H':Hp},(∀b∈fp,H' b=none)->∀b∈fp,FpOk X pins H' b:=fun hn b hb=>⟨hn b hb,(f2 b hb).2⟩
 refine codeAny_forLoop_any (fun n s'=>∃i σ' H',Inv X pins σ' H' s'/\tn i s'.heap/\(∀b∈fp,H' b=none)/\W i n σ' H') ?_ m0 ⟨0,σ,H2,I2,st2,fun b hb=>(f2 b hb).1,w0⟩
 rintro n s3 ⟨i,σ3,H3,I3,st3,fr3,w3⟩
 rcases turn i n σ3 H3 w3 with ⟨stop,qn⟩ | ⟨go,N,hN,step⟩
 ·refine wpAny_passesOwn hp (thn (T.done X rfl rfl rfl hc i pins s3 σ3 H3 X.xe I3 (stat fr3) st3 stop) fun r s4 ⟨hr,I4⟩=>?_)
  subst hr
  exact wpAny_execs_nil ⟨σ3,H3,I4,qn⟩
 ·refine wpAny_passesOwn hp (thn (T.item X rfl rfl rfl hc i pins s3 σ3 H3 X.xe I3 (stat fr3) st3 go) fun r s4 ⟨u,hr,h4⟩=>?_)
  subst hr
  refine wpAny_passesOwn hp (thn h4 fun _ s5 ⟨x,H5,I5,r5,y5,st5,fr5⟩=>?_)
  have I5':=I5.pinned (stat fr5) (T.obj _ _ st5)
  refine wpAny_passesOwn hp (thn (hg _ s5 σ3 H5 x u _ I5' r5 (step x H5 y5)) fun _ s6 ⟨σ6,H6,I6,q6⟩=>?_)
  refine wpAny_passesOwn hp (thn (hb _ s6 σ6 H6 _ I6 q6) fun f s7 q7=>?_)
  have again:∀{σ7:St} {H7:Hp},Inv X (pins++pinsAt fp s5.heap) σ7 H7 s7->N σ7 H7->∃m,m < n/\∃i σ' H',Inv X pins σ' H' s7/\tn i s7.heap/\(∀b∈fp,H' b=none)/\W i m σ' H':=fun {σ7 H7} I7 n7=>by
   obtain⟨m',hm,w7⟩:=hN σ7 H7 n7
   refine⟨m',hm,i+1,σ7,H7,I7.unpinned,T.keep _ _ _ st5 fun b hb o e=>(I7.pin (b,o) (List.mem_append_right _ (List.mem_append_right _ (zg hb e)))).1,fun b hb=>?_,w7⟩
   obtain⟨o,e,d⟩:=T.obj _ _ st5 b hb
   exact(I7.pin (b,o) (List.mem_append_right _ (List.mem_append_right _ (zg hb e)))).2.1
  cases f with
  |next=>obtain⟨σ7,H7,I7,n7⟩:=q7;exact again I7 n7
  |cont=>obtain⟨σ7,H7,I7,n7⟩:=q7;exact again I7 n7
  |brk=>obtain⟨σ7,H7,I7,q7⟩:=q7;exact⟨σ7,H7,I7.unpinned,q7⟩
  |ret v=>obtain⟨x7,σ7,H7,I7,r7,q7⟩:=q7;exact⟨x7,σ7,H7,I7.unpinned,r7,q7⟩
end
theorem Zk{K:Frag}{a:Addr}{xs:List V}{g:TG}{tb:TS}{D:Ends}{σ:St}{H:Hp}(Pv:Nat->St->Hp->Prop)(h0:Pv 0 σ H)(hl:∀i σ H,i<=xs.length->Pv i σ H->SqL K H a xs)
  (hs:∀i x σ H,xs[i]?=some x->Pv i σ H->g x σ H fun σ2 H2=>tb { D with nx:=Pv (i+1),ct:=Pv (i+1),bk:=D.nx } σ2 H2) (hd:∀σ H,Pv xs.length σ H->D.nx σ H):
  ∃W:Nat->Nat->St->Hp->Prop,(∃m,W 0 m σ H)/\∀i m σ H,W i m σ H->
   ((Itl K a).stop i H/\D.nx σ H)∨((Itl K a).go i H/\∃N:St->Hp->Prop,(∀σ' H',N σ' H'->∃m',m' < m/\W (i+1) m' σ' H')/\∀x H',(Itl K a).yld i H x H'->g x σ H' fun σ2 H2=>tb { D with nx:=N,ct:=N,bk:=D.nx } σ2 H2):=by
 refine⟨fun i m σ H=>m=xs.length - i/\i<=xs.length/\Pv i σ H,⟨xs.length,by simp,Nat.zero_le _,h0⟩,?_⟩
 rintro i m σ H ⟨rfl,hi,p⟩
 have q:=hl i σ H hi p
 by_cases hlt:i < xs.length
 ·refine .inr ⟨⟨xs,xs[i],q,by simp [hlt]⟩,Pv (i+1),fun σ' H' p'=>⟨xs.length - (i+1),by omega,rfl,hlt,p'⟩,fun x H' y=>?_⟩
  obtain⟨e,y⟩:=y
  subst e
  exact hs i x σ _ (y xs q) p
 ·have e:i=xs.length:=by omega
  subst e
  exact .inl ⟨⟨xs,q,Nat.le_refl _⟩,hd σ H p⟩
theorem Z8{K:Frag}{a:Addr}{xs:List V}{g:TG}{tb:TS}{D:Ends}{σ:St}{H:Hp}(Pv:Nat->St->Hp->Prop)(h0:Pv 0 σ H)(hl:∀i σ H,i<=xs.length->Pv i σ H->SqT K H a xs)
  (hs:∀i x σ H,xs[i]?=some x->Pv i σ H->g x σ H fun σ2 H2=>tb { D with nx:=Pv (i+1),ct:=Pv (i+1),bk:=D.nx } σ2 H2) (hd:∀σ H,Pv xs.length σ H->D.nx σ H):
  ∃W:Nat->Nat->St->Hp->Prop,(∃m,W 0 m σ H)/\∀i m σ H,W i m σ H->
   ((Itt K a).stop i H/\D.nx σ H)∨((Itt K a).go i H/\∃N:St->Hp->Prop,(∀σ' H',N σ' H'->∃m',m' < m/\W (i+1) m' σ' H')/\∀x H',(Itt K a).yld i H x H'->g x σ H' fun σ2 H2=>tb { D with nx:=N,ct:=N,bk:=D.nx } σ2 H2):=by
 refine⟨fun i m σ H=>m=xs.length - i/\i<=xs.length/\Pv i σ H,⟨xs.length,by simp,Nat.zero_le _,h0⟩,?_⟩
 rintro i m σ H ⟨rfl,hi,p⟩
 have q:=hl i σ H hi p
 by_cases hlt:i < xs.length
 ·refine .inr ⟨⟨xs,xs[i],q,by simp [hlt]⟩,Pv (i+1),fun σ' H' p'=>⟨xs.length - (i+1),by omega,rfl,hlt,p'⟩,fun x H' y=>?_⟩
  obtain⟨e,y⟩:=y
  subst e
  exact hs i x σ _ (y xs q) p
 ·have e:i=xs.length:=by omega
  subst e
  exact .inl ⟨⟨xs,q,Nat.le_refl _⟩,hd σ H p⟩
theorem Jj{lo:Int}{n:Nat}{g:TG}{tb:TS}{D:Ends}{σ:St}{H:Hp}(Pv:Nat->St->Hp->Prop)(h0:Pv 0 σ H)
  (hs:∀i σ H,i < n->Pv i σ H->g (.int (lo+i)) σ H fun σ2 H2=>tb { D with nx:=Pv (i+1),ct:=Pv (i+1),bk:=D.nx } σ2 H2) (hd:∀σ H,Pv n σ H->D.nx σ H):
  ∃W:Nat->Nat->St->Hp->Prop,(∃m,W 0 m σ H)/\∀i m σ H,W i m σ H->
   ((Itr lo n).stop i H/\D.nx σ H)∨((Itr lo n).go i H/\∃N:St->Hp->Prop,(∀σ' H',N σ' H'->∃m',m' < m/\W (i+1) m' σ' H')/\∀x H',(Itr lo n).yld i H x H'->g x σ H' fun σ2 H2=>tb { D with nx:=N,ct:=N,bk:=D.nx } σ2 H2):=by
 refine⟨fun i m σ H=>m=n - i/\i<=n/\Pv i σ H,⟨n,by simp,Nat.zero_le _,h0⟩,?_⟩
 rintro i m σ H ⟨rfl,hi,p⟩
 by_cases hlt:i < n
 ·refine .inr ⟨hlt,Pv (i+1),fun σ' H' p'=>⟨n - (i+1),by omega,rfl,hlt,p'⟩,fun x H' y=>?_⟩
  obtain⟨e,y⟩:=y
  subst e y
  exact hs i σ _ hlt p
 ·have e:i=n:=by omega
  subst e
  exact .inl ⟨Nat.le_refl _,hd σ H p⟩
abbrev R2:=V->V->Hp->VK->Prop
def OpR(X:Cx)(f:Value->Value->Sem Value)(r:R2):Prop:=
 ∀(pins:List (Addr×Obj)) (s:Shared) (σ:St) (H:Hp) (x y:V) (v u:Value) (Q:VK),Inv X pins σ H s->RelV x v->RelV y u->r x y H Q->
  wpAny (model X.prog X.w) X.A (f v u) (EP X pins σ Q) X.xe s
def UnR(X:Cx)(f:Value->Sem Value)(r:V->Hp->VK->Prop):Prop:=
 ∀(pins:List (Addr×Obj)) (s:Shared) (σ:St) (H:Hp) (x:V) (v:Value) (Q:VK),Inv X pins σ H s->RelV x v->r x H Q->
  wpAny (model X.prog X.w) X.A (f v) (EP X pins σ Q) X.xe s
def CallR(X:Cx)(f:Value)(r:List V->Hp->VK->Prop):Prop:=
 ∀(pins:List (Addr×Obj)) (s:Shared) (σ:St) (H:Hp) (xs:List V) (us:List Value) (Q:VK),Inv X pins σ H s->Vals xs us->r xs H Q->
  wpAny (model X.prog X.w) X.A (call f us) (EP X pins σ Q) X.xe s
def TruR(X:Cx)(r:V->Hp->(Bool->Hp->Prop)->Prop):Prop:=
 ∀(pins:List (Addr×Obj)) (s:Shared) (σ:St) (H:Hp) (x:V) (v:Value) (Q:Bool->Hp->Prop),Inv X pins σ H s->RelV x v->r x H Q->
  wpAny (model X.prog X.w) X.A (truthy v) (TP X pins σ Q) X.xe s
def tOp(r:R2)(ta tb:TE):TE:=fun σ H Q=>ta σ H fun x H1=>tb σ H1 fun y H2=>r x y H2 Q
def tUn(r:V->Hp->VK->Prop)(ta:TE):TE:=fun σ H Q=>ta σ H fun x H1=>r x H1 Q
def rI(C:Int->Int->Prop)(g:Int->Int->V):R2:=fun x y H Q=>∃i j,x= .int i/\y= .int j/\C i j/\Q (g i j) H
def rI0(g:Int->Int->V):R2:=fun x y H Q=>∃i j,x= .int i/\y= .int j/\Q (g i j) H
def rU(g:Int->V):V->Hp->VK->Prop:=fun x H Q=>∃i,x= .int i/\Q (g i) H
section
variable {X:Cx}{a b c:Expr}{ta tb tc:TE}{pos:Pos}
theorem binT(ha:PE X a ta)(hb:PE X b tb){pins:List (Addr×Obj)}{s:Shared}{σ:St}{H:Hp}{R:V->V->Hp->Prop}(I:Inv X pins σ H s)
  (h:ta σ H fun x H1=>tb σ H1 fun y H2=>R x y H2) {Q:Value->Shared->Prop} {f:Value->Value->Sem Value}
  (hf:∀v u s2 x y H2,Inv X pins σ H2 s2->RelV x v->RelV y u->R x y H2->wpAny (model X.prog X.w) X.A (f v u) Q X.xe s2):
  wpAny (model X.prog X.w) X.A (eval a X.env) (fun v s₁=>wpAny (model X.prog X.w) X.A (eval b X.env) (fun u s₂=>wpAny (model X.prog X.w) X.A (f v u) Q X.xe s₂) X.xe s₁) X.xe s:=by
 refine thn (ha pins s σ H _ I h) fun v s1 ⟨x,H1,I1,r1,q1⟩=>?_
 refine thn (hb pins s1 σ H1 _ I1 q1) fun u s2 ⟨y,H2,I2,r2,q2⟩=>?_
 exact hf v u s2 x y H2 I2 r1 r2 q2
theorem jw{op:Operator}{r:R2}(ho:OpR X (binaryOp op) r)(ha:PE X a ta)(hb:PE X b tb):PE X (.BinOp a op b pos) (tOp r ta tb):=by
 intro pins s σ H Q I h
 exact wpAny_BinOp (binT ha hb I h fun v u s2 x y H2 I2 rx ry q=>ho pins s2 σ H2 x y v u Q I2 rx ry q)
theorem pe_un{op:UnaryOp}{r:V->Hp->VK->Prop}(ho:UnR X (unaryOp op) r)(ha:PE X a ta):PE X (.UnaryOp op a pos) (tUn r ta):=by
 intro pins s σ H Q I h
 exact UnaryOp_ (thn (ha pins s σ H _ I h) fun v s1 ⟨x,H1,I1,r1,q1⟩=>ho pins s1 σ H1 x v Q I1 r1 q1)
theorem opI{f:Value->Value->Sem Value}{C:Int->Int->Prop}{g:Int->Int->Int}
  (rule:∀(i j:Int) (t u:Tok) (s:Shared) (Q:Value->Shared->Prop) (E:Value->Shared->Prop),C i j->Q (.int (g i j) s.toks) { s with toks:=s.toks+1 }->wpAny (model X.prog X.w) X.A (f (.int i t) (.int j u)) Q E s):
  OpR X f (rI C fun i j=>.int (g i j)):=by
 intro pins s σ H x y v u Q I rx ry h
 obtain⟨i,j,rfl,rfl,hc,q⟩:=h
 obtain⟨t,rfl⟩:=rx
 obtain⟨t',rfl⟩:=ry
 exact rule i j t t' s _ _ hc ⟨.int (g i j),H,I.tok _,⟨_,rfl⟩,q⟩
theorem opI0{f:Value->Value->Sem Value}{g:Int->Int->Int}
  (rule:∀(i j:Int) (t u:Tok) (s:Shared) (Q:Value->Shared->Prop) (E:Value->Shared->Prop),Q (.int (g i j) s.toks) { s with toks:=s.toks+1 }->wpAny (model X.prog X.w) X.A (f (.int i t) (.int j u)) Q E s):
  OpR X f (rI0 fun i j=>.int (g i j)):=by
 intro pins s σ H x y v u Q I rx ry h
 obtain⟨i,j,rfl,rfl,q⟩:=h
 obtain⟨t,rfl⟩:=rx
 obtain⟨t',rfl⟩:=ry
 exact rule i j t t' s _ _ ⟨.int (g i j),H,I.tok _,⟨_,rfl⟩,q⟩
theorem opB0{f:Value->Value->Sem Value}{g:Int->Int->Bool}
  (rule:∀(i j:Int) (t u:Tok) (s:Shared) (Q:Value->Shared->Prop) (E:Value->Shared->Prop),Q (.bool (g i j)) s->wpAny (model X.prog X.w) X.A (f (.int i t) (.int j u)) Q E s):
  OpR X f (rI0 fun i j=>.bl (g i j)):=by
 intro pins s σ H x y v u Q I rx ry h
 obtain⟨i,j,rfl,rfl,q⟩:=h
 obtain⟨t,rfl⟩:=rx
 obtain⟨t',rfl⟩:=ry
 exact rule i j t t' s _ _ ⟨.bl (g i j),H,I,rfl,q⟩
def CPow(i j:Int):Prop:=0<=j/\j<=1000000/\i.natAbs < 2 ^ 64
def CMul(i j:Int):Prop:=(-(2 ^ 64) < i/\i < 2 ^ 64)∨(-(2 ^ 64) < j/\j < 2 ^ 64)
theorem CMul.ok{i j:Int}(h:CMul i j):IntMulOk i j:=by
 rcases h with ⟨h1,h2⟩ | ⟨h1,h2⟩
 ·exact .of_left (intBits_le_64 h1 h2)
 ·exact .of_right (intBits_le_64 h1 h2)
theorem jO:OpR X (binaryOp .Add) (rI0 fun i j=>.int (i+j)):=opI0 fun _ _ _ _ _ _ _ q=>add_int q
theorem zf:OpR X (binaryOp .Sub) (rI0 fun i j=>.int (i - j)):=opI0 fun _ _ _ _ _ _ _ q=>sub_int q
theorem kG:OpR X (binaryOp .Mult) (rI CMul fun i j=>.int (i*j)):=opI fun _ _ _ _ _ _ _ hc q=>mul_int q hc.ok
theorem kH:OpR X (binaryOp .Mod) (rI (fun _ j=>0 < j) fun i j=>.int (i % j)):=opI fun i j _ _ _ _ _ hc q=>by
 have h1:(0:Int) < j:=hc
 exact mod_int' (by omega) (by rw[Int.fmod_eq_emod_of_nonneg i (by omega)];exact q)
theorem Je:OpR X (binaryOp .Pow) (rI CPow fun i j=>.int (i ^ j.toNat)):=opI fun _ _ _ _ _ _ _ hc q=>pow_int_small hc.1 hc.2.1 hc.2.2 q
theorem unI{f:Value->Sem Value}{g:Int->Int}
  (rule:∀(i:Int) (t:Tok) (s:Shared) (Q:Value->Shared->Prop) (E:Value->Shared->Prop),Q (.int (g i) s.toks) { s with toks:=s.toks+1 }->wpAny (model X.prog X.w) X.A (f (.int i t)) Q E s):
  UnR X f (rU fun i=>.int (g i)):=by
 intro pins s σ H x v Q I rx h
 obtain⟨i,rfl,q⟩:=h
 obtain⟨t,rfl⟩:=rx
 exact rule i t s _ _ ⟨.int (g i),H,I.tok _,⟨_,rfl⟩,q⟩
theorem un_neg:UnR X (unaryOp .USub) (rU fun i=>.int (-i)):=unI fun _ _ _ _ _ q=>neg_int q
end
noncomputable def scal:V->V->Bool
 | .non,.non=>true | .non,.int _=>true | .int _,.non=>true | .non,.bl _=>true | .bl _,.non=>true | .non,.str _=>true | .str _,.non=>true
 | .int _,.int _=>true | .bl _,.bl _=>true | .str _,.str _=>true | .byt _,.byt _=>true
 | .int _,.str _=>true | .str _,.int _=>true | .bl _,.str _=>true | .str _,.bl _=>true
 |_,_=>false
def rEq:R2:=fun x y H Q=>scal x y=true/\Q (.bl (decide (x=y))) H
def rNe:R2:=fun x y H Q=>scal x y=true/\Q (.bl (!decide (x=y))) H
theorem Xs{i j:Int}:decide (V.int i=V.int j)=(i==j):=by
 rw[Bool.eq_iff_iff]
 simp
theorem YZ{i j:Bool}:decide (V.bl i=V.bl j)=(i==j):=by
 rw[Bool.eq_iff_iff]
 simp
theorem Xt{i j:Str}:decide (V.str i=V.str j)=(i==j):=by
 rw[Bool.eq_iff_iff]
 simp
theorem Xu{i j:Array UInt8}:decide (V.byt i=V.byt j)=(i.toList==j.toList):=by
 rw[Bool.eq_iff_iff]
 cases i
 cases j
 simp
section
variable {X:Cx}{a b c:Expr}{ta tb tc:TE}{pos:Pos}
theorem jK{pins:List (Addr×Obj)}{σ:St}{H:Hp}{s:Shared}{Q:VK}{k k':Bool}(I:Inv X pins σ H s)(q:Q (.bl k) H)(e:k=k'):EP X pins σ Q (.bool k') s:=by
 subst e
 exact⟨.bl k,H,I,rfl,q⟩
theorem jD:OpR X (compareOp .Eq) rEq:=by
 intro pins s σ H x y v u Q I rx ry h
 obtain⟨hs,q⟩:=h
 cases x with
 |non=>
  cases rx
  cases y with
  |non=>cases ry;exact PySem.EqNone.eq_none_none (jK I q (by simp))
  |bl j=>cases ry;exact PySem.EqNone.eq_none_bool (jK I q (by simp))
  |int j=>obtain⟨t',rfl⟩:=ry;exact PySem.EqNone.eq_none_int (jK I q (by simp))
  |str j=>obtain⟨t',rfl⟩:=ry;exact PySem.EqNone.eq_none_str (jK I q (by simp))
  |_=>exact absurd (show false=true from hs) Bool.false_ne_true
 |bl i=>
  cases rx
  cases y with
  |non=>cases ry;exact PySem.EqNone.eq_bool_none (jK I q (by simp))
  |bl j=>cases ry;exact eq_bool (jK I q YZ)
  |str j=>obtain⟨t',rfl⟩:=ry;exact PySem.EqMixed.eq_bool_str (jK I q (by simp))
  |_=>exact absurd (show false=true from hs) Bool.false_ne_true
 |int i=>
  obtain⟨t,rfl⟩:=rx
  cases y with
  |non=>cases ry;exact PySem.EqNone.eq_int_none (jK I q (by simp))
  |int j=>obtain⟨t',rfl⟩:=ry;exact eq_int (jK I q Xs)
  |str j=>obtain⟨t',rfl⟩:=ry;exact PySem.EqMixed.eq_int_str (jK I q (by simp))
  |_=>exact absurd (show false=true from hs) Bool.false_ne_true
 |str i=>
  obtain⟨t,rfl⟩:=rx
  cases y with
  |non=>cases ry;exact PySem.EqNone.eq_str_none (jK I q (by simp))
  |bl j=>cases ry;exact PySem.EqMixed.eq_str_bool (jK I q (by simp))
  |int j=>obtain⟨t',rfl⟩:=ry;exact PySem.EqMixed.eq_str_int (jK I q (by simp))
  |str j=>obtain⟨t',rfl⟩:=ry;exact eq_str (jK I q Xt)
  |_=>exact absurd (show false=true from hs) Bool.false_ne_true
 |byt i=>
  obtain⟨t,rfl⟩:=rx
  cases y with
  |byt j=>obtain⟨t',rfl⟩:=ry;exact PySem.W.eq_bytes (jK I q Xu)
  |_=>exact absurd (show false=true from hs) Bool.false_ne_true
 |_=>cases y<;>exact absurd (show false=true from hs) Bool.false_ne_true
theorem Jq:OpR X (compareOp .NotEq) rNe:=by
 intro pins s σ H x y v u Q I rx ry h
 obtain⟨hs,q⟩:=h
 cases x with
 |non=>
  cases rx
  cases y with
  |non=>cases ry;exact PySem.EqNone.ne_none_none (jK I q (by simp))
  |bl j=>cases ry;exact PySem.EqNone.ne_none_bool (jK I q (by simp))
  |int j=>obtain⟨t',rfl⟩:=ry;exact PySem.EqNone.ne_none_int (jK I q (by simp))
  |str j=>obtain⟨t',rfl⟩:=ry;exact PySem.EqNone.ne_none_str (jK I q (by simp))
  |_=>exact absurd (show false=true from hs) Bool.false_ne_true
 |bl i=>
  cases rx
  cases y with
  |non=>cases ry;exact PySem.EqNone.ne_bool_none (jK I q (by simp))
  |bl j=>cases ry;exact ne_bool (jK I q (congrArg not YZ))
  |str j=>obtain⟨t',rfl⟩:=ry;exact PySem.EqMixed.ne_bool_str (jK I q (by simp))
  |_=>exact absurd (show false=true from hs) Bool.false_ne_true
 |int i=>
  obtain⟨t,rfl⟩:=rx
  cases y with
  |non=>cases ry;exact PySem.EqNone.ne_int_none (jK I q (by simp))
  |int j=>obtain⟨t',rfl⟩:=ry;exact ne_int (jK I q (congrArg not Xs))
  |str j=>obtain⟨t',rfl⟩:=ry;exact PySem.EqMixed.ne_int_str (jK I q (by simp))
  |_=>exact absurd (show false=true from hs) Bool.false_ne_true
 |str i=>
  obtain⟨t,rfl⟩:=rx
  cases y with
  |non=>cases ry;exact PySem.EqNone.ne_str_none (jK I q (by simp))
  |bl j=>cases ry;exact PySem.EqMixed.ne_str_bool (jK I q (by simp))
  |int j=>obtain⟨t',rfl⟩:=ry;exact PySem.EqMixed.ne_str_int (jK I q (by simp))
  |str j=>obtain⟨t',rfl⟩:=ry;exact ne_str (jK I q (congrArg not Xt))
  |_=>exact absurd (show false=true from hs) Bool.false_ne_true
 |byt i=>
  obtain⟨t,rfl⟩:=rx
  cases y with
  |byt j=>obtain⟨t',rfl⟩:=ry;exact PySem.W.ne_bytes (jK I q (congrArg not Xu))
  |_=>exact absurd (show false=true from hs) Bool.false_ne_true
 |_=>cases y<;>exact absurd (show false=true from hs) Bool.false_ne_true
theorem JK:OpR X (compareOp .Lt) (rI0 fun i j=>.bl (decide (i < j))):=opB0 fun _ _ _ _ _ _ _ q=>lt_int q
theorem qC:OpR X (compareOp .Gt) (rI0 fun i j=>.bl (decide (j < i))):=opB0 fun _ _ _ _ _ _ _ q=>gt_int q
theorem YQ:OpR X (compareOp .GtE) (rI0 fun i j=>.bl (decide (j<=i))):=opB0 fun _ _ _ _ _ _ _ q=>ge_int q
theorem nomark(b:Expr){op:CmpOp}(h:op≠ .In:=by decide)(h2:op≠ .NotIn:=by decide):behindInMarks op b=false:=by
 have e1:(op==CmpOp.In)=false:=by cases op<;>first |rfl |exact absurd rfl h
 have e2:(op==CmpOp.NotIn)=false:=by cases op<;>first |rfl |exact absurd rfl h2
 cases b<;>simp [behindInMarks,e1,e2]
theorem j5{op:CmpOp}{r:R2}(ho:OpR X (compareOp op) r)(ha:PE X a ta)(hb:PE X b tb)(hm:behindInMarks op b=false):PE X (.Compare a [op] [b] pos) (tOp r ta tb):=by
 intro pins s σ H Q I h
 exact wpAny_Compare1 (binT ha hb I h fun v u s2 x y H2 I2 rx ry q=>ho pins s2 σ H2 x y v u Q I2 rx ry q) hm
def tTest(t:TE):TT:=fun σ H Q=>t σ H fun x H'=>∃k,x= .bl k/\Q k H'
theorem jp{op:CmpOp}{r:R2}(ho:OpR X (compareOp op) r)(ha:PE X a ta)(hb:PE X b tb)(hm:behindInMarks op b=false):PT X (.Compare a [op] [b] pos) (tTest (tOp r ta tb)):=by
 intro pins s σ H Q I h
 refine wpAny_isTrue_Compare1 (thn (ha pins s σ H _ I h) fun v s1 ⟨x,H1,I1,r1,q1⟩=>thn (hb pins s1 σ H1 _ I1 q1) fun u s2 ⟨y,H2,I2,r2,q2⟩=>
  thn (ho pins s2 σ H2 x y v u _ I2 r1 r2 q2) fun c s3 ⟨z,H3,I3,r3,k,e,q3⟩=>?_) hm
 subst e
 cases r3
 exact wpAny_truthy_bool ⟨H3,I3,q3⟩
def TruV(K:Frag)(x:V)(H:Hp)(k:Bool):Prop:=
 match x with
 | .non=>k=false
 | .bl b=>k=b
 | .int i=>k=(i != 0)
 | .str y=>y.length<=sizeLine/\k=((y.length:Int) != 0)
 | .byt y=>y.size<=sizeLine/\k=((y.size:Int) != 0)
 | .ref p=>(∃xs,SqL K H p xs/\k=!xs.isEmpty)∨(∃xs,SqT K H p xs/\k=!xs.isEmpty)∨∃kvs,H p=some (.dK kvs)/\k=!kvs.isEmpty
 |_=>False
theorem QY{κ:Type}{kvs:List (κ×V)}{vs:List (κ×Value)}(r:KV kvs vs):(!vs.isEmpty)=!kvs.isEmpty:=by
 cases r<;>rfl
theorem J6{xs:List V}{its:List Value}(r:Vals xs its):(!its.toArray.isEmpty)=!xs.isEmpty:=by
 cases r<;>simp
theorem line63:(sizeLine:Nat) < 2 ^ 63:=by rw[sizeLine_eq];decide
theorem tru_ok:TruR X (fun x H Q=>∃k,TruV X.K x H k/\Q k H):=by
 intro pins s σ H x v Q I rx h
 obtain⟨k,e,q⟩:=h
 have hl:=line63
 have hs:sizeLine=16777216:=sizeLine_eq
 cases x with
 |non=>
  cases rx
  have e':k=false:=e
  subst e'
  exact truthy_none ⟨H,I,q⟩
 |bl b=>
  cases rx
  have e':k=b:=e
  subst e'
  exact wpAny_truthy_bool ⟨H,I,q⟩
 |int i=>
  obtain⟨t,rfl⟩:=rx
  have e':k=(i != 0):=e
  subst e'
  exact PySem.P.truthy_int ⟨H,I,q⟩
 |str y=>
  obtain⟨t,rfl⟩:=rx
  obtain⟨hy,e'⟩:y.length<=sizeLine/\k=((y.length:Int) != 0):=e
  subst e'
  exact PySem.P.truthy_str (by omega) ⟨H,I.tok _,q⟩
 |byt y=>
  obtain⟨t,rfl⟩:=rx
  obtain⟨hy,e'⟩:y.size<=sizeLine/\k=((y.size:Int) != 0):=e
  subst e'
  exact PySem.W.truthy_bytes (by omega) ⟨H,I.tok _,q⟩
 |ref p=>
  cases rx
  have e':(∃xs,SqL X.K H p xs/\k=!xs.isEmpty)∨(∃xs,SqT X.K H p xs/\k=!xs.isEmpty)∨∃kvs,H p=some (.dK kvs)/\k=!kvs.isEmpty:=e
  rcases e' with ⟨xs,hx,e'⟩ | ⟨xs,hx,e'⟩ | ⟨kvs,hx,e'⟩
  ·subst e'
   obtain⟨its,r,pl,hz⟩:=I.list hx
   have hlen:=r.length
   exact wpAny_truthy_list pl.isList (by simp only[List.size_toArray];omega) ⟨H,I.tok _,by rw[J6 r];exact q⟩
  ·subst e'
   obtain⟨its,r,pl,hz⟩:=I.tuple hx
   have hlen:=r.length
   exact truthy_tuple pl (by simp only[List.size_toArray];omega) ⟨H,I.tok _,by rw[J6 r];exact q⟩
  ·subst e'
   obtain⟨hz,hS,vs,r,m⟩:kvs.length<=sizeLine/\(p==sysModules)=false/\∃vs,KV kvs vs/\s.heap.DictOf (mixKind X.prog X.w) p vs:=I.hok p _ hx
   have hlen:kvs.length=vs.length:=Paired.length r
   exact wpAny_truthy_dict hS m (by omega) ⟨H,I.tok _,by rw[QY r];exact q⟩
 |_=>exact(show False from e).elim
theorem Zl(ha:PE X a ta)(he:∀whole,isTrue a X.env whole=(do let v <- whole;standAt a.pos;holding [v] (truthy v))):
  PT X a (fun σ H Q=>ta σ H fun x H'=>∃k,TruV X.K x H' k/\Q k H'):=by
 intro pins s σ H Q I h
 exact isTrue_plain (thn (ha pins s σ H _ I h) fun v s1 ⟨x,H1,I1,r1,q1⟩=>tru_ok pins s1 σ H1 x v Q I1 r1 q1) (he _)
theorem zh:OpR X (binaryOp .Add) (fun x y H Q=>∃i j,x= .str i/\y= .str j/\i.length+j.length<=sizeLine/\Q (.str (i++j)) H):=by
 intro pins s σ H x y v u Q I rx ry h
 obtain⟨i,j,rfl,rfl,hz,q⟩:=h
 obtain⟨t,rfl⟩:=rx
 obtain⟨t',rfl⟩:=ry
 exact add_str (fun t' tk=>⟨.str (i++j),H,I.tok _,⟨_,rfl⟩,q⟩) hz
theorem vals1{x:V}{us:List Value}(r:Vals [x] us):∃u,us=[u]/\RelV x u:=by
 cases r with
 |cons r1 r2=>cases r2;exact⟨_,rfl,r1⟩
theorem vals2{x y:V}{us:List Value}(r:Vals [x,y] us):∃u w',us=[u,w']/\RelV x u/\RelV y w':=by
 cases r with
 |cons r1 r2=>
  cases r2 with
  |cons r3 r4=>cases r4;exact⟨_,_,rfl,r1,r3⟩
theorem X2(hc:X.calm=true):CallR X (.builtin "max") (fun xs H Q=>∃i j,xs=[.int i,.int j]/\Q (.int (if j > i then j else i)) H):=by
 intro pins s σ H xs us Q I r h
 obtain⟨i,j,rfl,q⟩:=h
 obtain⟨u,w',rfl,⟨t,rfl⟩,⟨t',rfl⟩⟩:=vals2 r
 refine max_two_ints (I.ok.hd hc) fun h' tk k=>⟨_,H,I.kept k,?_,q⟩
 by_cases hj:j > i
 ·rw[if_pos hj,if_pos hj];exact⟨_,rfl⟩
 ·rw[if_neg hj,if_neg hj];exact⟨_,rfl⟩
theorem jV:CallR X (.type "int") (fun xs H Q=>(∃i,xs=[.int i]/\Q (.int i) H)∨∃k,xs=[.bl k]/\Q (.int (if k then 1 else 0)) H):=by
 intro pins s σ H xs us Q I r h
 rcases h with ⟨i,rfl,q⟩ | ⟨k,rfl,q⟩
 ·obtain⟨u,rfl,t,rfl⟩:=vals1 r
  exact call_int_int ⟨.int i,H,I,⟨_,rfl⟩,q⟩
 ·obtain⟨u,rfl,r1⟩:=vals1 r
  cases r1
  exact call_int_bool ⟨.int (if k then 1 else 0),H,I.tok _,⟨_,rfl⟩,q⟩
end
structure ObjM(h:Heap)(x dx C:Addr)(mA:Str->Option Value):Prop where
 obj:h.get? x=some (instObj C dx)
 ns:h.Ns1 dx mA
 ne:dx≠x
theorem KC{h:Heap}{dx:Addr}{mA:Str->Option Value}(n:h.Ns1 dx mA):∃od,h.get? dx=some od/\∀name,lookIn name od=some (mA name):=by
 obtain⟨o,es,ep,ho,hd,hk,_,hm⟩:=n
 refine⟨o,ho,fun name=>?_⟩
 have e:=hm name
 unfold nsFind findBy at e
 rw[<- Array.find?_toList]at e
 unfold lookIn
 rw[hd]
 dsimp only
 split
 ·rename_i y q
  rw[q]at e
  exact congrArg some e
 ·rename_i q
  rw[q]at e
  have a:es.toList.any (·.refKey)=false:=by
   rw[List.any_eq_false]
   intro y hy
   obtain⟨z,t,hkey⟩:=hk y (Array.mem_toList_iff.mp hy)
   simp [DictEntry.refKey,hkey]
  have a':¬es.toList.any (·.refKey)=true:=by rw[a];exact Bool.false_ne_true
  rw[if_neg a']
  exact congrArg some e
theorem ObjM.look{h:Heap}{x dx C:Addr}{mA:Str->Option Value}(I:ObjM h x dx C mA):∃od,PySem.W.InstAt h x (instObj C dx) C (some od)/\∀name,lookIn name od=some (mA name):=
 let ⟨od,ho,hl⟩:=KC I.ns
 ⟨od,⟨I.obj,rfl,rfl,ho⟩,hl⟩
section
variable {prog:Program}{w:World}{A:Around}{E:Value->Shared->Prop}{s:Shared}{K:Frag}{x dx C f:Addr}{mA:Str->Option Value}{name:Str}{v:Value}
theorem Z9{expr:Bool}{Q:Value->Shared->Prop}(X:K.In s.heap)(I:ObjM s.heap x dx C mA)(hg:plainGet K C name=true)(hh:hasDictIn K C=true)
  (ha:findIn K (.ref C) name=some none) (hv:mA name=some v) (hv':PySem.W.handedIn v=true) (h:Q v { s with toks:=s.toks+1 }):
  wpAny (model prog w) A (getAttr (.ref x) name expr) Q E s:=by
 obtain⟨od,J,hl⟩:=I.look
 exact PySem.W.get_value X J (PySem.W.plainGet_of hg).1 (PySem.W.findObj_own hh ha rfl (by rw[hl,hv])) hv' h
theorem Zm{pl:Sem Bool}{Q:Value×List Value->Shared->Prop}(X:K.In s.heap)(I:ObjM s.heap x dx C mA)(hg:plainGet K C name=true)
  (hf:findIn K (.ref C) name=some (some (.ref f))) (ht:isFn K (.ref f)=true) (hv:mA name=none) (h:Q (.ref f,[.ref x]) s):
  wpAny (model prog w) A (getMethod (.ref x) name pl) Q E s:=by
 obtain⟨od,J,hl⟩:=I.look
 exact PySem.W.method_fn X J (PySem.W.plainGet_of hg).1 (PySem.W.plainGet_of hg).2 hf (beq_iff_eq.mp ht) (by show(lookIn name od).map (·.isSome)=some false;rw[hl,hv];rfl) h
theorem set_map{ns:List Str}{Q:Unit->Shared->Prop}(X:K.In s.heap)(I:ObjM s.heap x dx C mA)
  (hs:findIn K (.ref C) "__setattr__"=some (some (.builtin "object.__setattr__"))) (hp:PySem.W.plainOver K C=true) (ht:PySem.W.takerIn K C name=some none) (hh:hasDictIn K C=true)
  (hw:PySem.Within mA ns) (hsz:ns.length<=sizeLine)
  (h:∀h',ObjM h' x dx C (fun y=>if y=name then some v else mA y)->Heap.SameBut dx s.heap h'->Q () { s with heap:=h',toks:=s.toks+2 }):
  wpAny (model prog w) A (setAttr (.ref x) name v) Q E s:=by
 obtain⟨od,J,hl⟩:=I.look
 refine PySem.W.set_plain X J hs (PySem.W.osa_open (s:={ s with toks:=s.toks+1 }) (r:=none) X J hp ht fun b=>?_)
 obtain⟨cd,hc,hd'⟩:=PySem.W.any_some hh
 have hx:s.heap.get? x=some ⟨.ref C,some dx,.plain,#[]⟩:=I.obj
 refine wpAny_bind (wpAny_pure (wpAny_bind (wpAny_bind (wpAny_loadPart hx (wpAny_bind (PySem.W.Looks.here (s:={ s with toks:=s.toks+1 }) (PySem.W.looks_clsIn X hc) ?_))))))
 rw[hd']
 refine wpAny_pure (a:=some dx) (wpAny_bind (wpAny_pure (wpAny_bind ?_)))
 refine wpAny_nsSet1 (s:={ s with toks:=s.toks+1 }) I.ns fun h' hn2 hs2=>?_
 obtain⟨oD,esD,epD,hoD,hdD,hcD⟩:=hn2.count (PySem.Within.cons name v hw)
 refine wpAny_bind (wpAny_lookBehind hoD (by rw[hdD];exact pastItsLine_dict (Nat.le_trans hcD (by rw[List.length_cons];omega))) ?_)
 exact wpAny_pure (h _ ⟨(hs2.2 _ (Ne.symm I.ne)).trans I.obj,hn2,I.ne⟩ hs2)
theorem Zn{R:Result->Shared->Prop}{vs:List Value}{kw:List (Str×Value)}(X:K.In s.heap)(hm:PySem.W.makesIn K C=true)
  (hi:findIn K (.ref C) "__init__"=some (some (.ref f))) (hf:typeIn K (.ref f)=some (.type "function"))
  (h:codeAny (model prog w) (A.under (.builtin "type.__call__" ⟨.ref C::vs,kw⟩)) (.call (.ref f) ⟨.ref (s.heap.objs.size+1)::vs,kw⟩) (PySem.W.InitBack (s.heap.objs.size+1) R)
   { s with heap:=(s.heap.push emptyDict).push (instObj C s.heap.objs.size) }):
  codeAny (model prog w) A (.call (.ref C) ⟨vs,kw⟩) R s:=by
 obtain⟨hh,g,d,t,os⟩:=s
 exact PySem.W.make_core (PySem.W.makes_of X hm) (PySem.W.looks_findIn X hi) (fun self=>PySem.W.bind_fn X self hf) (.inl rfl) h
end
noncomputable def putF(f:Str)(v:V):List (Str×V)->List (Str×V)
 | []=>[(f,v)]
 | (g,x)::r=>if g=f then (g,v)::r else (g,x)::putF f v r
theorem Ju(f g:Str)(v:V):∀fs:List (Str×V),(putF f v fs).lookup g=if g=f then some v else fs.lookup g
 | []=>by
  show List.lookup g [(f,v)]=_
  by_cases h:g=f
  ·have hb:(g==f)=true:=beq_iff_eq.mpr h
   simp only[List.lookup,hb,if_pos h]
  ·have hb:(g==f)=false:=beq_eq_false_iff_ne.mpr h
   simp only[List.lookup,hb,if_neg h]
 | (k,x)::r=>by
  have ih:=Ju f g v r
  rw[show putF f v ((k,x)::r)=(if k=f then (k,v)::r else (k,x)::putF f v r) from rfl]
  by_cases hk:k=f
  ·rw[if_pos hk]
   by_cases h:g=k
   ·have hb:(g==k)=true:=beq_iff_eq.mpr h
    simp only[List.lookup,hb,if_pos (h.trans hk)]
   ·have hb:(g==k)=false:=beq_eq_false_iff_ne.mpr h
    simp only[List.lookup,hb,if_neg (fun e:g=f=>h (e.trans hk.symm))]
  ·rw[if_neg hk]
   by_cases h:g=k
   ·have hb:(g==k)=true:=beq_iff_eq.mpr h
    simp only[List.lookup,hb,if_neg (fun e:g=f=>hk (h.symm.trans e))]
   ·have hb:(g==k)=false:=beq_eq_false_iff_ne.mpr h
    simp only[List.lookup,hb]
    exact ih
theorem Jk(f:Str)(v:V):∀fs:List (Str×V),f∈(putF f v fs).map (·.1)/\∀g,g∈fs.map (·.1)->g∈(putF f v fs).map (·.1)
 | []=>⟨by simp [putF],fun g h=>by simp at h⟩
 | (k,x)::r=>by
  obtain⟨i1,i2⟩:=Jk f v r
  rw[show putF f v ((k,x)::r)=(if k=f then (k,v)::r else (k,x)::putF f v r) from rfl]
  by_cases hk:k=f
  ·rw[if_pos hk]
   subst hk
   exact⟨by simp,fun g h=>by simpa using h⟩
  ·rw[if_neg hk]
   refine⟨?_,fun g h=>?_⟩
   ·rw[List.map_cons]
    exact List.mem_cons_of_mem _ i1
   ·rw[List.map_cons]at h ⊢
    rcases List.mem_cons.mp h with e |e
    ·exact List.mem_cons.mpr (.inl e)
    ·exact List.mem_cons_of_mem _ (i2 g e)
theorem Jv(f:Str)(v:V):∀fs:List (Str×V),(putF f v fs).length<=fs.length+1
 | []=>by simp [putF]
 | (k,x)::r=>by
  have ih:=Jv f v r
  rw[show putF f v ((k,x)::r)=(if k=f then (k,v)::r else (k,x)::putF f v r) from rfl]
  by_cases hk:k=f
  ·rw[if_pos hk,List.length_cons,List.length_cons];omega
  ·rw[if_neg hk,List.length_cons,List.length_cons];omega
theorem RelO.some_of{v:V}{o:Option Value}(r:RelO (some v) o):∃u,o=some u/\RelV v u:=by
 cases o with
 |none=>exact(show False from r).elim
 |some u=>exact⟨u,rfl,r⟩
theorem RelO.none_of{o:Option Value}(r:RelO none o):o=none:=by
 cases o with
 |none=>rfl
 |some u=>exact(show False from r).elim
theorem KD{v:V}{u:Value}(r:RelV v u):PySem.W.handedIn u=true:=by
 cases v with
 |non=>cases (show u=Value.none from r);rfl
 |bl b=>cases (show u=Value.bool b from r);rfl
 |int i=>obtain⟨t,e⟩:=(show ∃t,u=Value.int i t from r);cases e;rfl
 |str x=>obtain⟨t,e⟩:=(show ∃t,u=Value.str x t from r);cases e;rfl
 |byt b=>obtain⟨t,e⟩:=(show ∃t,u=Value.bytes b t from r);cases e;rfl
 |flt b=>obtain⟨t,e⟩:=(show ∃t,u=Value.float b t from r);cases e;rfl
 |ref a=>cases (show u=Value.ref a from r);rfl
 |ty n=>cases (show u=Value.type n from r);rfl
section
variable {P:Program}{w:World}{H H':Hp}{h h':Heap}{a C dx:Addr}{fs fs':List (Str×V)}
theorem JD(hok:HOk P w H h)(e:H a=some (.ins C dx fs)):∃mA,ObjM h a dx C mA/\(∀f,RelO (fs.lookup f) (mA f))/\PySem.Within mA (fs.map (·.1))/\fs.length<=1000/\H dx=some (.own a):=by
 obtain⟨d,z,ne,ob,mA,n,r,q⟩:=(show ObjOk P w H h a (.ins C dx fs) from hok a _ e)
 exact⟨mA,⟨ob,n,ne⟩,r,q,z,d⟩
end
structure Cls(K:Frag)(C:Addr):Prop where
 pg:plainGet K C Str.empty=true
 hd:hasDictIn K C=true
 po:PySem.W.plainOver K C=true
 sa:findIn K (.ref C) "__setattr__"=some (some (.builtin "object.__setattr__"))
theorem Cls.get{K:Frag}{C:Addr}(c:Cls K C)(f:Str):plainGet K C f=true:=c.pg
def NoAttr(K:Frag)(C:Addr)(f:Str):Prop:=findIn K (.ref C) f=some none
theorem NoAttr.taker{K:Frag}{C:Addr}{f:Str}(n:NoAttr K C f):PySem.W.takerIn K C f=some none:=by
 unfold PySem.W.takerIn
 rw[show findIn K (.ref C) f=some none from n]
 rfl
structure Meth(K:Frag)(C:Addr)(m:Str)(f:Addr):Prop where
 at_:findIn K (.ref C) m=some (some (.ref f))
 fn:isFn K (.ref f)=true
 kp:keepIn K (.ref f)=true
section
variable {X:Cx}{pins:List (Addr×Obj)}{σ:St}{H:Hp}{s:Shared}{a C dx:Addr}{fs:List (Str×V)}{f:Str}{v:V}{A:Around}{E:Value->Shared->Prop}
theorem J7{b:Bool}{Q:Value->Shared->Prop}(I:Inv X pins σ H s)(e:H a=some (.ins C dx fs))(c:Cls X.K C)(n:NoAttr X.K C f)(l:fs.lookup f=some v)
  (h:∀u s',Inv X pins σ H s'->RelV v u->Q u s'):wpAny (model X.prog X.w) A (getAttr (.ref a) f b) Q E s:=by
 obtain⟨mA,O,r,_,_,_⟩:=JD I.hok e
 obtain⟨u,hu,ru⟩:=RelO.some_of (v:=v) (o:=mA f) (by rw[<- l];exact r f)
 exact Z9 I.kIn O (c.get f) c.hd n hu (KD ru) (h u _ (I.tok _) ru)
theorem J8{m:Str}{g:Addr}{pl:Sem Bool}{Q:Value×List Value->Shared->Prop}(I:Inv X pins σ H s)(e:H a=some (.ins C dx fs))(c:Cls X.K C)(k:Meth X.K C m g)(l:fs.lookup m=none)
  (h:Q (.ref g,[.ref a]) s):wpAny (model X.prog X.w) A (getMethod (.ref a) m pl) Q E s:=by
 obtain⟨mA,O,r,_,_,_⟩:=JD I.hok e
 have hn:mA m=none:=RelO.none_of (by rw[<- l];exact r m)
 exact Zm I.kIn O (c.get m) k.at_ k.fn hn h
theorem J9{y:V}{u:Value}{Q:Unit->Shared->Prop}(I:Inv X pins σ H s)(e:H a=some (.ins C dx fs))(c:Cls X.K C)(n:NoAttr X.K C f)(hl:fs.length < 1000)(ry:RelV y u)
  (h:∀s',Inv X pins σ (upd H a (.ins C dx (putF f y fs))) s'->Q () s'):wpAny (model X.prog X.w) A (setAttr (.ref a) f u) Q E s:=by
 obtain⟨mA,O,r,wi,_,ho⟩:=JD I.hok e
 have hz:(fs.map (·.1)).length<=sizeLine:=by rw[List.length_map,sizeLine_eq];omega
 refine set_map I.kIn O c.sa c.po n.taker c.hd wi hz fun h' O' sb=>h _ ?_
 have hd:∃o,h'.get? dx=some o:=let ⟨o,_,_,e',_⟩:=O'.ns;⟨o,e'⟩
 refine I.write (x:=a) (e:=dx) (by rw[e];exact True.intro) (.inr ho) (fun b q hb z=>(sb.2 b hb).trans z) hd ?_
 refine⟨by rw[jf O.ne];exact ho,?_,O.ne,O'.obj,_,O'.ns,fun g=>?_,fun g hg=>?_⟩
 ·have:=Jv f y fs;omega
 ·show RelO ((putF f y fs).lookup g) (if g=f then some u else mA g)
  rw[Ju]
  by_cases q:g=f
  ·rw[if_pos q,if_pos q];exact ry
  ·rw[if_neg q,if_neg q];exact r g
 ·by_cases q:g=f
  ·rw[q];exact(Jk f y fs).1
  ·refine(Jk f y fs).2 g (wi g fun z=>hg ?_)
   show(if g=f then some u else mA g)=none
   rw[if_neg q];exact z
theorem Inv.made(I:Inv X pins σ H s):Inv X pins σ (upd (upd H s.heap.objs.size (.own (s.heap.objs.size+1))) (s.heap.objs.size+1) (.ins C s.heap.objs.size []))
  { s with heap:=(s.heap.push emptyDict).push (instObj C s.heap.objs.size) }:=by
 have e1:(s.heap.push emptyDict).get? s.heap.objs.size=some emptyDict:=Heap.get?_push_size s.heap rfl
 have e2:((s.heap.push emptyDict).push (instObj C s.heap.objs.size)).get? (s.heap.objs.size+1)=some (instObj C s.heap.objs.size):=by
  have:=Heap.get?_push_size (s.heap.push emptyDict) (o:=instObj C s.heap.objs.size) rfl
  rwa [Heap.size_push]at this
 have e3:(s.heap.push emptyDict).Ns s.heap.objs.size (fun _=>none):=⟨emptyDict,#[],_,e1,rfl,(fun e he=>absurd he (by simp)),fun _=>rfl⟩
 have I1:=I.laid (a:=s.heap.objs.size) (o:=.own (s.heap.objs.size+1)) (h':=s.heap.push emptyDict) (t':=s.toks) (fun b u q=>Heap.get?_push_of_some _ q) (Nat.le_refl _) ⟨_,e1⟩
 refine I1.laid (a:=s.heap.objs.size+1) (o:=.ins C s.heap.objs.size []) (t':=s.toks) (fun b u q=>Heap.get?_push_of_some _ q) (Nat.le_of_eq (Heap.size_push _ _)) ?_
 have ne:s.heap.objs.size≠s.heap.objs.size+1:=Nat.ne_of_lt (Nat.lt_succ_self _)
 refine⟨by rw[jf ne,je],Nat.zero_le _,ne,e2,fun _=>none,(Heap.Ns1.of_empty e3).at fun o q=>Heap.get?_push_of_some _ q,fun _=>True.intro,fun y hy=>absurd rfl hy⟩
theorem Xv{prog:Program}{w:World}{env:Env}{e:Expr}{f:Str}{pos:Pos}{s:Shared}{Q:Value->Shared->Prop}(hb:attributeBase e f env (eval e env)=eval e env)
  (h:wpAny (model prog w) A (eval e env) (fun o s₁=>wpAny (model prog w) A (getAttr o f true) Q E s₁) E s):wpAny (model prog w) A (eval (.Attribute e f pos) env) Q E s:=
 Attribute_any_ h (by rw[arm_eval_Attribute,hb])
end
def tFld(K:Frag)(ta:TE)(f:Str):TE:=fun σ H Q=>ta σ H fun x H1=>∃a C dx fs v,x= .ref a/\H1 a=some (.ins C dx fs)/\Cls K C/\NoAttr K C f/\fs.lookup f=some v/\Q v H1
def sFld(K:Frag)(ta tv:TE)(f:Str):TS:=fun D σ H=>tv σ H fun y H1=>ta σ H1 fun x H2=>∃a C dx fs,x= .ref a/\H2 a=some (.ins C dx fs)/\Cls K C/\NoAttr K C f/\fs.length < 1000/\
 D.nx σ (upd H2 a (.ins C dx (putF f y fs)))
def InOp(X:Cx)(op:Operator)(rd:V->V->Hp->VK->Prop):Prop:=
 ∀(pins:List (Addr×Obj)) (s:Shared) (σ:St) (H:Hp) (x y:V) (u v:Value) (Q:VK),Inv X pins σ H s->RelV x u->RelV y v->rd x y H Q->wpAny (model X.prog X.w) X.A (inplaceOp op u v) (EP X pins σ Q) X.xe s
def sFldAug(K:Frag)(ta tv:TE)(rd:V->V->Hp->VK->Prop)(f:Str):TS:=fun D σ H=>ta σ H fun x H1=>∃a C dx fs v,x= .ref a/\H1 a=some (.ins C dx fs)/\Cls K C/\NoAttr K C f/\fs.lookup f=some v/\
 tv σ H1 fun y H2=>rd v y H2 fun z H3=>∃dx' fs',H3 a=some (.ins C dx' fs')/\fs'.length < 1000/\D.nx σ (upd H3 a (.ins C dx' (putF f z fs')))
section
variable {X:Cx}{o e value:Expr}{f:Str}{pos pos' tpos:Pos}{ta tv:TE}
theorem zQ(he:PE X e ta)(hb:attributeBase e f X.env (eval e X.env)=eval e X.env):PE X (.Attribute e f pos) (tFld X.K ta f):=by
 intro pins s σ H Q I h
 refine Xv hb (thn (he pins s σ H _ I h) fun u s1 ⟨x,H1,I1,rx,a,C,dx,fs,v,ex,ea,c,n,l,q⟩=>?_)
 subst ex
 obtain rfl:u=Value.ref a:=rx
 exact J7 I1 ea c n l fun u' s2 I2 ru=>⟨v,H1,I2,ru,q⟩
theorem JT(ha:PE X o ta)(hv:PE X value tv)(hs:swapsWith value (some (.Attribute o f pos')) pos.line X.env=pure false):PS X (.Assign [.Attribute o f pos'] value pos) (sFld X.K ta tv f):=by
 intro pins s σ H D I h
 refine plainObj_wpAny_Assign_Attribute (thn (hv pins s σ H _ I h) fun u s1 ⟨y,H1,I1,ry,q⟩=>thn (ha pins s1 σ H1 _ I1 q) fun ov s2 ⟨x,H2,I2,rx,a,C,dx,fs,ex,ea,c,n,l,q2⟩=>?_) hs
 subst ex
 obtain rfl:ov=Value.ref a:=rx
 exact J9 I2 ea c n l ry fun s3 I3=>⟨σ,_,I3,q2⟩
theorem X3{op:Operator}{rd:V->V->Hp->VK->Prop}(ha:PE X o ta)(hv:PE X value tv)(hop:InOp X op rd):PS X (.AugAssign (.Attribute o f tpos) op value pos) (sFldAug X.K ta tv rd f):=by
 intro pins s σ H D I h
 refine wpAny_AugAssign_AttributeAny (thn (ha pins s σ H _ I h) fun ov s1 ⟨x,H1,I1,rx,a,C,dx,fs,v,ex,ea,c,n,l,q⟩=>?_)
 subst ex
 obtain rfl:ov=Value.ref a:=rx
 refine J7 I1 ea c n l fun u s2 I2 ru=>thn (hv pins s2 σ H1 _ I2 q) fun w3 s3 ⟨y,H2,I3,ry,q3⟩=>thn (hop pins s3 σ H2 v y u w3 _ I3 ru ry q3) fun w4 s4 ⟨z,H3,I4,rz,dx',fs',ea',l',q4⟩=>?_
 exact J9 I4 ea' c n l' rz fun s5 I5=>⟨σ,_,I5,q4⟩
def rAdd:V->V->Hp->VK->Prop:=fun x y H Q=>∃i j,x= .int i/\y= .int j/\Q (.int (i+j)) H
theorem in_add:InOp X .Add rAdd:=by
 rintro pins s σ H x y u v Q I rx ry ⟨i,j,rfl,rfl,q⟩
 obtain⟨t,rfl⟩:=(show ∃t,u=Value.int i t from rx)
 obtain⟨t',rfl⟩:=(show ∃t',v=Value.int j t' from ry)
 exact PyProof.Rows.iadd_int ⟨.int (i+j),H,I.tok _,⟨_,rfl⟩,q⟩
end
section
variable {X:Cx}{pins:List (Addr×Obj)}{σ:St}{H:Hp}{s:Shared}{A:Around}{E:Value->Shared->Prop}{Q:Value->Shared->Prop}{c:Value}{b:Bool}
inductive TyOf(K:Frag)(H:Hp):V->Value->Prop where
 |non:TyOf K H .non (.type "NoneType")
 |bl (x:Bool):TyOf K H (.bl x) (.type "bool")
 |int (i:Int):TyOf K H (.int i) (.type "int")
 |str (x:Str):TyOf K H (.str x) (.type "str")
 |flt (x:UInt64):TyOf K H (.flt x) (.type "float")
 |lst {a:Addr} {xs:List V} (e:H a=some (.lst xs)):TyOf K H (.ref a) (.type "list")
 |frz {a:Addr} {o:Obj} {xs:List V} (e:H a=some (.frz o (.lst xs))):TyOf K H (.ref a) (.type "list")
 |tup {a:Addr} {xs:List V} (e:H a=some (.tup xs)):TyOf K H (.ref a) (.type "tuple")
 |dK {a:Addr} {kvs:List (Key×V)} (e:H a=some (.dK kvs)):TyOf K H (.ref a) (.type "dict")
 |dT {a:Addr} {kvs:List (List Key×V)} (e:H a=some (.dT kvs)):TyOf K H (.ref a) (.type "dict")
 |ins {a C dx:Addr} {fs:List (Str×V)} (e:H a=some (.ins C dx fs)) (cl:Cls K C) (ha:findIn K (.ref C) "__class__"=some (some (.builtin "object.__class__")))
   (hn:specialIn K (.builtin "object.__class__") "__get__"=some (some (.builtin "getset_descriptor.__get__"))) (htk:PySem.W.takesIn K (.builtin "object.__class__")=some true)
   (hm:mroIn K C (.type "object")=some true):TyOf K H (.ref a) (.ref C)
theorem X4{x:V}{u t:Value}(I:Inv X pins σ H s)(rx:RelV x u)(ty:TyOf X.K H x t)(e:kitOne X.K t c=some b)(h:∀tk,Q (.bool b) { s with toks:=tk }):
  wpAny (model X.prog X.w) A (call (.builtin "isinstance") [u,c]) Q E s:=by
 cases ty with
 |non=>cases (show u=Value.none from rx);exact kia_one PySem.W.kitx_none I.kIn True.intro e (fun z=>nomatch z) h
 |bl y=>cases (show u=Value.bool y from rx);exact kia_one PySem.W.kitx_bool I.kIn True.intro e (fun z=>nomatch z) h
 |int i=>obtain⟨t,q⟩:=(show ∃t,u=Value.int i t from rx);cases q;exact kia_one PySem.W.kitx_int I.kIn True.intro e (fun z=>nomatch z) h
 |str y=>obtain⟨t,q⟩:=(show ∃t,u=Value.str y t from rx);cases q;exact kia_one PySem.W.kitx_str I.kIn True.intro e (fun z=>nomatch z) h
 |flt y=>obtain⟨t,q⟩:=(show ∃t,u=Value.float y t from rx);cases q;exact kia_one PySem.W.kitx_float I.kIn True.intro e (fun z=>nomatch z) h
 | @lst a xs ea=>
  cases (show u=Value.ref a from rx)
  obtain⟨_,_,n,_,h1⟩:=(show ObjOk X.prog X.w H s.heap a (.lst xs) from I.hok a _ ea)
  exact kia_one PySem.W.kitx_list I.kIn ⟨_,h1,rfl⟩ e (fun z=>nomatch z) h
 | @frz a ob xs ea=>
  cases (show u=Value.ref a from rx)
  obtain⟨_,_,_,n,_,h1⟩:=(show ObjOk X.prog X.w H s.heap a (.frz ob (.lst xs)) from I.hok a _ ea)
  exact kia_one PySem.W.kitx_list I.kIn ⟨_,h1,rfl⟩ e (fun z=>nomatch z) h
 | @tup a xs ea=>
  cases (show u=Value.ref a from rx)
  obtain⟨_,_,_,p⟩:=(show ObjOk X.prog X.w H s.heap a (.tup xs) from I.hok a _ ea)
  obtain⟨o,h1,h2,_⟩:=p
  exact kia_one PySem.W.kitx_tuple I.kIn ⟨o,h1,h2⟩ e (fun z=>nomatch z) h
 | @dK a kvs ea=>
  cases (show u=Value.ref a from rx)
  obtain⟨_,_,vs,_,p⟩:=(show ObjOk X.prog X.w H s.heap a (.dK kvs) from I.hok a _ ea)
  obtain⟨o,es,ep,h1,h2,_⟩:=p
  exact kia_one PySem.W.kitx_dict I.kIn ⟨o,h1,h2.1⟩ e (fun z=>nomatch z) h
 | @dT a kvs ea=>
  cases (show u=Value.ref a from rx)
  obtain⟨_,_,xs,_,o,es,ep,h1,h2,_⟩:=(show ObjOk X.prog X.w H s.heap a (.dT kvs) from I.hok a _ ea)
  exact kia_one PySem.W.kitx_dict I.kIn ⟨o,h1,h2.1⟩ e (fun z=>nomatch z) h
 | @ins a C dx fs ea cl ha hn htk hm=>
  cases (show u=Value.ref a from rx)
  obtain⟨mA,O,_⟩:=JD I.hok ea
  obtain⟨od,J,_⟩:=O.look
  exact kia_one (PySem.W.kitx_own (cl.get _) cl.hd ha hn htk hm) I.kIn J e (fun z=>nomatch z) h
end
structure Room(k:Nat)(A:Around):Prop where
 hd:A.handled=none
 dp:A.depth+3*k+5 < recursionLimit
 un:A.units+16*k+200 < cLine
theorem Room.mono{j k:Nat}{A:Around}(r:Room k A)(h:j<=k):Room j A:=⟨r.hd,by have:=r.dp;omega,by have:=r.un;omega⟩
theorem Room.deeper{k:Nat}{A:Around}(r:Room (k+1) A)(env:Env):Room k (A.deeper env):=
 ⟨r.hd,by have:=r.dp;show A.depth+1+3*k+5 < _;omega,by have:=r.un;show A.units+3+16*k+200 < _;omega⟩
theorem QZ{A:Around}{C:Addr}{us:List Value}{kw:List (Str×Value)}:(A.under (.builtin "type.__call__" ⟨.ref C::us,kw⟩)).depth=A.depth+1:=by
 first |rfl |simp [Around.under,Code.weight,Code.isCreation,Code.isGuard,Code.isCaller,Code.frames,Code.isFrame,guardIds]
theorem Q0{A:Around}{C:Addr}{us:List Value}{kw:List (Str×Value)}:(A.under (.builtin "type.__call__" ⟨.ref C::us,kw⟩)).units=A.units+1:=by
 first |rfl |simp [Around.under,Code.cUnits,Code.frames,Code.isFrame]
theorem Room.make{k:Nat}{A:Around}(r:Room (k+1) A)(C:Addr)(us:List Value)(kw:List (Str×Value)):Room k (A.under (.builtin "type.__call__" ⟨.ref C::us,kw⟩)):=
 ⟨r.hd,by have:=r.dp;rw[QZ];omega,by have:=r.un;rw[Q0];omega⟩
theorem Room.depth{k:Nat}{A:Around}(r:Room k A):A.depth < recursionLimit:=by have:=r.dp;omega
theorem Room.units{k:Nat}{A:Around}(r:Room k A):A.units+64 < cLine:=by have:=r.un;omega
def tNil:TA:=fun _ H Q=>Q [] H
def tCons(ta:TE)(tr:TA):TA:=fun σ H Q=>ta σ H fun x H1=>tr σ H1 fun xs H2=>Q (x::xs) H2
section
variable {X:Cx}{e:Expr}{es:List Expr}{te:TE}{t:TA}{pos:Pos}
theorem jb:PA X [] tNil:=fun _ _ _ _ H Q I h=>Calls.spliced_nil ⟨[],H,I,.nil,h⟩
theorem ja(ha:PE X e te)(hr:PA X es t)(hs:starEach (e::es) X.env=(false,eval e X.env)::starEach es X.env:=by rfl):PA X (e::es) (tCons te t):=by
 intro pos pins s σ H Q I h
 rw[hs]
 show wpAny _ _ (spliced ((false,eval e X.env)::backTo pos (starEach es X.env))) _ _ s
 refine Calls.spliced_cons (thn (ha pins s σ H _ I h) fun u s1 ⟨x,H1,I1,r1,q1⟩=>?_)
 exact thn (hr pos pins s1 σ H1 _ I1 q1) fun us s2 ⟨xs,H2,I2,r2,q2⟩=>⟨x::xs,H2,I2,.cons r1 r2,q2⟩
def tTup(t:TA):TE:=fun σ H Q=>t σ H fun xs H1=>xs.length<=sizeLine/\∀p,H1 p=none->Q (.ref p) (upd H1 p (.tup xs))
def tLst(t:TA):TE:=fun σ H Q=>t σ H fun xs H1=>xs.length<=sizeLine/\∀p,H1 p=none->Q (.ref p) (upd H1 p (.lst xs))
theorem jk{x1}(h:PA X es t):PE X (.Tuple es x1 pos) (tTup t):=by
 intro pins s σ H Q I hq
 refine wpAny_Tuple_spliced (thn (h pos pins s σ H _ I hq) fun us s1 ⟨xs,H1,I1,r,z,q⟩=>⟨by rw[<- r.length];exact z,?_⟩)
 have hf:H1 s1.heap.objs.size=none:=I1.hok.fresh (Nat.le_refl _)
 refine⟨.ref s1.heap.objs.size,upd H1 s1.heap.objs.size (.tup xs),I1.laid (t':=s1.toks) (fun b u e=>Heap.get?_push_of_some _ e) (Nat.le_refl _) ?_,rfl,q _ hf⟩
 exact⟨z,us,r,⟨_,Heap.get?_push_size _ rfl,rfl,_,rfl⟩⟩
theorem jH(h:PA X es t):PE X (.List es pos) (tLst t):=by
 intro pins s σ H Q I hq
 refine wpAny_List_spliced (thn (h pos pins s σ H _ I hq) fun us s1 ⟨xs,H1,I1,r,z,q⟩=>⟨by rw[<- r.length];exact z,?_⟩)
 have hf:H1 s1.heap.objs.size=none:=I1.hok.fresh (Nat.le_refl _)
 refine⟨.ref s1.heap.objs.size,upd H1 s1.heap.objs.size (.lst xs),I1.laid (t':=s1.toks) (fun b u e=>Heap.get?_push_of_some _ e) (Nat.le_refl _) ?_,rfl,q _ hf⟩
 exact⟨z,us,0,r,Heap.get?_push_size _ rfl⟩
end
abbrev Sp:=List V->Hp->VK->XK->Prop
abbrev CXT:=List Env->Hp->Shared->XK->Value->Shared->Prop
structure Env0(P:Program)(w:World)(K:Frag)(mg:Str->Option Value)(base:Heap)(A:Around)(outer:List Env)(s:Shared)(H:Hp):Prop where
 frames:A.frames=some outer
 mod:Mod K mg base
 bs:∀b o,base.get? b=some o->s.heap.get? b=some o/\H b=none
 bsz:base.objs.size<=s.heap.objs.size
 funs:s.heap.FunFrames base outer
 frf:∀b∈frs outer,H b=none
 hok:HOk P w H s.heap
 bare:AllBare s.gens
def CE(outer:List Env)(P:Program)(w:World)(H:Hp)(s:Shared)(Q:VK)(u:Value)(s':Shared):Prop:=
 ∃v H',s'.os=s.os/\AllBare s'.gens/\Un (frs outer) [] H H' s.heap s'.heap/\HOk P w H' s'.heap/\RelV v u/\Q v H'
def CR(CX:CXT)(outer:List Env)(P:Program)(w:World)(H:Hp)(s:Shared)(Q:VK)(E:XK)(r:Result)(s':Shared):Prop:=
 match r with
 | .ok (.ret u)=>CE outer P w H s Q u s'
 | .ok _=>False
 | .error e=>CX outer H s E e s'
structure FnOk(P:Program)(w:World)(K:Frag)(mg:Str->Option Value)(base:Heap)(CX:CXT)(k:Nat)(f:Addr)(fd:FuncData)(ps:List Str)(sp:Sp):Prop where
 len:∀vs H Q E,sp vs H Q E->vs.length=ps.length
 run:∀(A:Around) (outer:List Env) (s:Shared) (H:Hp) (args:Args) (us:List Value) (vs:List V) (Q:VK) (E:XK),Room k A->Env0 P w K mg base A outer s H->BindsTo s fd args (ps.zip us)->Vals vs us->sp vs H Q E->
  codeAny (model P w) A (.call (.ref f) args) (CR CX outer P w H s Q E) s
theorem Env0.make{P:Program}{w:World}{K:Frag}{mg:Str->Option Value}{base:Heap}{A:Around}{outer:List Env}{s:Shared}{H:Hp}(e:Env0 P w K mg base A outer s H)(C:Addr)(us:List Value)(kw:List (Str×Value)):
  Env0 P w K mg base (A.under (.builtin "type.__call__" ⟨.ref C::us,kw⟩)) outer s H:=⟨by first |exact e.frames | (simpa [Around.under,Code.envs,Code.isFrame,pushEnvs] using e.frames),e.mod,e.bs,e.bsz,e.funs,e.frf,e.hok,e.bare⟩
section
variable {X:Cx}{pins:List (Addr×Obj)}{σ:St}{H:Hp}{s s':Shared}
theorem Inv.env0(I:Inv X pins σ H s):Env0 X.prog X.w X.K X.mg X.base X.A X.stack s H:=
 ⟨I.ok.frames,I.ok.mod,I.bs,Nat.le_trans I.ok.bsz I.sz,I.stack,I.stkFree,I.hok,I.bare⟩
theorem Inv.after{Q:VK}{u:Value}(I:Inv X pins σ H s)(h:CE X.stack X.prog X.w H s Q u s'):EP X pins σ Q u s':=by
 obtain⟨v,H',os,bare,un,hok,r,q⟩:=h
 obtain⟨hh,g,d,t,os'⟩:=s'
 obtain rfl:os'=s.os:=os
 exact⟨v,H',I.call (h':=hh) (g':=g) (d':=d) (t':=t) (ch:=[]) un hok bare (fun b z=>absurd z (by simp)),r,q⟩
end
def tCall(sp:Sp)(dvs:List V)(E:XK)(t:TA):TE:=fun σ H Q=>t σ H fun vs H1=>sp (vs++dvs) H1 Q E
def tMeth(C:Addr)(m:Str)(sp:Sp)(dvs:List V)(E:XK)(ta:TE)(t:TA):TE:=fun σ H Q=>ta σ H fun x H1=>∃a dx fs,x= .ref a/\H1 a=some (.ins C dx fs)/\fs.lookup m=none/\
 t σ H1 fun vs H2=>sp (x::(vs++dvs)) H2 Q E
def tMake(C:Addr)(sp:Sp)(dvs:List V)(E:XK)(t:TA):TE:=fun σ H Q=>t σ H fun vs H1=>∀x dx,H1 x=none->H1 dx=none->dx≠x->
 sp (.ref x::(vs++dvs)) (upd (upd H1 dx (.own x)) x (.ins C dx [])) (fun v H2=>v= .non/\Q (.ref x) H2) E
def Binds(K:Frag)(fd:FuncData)(ps:List Str)(ds:List Value):Prop:=
 ∀(s:Shared) (us:List Value),K.In s.heap->(us++ds).length=ps.length->BindsTo s fd ⟨us,[]⟩ (ps.zip (us++ds))
theorem Binds.all{K:Frag}{fd:FuncData}{ps:List Str}(h:∀us:List Value,us.length=ps.length->bindArgs fd ⟨us,[]⟩=pure (ps.zip us)):Binds K fd ps []:=fun s us _ hl=>by
 rw[List.append_nil]at hl ⊢
 exact .of_eq (h us hl)
def Passes(CX:CXT)(X:Cx)(E:XK):Prop:=∀(pins:List (Addr×Obj)) (σ:St) (H:Hp) (s:Shared) (e:Value) (s':Shared),Inv X pins σ H s->CX X.stack H s E e s'->X.xe e s'
section
variable {X:Cx}{CX:CXT}{k:Nat}{f C:Addr}{fd:FuncData}{ps:List Str}{sp:Sp}{dvs:List V}{ds:List Value}{E:XK}{x m:Str}{p pos apos:Pos}{e o:Expr}{es:List Expr}{ta:TE}{t:TA}
theorem KZ{pins:List (Addr×Obj)}{σ:St}{H:Hp}{s:Shared}{Q:VK}{us:List Value}{vs:List V}(F:FnOk X.prog X.w X.K X.mg X.base CX k f fd ps sp)(hr:Room k X.A)(hb:Binds X.K fd ps ds)(hd:Vals dvs ds)(hx:Passes CX X E)
  (I:Inv X pins σ H s) (r:Vals vs us) (h:sp (vs++dvs) H Q E):wpAny (model X.prog X.w) X.A (call (.ref f) us) (EP X pins σ Q) X.xe s:=by
 have r2:Vals (vs++dvs) (us++ds):=r.append hd
 have hl:(us++ds).length=ps.length:=by rw[<- r2.length];exact F.len _ _ _ _ h
 refine wpAny_call (codeAny_mono (F.run X.A X.stack s H ⟨us,[]⟩ (us++ds) (vs++dvs) Q E hr I.env0 (hb s us I.kIn hl) r2 h) fun r s' hq=>?_)
 cases r with
 |error e=>exact hx pins σ H s e s' I hq
 |ok fl=>
  cases fl with
  |ret u=>exact I.after hq
  |next=>exact False.elim hq
  |brk=>exact False.elim hq
  |cont=>exact False.elim hq
theorem jh(F:FnOk X.prog X.w X.K X.mg X.base CX k f fd ps sp)(hr:Room k X.A)(hg:Gl X x)(hm:X.mg x=some (.ref f))(hk:keepIn X.K (.ref f)=true)(hb:Binds X.K fd ps ds)(hd:Vals dvs ds)(hx:Passes CX X E)
  (ha:PA X (e::es) t) (hdb:(x==("__debug__":Str))=false:=by decide) (he:starEach (e::es) X.env=(false,eval e X.env)::starEach es X.env:=by rfl) (hpl:(backTo pos (starEach es X.env)).any (·.1)=false:=by rfl):
  PE X (.Call (.Name x p) (e::es) [] pos) (tCall sp dvs E t):=by
 intro pins s σ H Q I h
 refine wpAny_Call_Name_kw (zE I hg hm ?_ hdb)
 refine callWith_K (h₀:=X.base) I.ok.mod.kin hk (thn (ha pos pins s σ H _ I h) fun us s1 ⟨vs,H1,I1,r,q⟩=>⟨I1.kIn,?_⟩) he hpl
 exact KZ F hr hb hd hx I1 r q
theorem qH{pl:Sem Bool}(he:PE X o ta)(c:Cls X.K C)(hm:Meth X.K C m f)(F:FnOk X.prog X.w X.K X.mg X.base CX k f fd ps sp)(hr:Room k X.A)(hb:Binds X.K fd ps ds)(hd:Vals dvs ds)(hx:Passes CX X E)(ha:PA X (e::es) t)
  (hst:starEach (e::es) X.env=(false,eval e X.env)::starEach es X.env:=by rfl) (hpl:(backTo pos (starEach es X.env)).any (·.1)=false:=by rfl)
  (ht:eval (.Call (.Attribute o m apos) (e::es) [] pos) X.env=(do
   let ov <- eval o X.env
   standAt apos.atName
   let (f,first) <- holding [ov] (getMethod ov m pl)
   callWith pos f first (backTo pos (starEach (e::es) X.env)) (backToKw pos (keywordEach [] X.env))):=by rfl):
  PE X (.Call (.Attribute o m apos) (e::es) [] pos) (tMeth C m sp dvs E ta t):=by
 intro pins s σ H Q I h
 refine PySem.W.methodCall_KW (pl:=pl) (thn (he pins s σ H _ I h) fun u s1 ⟨x,H1,I1,rx,a,dx,fs,ex,ea,l,q⟩=>?_) ht
 subst ex
 obtain rfl:u=Value.ref a:=rx
 refine J8 I1 ea c hm l ?_
 refine callWith_K (first:=[.ref a]) (h₀:=X.base) I.ok.mod.kin hm.kp (thn (ha pos pins s1 σ H1 _ I1 q) fun us s2 ⟨vs,H2,I2,r,q2⟩=>⟨I2.kIn,?_⟩) hst hpl
 exact KZ (us:=.ref a::us) (vs:=.ref a::vs) F hr hb hd hx I2 (.cons rfl r) q2
theorem Zo{pl:Sem Bool}(he:PE X o ta)(c:Cls X.K C)(hm:Meth X.K C m f)(F:FnOk X.prog X.w X.K X.mg X.base CX k f fd ps sp)(hr:Room k X.A)(hb:Binds X.K fd ps ds)(hd:Vals dvs ds)(hx:Passes CX X E)
  (ht:eval (.Call (.Attribute o m apos) [] [] pos) X.env=(do
   let ov <- eval o X.env
   standAt apos.atName
   let (f,first) <- holding [ov] (getMethod ov m pl)
   callWith pos f first (backTo pos (starEach [] X.env)) (backToKw pos (keywordEach [] X.env))):=by rfl):
  PE X (.Call (.Attribute o m apos) [] [] pos) (tMeth C m sp dvs E ta tNil):=by
 intro pins s σ H Q I h
 refine PySem.W.methodCall_KW (pl:=pl) (thn (he pins s σ H _ I h) fun u s1 ⟨x,H1,I1,rx,a,dx,fs,ex,ea,l,q⟩=>?_) ht
 subst ex
 obtain rfl:u=Value.ref a:=rx
 refine J8 I1 ea c hm l ?_
 exact PySem.W.callWith_K0 (first:=[.ref a]) I1.kIn hm.kp (KZ (us:=[.ref a]) (vs:=[.ref a]) F hr hb hd hx I1 (.cons rfl .nil) q)
structure Mk(K:Frag)(C f:Addr):Prop where
 makes:PySem.W.makesIn K C=true
 init:findIn K (.ref C) "__init__"=some (some (.ref f))
 fn:isFn K (.ref f)=true
 kp:keepIn K (.ref C)=true
theorem Zp{pins:List (Addr×Obj)}{σ:St}{H:Hp}{s:Shared}{Q:VK}{us:List Value}{vs:List V}(M:Mk X.K C f)(F:FnOk X.prog X.w X.K X.mg X.base CX k f fd ps sp)(hr:Room (k+1) X.A)(hb:Binds X.K fd ps ds)(hd:Vals dvs ds)
  (hx:Passes CX X E) (I:Inv X pins σ H s) (r:Vals vs us)
  (h:∀x dx,H x=none->H dx=none->dx≠x->sp (.ref x::(vs++dvs)) (upd (upd H dx (.own x)) x (.ins C dx [])) (fun v H2=>v= .non/\Q (.ref x) H2) E):
  wpAny (model X.prog X.w) X.A (call (.ref C) us) (EP X pins σ Q) X.xe s:=by
 have hq:=h (s.heap.objs.size+1) s.heap.objs.size (I.hok.fresh (Nat.le_succ _)) (I.hok.fresh (Nat.le_refl _)) (Nat.ne_of_lt (Nat.lt_succ_self _))
 have I2:=Inv.made (C:=C) I
 have r2:Vals (V.ref (s.heap.objs.size+1)::(vs++dvs)) (Value.ref (s.heap.objs.size+1)::(us++ds)):=.cons rfl (r.append hd)
 have hl:(Value.ref (s.heap.objs.size+1)::us++ds).length=ps.length:=by
  have e:=r2.length
  rw[F.len _ _ _ _ hq]at e
  exact e.symm
 refine wpAny_call (Zn (f:=f) I.kIn M.makes M.init (beq_iff_eq.mp M.fn) (codeAny_mono (F.run _ X.stack _ _ ⟨Value.ref (s.heap.objs.size+1)::us,[]⟩ (Value.ref (s.heap.objs.size+1)::(us++ds)) _ _ E (hr.make C us [])
  (I2.env0.make C us []) (hb _ (Value.ref (s.heap.objs.size+1)::us) I2.kIn hl) r2 hq) fun r s' hq'=>?_))
 cases r with
 |error e=>exact hx pins σ _ _ e s' I2 hq'
 |ok fl=>
  cases fl with
  |ret u=>
   obtain⟨v,H',I3,rv,ev,q3⟩:=I2.after hq'
   subst ev
   exact⟨rv,⟨V.ref (s.heap.objs.size+1),H',I3,rfl,q3⟩⟩
  |next=>exact False.elim hq'
  |brk=>exact False.elim hq'
  |cont=>exact False.elim hq'
theorem pe_make(M:Mk X.K C f)(F:FnOk X.prog X.w X.K X.mg X.base CX k f fd ps sp)(hr:Room (k+1) X.A)(hg:Gl X x)(hm:X.mg x=some (.ref C))(hb:Binds X.K fd ps ds)(hd:Vals dvs ds)(hx:Passes CX X E)
  (ha:PA X (e::es) t) (hdb:(x==("__debug__":Str))=false:=by decide) (he:starEach (e::es) X.env=(false,eval e X.env)::starEach es X.env:=by rfl) (hpl:(backTo pos (starEach es X.env)).any (·.1)=false:=by rfl):
  PE X (.Call (.Name x p) (e::es) [] pos) (tMake C sp dvs E t):=by
 intro pins s σ H Q I h
 refine wpAny_Call_Name_kw (zE I hg hm ?_ hdb)
 refine callWith_K (h₀:=X.base) I.ok.mod.kin M.kp (thn (ha pos pins s σ H _ I h) fun us s1 ⟨vs,H1,I1,r,q⟩=>⟨I1.kIn,?_⟩) he hpl
 exact Zp M F hr hb hd hx I1 r q
end
structure FnScope(N P:List Str)(sc:Scope):Prop where
 kind:sc.kind= .function
 co:sc.isCoroutine=false
 gen:sc.isGenerator=false
 nd:N.Nodup
 pre:N.take P.length=P
 par:∀x∈P,sc.names.lookup x=some .local∨sc.names.lookup x=some .cell
 nofree:∀y∈sc.names,y.2≠ .free
theorem KE{kindOf:Str->Option NameKind}{x:Str}:∀{binds:List (Str×Value)} {m:Str->Option Value},(∀v,(x,v)∉binds)->bindL kindOf binds m x=m x
 | [],_,_=>rfl
 | (n,v)::r,m,h=>by
  unfold bindL
  rw[KE fun w hw=>h w (List.mem_cons_of_mem _ hw)]
  split
  ·have:x≠n:=by rintro rfl;exact h v List.mem_cons_self
   simp [this]
  ·rfl
theorem KF{kindOf:Str->Option NameKind}{x:Str}:∀{binds:List (Str×Value)} {m:Str->Option Value},(∀v,(x,v)∉binds)->bindC kindOf binds m x=m x
 | [],_,_=>rfl
 | (n,v)::r,m,h=>by
  unfold bindC
  rw[KF fun w hw=>h w (List.mem_cons_of_mem _ hw)]
  split
  ·rfl
  ·have:x≠n:=by rintro rfl;exact h v List.mem_cons_self
   simp [this]
theorem KG{kindOf:Str->Option NameKind}{x:Str}{v:Value}:∀{P:List Str} {vs:List Value} {i:Nat} {m:Str->Option Value},P.Nodup->P[i]?=some x->vs[i]?=some v->kindOf x=some .local->
  bindL kindOf (P.zip vs) m x=some v
 | [],_,_,_,_,h,_,_=>by simp at h
 |_::_,[],_,_,_,_,h,_=>by simp at h
 |p::P,w::vs,0,m,nd,h1,h2,hk=>by
  simp at h1 h2;subst h1;subst h2
  show bindL kindOf ((p,w)::P.zip vs) m p=_
  unfold bindL
  rw[KE fun v hv=>(List.nodup_cons.mp nd).1 (List.of_mem_zip hv).1,if_pos hk]
  simp
 |p::P,w::vs,i+1,m,nd,h1,h2,hk=>by
  show bindL kindOf ((p,w)::P.zip vs) m x=_
  unfold bindL
  exact KG (i:=i) (List.nodup_cons.mp nd).2 (by simpa using h1) (by simpa using h2) hk
theorem KH{kindOf:Str->Option NameKind}{x:Str}{v:Value}:∀{P:List Str} {vs:List Value} {i:Nat} {m:Str->Option Value},P.Nodup->P[i]?=some x->vs[i]?=some v->kindOf x≠some .local->
  bindC kindOf (P.zip vs) m x=some v
 | [],_,_,_,_,h,_,_=>by simp at h
 |_::_,[],_,_,_,_,h,_=>by simp at h
 |p::P,w::vs,0,m,nd,h1,h2,hk=>by
  simp at h1 h2;subst h1;subst h2
  show bindC kindOf ((p,w)::P.zip vs) m p=_
  unfold bindC
  rw[KF fun v hv=>(List.nodup_cons.mp nd).1 (List.of_mem_zip hv).1,if_neg hk]
  simp
 |p::P,w::vs,i+1,m,nd,h1,h2,hk=>by
  show bindC kindOf ((p,w)::P.zip vs) m x=_
  unfold bindC
  exact KH (i:=i) (List.nodup_cons.mp nd).2 (by simpa using h1) (by simpa using h2) hk
noncomputable def start(N:List Str)(vs:List V):St:=vs.map some++List.replicate (N.length - vs.length) none
noncomputable def cxOf(CX:CXT)(P:Program)(w:World)(K:Frag)(mg:Str->Option Value)(base:Heap)(N:List Str)(qual:Str)(scope:Scope)(f:Addr)(cd:Value)(A:Around)(outer:List Env)(s:Shared)(H:Hp)(E:XK):Cx where
 prog:=P
 w:=w
 K:=K
 mg:=mg
 base:=base
 A:=A.deeper (envOfC qual scope s.heap.objs.size f cd)
 N:=N
 s₀:=s
 H₀:=H
 env:=envOfC qual scope s.heap.objs.size f cd
 outer:=outer
 stack:=envOfC qual scope s.heap.objs.size f cd::outer
 ex:=[]
 calm:=true
 fn:=fun _=>true
 pn:=[]
 xe:=fun e s'=>wpAny (model P w) (A.deeper (envOfC qual scope s.heap.objs.size f cd)) (leaving (envOfC qual scope s.heap.objs.size f cd) e) (fun _ s''=>CX outer H s E e s'') (fun e' s''=>CX outer H s E e' s'') s'
theorem Ql{sc:Scope}{n:Nat}{x:Str}(h:sc.names.lookup x=some .cell):∃c,(cellsFrom n sc.names []).lookup x=some c:=by
 have q:=PySem.W.cellsFrom_some sc.names n [] (.inl h)
 exact Option.isSome_iff_exists.mp q
theorem X5{CX:CXT}{P:Program}{w:World}{K:Frag}{mg:Str->Option Value}{base:Heap}{N ps:List Str}{qual:Str}{scope:Scope}{f:Addr}{cd:Value}{A:Around}{outer:List Env}{s s1:Shared}{H:Hp}{E:XK}{us:List Value}{vs:List V}
  (S:FnScope N ps scope) (hd:A.handled=none) (e0:Env0 P w K mg base A outer s H) (hl:vs.length=ps.length) (r:Vals vs us)
  (x:InCallC s s.heap.objs.size (bindL (envOfC qual scope s.heap.objs.size f cd).kindOf (ps.zip us) fun _=>none) (cellsFrom (s.heap.objs.size+1) scope.names []) (bindC (envOfC qual scope s.heap.objs.size f cd).kindOf (ps.zip us) fun _=>none) s1):
  Inv (cxOf CX P w K mg base N qual scope f cd A outer s H E) [] (start N vs) H s1:=by
 have hpl:ps.length<=N.length:=by have:=congrArg List.length S.pre;rw[List.length_take]at this;omega
 obtain⟨h1,tk,rfl,hk⟩:=x.done
 have noA:∀b:Addr,b∉(cxOf CX P w K mg base N qual scope f cd A outer s H E).ex:=fun b z=>absurd (show b∈([]:List Addr) from z) (by simp)
 refine⟨⟨e0.mod,S.kind,rfl,rfl,Nat.le_refl _,fun y z c h1 h2=>?_,fun y hy=>?_,fun y c _ h=>?_,fun _=>hd,Around.frames_deeper e0.frames,.inr ⟨rfl,rfl⟩,fun b z=>absurd z (noA b),e0.bs,e0.bsz,fun b _ _=>noA b,fun b z=>absurd z (noA b),e0.funs,e0.frf⟩,
  rfl,e0.bare,Un.kept hk,⟨_,x.toInCall.ns,fun i y v h1 h2 h3=>?_⟩,fun y c h=>⟨_,x.cell y c h⟩,e0.hok.fresh (Nat.le_refl _),fun y c h=>?_,fun p hp=>absurd (show p∈([]:List (Addr×Obj)) from hp) (by simp),e0.hok.kept hk,?_⟩
 ·exact name_of_addr x.apart (PySem.mem_of_lookup h1) (PySem.mem_of_lookup h2)
 ·have hy:scope.names.lookup y=some .cell∨scope.names.lookup y=some .free:=hy
  rcases hy with hy |hy
  ·exact Ql hy
  ·exact absurd rfl (S.nofree _ (PySem.mem_of_lookup hy))
 ·exact Nat.le_of_lt (x.above y c (PySem.mem_of_lookup h))
 ·have hi:i < vs.length:=by
   unfold start at h2
   by_cases hi:i < vs.length
   ·exact hi
   ·rw[List.getElem?_append_right (by simpa using hi)]at h2
    rw[List.getElem?_replicate]at h2
    split at h2<;>cases h2
  have ha:vs[i]?=some v:=by
   unfold start at h2
   rw[List.getElem?_append_left (by simpa using hi),List.getElem?_map]at h2
   cases e:vs[i]? with
   |none=>rw[e]at h2;cases h2
   |some a=>rw[e]at h2;cases h2;rfl
  obtain⟨u,hu,rv⟩:=r.get ha
  have hp:ps[i]?=some y:=by
   rw[<- S.pre,List.getElem?_take_of_lt (by omega)];exact h1
  have ndP:ps.Nodup:=by rw[<- S.pre];exact S.nd.sublist (List.take_sublist _ _)
  refine⟨u,rv,?_⟩
  rcases S.par y (List.mem_of_getElem? hp) with k |k
  ·exact .inl ⟨k,KG ndP hp hu k⟩
  ·obtain⟨c,e⟩:=Ql (n:=s.heap.objs.size+1) k
   refine .inr ⟨.inl k,c,e,?_⟩
   have q:=x.cell y c e
   rw[KH ndP hp hu (by show scope.names.lookup y≠_;rw[k];decide)]at q
   exact q
 ·exact e0.hok.fresh (Nat.le_of_lt (x.above y c (PySem.mem_of_lookup h)))
 ·unfold start
  show _=N.length
  rw[List.length_append,List.length_map,List.length_replicate]
  omega
theorem fn_of{CX:CXT}{P:Program}{w:World}{K:Frag}{mg:Str->Option Value}{base:Heap}{k:Nat}{f:Addr}{name qual:Str}{params:Arguments}{body:List Stmt}{scope:Scope}{dV kV doc pm cdv ct oc:Value}{an od:Option Addr}
  {osl:Array (Option Value)} {N ps:List Str} {sp:Sp} (lk:K.lookup f=some ⟨oc,od,.func (fnOf name qual params body scope dV kV doc pm an cdv ct),osl⟩) (hcd:codeIn K cdv qual=true) (S:FnScope N ps scope)
  (len:∀vs H Q E,sp vs H Q E->vs.length=ps.length)
  (hbody:∀(A:Around) (outer:List Env) (s:Shared) (H:Hp) (vs:List V) (Q:VK) (E:XK),Room k (A.deeper (envOfC qual scope s.heap.objs.size f cdv))->sp vs H Q E->
   ∃t,PSs (cxOf CX P w K mg base N qual scope f cdv A outer s H E) body t/\t { nx:=fun _ H'=>Q .non H',rt:=Q } (start N vs) H):
  FnOk P w K mg base CX (k+1) f (fnOf name qual params body scope dV kV doc pm an cdv ct) ps sp:=by
 refine⟨len,fun A outer s H args us vs Q E hr e0 hb r hsp=>?_⟩
 have hl:=len _ _ _ _ hsp
 have KX:K.In s.heap:=e0.mod.kin.keeps fun b o e=>(e0.bs b o e).1
 have lim:s.heap.NoLimit:=e0.mod.nolimit.keeps fun b o e=>(e0.bs b o e).1
 have hkind:∀y∈ps.zip us,scope.names.lookup y.1=some .local∨(scope.names.lookup y.1=some .cell/\((cellsFrom (s.heap.objs.size+1) scope.names []).lookup y.1).isSome=true):=fun⟨n,v⟩ hy=>by
  rcases S.par n (List.of_mem_zip hy).1 with q |q
  ·exact .inl q
  ·exact .inr ⟨q,PySem.W.cellsFrom_some _ _ _ (.inl q)⟩
 refine codeAny_call_function hr.depth (KX _ _ lk) rfl S.co S.gen rfl (PySem.W.codeRec_of KX hcd) (hb _ _ _ _ ?_)
 refine wpAny_newFunctionEnv_cells S.kind hkind fun env he s1 x=>?_
 subst he
 refine⟨lim.keeps x.toInCall.keep,codeAny_func ?_⟩
 obtain⟨t,ht,hq⟩:=hbody A outer s H vs Q E (hr.deeper _) hsp
 have I:Inv (cxOf CX P w K mg base N qual scope f cdv A outer s H E) [] (start N vs) H s1:=X5 S hr.hd e0 hl r x
 refine wpAny_mono (ht [] s1 (start N vs) H _ I hq) (fun fl s' hs=>?_) fun e s' hs=>hs
 have fin:∀{σ':St} {H':Hp} {v:V} {u:Value},Inv (cxOf CX P w K mg base N qual scope f cdv A outer s H E) [] σ' H' s'->RelV v u->Q v H'->CE outer P w H s Q u s':=
  fun {σ' H' v u} J rv q=>⟨v,H',J.os,J.bare,J.base,J.hok,rv,q⟩
 cases fl with
 |ret u=>
  obtain⟨v,σ',H',J,rv,q⟩:=hs
  exact fin J rv q
 |next=>
  obtain⟨σ',H',J,q⟩:=hs
  exact fin (v:=V.non) (u:=Value.none) J rfl q
 |brk=>
  obtain⟨_,_,_,q⟩:=hs
  exact False.elim q
 |cont=>
  obtain⟨_,_,_,q⟩:=hs
  exact False.elim q
section
variable {X:Cx}{x:Str}{p pos:Pos}{e:Expr}{es:List Expr}{t:TA}{id T:String}{r:List V->Hp->VK->Prop}
def tCB(r:List V->Hp->VK->Prop)(t:TA):TE:=fun σ H Q=>t σ H fun vs H1=>r vs H1 Q
theorem jG(hc:CallR X (.builtin id) r)(hg:Gl X x)(hm:X.mg x=none)(hv:bootBuiltins x=some (.builtin id))(ha:PA X (e::es) t)(hn:x≠"__name__":=by decide)(hdb:(x==("__debug__":Str))=false:=by decide)
  (he:starEach (e::es) X.env=(false,eval e X.env)::starEach es X.env:=by rfl) (hpl:(backTo pos (starEach es X.env)).any (·.1)=false:=by rfl):PE X (.Call (.Name x p) (e::es) [] pos) (tCB r t):=by
 intro pins s σ H Q I h
 refine wpAny_Call_Name_kw (zP I hg hm hv ?_ hn hdb)
 exact PyProof.Rows.callWith_builtin1 (thn (ha pos pins s σ H _ I h) fun us s1 ⟨vs,H1,I1,r1,q1⟩=>hc pins s1 σ H1 vs us Q I1 r1 q1) he hpl
theorem jF(hc:CallR X (.type T) r)(hg:Gl X x)(hm:X.mg x=none)(hv:bootBuiltins x=some (.type T))(ha:PA X (e::es) t)(hn:x≠"__name__":=by decide)(hdb:(x==("__debug__":Str))=false:=by decide)
  (he:starEach (e::es) X.env=(false,eval e X.env)::starEach es X.env:=by rfl) (hpl:(backTo pos (starEach es X.env)).any (·.1)=false:=by rfl):PE X (.Call (.Name x p) (e::es) [] pos) (tCB r t):=by
 intro pins s σ H Q I h
 refine wpAny_Call_Name_kw (zP I hg hm hv ?_ hn hdb)
 exact PyProof.Rows.callWith_type1 (thn (ha pos pins s σ H _ I h) fun us s1 ⟨vs,H1,I1,r1,q1⟩=>hc pins s1 σ H1 vs us Q I1 r1 q1) he hpl
end
end L2
namespace HT
open PySem PyProof.Rows
theorem eqAt_int(A:Around)(s:Shared)(a:Int)(t:Tok)(c:Int)(u:Tok):∃e,SeqAt.EqAt A s (.int a t) (.int c u) e/\(e=true↔a=c):=
 ⟨(a==c),SeqAt.EqAt.int_int a t c u,by simp⟩
section
variable {prog:Program}{w:World}{A:Around}{E:Value->Shared->Prop}{s:Shared}
theorem cat_tup{t b:Addr}{vs ws:List Value}{Q:Value->Shared->Prop}(ht:IsTup s.heap t vs.toArray)(hb:IsTup s.heap b ws.toArray)(hv:vs≠[])
  (h1:ws=[]->Q (.ref t) s) (h2:ws≠[]->Q (.ref s.heap.objs.size) { s with heap:=s.heap.push { cls:=.type "tuple",data:=.seq (vs++ws).toArray } })
  (hsz:vs.length+ws.length<=sizeLine):wpAny (model prog w) A (binaryOp .Add (.ref t) (.ref b)) Q E s:=by
 obtain⟨⟨cls,dd,data,sl⟩,ho,hc,n,hd⟩:=id ht
 obtain⟨⟨cls2,dd2,data2,sl2⟩,ho2,hc2,n2,hd2⟩:=id hb
 simp only at hc hd hc2 hd2
 subst hc hd hc2 hd2
 have e:vs.toArray++ws.toArray=(vs++ws).toArray:=by simp
 by_cases hw:ws=[]
 ·exact concat_meets ⟨_,ho,rfl⟩ ⟨_,ho2,rfl⟩ noFill_tuple_add seq_tuple_add PySem.F.slot_tuple_add PySem.F.entry_tuple_add (PySem.F.args_tuple_add_2 _ _)
   (tuple_addW1 t b vs.toArray ws.toArray n n2 dd dd2 sl sl2 (by simpa using hv) (by simp [hw])) ⟨ho,ho2,h1 hw⟩
 ·refine concat_meets ⟨_,ho,rfl⟩ ⟨_,ho2,rfl⟩ noFill_tuple_add seq_tuple_add PySem.F.slot_tuple_add PySem.F.entry_tuple_add (PySem.F.args_tuple_add_2 _ _)
   (tuple_addW2 t b vs.toArray ws.toArray n n2 dd dd2 sl sl2 (by simpa using hv) (by simpa using hw) (by rw[List.size_toArray,List.size_toArray];exact hsz)) ⟨ho,ho2,?_⟩
  rw[e]
  exact h2 hw
noncomputable def sIx(n d:Nat):Option Int->Nat
 |none=>d
 |some v=>if v < 0 then (v+(n:Int)).toNat else min v.toNat n
theorem sIx_none(n d:Nat):sIx n d none=d:=rfl
theorem sIx_nat(n d k:Nat):sIx n d (some (k:Int))=min k n:=by
 show(if (k:Int) < 0 then ((k:Int)+(n:Int)).toNat else min (k:Int).toNat n)=min k n
 rw[if_neg (by omega),Int.toNat_natCast]
theorem sIx_le(n d:Nat)(hd:d<=n)(o:Option Int):sIx n d o<=n:=by
 cases o with
 |none=>exact hd
 |some v=>
  show(if v < 0 then (v+(n:Int)).toNat else min v.toNat n)<=n
  by_cases hv:v < 0
  ·rw[if_pos hv];omega
  ·rw[if_neg hv];exact Nat.min_le_right _ _
theorem Xw(v:Int)(n d:Nat):(if v < 0 then max (v+(n:Int)) 0 else min v (n:Int))=((sIx n d (some v):Nat):Int):=by
 show(if v < 0 then max (v+(n:Int)) 0 else min v (n:Int))=(((if v < 0 then (v+(n:Int)).toNat else min v.toNat n):Nat):Int)
 by_cases hv:v < 0
 ·simp only[if_pos hv];omega
 ·simp only[if_neg hv];omega
theorem Q1(lo hi:Option Int)(n:Nat):Builtin.Slice.sliceAdjust lo hi 1 (n:Int)=(((sIx n 0 lo:Nat):Int),((sIx n n hi:Nat):Int)):=by
 have h1:¬((1:Int) < 0):=by omega
 unfold Builtin.Slice.sliceAdjust
 simp only[h1,if_false]
 refine Prod.ext ?_ ?_
 ·cases lo with
  |none=>rfl
  |some v=>exact Xw v n 0
 ·cases hi with
  |none=>rfl
  |some v=>exact Xw v n n
theorem Q2(i j:Nat):Builtin.Slice.slicePlaces (i:Int) (j:Int) 1=j - i:=by
 unfold Builtin.Slice.slicePlaces
 have h1:(1:Int) > 0:=by omega
 simp only[h1,if_true,Int.ediv_one]
 split<;>omega
theorem slicePart_{v:Value}{o:Option Int}{Q:Option Int->Shared->Prop}(p:IsPart v o)(h:Q o s):wpAny (model prog w) A (Builtin.Slice.slicePartIndex v) Q E s:=by
 cases p with
 |none=>exact slicePart_none h
 |int i t=>exact slicePart_int h
theorem sliceApplied_gen{sl:Addr}{vl vu:Value}{lo hi:Option Int}{n:Nat}{Q:Int×Int×Nat->Shared->Prop}(hs:s.heap.IsSliceOf sl vl vu .none)(pl:IsPart vl lo)(pu:IsPart vu hi)
  (h:Q (((sIx n 0 lo:Nat):Int),1,sIx n n hi - sIx n 0 lo) s):wpAny (model prog w) A (Builtin.Slice.sliceApplied (.ref sl) (pure (n:Int))) Q E s:=by
 obtain⟨os,hos,hcs,hds⟩:=id hs
 unfold Builtin.Slice.sliceApplied Builtin.Slice.sliceFields
 refine wpAny_bind (wpAny_bind (wpAny_field hos hds (x:=vl) rfl (wpAny_bind (wpAny_field hos hds (x:=vu) rfl (wpAny_bind (wpAny_field hos hds (x:=.none) rfl (wpAny_pure ?_)))))))
 refine wpAny_bind (slicePart_none ?_)
 show wpAny _ _ (if ((1:Int)==0)=true then _ else _) _ _ s
 rw[if_neg (by decide)]
 refine wpAny_bind (slicePart_ pl (wpAny_bind (slicePart_ pu (wpAny_bind (wpAny_pure ?_)))))
 show wpAny _ _ (match Builtin.Slice.sliceAdjust lo hi 1 (n:Int) with | (lo,hi)=>pure (lo,(1:Int),Builtin.Slice.slicePlaces lo hi 1)) _ _ s
 rw[Q1 lo hi n]
 show wpAny _ _ (pure (((sIx n 0 lo:Nat):Int),(1:Int),Builtin.Slice.slicePlaces ((sIx n 0 lo:Nat):Int) ((sIx n n hi:Nat):Int) 1)) _ _ s
 rw[Q2]
 exact wpAny_pure h
theorem Zq(xs:Array Value)(i k:Nat):((List.range k).filterMap fun(m:Nat)=>xs[((i:Int)+(m:Int)*1).toNat]?).toArray=((xs.toList.drop i).take k).toArray:=by
 have e:(fun(m:Nat)=>xs[((i:Int)+(m:Int)*1).toNat]?)=fun m=>xs[i+m]?:=by
  funext m
  have:((i:Int)+(m:Int)*1).toNat=i+m:=by omega
  rw[this]
 rw[e]
 have:=pick_run xs i k
 rw[List.filterMap_map]at this
 have e2:((fun x=>xs[x]?) ∘ fun x=>i+x)=fun m=>xs[i+m]?:=rfl
 rw[e2]at this
 rw[this]
theorem getItem_tuple_cut{t sl:Addr}{items:Array Value}{vl vu:Value}{lo hi:Option Int}{Q:Value->Shared->Prop}(ht:IsTup s.heap t items)(hs:s.heap.IsSliceOf sl vl vu .none)(pl:IsPart vl lo)(pu:IsPart vu hi)
  (hw:¬(sIx items.size 0 lo=0/\sIx items.size items.size hi=items.size))
  (h:Q (.ref s.heap.objs.size) { s with heap:=s.heap.push { cls:=.type "tuple",data:=.seq ((items.toList.drop (sIx items.size 0 lo)).take (sIx items.size items.size hi - sIx items.size 0 lo)).toArray } })
  (hsz:items.size<=sizeLine):wpAny (model prog w) A (getItem (.ref t) (.ref sl)) Q E s:=by
 have htake:sizeOk (.seq ((items.toList.drop (sIx items.size 0 lo)).take (sIx items.size items.size hi - sIx items.size 0 lo)).toArray):=by
  show((items.toList.drop (sIx items.size 0 lo)).take (sIx items.size items.size hi - sIx items.size 0 lo)).toArray.size<=sizeLine
  rw[List.size_toArray,List.length_take,List.length_drop,Array.length_toList]
  omega
 have hj:sIx items.size items.size hi<=items.size:=sIx_le _ _ (Nat.le_refl _) hi
 obtain⟨os,hos,hcs,hds⟩:=id hs
 have hTs:s.TypeIs (.ref sl) "slice":=⟨os,hos,hcs⟩
 unfold getItem
 try with_reducible refine wpAny_holding ?_
 first |refine wpAny_bind (wpAny_pure ?_) |skip
 refine wpAny_bind (wpAny_sequenceKey ht.typeIs (by decide) ?_)
 refine wpAny_bind (wpAny_callSpecial?_slot (name:=Str.ofString "__getitem__") ht.typeIs PyProof.Rows.slot_tuple_getitem
  (wpAny_call_entry PyProof.Rows.slot_tuple_getitem ht.typeIs entry_tuple_getitem ?_ (args_tuple_getitem _ _)))
 show wpAny _ _ (Builtin.Tuple.tupleItemsOf (.ref t) >>= _) _ _ s
 refine wpAny_bind (tupleItemsOf_ ht ?_)
 refine wpAny_bind (wpAny_typeOf hTs ?_)
 rw[if_pos (by decide)]
 refine wpAny_bind (sliceApplied_gen hs pl pu ?_)
 have hno:¬((((sIx items.size 0 lo:Nat):Int)==0&&(1:Int)==1&&(sIx items.size items.size hi - sIx items.size 0 lo)==items.size)=true):=by
  intro q
  rw[Bool.and_eq_true,Bool.and_eq_true]at q
  have q1:((sIx items.size 0 lo:Nat):Int)=0:=eq_of_beq q.1.1
  have q2:sIx items.size items.size hi - sIx items.size 0 lo=items.size:=eq_of_beq q.2
  exact hw ⟨by omega,by omega⟩
 show wpAny _ _ (if (((sIx items.size 0 lo:Nat):Int)==0&&(1:Int)==1&&(sIx items.size items.size hi - sIx items.size 0 lo)==items.size)=true then _ else _) _ _ s
 rw[if_neg hno,Zq]
 first
  |exact wpAny_bind (m:=Builtin.Tuple.tupleExact _) (wpAny_newObj_type (wpAny_pure ⟨_,rfl,wpAny_pure h⟩) htake)
  |exact wpAny_bind (m:=Builtin.Tuple.tupleExact _) (wpAny_newObj_type (wpAny_bind (wpAny_pure (wpAny_pure ⟨_,rfl,wpAny_pure h⟩))) htake)
  |exact wpAny_bind (wpAny_bind (m:=Builtin.Tuple.tupleExact _) (wpAny_newObj_type (wpAny_pure (wpAny_pure ⟨_,rfl,wpAny_pure h⟩)) htake))
  |exact wpAny_bind (wpAny_bind (m:=Builtin.Tuple.tupleExact _) (wpAny_newObj_type (wpAny_pure ⟨_,rfl,wpAny_pure h⟩) htake))
end
end HT
namespace L2
open PySem PySem.Spec PyProof.Rows
abbrev TO:=St->Hp->(Option Int->Hp->Prop)->Prop
def PO(X:Cx)(e:Option Expr)(t:TO):Prop:=
 ∀(pins:List (Addr×Obj)) (s:Shared) (σ:St) (H:Hp) (Q:Option Int->Hp->Prop),Inv X pins σ H s->t σ H Q->
  wpAny (model X.prog X.w) X.A (evalPart e X.env) (fun u s'=>∃o H',Inv X pins σ H' s'/\IsPart u o/\Q o H') X.xe s
def tNoPart:TO:=fun _ H Q=>Q none H
def tPart(t:TE):TO:=fun σ H Q=>t σ H fun x H1=>∃i,x= .int i/\Q (some i) H1
section
variable {X:Cx}{e:Expr}{te:TE}{lo hi:Option Expr}{tl th:TO}{pos p2:Pos}
theorem zb:PO X none tNoPart:=by
 intro pins s σ H Q I h
 rw[evalPart_none]
 exact wpAny_pure ⟨none,H,I,.none,h⟩
theorem jN(h:PE X e te):PO X (some e) (tPart te):=by
 intro pins s σ H Q I hw
 rw[evalPart_some]
 refine thn (h pins s σ H _ I hw) fun u s1 ⟨x,H1,I1,r1,q1⟩=>?_
 obtain⟨i,rfl,q⟩:=q1
 obtain⟨t,rfl⟩:=r1
 exact⟨some i,H1,I1,.int i t,q⟩
def SlR(X:Cx)(r:V->Option Int->Option Int->Hp->VK->Prop):Prop:=
 ∀(pins:List (Addr×Obj)) (s:Shared) (σ:St) (H:Hp) (x:V) (v vl vu:Value) (lo hi:Option Int) (sl:Addr) (Q:VK),Inv X pins σ H s->RelV x v->s.heap.IsSliceOf sl vl vu .none->IsPart vl lo->IsPart vu hi->r x lo hi H Q->
  ∃T id,typeLookup (.type T) "__getitem__"=pure (some (.builtin id))/\s.TypeIs v T/\wpAny (model X.prog X.w) X.A (getItem v (.ref sl)) (EP X pins σ Q) X.xe s
def tSl(r:V->Option Int->Option Int->Hp->VK->Prop)(te:TE)(tl th:TO):TE:=fun σ H Q=>te σ H fun x H1=>tl σ H1 fun l H2=>th σ H2 fun u H3=>r x l u H3 Q
theorem jR{r:V->Option Int->Option Int->Hp->VK->Prop}(hr:SlR X r)(he:PE X e te)(hl:PO X lo tl)(hu:PO X hi th):PE X (.Subscript e (.Slice lo hi none p2) pos) (tSl r te tl th):=by
 intro pins s σ H Q I h
 refine Subscript_ (thn (he pins s σ H _ I h) fun v s1 ⟨x,H1,I1,r1,q1⟩=>?_)
 refine wpAny_Slice (thn (hl pins s1 σ H1 _ I1 q1) fun vl s2 ⟨l,H2,I2,pl,q2⟩=>thn (hu pins s2 σ H2 _ I2 q2) fun vu s3 ⟨u,H3,I3,pu,q3⟩=>?_)
 rw[evalPart_none]
 refine wpAny_pure ?_
 have I4:Inv X pins σ H3 { s3 with heap:=s3.heap.push { cls:=.type "slice",data:=.fields #[vl,vu,.none] } }:=I3.kept (t':=s3.toks) fun b ob q=>Heap.get?_push_of_some _ q
 obtain⟨T,id,hT,ht,hg⟩:=hr pins { s3 with heap:=s3.heap.push { cls:=.type "slice",data:=.fields #[vl,vu,.none] } } σ H3 x v vl vu l u s3.heap.objs.size Q I4 r1 (Heap.IsSliceOf.new ..) pl pu q3
 show wpAny (model X.prog X.w) X.A (subscriptTail e (.Slice lo hi none p2) v (.ref s3.heap.objs.size)) (EP X pins σ Q) X.xe { s3 with heap:=s3.heap.push { cls:=.type "slice",data:=.fields #[vl,vu,.none] } }
 exact tail_any (ops:=[.ref s3.heap.objs.size,v]) ht hT hg (by with_unfolding_all rfl)
noncomputable def cutV(xs:List V)(lo hi:Option Int):List V:=(xs.drop (HT.sIx xs.length 0 lo)).take (HT.sIx xs.length xs.length hi - HT.sIx xs.length 0 lo)
theorem zo(xs:List V)(lo hi:Option Int):(cutV xs lo hi).length<=xs.length:=by
 unfold cutV
 rw[List.length_take,List.length_drop]
 omega
def rSlT(K:Frag):V->Option Int->Option Int->Hp->VK->Prop:=fun x lo hi H Q=>∃a xs,x= .ref a/\SqT K H a xs/\
 ¬(HT.sIx xs.length 0 lo=0/\HT.sIx xs.length xs.length hi=xs.length)/\∀p,H p=none->Q (.ref p) (upd H p (.tup (cutV xs lo hi)))
theorem sl_tup:SlR X (rSlT X.K):=by
 intro pins s σ H x v vl vu lo hi sl Q I rx hs pl pu h
 obtain⟨a,xs,rfl,hx,hw,q⟩:=h
 cases rx
 obtain⟨its,r,ht,hz⟩:=I.tuple hx
 have hlen:its.toArray.size=xs.length:=by rw[List.size_toArray];exact r.length.symm
 refine⟨"tuple",_,PyProof.Rows.slot_tuple_getitem.lookup,ht.typeIs,?_⟩
 refine HT.getItem_tuple_cut ht hs pl pu (by rw[hlen];exact hw) ?_ (by rw[hlen];exact hz)
 rw[hlen]
 refine⟨.ref s.heap.objs.size,_,I.laid (t':=s.toks) (o:=.tup (cutV xs lo hi)) (fun b ob q=>Heap.get?_push_of_some _ q) (Nat.le_refl _) ?_,rfl,q _ (I.hok.fresh (Nat.le_refl _))⟩
 exact⟨Nat.le_trans (zo xs lo hi) hz,_,(r.drop (HT.sIx xs.length 0 lo)).take (HT.sIx xs.length xs.length hi - HT.sIx xs.length 0 lo),IsTup.new _ _⟩
def rCatT(K:Frag):R2:=fun x y H Q=>∃a b xs ys,x= .ref a/\y= .ref b/\SqT K H a xs/\SqT K H b ys/\xs≠[]/\xs.length+ys.length<=sizeLine/\
 (ys=[]->Q (.ref a) H)/\(ys≠[]->∀p,H p=none->Q (.ref p) (upd H p (.tup (xs++ys))))
theorem Vals.nil_iff{xs:List V}{us:List Value}(r:Vals xs us):us=[]↔xs=[]:=by
 cases r with
 |nil=>simp
 |cons _ _=>simp
theorem op_catT:OpR X (binaryOp .Add) (rCatT X.K):=by
 intro pins s σ H x y v u Q I rx ry h
 obtain⟨a,b,xs,ys,rfl,rfl,ha,hb,hx,hz,q1,q2⟩:=h
 cases rx
 cases ry
 obtain⟨its,r1,p1,_⟩:=I.tuple ha
 obtain⟨its2,r2,p2,_⟩:=I.tuple hb
 refine HT.cat_tup p1 p2 (fun z=>hx (r1.nil_iff.mp z)) (fun z=>⟨.ref a,H,I,rfl,q1 (r2.nil_iff.mp z)⟩) (fun z=>?_) (by rw[<- r1.length,<- r2.length];exact hz)
 refine⟨.ref s.heap.objs.size,_,I.laid (t':=s.toks) (o:=.tup (xs++ys)) (fun b ob q=>Heap.get?_push_of_some _ q) (Nat.le_refl _) ?_,rfl,q2 (fun w=>z (r2.nil_iff.mpr w)) _ (I.hok.fresh (Nat.le_refl _))⟩
 exact⟨by rw[List.length_append];exact hz,_,r1.append r2,IsTup.new _ _⟩
end
noncomputable def ixN(n:Nat)(i:Int):Option Nat:=if 0<=i then (if i < n then some i.toNat else none) else if -(n:Int)<=i then some (i+n).toNat else none
noncomputable def atI{α:Type}(xs:List α)(i:Int):Option α:=(ixN xs.length i).bind fun j=>xs[j]?
theorem Xx{n:Nat}{i:Int}{j:Nat}(h:ixN n i=some j):seqIndex? i n=some j/\j < n/\ -(n:Int)<=i/\i < n:=by
 unfold ixN at h
 by_cases h0:0<=i
 ·rw[if_pos h0]at h
  by_cases h1:i < n
  ·rw[if_pos h1]at h
   have e:i.toNat=j:=Option.some.inj h
   exact⟨by rw[seqIndex_of h0 h1,e],by omega,by omega,h1⟩
  ·rw[if_neg h1]at h;cases h
 ·rw[if_neg h0]at h
  by_cases h1: -(n:Int)<=i
  ·rw[if_pos h1]at h
   have e:(i+n).toNat=j:=Option.some.inj h
   exact⟨by rw[seqIndex_neg (by omega) h1,e],by omega,h1,by omega⟩
  ·rw[if_neg h1]at h;cases h
theorem K7{α:Type}{xs:List α}{i:Int}{v:α}(h:atI xs i=some v):∃j,seqIndex? i xs.length=some j/\xs[j]?=some v/\j < xs.length/\ -(xs.length:Int)<=i/\i < xs.length:=by
 unfold atI at h
 cases e:ixN xs.length i with
 |none=>rw[e]at h;cases h
 |some j=>
  rw[e]at h
  obtain⟨h1,h2,h3,h4⟩:=Xx e
  exact⟨j,h1,h,h2,h3,h4⟩
theorem j6{α:Type}{xs:List α}{j:Nat}{v:α}(h:xs[j]?=some v):atI xs (j:Int)=some v:=by
 have hj:j < xs.length:=(List.getElem?_eq_some_iff.mp h).1
 have e:ixN xs.length (j:Int)=some j:=by
  unfold ixN
  rw[if_pos (by omega),if_pos (by omega)];simp
 unfold atI;rw[e];exact h
def PlainIx(b:Expr):Prop:=∀o i,subscripted b false o i=operate [o,i] (getItem o i)
def IxR(X:Cx)(r:R2):Prop:=
 ∀(value slice:Expr) (pins:List (Addr×Obj)) (s:Shared) (σ:St) (H:Hp) (x y:V) (v u:Value) (Q:VK),Inv X pins σ H s->RelV x v->RelV y u->r x y H Q->
  subscripted slice false v u=operate [v,u] (getItem v u)->wpAny (model X.prog X.w) X.A (subscriptTail value slice v u) (EP X pins σ Q) X.xe s
def MtR(X:Cx)(id:String)(r:V->List V->Hp->VK->Prop):Prop:=
 ∀(pins:List (Addr×Obj)) (s:Shared) (σ:St) (H:Hp) (x:V) (xs:List V) (v:Value) (us:List Value) (Q:VK),Inv X pins σ H s->RelV x v->Vals xs us->r x xs H Q->
  wpAny (model X.prog X.w) X.A (call (.builtin id) (v::us)) (EP X pins σ Q) X.xe s
section
variable {X:Cx}{a b:Expr}{ta tb:TE}{pos:Pos}
theorem jm{r:R2}(hr:IxR X r)(ha:PE X a ta)(hb:PE X b tb)(hs:PlainIx b):PE X (.Subscript a b pos) (tOp r ta tb):=by
 intro pins s σ H Q I h
 exact Subscript_ (binT ha hb I h fun v u s2 x y H2 I2 rx ry q=>hr a b pins s2 σ H2 x y v u Q I2 rx ry q (hs _ _))
def rIxL(K:Frag):R2:=fun x y H Q=>∃p xs i v,x= .ref p/\y= .int i/\SqL K H p xs/\atI xs i=some v/\Q v H
def rIxT(K:Frag):R2:=fun x y H Q=>∃p xs i v,x= .ref p/\y= .int i/\SqT K H p xs/\atI xs i=some v/\Q v H
def rIxS:R2:=fun x y H Q=>∃z i c,x= .str z/\y= .int i/\z.length<=sizeLine/\atI z.cps.toList i=some c/\Q (.str ⟨#[c]⟩) H
theorem jr:IxR X (rIxL X.K):=by
 intro value slice pins s σ H x y v u Q I rx ry h hs
 obtain⟨p,xs,i,z,rfl,rfl,hq,he,q⟩:=h
 cases rx
 obtain⟨t,rfl⟩:=ry
 obtain⟨its,r,pl,hz⟩:=I.list hq
 obtain⟨j,h1,h2,h3,h4,h5⟩:=K7 he
 obtain⟨w,ew,rw'⟩:=r.get h2
 have hl:=r.length
 have hn:=line63
 have fin:EP X pins σ Q w s:=⟨z,H,I,rw',q⟩
 by_cases h0:0<=i
 ·have hj:i.toNat=j:=by
   rw[seqIndex_of h0 h5]at h1
   exact Option.some.inj h1
  exact item_listR pl.isList h0 (by omega) (by rw[hj];simpa using ew) fin hs
 ·have hj:(i+(its.toArray.size:Int)).toNat=j:=by
   rw[seqIndex_neg (by omega) h4]at h1
   rw[List.size_toArray,<- hl]
   exact Option.some.inj h1
  exact subscriptTail_builtinR (x:=w) pl.isList.typeIs slot_list_getitem.lookup
   (wpAny_getItem_list_neg (Q:=fun r s'=>r=w/\EP X pins σ Q r s') pl.isList (by omega) (by rw[List.size_toArray]<;>omega) (by omega) (by rw[hj];simpa using ew) ⟨rfl,fin⟩) hs
theorem ju:IxR X (rIxT X.K):=by
 intro value slice pins s σ H x y v u Q I rx ry h hs
 obtain⟨p,xs,i,z,rfl,rfl,hq,he,q⟩:=h
 cases rx
 obtain⟨t,rfl⟩:=ry
 obtain⟨its,r,pl,hz⟩:=I.tuple hq
 obtain⟨j,h1,h2,h3,h4,h5⟩:=K7 he
 obtain⟨w,ew,rw'⟩:=r.get h2
 have hl:=r.length
 have hn:=line63
 have fin:EP X pins σ Q w s:=⟨z,H,I,rw',q⟩
 exact subscriptTail_builtinR (x:=w) pl.typeIs slot_tuple_getitem.lookup
  (getItem_tuple (j:=j) (Q:=fun r s'=>r=w/\EP X pins σ Q r s') pl (by omega) (by omega) (by rw[List.size_toArray,<- hl];exact h1) (by simpa using ew) ⟨rfl,fin⟩) hs
theorem JU:IxR X rIxS:=by
 intro value slice pins s σ H x y v u Q I rx ry h hs
 obtain⟨z,i,c,rfl,rfl,hz,he,q⟩:=h
 obtain⟨t,rfl⟩:=rx
 obtain⟨t',rfl⟩:=ry
 obtain⟨j,h1,h2,h3,h4,h5⟩:=K7 he
 have hl:z.cps.toList.length=z.length:=by simp [Str.length]
 rw[hl]at h1 h4 h5
 have hn:=line63
 exact tail_any (typeIs_str s z t) slot_str_getitem.lookup (getItem_str (c:=c) (by
  have e1:decide (i < -(2 ^ 63:Int))=false:=decide_eq_false (by omega)
  have e2:decide (i≥2 ^ 63)=false:=decide_eq_false (by omega)
  rw[e1,e2,Bool.or_false]) (by rw[h1];simpa using h2) ⟨.str ⟨#[c]⟩,H,I.tok _,⟨_,rfl⟩,q⟩) hs
theorem Q3(its:List Value)(n j:Nat)(u:Value):Obj.mapSeq (·.setIfInBounds j u) { cls:=.type "list",data:=.seq its.toArray n }={ cls:=.type "list",data:=.seq (its.set j u).toArray n }:=by
 simp [Obj.mapSeq]
theorem Inv.lst{pins:List (Addr×Obj)}{σ:St}{H:Hp}{s:Shared}{p:Addr}{xs:List V}(I:Inv X pins σ H s)(h:H p=some (.lst xs)):
  ∃(its:List Value) (n:Nat),Vals xs its/\s.heap.get? p=some { cls:=.type "list",data:=.seq its.toArray n }/\xs.length<=sizeLine:=by
 obtain⟨z,its,n,r,e⟩:=I.hok p _ h
 exact⟨its,n,r,e,z⟩
theorem Inv.lstUpd{pins:List (Addr×Obj)}{σ:St}{H:Hp}{s:Shared}{p:Addr}{xs ys:List V}{its its':List Value}{n n':Nat}{f:Obj->Obj}(I:Inv X pins σ H s)(h:H p=some (.lst xs))
  (ho:s.heap.get? p=some { cls:=.type "list",data:=.seq its.toArray n }) (hf:f { cls:=.type "list",data:=.seq its.toArray n }={ cls:=.type "list",data:=.seq its'.toArray n' }) (r:Vals ys its') (hz:ys.length<=sizeLine) (t:Nat):
  Inv X pins σ (upd H p (.lst ys)) { s with heap:=s.heap.update p f,toks:=t }:=by
 have e:(s.heap.update p f).get? p=some { cls:=.type "list",data:=.seq its'.toArray n' }:=by
  rw[Heap.get?_update_self f ho (by rw[hf]<;>rfl),hf]
 refine I.write (x:=p) (e:=p) (by rw[h];trivial) (.inl rfl) (fun b u hb q=>(Heap.get?_update_other _ _ (Ne.symm hb)).trans q) ⟨_,e⟩ ?_
 exact⟨hz,its',n',r,e⟩
def rSetL:V->V->V->Hp->(Hp->Prop)->Prop:=fun o i v H Q=>∃p xs k j,o= .ref p/\i= .int k/\H p=some (.lst xs)/\ixN xs.length k=some j/\Q (upd H p (.lst (xs.set j v)))
theorem zB:PSet X rSetL:=by
 intro pins s σ H o i v ov iv u Q I ro ri rv h
 obtain⟨p,xs,k,j,rfl,rfl,hp,hj,q⟩:=h
 cases ro
 obtain⟨t,rfl⟩:=ri
 obtain⟨its,n,r,ho,hz⟩:=I.lst hp
 obtain⟨h1,h2,h3,h4⟩:=Xx hj
 have hl:=r.length
 have hn:=line63
 have I':Inv X pins σ (upd H p (.lst (xs.set j v))) { s with heap:=s.heap.update p (Obj.mapSeq (·.setIfInBounds j u)) }:=
  I.lstUpd hp ho (Q3 its n j u) (r.set rv j) (by rw[List.length_set];exact hz) s.toks
 by_cases h0:0<=k
 ·have hk:k.toNat=j:=by
   rw[seqIndex_of h0 h4]at h1
   exact Option.some.inj h1
  exact PySem.W.ki_setAt ho h0 (by omega) (by rw[List.size_toArray,<- hl];exact h4) (by rw[hk];exact⟨_,I',q⟩)
 ·have hk:(k+(its.toArray.size:Int)).toNat=j:=by
   rw[seqIndex_neg (by omega) h3]at h1
   rw[List.size_toArray,<- hl]
   exact Option.some.inj h1
  exact PySem.W.ki_setBack ho (by omega) (by rw[List.size_toArray,<- hl];exact h3) (by omega) (by rw[hk];exact⟨_,I',q⟩)
theorem Qd(lo hi:Option Int)(n:Nat):(sliceBounds lo hi none n).1=((HT.sIx n 0 lo:Nat):Int)/\(sliceBounds lo hi none n).2.1=((HT.sIx n n hi:Nat):Int)/\(sliceBounds lo hi none n).2.2=1:=by
 refine⟨?_,?_,rfl⟩
 ·cases lo with
  |none=>simp [sliceBounds,HT.sIx]
  |some i=>
   simp only[sliceBounds,HT.sIx,Option.getD_none,show(1:Int) > 0 by decide,if_true]
   by_cases h:i < 0
   ·simp only[h,if_true]<;>omega
   ·simp only[h,if_false]<;>omega
 ·cases hi with
  |none=>simp [sliceBounds,HT.sIx]
  |some i=>
   simp only[sliceBounds,HT.sIx,Option.getD_none,show(1:Int) > 0 by decide,if_true]
   by_cases h:i < 0
   ·simp only[h,if_true]<;>omega
   ·simp only[h,if_false]<;>omega
theorem Km(its:List Value)(lo hi:Option Int):slicePick its.toArray lo hi none=((its.drop (HT.sIx its.length 0 lo)).take (HT.sIx its.length its.length hi - HT.sIx its.length 0 lo)).toArray:=by
 obtain⟨h1,h2,h3⟩:=Qd lo hi its.toArray.size
 unfold slicePick
 rw[h1,h2,h3]
 simp only[sliceRange_one,pick_run,List.size_toArray]<;>rfl
def rSlL(K:Frag):V->Option Int->Option Int->Hp->VK->Prop:=fun x lo hi H Q=>∃a xs,x= .ref a/\SqL K H a xs/\∀p,H p=none->Q (.ref p) (upd H p (.lst (cutV xs lo hi)))
theorem kt:SlR X (rSlL X.K):=by
 intro pins s σ H x v vl vu lo hi sl Q I rx hs pl pu h
 obtain⟨a,xs,rfl,hx,q⟩:=h
 cases rx
 obtain⟨its,r,ht,hz⟩:=I.list hx
 have hlen:=r.length
 refine⟨"list",_,slot_list_getitem.lookup,ht.isList.typeIs,?_⟩
 refine wpAny_getItem_list_slice ht.isList hs pl pu .none (by simp) ?_ (by rw[List.size_toArray]<;>omega)
 rw[Km,<- hlen]
 refine⟨.ref s.heap.objs.size,_,I.laid (t':=s.toks) (o:=.lst (cutV xs lo hi)) (fun b ob q=>Heap.get?_push_of_some _ q) (Nat.le_refl _) ?_,rfl,q _ (I.hok.fresh (Nat.le_refl _))⟩
 exact⟨Nat.le_trans (zo xs lo hi) hz,_,0,(r.drop (HT.sIx xs.length 0 lo)).take (HT.sIx xs.length xs.length hi - HT.sIx xs.length 0 lo),Heap.get?_push_size _ rfl⟩
noncomputable def flatV:V->Bool
 | .non=>true
 | .bl _=>true
 | .int _=>true
 | .str _=>true
 |_=>false
noncomputable def eqV:V->V->Bool
 | .non,.non=>true
 | .bl a,.bl b=>a==b
 | .bl a,.int b=>(if a then 1 else 0)==b
 | .int a,.bl b=>a==(if b then 1 else 0)
 | .int a,.int b=>a==b
 | .str a,.str b=>a==b
 |_,_=>false
theorem QQ{A:Around}{s:Shared}{y x:V}{u v:Value}(ry:RelV y u)(rx:RelV x v)(fy:flatV y=true)(fx:flatV x=true):SeqAt.EqAt A s u v (eqV y x):=by
 cases y with
 |non=>
  cases ry
  cases x with
  |non=>cases rx;exact SeqAt.EqAt.same _
  |bl b=>cases rx;exact SeqAt.EqAt.none_bool b
  |int b=>obtain⟨t,rfl⟩:=rx;exact SeqAt.EqAt.none_int b t
  |str b=>obtain⟨t,rfl⟩:=rx;exact SeqAt.EqAt.none_str b t
  |_=>exact absurd (show false=true from fx) Bool.false_ne_true
 |bl a=>
  cases ry
  cases x with
  |non=>cases rx;exact SeqAt.EqAt.bool_none a
  |bl b=>cases rx;exact SeqAt.EqAt.bool_bool a b
  |int b=>obtain⟨t,rfl⟩:=rx;exact SeqAt.EqAt.bool_int a b t
  |str b=>obtain⟨t,rfl⟩:=rx;exact SeqAt.EqAt.bool_str a b t
  |_=>exact absurd (show false=true from fx) Bool.false_ne_true
 |int a=>
  obtain⟨t',rfl⟩:=ry
  cases x with
  |non=>cases rx;exact SeqAt.EqAt.int_none a t'
  |bl b=>cases rx;exact SeqAt.EqAt.int_bool a t' b
  |int b=>obtain⟨t,rfl⟩:=rx;exact SeqAt.EqAt.int_int a t' b t
  |str b=>obtain⟨t,rfl⟩:=rx;exact SeqAt.EqAt.int_str a t' b t
  |_=>exact absurd (show false=true from fx) Bool.false_ne_true
 |str a=>
  obtain⟨t',rfl⟩:=ry
  cases x with
  |non=>cases rx;exact SeqAt.EqAt.str_none a t'
  |bl b=>cases rx;exact SeqAt.EqAt.str_bool a t' b
  |int b=>obtain⟨t,rfl⟩:=rx;exact SeqAt.EqAt.str_int a t' b t
  |str b=>obtain⟨t,rfl⟩:=rx;exact SeqAt.EqAt.str_str a t' b t
  |_=>exact absurd (show false=true from fx) Bool.false_ne_true
 |_=>exact absurd (show false=true from fy) Bool.false_ne_true
noncomputable def eqU(x:V)(u:Value):Bool:=match u with
 | .none=>eqV .non x
 | .bool b=>eqV (.bl b) x
 | .int i _=>eqV (.int i) x
 | .str z _=>eqV (.str z) x
 |_=>false
theorem Y0{x y:V}{u:Value}(r:RelV y u)(f:flatV y=true):eqU x u=eqV y x:=by
 cases y with
 |non=>cases r;rfl
 |bl b=>cases r;rfl
 |int i=>obtain⟨t,rfl⟩:=r;rfl
 |str z=>obtain⟨t,rfl⟩:=r;rfl
 |_=>exact absurd (show false=true from f) Bool.false_ne_true
theorem qI{x:V}:∀{xs:List V} {us:List Value},Vals xs us->xs.all flatV=true->us.any (eqU x)=xs.any fun y=>eqV y x
 |_,_,.nil,_=>rfl
 |y::xs,u::us,.cons r t,f=>by
  rw[List.all_cons,Bool.and_eq_true]at f
  rw[List.any_cons,List.any_cons,Y0 r f.1,qI t f.2]
theorem z9{A:Around}{s:Shared}{x:V}{v:Value}(rx:RelV x v)(fx:flatV x=true):∀{xs:List V} {us:List Value},Vals xs us->xs.all flatV=true->∀u∈us,SeqAt.EqAt A s u v (eqU x u)
 |_,_,.nil,_=>fun u hu=>by cases hu
 |y::xs,u::us,.cons r t,f=>fun u' hu=>by
  rw[List.all_cons,Bool.and_eq_true]at f
  rcases List.mem_cons.mp hu with rfl |hu
  ·rw[Y0 r f.1];exact QQ r rx f.1 fx
  ·exact z9 rx fx t f.2 u' hu
noncomputable def inV(x:V)(xs:List V):Bool:=xs.any fun y=>eqV y x
def rIn(K:Frag)(neg:Bool):R2:=fun x y H Q=>∃p xs,y= .ref p/\(SqL K H p xs∨SqT K H p xs)/\flatV x=true/\xs.all flatV=true/\Q (.bl (if neg then !inV x xs else inV x xs)) H
theorem KI:OpR X (compareOp .In) (rIn X.K false):=by
 intro pins s σ H x y v u Q I rx ry h
 obtain⟨p,xs,rfl,hq,fx,fs,q⟩:=h
 cases ry
 rcases hq with hq |hq
 ·obtain⟨its,r,pl,hz⟩:=I.list hq
  refine SeqAt.in_listAt (eqU x) pl.isList (fun w hw=>z9 rx fx r fs w (by simpa using hw)) ⟨.bl _,H,I,rfl,?_⟩
  rw[show its.toArray.any (eqU x)=its.any (eqU x) by simp,qI r fs]
  exact q
 ·obtain⟨its,r,pl,hz⟩:=I.tuple hq
  refine SeqAt.in_tupleAt (eqU x) pl (fun w hw=>z9 rx fx r fs w (by simpa using hw)) ⟨.bl _,H,I,rfl,?_⟩
  rw[show its.toArray.any (eqU x)=its.any (eqU x) by simp,qI r fs]
  exact q
theorem q8:OpR X (compareOp .NotIn) (rIn X.K true):=by
 intro pins s σ H x y v u Q I rx ry h
 obtain⟨p,xs,rfl,hq,fx,fs,q⟩:=h
 cases ry
 rcases hq with hq |hq
 ·obtain⟨its,r,pl,hz⟩:=I.list hq
  refine SeqAt.notIn_listAt (eqU x) pl.isList (fun w hw=>z9 rx fx r fs w (by simpa using hw)) ⟨.bl _,H,I,rfl,?_⟩
  rw[show its.toArray.any (eqU x)=its.any (eqU x) by simp,qI r fs]
  exact q
 ·obtain⟨its,r,pl,hz⟩:=I.tuple hq
  refine SeqAt.notIn_tupleAt (eqU x) pl (fun w hw=>z9 rx fx r fs w (by simpa using hw)) ⟨.bl _,H,I,rfl,?_⟩
  rw[show its.toArray.any (eqU x)=its.any (eqU x) by simp,qI r fs]
  exact q
theorem jJ:CallR X (.builtin "len") (fun xs H Q=>∃p ys,xs=[.ref p]/\(SqL X.K H p ys∨SqT X.K H p ys)/\Q (.int ys.length) H):=by
 intro pins s σ H xs us Q I r h
 obtain⟨p,ys,rfl,hq,q⟩:=h
 obtain⟨u,rfl,rx⟩:=vals1 r
 cases rx
 have hn:=line63
 rcases hq with hq |hq
 ·obtain⟨its,r',pl,hz⟩:=I.list hq
  have hlen:=r'.length
  exact Calls.call_len_list pl.isList (by simp only[List.size_toArray]<;>omega) ⟨.int ys.length,H,I.tok _,⟨s.toks+1,by rw[List.size_toArray,hlen]⟩,q⟩
 ·obtain⟨its,r',pl,hz⟩:=I.tuple hq
  have hlen:=r'.length
  exact len_tuple pl (by simp only[List.size_toArray]<;>omega) ⟨.int ys.length,H,I.tok _,⟨s.toks+1,by rw[List.size_toArray,hlen]⟩,q⟩
theorem jL:CallR X (.type "tuple") (fun xs H Q=>∃p ys,xs=[.ref p]/\((SqL X.K H p ys/\∀l,H l=none->Q (.ref l) (upd H l (.tup ys)))∨(SqT X.K H p ys/\Q (.ref p) H))):=by
 intro pins s σ H xs us Q I r h
 obtain⟨p,ys,rfl,h⟩:=h
 obtain⟨u,rfl,rx⟩:=vals1 r
 cases rx
 rcases h with ⟨hq,q⟩ | ⟨hq,q⟩
 ·obtain⟨its,r',pl,hz⟩:=I.list hq
  have hlen:=r'.length
  refine call_tuple_list pl.isList (fun h' kp=>?_) (by simp only[List.size_toArray]<;>omega)
  have I1:Inv X pins σ H { s with heap:=h' }:=I.kept (t':=s.toks) kp
  have I2:Inv X pins σ (upd H h'.objs.size (.tup ys)) { s with heap:=h'.push { cls:=.type "tuple",data:=.seq its.toArray } }:=
   I1.laid (t':=s.toks) (fun b o e=>Heap.get?_push_of_some _ e) (Nat.le_refl _) (show ObjOk X.prog X.w _ _ _ (.tup ys) from ⟨hz,its,r',IsTup.new _ _⟩)
  exact⟨.ref h'.objs.size,_,I2,rfl,q _ (I1.hok.fresh (Nat.le_refl _))⟩
 ·obtain⟨its,r',pl,hz⟩:=I.tuple hq
  exact call_tuple_same pl ⟨.ref p,H,I,rfl,q⟩
def tyV(K:Frag)(T:String)(x:V)(H:Hp):Prop:=match x with
 | .str _=>T="str"
 | .int _=>T="int"
 | .ref p=>(T="list"/\∃xs,SqL K H p xs)∨(T="tuple"/\∃o,K.lookup p=some o/\o.cls= .type "tuple"/\o.dict=none)∨
   (T="dict"/\((∃kvs,H p=some (.dK kvs))∨∃kvs,H p=some (.dT kvs)))∨(T="set"/\∃S n,H p=some (.set S n))
 |_=>False
theorem QR{pins:List (Addr×Obj)}{σ:St}{H:Hp}{s:Shared}{T:String}{x:V}{v:Value}(I:Inv X pins σ H s)(r:RelV x v)(ty:tyV X.K T x H):
  s.TypeIs v T/\∀a,v= .ref a->∃ob,s.heap.get? a=some ob/\ob.dict=none:=by
 cases x with
 |str z=>
  obtain⟨t,rfl⟩:=r
  cases (show T="str" from ty)
  exact⟨typeIs_str s z t,fun _ e=>nomatch e⟩
 |int i=>
  obtain⟨t,rfl⟩:=r
  cases (show T="int" from ty)
  exact⟨typeIs_int s i t,fun _ e=>nomatch e⟩
 |ref p=>
  cases r
  rcases ty with ⟨rfl,xs,hq⟩ | ⟨rfl,o,hk,hc,hd⟩ | ⟨rfl,hk⟩ | ⟨rfl,S,n,hk⟩
  ·obtain⟨its,_,pl,_⟩:=I.list hq
   refine⟨pl.isList.typeIs,fun a e=>?_⟩
   cases e
   obtain⟨o,n,e,c,hd,_⟩:=pl
   exact⟨o,e,hd⟩
  ·refine⟨⟨o,I.kIn p o hk,hc⟩,fun a e=>?_⟩
   cases e
   exact⟨o,I.kIn _ o hk,hd⟩
  ·have z:∃o,s.heap.get? p=some o/\o.ExactDict:=by
    rcases hk with ⟨kvs,hk⟩ | ⟨kvs,hk⟩
    ·obtain⟨_,_,_,_,o,_,_,e,ex,_⟩:=I.hok p _ hk
     exact⟨o,e,ex⟩
    ·obtain⟨_,_,_,_,o,_,_,e,ex,_⟩:=I.hok p _ hk
     exact⟨o,e,ex⟩
   obtain⟨o,e,ex⟩:=z
   refine⟨⟨o,e,ex.1⟩,fun a e2=>?_⟩
   cases e2
   exact⟨o,e,ex.2.1⟩
  ·obtain⟨o,_,_,_,e,ex,_⟩:=I.hok p _ hk
   refine⟨⟨o,e,ex.1⟩,fun a e2=>?_⟩
   cases e2
   exact⟨o,e,ex.2.1⟩
 |_=>exact False.elim ty
def tBM0(K:Frag)(T:String)(r:V->List V->Hp->VK->Prop)(to:TE):TE:=fun σ H Q=>to σ H fun x H1=>tyV K T x H1/\r x [] H1 Q
def tBM(K:Frag)(T:String)(r:V->List V->Hp->VK->Prop)(to:TE)(t:TA):TE:=fun σ H Q=>to σ H fun x H1=>tyV K T x H1/\t σ H1 fun xs H2=>r x xs H2 Q
variable {o e:Expr}{es:List Expr}{to:TE}{t:TA}{name:Str}{apos cpos:Pos}{T id:String}{r:V->List V->Hp->VK->Prop}
theorem pe_bm0(pa:PlainAttrs T)(slot:Slot T name id)(hty:typeOf (.builtin id)=pure (.type "method_descriptor"))(hm:MtR X id r)(ho:PE X o to)
  (hbase:attributeBase o name X.env (eval o X.env)=eval o X.env:=by rfl) (hline:(apos.endLine==cpos.line)=true:=by rfl):PE X (.Call (.Attribute o name apos) [] [] cpos) (tBM0 X.K T r to):=by
 intro pins s σ H Q I h
 refine wpAny_Call_method0_late hbase hline (thn (ho pins s σ H _ I h) fun v s1 ⟨x,H1,I1,r1,ty,q1⟩=>?_)
 obtain⟨h1,h2⟩:=QR I1 r1 ty
 exact⟨T,id,pa,slot,hty,h1,h2,Calls.callWith_builtin rfl (PySem.evalArgs_none (hm pins s1 σ H1 x [] v [] Q I1 r1 .nil q1))⟩
theorem ze(pa:PlainAttrs T)(slot:Slot T name id)(hty:typeOf (.builtin id)=pure (.type "method_descriptor"))(hm:MtR X id r)(ho:PE X o to)(ha:PA X (e::es) t)
  (hbase:attributeBase o name X.env (eval o X.env)=eval o X.env:=by rfl)
  (hfew:((backTo cpos (starEach (e::es) X.env)).all (fun x=>!x.1)&&(backToKw cpos (keywordEach [] X.env)).all (fun x=>x.1.isSome)
   &&decide ((e::es).length+([]:List Keyword).length+(if ([]:List Keyword).isEmpty then 0 else 1) < 30))=true:=by rfl)
  (hline:(apos.endLine==cpos.line)=true:=by rfl) (hs:starEach (e::es) X.env=(false,eval e X.env)::starEach es X.env:=by rfl) (hplain:(backTo cpos (starEach es X.env)).any (·.1)=false:=by rfl):
  PE X (.Call (.Attribute o name apos) (e::es) [] cpos) (tBM X.K T r to t):=by
 intro pins s σ H Q I h
 refine wpAny_Call_method_late hbase hfew hline rfl (thn (ho pins s σ H _ I h) fun v s1 ⟨x,H1,I1,r1,ty,q1⟩=>?_)
 obtain⟨h1,h2⟩:=QR I1 r1 ty
 refine⟨T,id,pa,slot,hty,h1,h2,?_⟩
 have hA:=ha cpos pins s1 σ H1 _ I1 q1
 rw[hs]at hA ⊢
 refine Calls.callWith_builtin (by show(false||(backTo cpos (starEach es X.env)).any (·.1))=false;rw[hplain]<;>rfl) (Calls.evalArgs_plain ?_)
 exact thn hA fun us s2 ⟨vs,H2,I2,r2,q2⟩=>hm pins s2 σ H2 x vs v us Q I2 r1 r2 q2
end
def MtM(X:Cx)(id:String)(r:V->List V->Hp->VK->Prop):Prop:=
 ∀(pins:List (Addr×Obj)) (s:Shared) (σ:St) (H:Hp) (x:V) (xs:List V) (v:Value) (us:List Value) (Q:VK),Inv X pins σ H s->RelV x v->Vals xs us->r x xs H Q->
  wpAny (model X.prog X.w) X.A (call (.builtin id) (v::us)) (EP X pins σ Q) X.xe s
theorem Vals.one:∀{x:V} {us:List Value},Vals [x] us->∃u,us=[u]/\RelV x u
 |_,_,.cons r .nil=>⟨_,rfl,r⟩
theorem Vals.zero:∀{us:List Value},Vals [] us->us=[]
 |_,.nil=>rfl
theorem Vals.dropLast{xs:List V}{us:List Value}(h:Vals xs us):Vals xs.dropLast us.dropLast:=by
 induction h with
 |nil=>exact .nil
 |cons r t ih=>
  cases t with
  |nil=>exact .nil
  |cons q t'=>exact .cons r ih
theorem Vals.reverse{xs:List V}{us:List Value}(h:Vals xs us):Vals xs.reverse us.reverse:=by
 induction h with
 |nil=>exact .nil
 |cons r t ih=>rw[List.reverse_cons,List.reverse_cons];exact Vals.append ih (.cons r .nil)
theorem Q4{α:Type}(l:List α):l.eraseIdx (l.length - 1)=l.dropLast:=by
 induction l with
 |nil=>rfl
 |cons a r ih=>
  cases r with
  |nil=>rfl
  |cons b r=>
   have e:(a::b::r).length - 1=((b::r).length - 1)+1:=by
    have h1:(a::b::r).length=r.length+2:=rfl
    have h2:(b::r).length=r.length+1:=rfl
    omega
   rw[e,List.eraseIdx_cons_succ,ih]
   all_goals rfl
section
variable {X:Cx}{pins:List (Addr×Obj)}{σ:St}{H:Hp}{s:Shared}{l b:Addr}{xs ys zs:List V}
theorem Inv.lset{its its':List Value}{n:Nat}{f:Array Value->Array Value}{t':Nat}(I:Inv X pins σ H s)(hH:H l=some (.lst xs))
  (e:s.heap.get? l=some { cls:=.type "list",data:=.seq its.toArray n }) (hf:f its.toArray=its'.toArray) (hv:Vals ys its') (hz:ys.length<=sizeLine):
  Inv X pins σ (upd H l (.lst ys)) { s with heap:=s.heap.update l (Obj.mapSeq f),toks:=t' }:=by
 have q:=PySem.IsL.update e f
 rw[hf]at q
 refine I.write (x:=l) (e:=l) (by rw[hH];exact trivial) (.inl rfl) (fun b' u hb hu=>(Heap.get?_update_other s.heap (Obj.mapSeq f) (Ne.symm hb)).trans hu) ⟨_,q⟩ ?_
 exact⟨hz,its',_,hv,q⟩
theorem Inv.lnew{its:List Value}{t':Nat}(I:Inv X pins σ H s)(hv:Vals ys its)(hz:ys.length<=sizeLine):
  Inv X pins σ (upd H s.heap.objs.size (.lst ys)) { s with heap:=s.heap.push { cls:=.type "list",data:=.seq its.toArray },toks:=t' }:=
 I.laid (fun _ _ q=>Heap.get?_push_of_some _ q) (Nat.le_refl _) ⟨hz,its,0,hv,Heap.get?_push_size _ rfl⟩
theorem Inv.fresh(I:Inv X pins σ H s):H s.heap.objs.size=none:=I.hok.fresh (Nat.le_refl _)
theorem Inv.lstM(I:Inv X pins σ H s)(hH:H l=some (.lst xs)):xs.length<=sizeLine/\∃(its:List Value) (n:Nat),Vals xs its/\xs.length=its.length/\s.heap.get? l=some { cls:=.type "list",data:=.seq its.toArray n }:=by
 obtain⟨z,its,n,r,e⟩:=I.hok l _ hH
 exact⟨z,its,n,r,r.length,e⟩
theorem notLongL{n:Nat}(h:n<=sizeLine):Builtin.List.listTooLong n=false:=by
 unfold Builtin.List.listTooLong
 exact decide_eq_false (by omega)
end
section
variable {X:Cx}
def rAppend:V->List V->Hp->VK->Prop:=fun x vs H Q=>∃l xs y,x= .ref l/\vs=[y]/\H l=some (.lst xs)/\xs.length < sizeLine/\Q .non (upd H l (.lst (xs++[y])))
theorem jT:MtM X "list.append" rAppend:=by
 intro pins s σ H x vs v us Q I rx rv h
 obtain⟨l,xs,y,rfl,rfl,hH,hz,q⟩:=h
 cases rx
 obtain⟨u,rfl,ru⟩:=rv.one
 obtain⟨z,its,n,r,hl,e⟩:=I.lstM hH
 refine call_meets F.slot_list_append ⟨_,e,rfl⟩ F.entry_list_append (F.args_list_append_2 _ _) (PySem.list_append l its.toArray n u (by rw[List.size_toArray];omega)) ⟨e,?_⟩
 refine⟨.non,_,I.lset (its':=its++[u]) hH e (by simp) (r.append (.cons ru .nil)) ?_,rfl,q⟩
 rw[List.length_append,List.length_singleton]
 omega
def rExtend:V->List V->Hp->VK->Prop:=fun x vs H Q=>∃l b xs zs,x= .ref l/\vs=[.ref b]/\H l=some (.lst xs)/\H b=some (.lst zs)/\xs.length+zs.length<=sizeLine/\Q .non (upd H l (.lst (xs++zs)))
theorem X6:MtM X "list.extend" rExtend:=by
 intro pins s σ H x vs v us Q I rx rv h
 obtain⟨l,b,xs,zs,rfl,rfl,hH,hB,hz,q⟩:=h
 cases rx
 obtain⟨u,rfl,ru⟩:=rv.one
 cases ru
 obtain⟨z,its,n,r,hl,e⟩:=I.lstM hH
 obtain⟨z2,its2,n2,r2,hl2,e2⟩:=I.lstM hB
 have hsz:its.toArray.size+its2.toArray.size<=sizeLine:=by rw[List.size_toArray,List.size_toArray];omega
 have hlong:¬(!its.toArray.isEmpty&&Builtin.List.listTooLong (its.toArray.size+its2.toArray.size))=true:=by
  rw[notLongL hsz,Bool.and_false]
  exact Bool.false_ne_true
 refine call_meets F.slot_list_extend ⟨_,e,rfl⟩ F.entry_list_extend (F.args_list_extend_2 _ _)
  (AutoSeq1.list_extend_list_list_0 l its.toArray n b its2.toArray n2 hlong (by rw[List.size_toArray];omega) (by omega)) ⟨e,e2,?_⟩
 refine⟨.non,_,I.lset (its':=its++its2) hH e (by simp) (r.append r2) ?_,rfl,q⟩
 rw[List.length_append]
 omega
def rPop:V->List V->Hp->VK->Prop:=fun x vs H Q=>∃l xs y,x= .ref l/\vs=[]/\H l=some (.lst xs)/\xs[xs.length - 1]?=some y/\Q y (upd H l (.lst xs.dropLast))
theorem mt_pop:MtM X "list.pop" rPop:=by
 intro pins s σ H x vs v us Q I rx rv h
 obtain⟨l,xs,y,rfl,rfl,hH,hy,q⟩:=h
 cases rx
 have hus:=rv.zero
 subst hus
 obtain⟨z,its,n,r,hl,e⟩:=I.lstM hH
 obtain⟨u,hu,ru⟩:=r.get hy
 have hy':its.toArray[its.toArray.size - 1]?=some u:=by
  show its.toArray[its.length - 1]?=some u
  rw[<- Array.getElem?_toList,<- hl]
  exact hu
 refine call_meets F.slot_list_pop ⟨_,e,rfl⟩ F.entry_list_pop (F.args_list_pop_1 _) (MeetsSeq.list_pop_last l its.toArray n u hy' (by rw[List.size_toArray];omega)) ⟨e,?_⟩
 refine⟨y,_,I.lset (its':=its.dropLast) hH e ?_ r.dropLast ?_,ru,q⟩
 ·show its.toArray.eraseIdxIfInBounds (its.toArray.size - 1)=its.dropLast.toArray
  rw[List.size_toArray,List.eraseIdxIfInBounds_toArray,Q4]
 ·rw[List.length_dropLast]
  omega
def rCat:R2:=fun x y H Q=>∃l b xs zs,x= .ref l/\y= .ref b/\H l=some (.lst xs)/\H b=some (.lst zs)/\xs.length+zs.length<=sizeLine/\∀p,H p=none->Q (.ref p) (upd H p (.lst (xs++zs)))
theorem qw:OpR X (binaryOp .Add) rCat:=by
 intro pins s σ H x y v u Q I rx ry h
 obtain⟨l,b,xs,zs,rfl,rfl,hH,hB,hz,q⟩:=h
 cases rx
 cases ry
 obtain⟨z,its,n,r,hl,e⟩:=I.lstM hH
 obtain⟨z2,its2,n2,r2,hl2,e2⟩:=I.lstM hB
 refine PySem.P.add_list e e2 ?_ (by rw[List.size_toArray,List.size_toArray];omega)
 have ea:its.toArray++its2.toArray=(its++its2).toArray:=by simp
 rw[ea]
 exact⟨.ref _,_,I.lnew (t':=s.toks) (r.append r2) (by rw[List.length_append];omega),rfl,q _ I.fresh⟩
end
section
variable {prog:Program}{w:World}{A:Around}{E:Value->Shared->Prop}{s:Shared}
theorem X7(its its2 : List Value)(a c : Nat) : its.toArray.extract 0 a ++ its2.toArray ++ its.toArray.extract c its.toArray.size = (its.take a ++ its2 ++ its.drop c).toArray := by
  apply Array.toList_inj.mp
  first
    | (simp
       exact List.take_of_length_le (by simp))
    | simp [List.take_of_length_le]
    | simp
theorem Q5{a c n:Nat}(hac:a<=c)(hc:c<=n):sliceBounds (some (a:Int)) (some (c:Int)) none n=((a:Int),(c:Int),1):=by
 simp only[sliceBounds,Option.getD_none]
 have h1:¬((a:Int) < 0):=by omega
 have h2:¬((c:Int) < 0):=by omega
 simp only[h1,h2,if_false,show(1:Int) > 0 by decide,if_true]
 congr 1
 ·omega
 ·congr 1;omega
set_option maxRecDepth 100000 in
theorem Kn{l b sl : Addr}{items new : Array Value}{n n2 : Nat}{vl vu : Value}{a c : Nat}{Q : Unit -> Shared -> Prop}
    (e : s.heap.get? l = some { cls := .type "list", data := .seq items n }) (e2 : s.heap.get? b = some { cls := .type "list", data := .seq new n2 }) (hne : l ≠ b)
    (hs : s.heap.IsSliceOf sl vl vu .none) (pl : IsPart vl (some (a : Int))) (pu : IsPart vu (some (c : Int))) (hac : a <= c) (hc : c <= items.size)
    (hsz : items.size + new.size <= sizeLine) (h : Q () { s with heap := s.heap.update l (Obj.mapSeq fun xs => xs.extract 0 a ++ new ++ xs.extract c xs.size) }) :
    wpAny (model prog w) A (setItem (.ref l) (.ref sl) (.ref b)) Q E s := by
  have hl : s.heap.IsList l items := PySem.IsL.isList e
  have hb : s.heap.IsList b new := PySem.IsL.isList e2
  obtain ⟨os, hos, hcs, hds⟩ := id hs
  have hTs : s.TypeIs (.ref sl) "slice" := ⟨os, hos, hcs⟩
  have hstep : ¬ ((rawPart none == rawInt 0) = true) := Bool.false_ne_true
  have hsame : Builtin.List.listSameRef (.ref l) (.ref b) = false := by
    unfold Builtin.List.listSameRef
    exact beq_eq_false_iff_ne.mpr hne
  have hmax : (max (a : Int) (c : Int)).toNat = c := by omega
  have hz' : ((fun xs : Array Value => xs.extract 0 a ++ new ++ xs.extract c xs.size) items).size <= sizeLine + 1 := by
    simp only [Array.size_append, Array.size_extract]
    omega
  unfold setItem
  try with_reducible refine wpAny_holding ?_
  first | refine wpAny_bind (wpAny_pure ?_) | skip
  refine wpAny_bind (wpAny_sequenceKey hl.typeIs (by decide) ?_)
  refine wpAny_bind (wpAny_callSpecial?_slot (name := Str.ofString "__setitem__") hl.typeIs slot_list_setitem
    (wpAny_call_entry slot_list_setitem hl.typeIs entry_list_setitem ?_ (args_list_setitem _ _ _)))
  show wpAny _ _ (Builtin.List.listSubscript? (.ref sl) >>= _) _ _ s
  refine wpAny_bind ?_
  unfold Builtin.List.listSubscript?
  refine wpAny_bind (wpAny_specialOf hTs slice_no_index ?_)
  simp only [Option.isNone_none, if_true]
  refine wpAny_pure ?_
  show wpAny _ _ (typeOf (.ref sl) >>= _) _ _ s
  refine wpAny_bind (wpAny_typeOf hTs ?_)
  first
    | rw [if_neg (by decide)]
    | refine PySem.W.KFB.if_not (by decide) ?_
  rw [listSliceParts_eq]
  refine wpAny_bind (wpAny_bind (wpAny_field hos hds (x := .none) rfl (wpAny_bind (wpAny_listPart .none ?_))))
  rw [if_neg hstep]
  refine wpAny_bind (wpAny_field hos hds (x := vl) rfl (wpAny_bind (wpAny_listPart pl ?_)))
  refine wpAny_bind (wpAny_field hos hds (x := vu) rfl (wpAny_bind (wpAny_listPart pu (wpAny_pure ?_))))
  first
    | simp only [hsame, Bool.false_eq_true, if_false]
    | refine PySem.W.KFB.if_not hsame ?_
    | (dsimp only
       rw [if_neg (by rw [hsame]; exact Bool.false_ne_true)])
  refine wpAny_bind (m := Builtin.List.listAllItems (.ref b) "must assign iterable to extended slice") ?_
  unfold Builtin.List.listAllItems
  refine wpAny_bind (wpAny_typeOf hb.typeIs ?_)
  first
    | refine PySem.W.KFB.if_so (by decide) ?_
    | rw [if_pos (by decide)]
    | simp only [beq_self_eq_true, Bool.true_or, if_true]
  unfold Builtin.List.listItems
  refine wpAny_bind (wpAny_seqItems e2 rfl (wpAny_pure ?_))
  refine wpAny_bind (wpAny_bind (wpAny_seqItems e rfl (wpAny_pure ?_)))
  refine wpAny_bind (wpAny_of_eq ((sliceIndices_raw (some (a : Int)) (some (c : Int)) none items.size (by simp)).trans (congrArg (pure : Int × Int × Int -> Sem (Int × Int × Int)) (Q5 hac hc))) ?_)
  show wpAny _ _ (if ((1 : Int) == 1) = true then _ else _) _ _ s
  rw [if_pos (by decide)]
  refine wpAny_bind (wpAny_rule ?_)
  first
    | simp only [notLongL hsz, Bool.false_eq_true, if_false]
    | refine PySem.W.KFB.if_not (notLongL hsz) ?_
  first | refine wpAny_bind (wpAny_pure ?_) | skip
  show wpAny _ _ (updateSeq l (fun xs => xs.extract 0 ((a : Int)).toNat ++ new ++ xs.extract (max (a : Int) (c : Int)).toNat xs.size) >>= _) _ _ s
  rw [hmax, Int.toNat_natCast]
  refine wpAny_bind (wpAny_updateSeq (hz := Nat.le_trans (Nat.le_add_right _ _) hsz) (_hz' := hz') e rfl ?_)
  refine wpAny_bind (wpAny_letGo ?_)
  first
    | exact wpAny_bind (wpAny_pure (wpAny_pure ⟨.none, rfl, wpAny_pure h⟩))
    | exact wpAny_pure ⟨.none, rfl, wpAny_pure h⟩
end
section
variable {X:Cx}
theorem X8{pins:List (Addr×Obj)}{s:Shared}{σ:St}{H:Hp}{l b sl:Addr}{xs ys:List V}{a c:Int}{vl vu:Value}{Q:Unit->Shared->Prop}(I:Inv X pins σ H s)
  (hH:H l=some (.lst xs)) (hB:H b=some (.lst ys)) (hne:l≠b) (hs:s.heap.IsSliceOf sl vl vu .none) (ra:RelV (.int a) vl) (rc:RelV (.int c) vu) (h0:0<=a) (hac:a<=c) (hc:c<=xs.length)
  (hz:xs.length+ys.length<=sizeLine) (h:∀s',Inv X pins σ (upd H l (.lst (xs.take a.toNat++ys++xs.drop c.toNat))) s'->Q () s'):
  wpAny (model X.prog X.w) X.A (setItem (.ref l) (.ref sl) (.ref b)) Q X.xe s:=by
 obtain⟨ta,rfl⟩:=ra
 obtain⟨tc,rfl⟩:=rc
 obtain⟨z,its,n,r,hl,e⟩:=I.lstM hH
 obtain⟨z2,its2,n2,r2,hl2,e2⟩:=I.lstM hB
 obtain⟨a',rfl⟩:=Int.eq_ofNat_of_zero_le h0
 obtain⟨c',rfl⟩:=Int.eq_ofNat_of_zero_le (Int.le_trans h0 hac)
 simp only[Int.toNat_natCast]at h
 refine Kn (a:=a') (c:=c') e e2 hne hs (.int _ _) (.int _ _) (by omega) (by rw[List.size_toArray];omega) (by rw[List.size_toArray,List.size_toArray];omega) (h _ ?_)
 refine I.lset (its':=its.take a'++its2++its.drop c') (t':=s.toks) hH e ?_ (Vals.append (Vals.append (r.take _) r2) (r.drop _)) ?_
 ·exact X7 its its2 a' c'
 ·rw[List.length_append,List.length_append,List.length_take,List.length_drop]
  omega
end
end L2
namespace Att
open PySem PySem.W PySem.Calls PyProof.Rows
theorem JB{P:Params}{h:Heap}:∀(ns:List Int) (vs:List Value),WellAll P h vs (ns.map WData.int)->IntsAre vs ns:=by
 intro ns
 induction ns with
 |nil=>
  intro vs w
  rw[List.map_nil]at w
  cases w
  exact .nil
 |cons n ns ih=>
  intro vs w
  rw[List.map_cons]at w
  cases w with
  |cons a b=>
   cases a
   exact .cons _ _ (ih _ b)
theorem X9{l:OpenLaw}{n:Nat}(hn:l.most=some n){P:Params}{h:Heap}{args:List WData}{vals:List Value}
  (hpre:l.row.toRowW.claim.pre args=true) (hwl:WellAll P h vals args):
  ∃a vs ns,vals=[Value.ref a]/\args=[WData.list (ns.map WData.int)]/\h.get? a=some { cls:=.type "list",data:=.seq vs.toArray }/\IntsAre vs ns/\ns.length<=n:=by
 have hsh:WShape.hasAll [] args [.list .int]=true:=(pre_splitW hpre).1
 have hc:l.pre.holds [] { args:=args }=true:=(pre_splitW hpre).2
 obtain⟨d,r,rfl,h1,h2⟩:=hasAllW_cons hsh
 obtain rfl:=hasAllW_nil h2
 obtain⟨xs,rfl,h3⟩:=hasW_list h1
 obtain⟨ns,rfl⟩:=items_int h3
 have hlen:ns.length<=n:=by
  unfold OpenLaw.pre at hc
  have h4:(WTm.not (.lt (.lit (.int (n:Int))) (.len (.arg 0)))).holds [] { args:=[.list (ns.map .int)] }=true:=by
   have h4:=(holds_andW hc).1
   rw[hn]at h4
   exact h4
  have h5:=condW_of h4 (w_not (w_lt w_lit (w_len_list (w_arg rfl))))
  rw[List.length_map]at h5
  refine Nat.le_of_not_lt fun q=>?_
  have q':(n:Int) < ((ns.length:Nat):Int):=by omega
  first
   | (rw[decide_eq_true q']at h5;exact absurd h5 (by decide))
   | (simp at h5;omega)
 cases hwl with
 |cons w1 w2=>
  cases w2
  cases w1 with
  |list ho hall=>exact⟨_,_,ns,rfl,rfl,ho,JB ns _ hall,hlen⟩
theorem Ya(l:OpenLaw)(args:List WData):l.row.toRowW.claim.post args (.bool true) args=true:=
 postW_of (r:=l.row.toRowW) (X:=(true==true))
  (show WShape.has [] (.bool true) .bool=true by first |rfl |decide |simp [WShape.has,WShape.arms,WShape.armsAll])
  (show(WTm.eq .res (.lit (.bool true))).value [] { args:=args,res:=some (.bool true),after:=args }=some (.bool (true==true)) from w_eq_bool (w_res rfl) w_lit) rfl
theorem attach_call{l:OpenLaw}{n:Nat}{q:Program}{loose:List Str}{XP:(Str->Option Value)->Heap->Prop}{YP:World->Heap->Prop}{d:DefRec}
  (hn:l.most=some n) (hdf:d.params.defaults=[])
  (call:∀(w:World) (s₀ s₁:Shared) (mg mb:Str->Option Value) (fa:Addr) (o:Obj) (pm cd doc:Value) (a:Addr) (vs:List Value) (ns:List Int),
   Ground q loose [] XP w s₀ mg mb s₁.heap->YP w s₁.heap->
   s₁.heap.get? fa=some o->o.data= .func (docDef d.name d.params d.body d.scope pm cd doc)->s₁.heap.CodeRec cd d.name->mg d.name=some (.ref fa)->
   s₁.heap.get? a=some { cls:=.type "list",data:=.seq vs.toArray }->IntsAre vs ns->ns.length<=n->s₁.gens=#[]->
   codeAny (model l.prog w) callerA (.call (.ref fa) ⟨[.ref a],[]⟩) (fun r s'=>r= .ok (.ret (.bool true))/\OldK s₁.heap s'.heap/\s'.os=s₁.os/\AllBare s'.gens) s₁):
  WalkO q loose XP YP l.row.toRowW d [] (fun f vs=>PySem.call f vs):=by
 intro w s₀ s₁ mg mb G Y fa o pm cd doc dV kV ho hd hcd hD hmg hg args vals as hpre hlay hrd hwl hlo
 obtain rfl:dV= .none:=Dflts.none hD hdf
 obtain rfl:kV= .none:=Dflts.noKw hD
 obtain⟨a,vs,ns,rfl,rfl,hobj,hints,hlen⟩:=X9 hn hpre hwl
 refine enter_call (codeAny_mono (call w s₀ s₁ mg mb fa o pm cd doc a vs ns G Y ho (fd_plain hd) hcd hmg hobj hints hlen hg) fun r s' hq=>?_)
 obtain⟨rfl,h2,h3,h4⟩:=hq
 exact⟨.inl ⟨.bool true,.bool true,[],rfl,fun _=>rfl,.bool true,Ya l _,fun _=>⟨List.Pairwise.nil,fun _ hm=>(nomatch hm)⟩⟩,h2,h3,h4⟩
end Att
namespace L2
open PySem PySem.Spec PyProof.Rows
theorem KJ:∀{vs:List Value} {ns:List Int},IntsAre vs ns->Vals (ns.map V.int) vs
 |_,_,.nil=>.nil
 |_,_,.cons n t h=>.cons ⟨t,rfl⟩ (KJ h)
def Only(H:Hp):Prop:=∀b,H b=none∨∃o xs,H b=some (.frz o (.lst xs))
theorem Zr{P:Program}{w:World}{K:Frag}{mg mb:Str->Option Value}{CX:CXT}{k:Nat}{fa a:Addr}{fd:FuncData}{x:Str}{sp:Sp}{s₁:Shared}{vs:List Value}{ns:List Int}
  (KX:K.In s₁.heap) (hns:s₁.heap.Ns mainGlobals mg) (hb:s₁.heap.Ns builtinsNs mb) (hbb:∀x:Str,x≠"__name__"->mb x=bootBuiltins x) (hlim:s₁.heap.NoLimit) (hg:s₁.gens=#[])
  (ha:s₁.heap.get? a=some { cls:=.type "list",data:=.seq vs.toArray }) (hi:IntsAre vs ns) (hl:ns.length<=sizeLine) (hr:Room k callerA)
  (F:∀base:Heap,K.In base->base.Ns mainGlobals mg->FnOk P w K mg base CX k fa fd [x] sp) (hbind:∀(s:Shared) (u:Value),BindsTo s fd ⟨[u],[]⟩ [(x,u)])
  (hsp:∀H:Hp,Only H->SqL K H a (ns.map V.int)->sp [.ref a] H (fun v _=>v= .bl true) fun _ _ _=>False)
  (hCX:∀H e s',CX [] H s₁ (fun _ _ _=>False) e s'->False):
  codeAny (model P w) callerA (.call (.ref fa) ⟨[.ref a],[]⟩) (fun r s'=>r= .ok (.ret (.bool true))/\OldK s₁.heap s'.heap/\s'.os=s₁.os/\AllBare s'.gens) s₁:=by
 have rv:=KJ hi
 have lenV:=hi.length
 have core:∀H:Hp,Only H->SqL K H a (ns.map V.int)->HOk P w H s₁.heap->(∀b,H b≠none->b=a)->(H a≠none->K.lookup a=none)->
   codeAny (model P w) callerA (.call (.ref fa) ⟨[.ref a],[]⟩) (fun r s'=>r= .ok (.ret (.bool true))/\OldK s₁.heap s'.heap/\s'.os=s₁.os/\AllBare s'.gens) s₁:=by
  intro H hO hS hok hA hK
  have base_of:∀{b:Addr} {o:Obj},s₁.heap.get? b=some o->H b=none->(hidT s₁.heap H).get? b=some o:=fun e n=>Zi e n
  have noA:∀{b:Addr} {o:Obj} {es:Array DictEntry} {ep:Nat},s₁.heap.get? b=some o->o.data= .dict es ep->H b=none:=fun {b o es ep} e d=>by
   cases q:H b with
   |none=>rfl
   |some u=>
    have e':b=a:=hA b (by rw[q];simp)
    subst e'
    rw[ha]at e;cases e
    have d':Data.seq vs.toArray _=Data.dict es ep:=d
    cases d'
  have nsK:∀{b:Addr} {m:Str->Option Value},s₁.heap.Ns b m->(hidT s₁.heap H).Ns b m:=fun {b m} ⟨o,es,ep,e,d,r⟩=>⟨o,es,ep,base_of e (noA e d),d,r⟩
  have hKb:K.In (hidT s₁.heap H):=fun b o e=>base_of (KX b o e) (by
   cases q:H b with
   |none=>rfl
   |some u=>
    have e':b=a:=hA b (by rw[q];simp)
    subst e'
    rw[hK (by rw[q];simp)]at e;cases e)
  have hM:Mod K mg (hidT s₁.heap H):=⟨hKb,nsK hns,⟨mb,nsK hb,hbb⟩,let ⟨mc,h1,h2⟩:=hlim;⟨mc,nsK h1,h2⟩⟩
  have e0:Env0 P w K mg (hidT s₁.heap H) callerA [] s₁ H:=⟨rfl,hM,fun b o e=>Z5 e,Nat.le_of_eq (XZ _ _),trivial,fun b hb=>absurd (show b∈([]:List Addr) from hb) (by simp),hok,.of_eq hg⟩
  refine codeAny_mono ((F _ hKb (nsK hns)).run callerA [] s₁ H ⟨[.ref a],[]⟩ [.ref a] [.ref a] _ _ hr e0 (hbind s₁ (.ref a)) (.cons rfl .nil) (hsp H hO hS)) fun r s' h=>?_
  cases r with
  |error e=>exact(hCX H e s' h).elim
  |ok fl=>
   cases fl with
   |next=>exact False.elim h
   |brk=>exact False.elim h
   |cont=>exact False.elim h
   |ret u=>
    obtain⟨v,H',os,bare,un,hok',r',q⟩:=h
    have q':v= .bl true:=q
    subst q'
    obtain rfl:u=Value.bool true:=r'
    refine⟨rfl,OldK.of_keep fun b o e=>?_,os,bare⟩
    cases q:H b with
    |none=>exact un.keep b o e q (by intro z;exact absurd (show b∈([]:List Addr) from z) (by simp)) (by simp)
    |some u=>
     rcases hO b with z | ⟨ob,xs,z⟩
     ·rw[q]at z;cases z
     ·have z2:=un.frzs b ob _ z
      obtain⟨e1,_⟩:=hok b _ z
      obtain⟨e2,_⟩:=hok' b _ z2
      rw[e]at e1;cases e1
      exact e2
 cases hk:K.lookup a with
 |some o=>
  have e:=KX a o hk
  rw[ha]at e
  cases e
  refine core (fun _=>none) (fun _=>.inl rfl) (.inr ⟨_,vs.toArray,_,hk,rfl,rfl,rfl,by rw[List.size_toArray,lenV];exact hl,by simpa using rv⟩) (fun b u z=>by have z':(none:Option HO)=some u:=z;cases z') (fun b z=>absurd rfl z) fun z=>absurd rfl z
 |none=>
  refine core (fun b=>if b=a then some (.frz { cls:=.type "list",data:=.seq vs.toArray } (.lst (ns.map V.int))) else none) (fun b=>?_) (.inl (.inr ⟨{ cls:=.type "list",data:=.seq vs.toArray },if_pos rfl⟩)) (fun b u z=>?_) (fun b z=>?_) fun _=>hk
  ·by_cases hb:b=a
   ·exact .inr ⟨_,_,if_pos hb⟩
   ·exact .inl (if_neg hb)
  ·by_cases hb:b=a
   ·have z':=(if_pos hb).symm.trans z
    cases z'
    subst hb
    exact⟨ha,by rw[List.length_map];exact hl,vs,_,rv,ha⟩
   ·have z':=(if_neg hb).symm.trans z
    cases z'
  ·by_cases hb:b=a
   ·exact hb
   ·exact absurd (if_neg hb) z
theorem walk_of{l:PySem.W.OpenLaw}{n k:Nat}{q:Program}{loose:List Str}{XP:(Str->Option Value)->Heap->Prop}{YP:World->Heap->Prop}{d:DefRec}{K:Params->Frag}{CX:World->CXT}{sp:World->Sp}{x:Str}
  (hn:l.most=some n) (hn2:n<=sizeLine) (hdf:d.params.defaults=[]) (hr:Room k callerA)
  (hY:∀(w:World) (h:Heap),YP w h->(K w.params).In h)
  (F:∀(w:World) (mg:Str->Option Value) (fa:Addr) (h:Heap),(K w.params).In h->h.Ns mainGlobals mg->mg d.name=some (.ref fa)->
   ∃fd:FuncData,(∀(s:Shared) (u:Value),BindsTo s fd ⟨[u],[]⟩ [(x,u)])/\
    ∀base:Heap,(K w.params).In base->base.Ns mainGlobals mg->FnOk l.prog w (K w.params) mg base (CX w) k fa fd [x] (sp w))
  (hsp:∀(w:World) (H:Hp) (a:Addr) (ns:List Int),ns.length<=n->Only H->SqL (K w.params) H a (ns.map V.int)->sp w [.ref a] H (fun v _=>v= .bl true) fun _ _ _=>False)
  (hCX:∀(w:World) (H:Hp) (s:Shared) (e:Value) (s':Shared),CX w [] H s (fun _ _ _=>False) e s'->False):
  PySem.W.WalkO q loose XP YP l.row.toRowW d [] (fun f vs=>PySem.call f vs):=by
 refine Att.attach_call hn hdf fun w s₀ s₁ mg mb fa o pm cd doc a vs ns G Y ho hd hcd hmg hobj hints hlen hg=>?_
 have KX:=hY w _ Y
 obtain⟨fd,hb,hF⟩:=F w mg fa _ KX G.T.g hmg
 exact Zr KX G.T.g G.T.b G.T.builtins G.T.nolimit hg hobj hints (Nat.le_trans hlen hn2) hr hF hb (fun H hO hS=>hsp w H a ns hlen hO hS) fun H e s'=>hCX w H s₁ e s'
noncomputable def inClass(s:Stmt)(j:Nat):Stmt:=match s with
 | .ClassDef _ _ _ body _ _ _ _ _ _ _=>body.getD j (.Pass ⟨0,0,0,0⟩)
 |_=>.Pass ⟨0,0,0,0⟩
noncomputable def defArgs(s:Stmt):Arguments:=match s with
 | .FunctionDef _ a _ _ _ _ _ _ _ _=>a
 |_=>{ posonlyargs:=[],args:=[],vararg:=none,kwonlyargs:=[],kw_defaults:=[],kwarg:=none,defaults:=[] }
noncomputable def defBody(s:Stmt):List Stmt:=match s with
 | .FunctionDef _ _ b _ _ _ _ _ _ _=>b
 |_=>[]
noncomputable def defScope(s:Stmt):Scope:=match s with
 | .FunctionDef _ _ _ _ _ _ sc _ _ _=>sc
 |_=>{ kind:=.function,names:=[],isGenerator:=false,isCoroutine:=false }
abbrev CX0:CXT:=fun _ _ _ _ _ _=>False
abbrev E0:XK:=fun _ _ _=>False
theorem pass0{X:Cx}:Passes CX0 X E0:=fun _ _ _ _ _ _ _ h=>h.elim
structure Fun(K:Frag)(x qual:Str)(st:Stmt)(f:Addr)(fd:FuncData):Prop where
 ex:∃(oc:Value) (od:Option Addr) (kV doc pm:Value) (an:Option Addr) (cdv ct:Value) (osl:Array (Option Value)),
  fd=fnOf x qual (defArgs st) (defBody st) (defScope st) .none kV doc pm an cdv ct/\K.lookup f=some ⟨oc,od,.func fd,osl⟩/\codeIn K cdv qual=true
 kp:keepIn K (.ref f)=true
section
variable {P:Program}{w:World}{K:Frag}{mg:Str->Option Value}{base:Heap}
theorem Fun.ok{x qual:Str}{st:Stmt}{f:Addr}{fd:FuncData}{N ps:List Str}{k:Nat}{sp:Sp}(F:Fun K x qual st f fd)(S:FnScope N ps (defScope st))(len:∀vs H Q E,sp vs H Q E->vs.length=ps.length)
  (hbody:∀(cdv:Value) (A:Around) (outer:List Env) (s:Shared) (H:Hp) (vs:List V) (Q:VK) (E:XK),Room k (A.deeper (envOfC qual (defScope st) s.heap.objs.size f cdv))->sp vs H Q E->
   ∃t,PSs (cxOf CX0 P w K mg base N qual (defScope st) f cdv A outer s H E).nox (defBody st) t/\t { nx:=fun _ H'=>Q .non H',rt:=Q } (start N vs) H):FnOk P w K mg base CX0 (k+1) f fd ps sp:=by
 obtain⟨oc,od,kV,doc,pm,an,cdv,ct,osl,rfl,lk,hcd⟩:=F.ex
 refine fn_of lk hcd S len fun A outer s H vs Q E hr hsp=>?_
 obtain⟨t,h,q⟩:=hbody cdv A outer s H vs Q E hr hsp
 exact⟨t,h.nox,q⟩
theorem Fun.binds{x qual:Str}{st:Stmt}{f:Addr}{fd:FuncData}{ps:List Str}(F:Fun K x qual st f fd)
  (h:∀(kV doc pm:Value) (an:Option Addr) (cdv ct:Value) (us:List Value),us.length=ps.length->bindArgs (fnOf x qual (defArgs st) (defBody st) (defScope st) .none kV doc pm an cdv ct) ⟨us,[]⟩=pure (ps.zip us)):Binds K fd ps []:=by
 obtain⟨oc,od,kV,doc,pm,an,cdv,ct,osl,rfl,lk,hcd⟩:=F.ex
 exact .all (h kV doc pm an cdv ct)
theorem Y1{x qual:Str}{st:Stmt}{f:Addr}{oc:Value}{od an:Option Addr}{osl:Array (Option Value)}{kV doc pm cdv ct:Value}(l:K.lookup f=some ⟨oc,od,.func (fnOf x qual (defArgs st) (defBody st) (defScope st) .none kV doc pm an cdv ct),osl⟩)
  (c:codeIn K cdv qual=true) (k:keepIn K (.ref f)=true):Fun K x qual st f (fnOf x qual (defArgs st) (defBody st) (defScope st) .none kV doc pm an cdv ct):=⟨⟨oc,od,kV,doc,pm,an,cdv,ct,osl,rfl,l,c⟩,k⟩
end
theorem jM{A:Around}{k:Nat}(hr:Room k A):A.units+1 < cLine:=Nat.lt_of_le_of_lt (Nat.add_le_add_left (by decide:1<=64) _) hr.units
section
variable {X:Cx}
theorem pv(i:Nat){x:Str}{pos:Pos}(hN:X.N[i]?=some x:=by rfl)(hv:Vis X.env.scope x:=by first |exact Or.inl rfl |exact Or.inr (Or.inl rfl) |exact Or.inr (Or.inr rfl))(hd:(x==("__debug__":Str))=false:=by decide)
  (hcd:(x==("__classdict__":Str))=false:=by decide):PE X (.Name x pos) (tVar i):=pe_var hN hv hd hcd
end
theorem iteF{A B:Prop}(h:B):if false=true then A else B:=by
 rw[if_neg Bool.false_ne_true]
 exact h
theorem iteT{A B:Prop}(h:A):if true=true then A else B:=by
 rw[if_pos rfl]
 exact h
theorem ite2{c A B:Prop}[Decidable c](h1:c->A)(h2:¬c->B):if c then A else B:=by
 by_cases h:c
 ·rw[if_pos h]
  exact h1 h
 ·rw[if_neg h]
  exact h2 h
def Same(H H':Hp):Prop:=∀b o,H b=some o->H' b=some o
theorem Same.refl(H:Hp):Same H H:=fun _ _ h=>h
theorem Same.trans{H H1 H2:Hp}(a:Same H H1)(b:Same H1 H2):Same H H2:=fun c o h=>b c o (a c o h)
theorem Same.free{H H':Hp}(e:Same H H'){l:Addr}(h:H' l=Option.none):H l=Option.none:=by
 cases q:H l with
 |none=>rfl
 |some o=>
  rw[e l o q]at h
  cases h
theorem Same.seq{K:Frag}{H H':Hp}{a:Addr}{xs:List V}(e:Same H H')(h:SqL K H a xs):SqL K H' a xs:=by
 rcases h with (h | ⟨o,h⟩) |h
 ·exact .inl (.inl (e _ _ h))
 ·exact .inl (.inr ⟨o,e _ _ h⟩)
 ·exact .inr h
section
variable {prog:Program}{w:World}{A:Around}{R:Result->Shared->Prop}{s:Shared}
abbrev NoE:Value->Shared->Prop:=fun _ _=>False
theorem Yb{elt target iter:Expr}{ifs:List Expr}{scope:Scope}{pos:Pos}{it acc:Value}{env:Env}(I:Nat->Shared->Prop)
  (turn:∀n s,I n s->wpAny (model prog w) A (pyNext it) (fun r s₁=>match r with
   |none=>R (.ok .next) s₁
   |some v=>wpAny (model prog w) A (letOwnedTupleGo target it v) (fun _ s₂=>wpAny (model prog w) A (assign target env v) (fun _ s₃=>
     wpAny (model prog w) A (forIn ifs true fun c r=>if r=true then do let ok <- isTrue c env (eval c env);pure (ForInStep.yield ok) else pure (ForInStep.yield r)) (fun ok s₄=>
      if ok=true then wpAny (model prog w) A (eval elt env) (fun x s₅=>
       wpAny (model prog w) A (call (.builtin "list.append") [acc,x]) (fun _ s₆=>∃m,m < n/\I m s₆) NoE s₅) NoE s₄
      else ∃m,m < n/\I m s₄) NoE s₃) NoE s₂) NoE s₁) NoE s)
  (n:Nat) (h:I n s):
  codeAny (model prog w) A (.compLoop (.ListComp elt [⟨target,iter,ifs,0⟩] scope pos) 0 it acc env) R s:=by
 refine codeAny_loop rfl I (fun n s hI=>?_) n h
 show wpAny _ A ((compTurn (.ListComp elt [⟨target,iter,ifs,0⟩] scope pos) 0 it acc env).onRaise (fun x=>do noteFrame x env;theTreesLotGoes x)) _ _ s
 refine wpAny_noted ?_
 rw[compTurn_list]
 refine wpAny_bind (wpAny_standAt (wpAny_bind (wpAny_mono (turn n s hI) (fun r s₁ h₁=>?_) fun _ _ f=>f.elim)))
 cases r with
 |none=>exact wpAny_pure h₁
 |some v=>
  refine wpAny_bind (wpAny_mono h₁ (fun _ s₂ h₂=>?_) fun _ _ f=>f.elim)
  refine wpAny_bind (wpAny_mono h₂ (fun _ s₃ h₃=>wpAny_bind (wpAny_mono h₃ (fun ok s₄ h₄=>?_) fun _ _ f=>f.elim)) fun _ _ f=>f.elim)
  cases ok with
  |false=>exact wpAny_pure ⟨rfl,h₄⟩
  |true=>
   exact wpAny_bind (wpAny_bind (wpAny_mono h₄ (fun x s₅ h₅=>wpAny_bind (wpAny_mono h₅ (fun _ s₆ h₆=>wpAny_pure (wpAny_pure ⟨rfl,h₆⟩)) fun _ _ f=>f.elim)) fun _ _ f=>f.elim))
end
noncomputable def compCx(X:Cx)(scope:Scope)(M:List Str)(cl:List (Str×Addr))(C:Addr)(fp:List Addr)(sB:Shared)(HB:Hp):Cx where
 prog:=X.prog
 w:=X.w
 K:=X.K
 mg:=X.mg
 base:=X.base
 A:=X.A
 N:=M
 s₀:=sB
 H₀:=HB
 env:=compEnvC scope cl C X.env
 outer:=X.stack
 stack:=X.stack
 ex:=fp
 fn:=fun _=>false
 calm:=X.calm
 pn:=[]
 xe:=fun _ _=>False
noncomputable def sIn(nT:Nat)(ix:List Nat)(σ:St):St:=List.replicate nT none++ix.map fun i=>(σ[i]?).getD none
structure CompSc(N:List Str)(sc scope:Scope)(M:List Str)(nT:Nat)(ix:List Nat):Prop where
 cell:∀y∈scope.names,y.2≠ .cell
 kind:scope.kind= .function
 loc:∀y∈scope.names,y.2= .local->scope.names.lookup y.1=some .local
 fre:∀y∈scope.names,y.2= .free->sc.names.lookup y.1=some .cell
 nms:M.drop nT=ix.map fun i=>N.getD i Str.empty
 len:M.length=nT+ix.length
 vis:∀i∈ix,scope.names.lookup (N.getD i Str.empty)=some .free
theorem q9{env:Env}(hk:env.scope.kind= .function):∀{names:List (Str×NameKind)} {y:Str},names.lookup y=some .free->env.kindOf y=some .cell->
  (names.map fun(n,k)=>if (k==NameKind.free&&env.scope.kind== .function&&env.kindOf n==some .cell) then (n,NameKind.cell) else (n,k)).lookup y=some .cell
 | [],_,h,_=>by simp at h
 | (n,k)::r,y,h,hc=>by
  have ih:=@q9 env hk r y
  show List.lookup y ((if (k==NameKind.free&&env.scope.kind== .function&&env.kindOf n==some .cell)=true then (n,NameKind.cell) else (n,k))::_)=_
  cases hx:y==n with
  |true=>
   simp only[List.lookup_cons,hx]at h
   cases h
   have e:y=n:=by simpa using hx
   subst e
   rw[if_pos (by rw[hk,hc];rfl)]
   simp [List.lookup_cons]
  |false=>
   simp only[List.lookup_cons,hx]at h
   by_cases hc':(k==NameKind.free&&env.scope.kind== .function&&env.kindOf n==some .cell)=true
   ·rw[if_pos hc'];simp only[List.lookup_cons,hx];exact ih h hc
   ·rw[if_neg hc'];simp only[List.lookup_cons,hx];exact ih h hc
theorem Ka{env:Env}:∀{names:List (Str×NameKind)} {y:Str} {k':NameKind},
  (names.map fun(n,k)=>if (k==NameKind.free&&env.scope.kind== .function&&env.kindOf n==some .cell) then (n,NameKind.cell) else (n,k)).lookup y=some k'->
  ∃k,names.lookup y=some k/\(k'=k∨k= .free)
 | [],_,_,h=>by simp at h
 | (n,k)::r,y,k',h=>by
  have ih:=@Ka env r y k'
  have h:List.lookup y ((if (k==NameKind.free&&env.scope.kind== .function&&env.kindOf n==some .cell)=true then (n,NameKind.cell) else (n,k))::_)=some k':=h
  cases hx:y==n with
  |true=>
   refine⟨k,by simp only[List.lookup_cons,hx],?_⟩
   by_cases hc':(k==NameKind.free&&env.scope.kind== .function&&env.kindOf n==some .cell)=true
   ·right
    simp only[Bool.and_eq_true]at hc'
    simpa using hc'.1.1
   ·rw[if_neg hc']at h;simp only[List.lookup_cons,hx]at h;left;exact(Option.some.inj h).symm
  |false=>
   have h2:List.lookup y (r.map fun(n,k)=>if (k==NameKind.free&&env.scope.kind== .function&&env.kindOf n==some .cell) then (n,NameKind.cell) else (n,k))=some k':=by
    by_cases hc':(k==NameKind.free&&env.scope.kind== .function&&env.kindOf n==some .cell)=true
    ·rw[if_pos hc']at h;simp only[List.lookup_cons,hx]at h;exact h
    ·rw[if_neg hc']at h;simp only[List.lookup_cons,hx]at h;exact h
   obtain⟨k2,e,q⟩:=ih h2
   exact⟨k2,by simp only[List.lookup_cons,hx];exact e,q⟩
noncomputable def clFrom(env:Env):List (Str×NameKind)->List (Str×Addr)->List (Str×Addr)
 | [],acc=>acc
 | (n,k)::r,acc=>if k== .free then clFrom env r ((n,(env.cells.lookup n).getD 0)::acc) else clFrom env r acc
theorem zR{env:Env}:∀{names:List (Str×NameKind)} {acc:List (Str×Addr)},(∀y∈names,y.2= .free->∃c,env.cells.lookup y.1=some c)->(∀x c,acc.lookup x=some c->env.cells.lookup x=some c)->
  ∀x c,(clFrom env names acc).lookup x=some c->env.cells.lookup x=some c
 | [],_,_,ha,x,c,h=>ha x c h
 | (n,k)::r,acc,hy,ha,x,c,h=>by
  unfold clFrom at h
  by_cases hk:(k==NameKind.free)=true
  ·rw[if_pos hk]at h
   refine zR (fun y hy'=>hy y (List.mem_cons_of_mem _ hy')) (fun x' c' h'=>?_) x c h
   obtain⟨c0,e0⟩:=hy (n,k) List.mem_cons_self (by simpa using hk)
   have e0:env.cells.lookup n=some c0:=e0
   simp only[List.lookup_cons]at h'
   cases hx:x'==n with
   |true=>
    rw[hx]at h'
    have e:x'=n:=by simpa using hx
    subst e
    rw[e0]at h'
    rw[e0]
    exact h'
   |false=>rw[hx]at h';exact ha _ _ h'
  ·rw[if_neg hk]at h
   exact zR (fun y hy'=>hy y (List.mem_cons_of_mem _ hy')) ha x c h
theorem qf{x:Str}:∀{acc:List (Str×Addr)},(∃c,(x,c)∈acc)->∃c,acc.lookup x=some c
 | [],h=>by obtain⟨_,h⟩:=h;cases h
 | (n,c)::r,h=>by
  simp only[List.lookup_cons]
  cases hx:x==n with
  |true=>exact⟨c,rfl⟩
  |false=>
   obtain⟨c',h⟩:=h
   rcases List.mem_cons.mp h with e |h
   ·injection e with e1 _
    subst e1
    simp at hx
   ·exact qf ⟨c',h⟩
theorem qz{env:Env}{x:Str}:∀{names:List (Str×NameKind)} {acc:List (Str×Addr)},((∃c,(x,c)∈acc)∨(x,NameKind.free)∈names)->∃c,(x,c)∈clFrom env names acc
 | [],_,h=>by
  rcases h with h |h
  ·exact h
  ·cases h
 | (n,k)::r,acc,h=>by
  unfold clFrom
  by_cases hk:(k==NameKind.free)=true
  ·rw[if_pos hk]
   refine qz ?_
   rcases h with ⟨c,h⟩ |h
   ·exact .inl ⟨c,List.mem_cons_of_mem _ h⟩
   ·rcases List.mem_cons.mp h with e |h
    ·injection e with e1 _
     subst e1
     exact .inl ⟨_,List.mem_cons_self⟩
    ·exact .inr h
  ·rw[if_neg hk]
   refine qz ?_
   rcases h with h |h
   ·exact .inl h
   ·rcases List.mem_cons.mp h with e |h
    ·injection e with _ e2
     subst e2
     exact absurd rfl hk
    ·exact .inr h
theorem qo{env:Env}:∀(names:List (Str×NameKind)) (acc:List (Str×Addr)),(∀y∈names,y.2= .free->∃c,env.cells.lookup y.1=some c)->
  (forIn names acc (fun x r=>match x with | (name,kind)=>if (kind==NameKind.free)=true then (do let a <- cellOf env name;pure (ForInStep.yield ((name,a)::r))) else pure (ForInStep.yield r)):Sem (List (Str×Addr)))=pure (clFrom env names acc)
 | [],acc,_=>rfl
 | (n,k)::r,acc,hy=>by
  have ih:=fun acc=>qo r acc fun y hy'=>hy y (List.mem_cons_of_mem _ hy')
  rw[List.forIn_cons]
  unfold clFrom
  by_cases hk:(k==NameKind.free)=true
  ·obtain⟨c0,e0⟩:=hy (n,k) List.mem_cons_self (by simpa using hk)
   have e0:env.cells.lookup n=some c0:=e0
   have e1:cellOf env n=pure c0:=by unfold cellOf;rw[e0]
   rw[if_pos hk]
   simp only[hk,if_true,e1,e0]
   exact ih _
  ·rw[if_neg hk]
   simp only[hk]
   exact ih _
theorem qp{env:Env}{scope:Scope}(hy:∀y∈scope.names,y.2= .free->∃c,env.cells.lookup y.1=some c):closureFor scope env=pure (clFrom env scope.names []):=by
 have h:=qo scope.names [] hy
 exact congrArg (fun t:Sem (List (Str×Addr))=>t >>= fun s=>pure s) h
section
variable {X:Cx}{pins:List (Addr×Obj)}{σ:St}{H:Hp}{s:Shared}
theorem qR{scope:Scope}{M:List Str}{nT:Nat}{ix:List Nat}(I:Inv X pins σ H s)(S:CompSc X.N X.env.scope scope M nT ix):∀y∈scope.names,y.2= .free->∃c,X.env.cells.lookup y.1=some c:=
 fun y hy e=>I.ok.has y.1 (.inl (S.fre y hy e))
theorem Zs{scope:Scope}{M:List Str}{nT:Nat}{ix:List Nat}{fp:List Addr}{C:Addr}{h₁:Heap}{m:Str->Option Value}{tk:Nat}(I:Inv X pins σ H s)(hf:∀b∈fp,FpOk X pins H b)(hfs:∀b∈fp,b < s.heap.objs.size)
  (S:CompSc X.N X.env.scope scope M nT ix) (hC:s.heap.objs.size<=C) (old:∀b o,s.heap.get? b=some o->h₁.get? b=some o) (hns:h₁.Ns C m):
  Inv (compCx X scope M (clFrom X.env scope.names []) C fp s H) [] (sIn nT ix σ) H { s with heap:=h₁,toks:=tk }:=by
 have sub:∀x c,(clFrom X.env scope.names []).lookup x=some c->X.env.cells.lookup x=some c:=zR (qR I S) (fun x c h=>by simp at h)
 have hs2:∀x,scope.names.lookup x=some .free->∃c,(clFrom X.env scope.names []).lookup x=some c:=fun x e=>qf (qz (.inr (PySem.mem_of_lookup e)))
 have hex:∀x k',(relabel scope X.env).names.lookup x=some k'->(k'= .cell∨k'= .free)->scope.names.lookup x=some .free:=fun x k' e hk=>by
  obtain⟨k,e1,q⟩:=Ka e
  rcases q with q |q
  ·rcases hk with z |z
   ·exact absurd (q.symm.trans z) (S.cell (x,k) (PySem.mem_of_lookup e1))
   ·rw[e1,<- q,z]
  ·rw[e1,q]
 refine⟨⟨I.ok.mod,S.kind,I.ok.glob,I.ok.blt,hC,fun x y c h1 h2=>I.ok.inj x y c (sub x c h1) (sub y c h2),fun x hx=>?_,fun x c hx=>?_,I.ok.hd,I.ok.frames,.inl rfl,fun b hb=>⟨fun z=>?_,fun x c e=>?_⟩,I.bs,Nat.le_trans I.ok.bsz I.sz,fun b o e hb=>?_,fun b hb hz=>?_,I.stack,I.stkFree⟩,
  rfl,I.bare,Un.kept old,⟨m,hns,fun k y v e1 e2 _=>?_⟩,fun x c e=>?_,I.hok.fresh hC,fun x c e=>I.freeC x c (sub x c e),fun p hp=>absurd (show p∈([]:List (Addr×Obj)) from hp) (by simp),I.hok.kept old,?_⟩
 ·rcases hx with hx |hx
  ·exact hs2 x (hex x _ hx (.inl rfl))
  ·exact hs2 x (hex x _ hx (.inr rfl))
 ·exact absurd (show false=true from hx) (by decide)
 ·have z':b=C:=z
  have:=hfs b hb
  rw[z']at this
  exact absurd this (Nat.not_lt.mpr hC)
 ·exact(hf b hb).2.2.2.2.1 x c (sub x c e)
 ·rcases(hf b hb).2.2.2.1 with z |z
  ·exact I.ok.noex b o e z
  ·exact absurd (Nat.lt_of_lt_of_le (Heap.lt_size e) (Nat.le_trans I.ok.bsz z)) (Nat.lt_irrefl _)
 ·rcases List.mem_cons.mp (I.stkSub b hz) with z |z
  ·exact(hf b hb).2.1 z
  ·exact(hf b hb).2.2.1 z
 ·have e2:(sIn nT ix σ)[k]?=some (some v):=e2
  have e1:M[k]?=some y:=e1
  unfold sIn at e2
  by_cases hk:k < nT
  ·rw[List.getElem?_append_left (by simpa using hk),List.getElem?_replicate]at e2
   simp [hk]at e2
  ·have hk':nT<=k:=Nat.le_of_not_lt hk
   rw[List.getElem?_append_right (by simpa using hk'),List.length_replicate,List.getElem?_map]at e2
   cases e3:ix[k - nT]? with
   |none=>rw[e3]at e2;cases e2
   |some i=>
    rw[e3]at e2
    have e4:(σ[i]?).getD none=some v:=Option.some.inj e2
    have e5:σ[i]?=some (some v):=by
     cases e6:σ[i]? with
     |none=>rw[e6]at e4;cases e4
     |some o=>rw[e6]at e4;exact congrArg some e4
    have hi:i < X.N.length:=by rw[<- I.len];exact(List.getElem?_eq_some_iff.mp e5).1
    have e7:y=X.N.getD i Str.empty:=by
     have q:(M.drop nT)[k - nT]?=some y:=by rw[List.getElem?_drop];rw[Nat.add_sub_cancel' hk'];exact e1
     rw[S.nms,List.getElem?_map,e3]at q
     exact(Option.some.inj q).symm
    have e8:X.N[i]?=some y:=by rw[e7,List.getElem?_eq_getElem hi,List.getD_eq_getElem?_getD,List.getElem?_eq_getElem hi];rfl
    have hfree:scope.names.lookup y=some .free:=by rw[e7];exact S.vis i (List.mem_of_getElem? e3)
    have hcell:X.env.scope.names.lookup y=some .cell:=S.fre (y,.free) (PySem.mem_of_lookup hfree) rfl
    obtain⟨m',_,hl⟩:=I.loc
    obtain⟨u,r,l⟩:=hl i y v e8 e5 (.inr (.inl hcell))
    refine⟨u,r,?_⟩
    rcases l with ⟨l,_⟩ | ⟨_,c,ec,o,ho,hd⟩
    ·have l:X.env.scope.names.lookup y=some .local:=l
     rw[hcell]at l
     cases l
    ·obtain⟨c',ec'⟩:=hs2 y hfree
     have q:=sub y c' ec'
     rw[ec]at q
     cases q
     exact .inr ⟨.inl (q9 I.ok.kind hfree hcell),c,ec',o,old _ _ ho,hd⟩
 ·obtain⟨v,o,ho,hd⟩:=I.cell x c (sub x c e)
  exact⟨v,o,old _ _ ho,hd⟩
 ·show(sIn nT ix σ).length=M.length
  rw[S.len]
  simp [sIn]
theorem Inv.track{D:Addr}{o:HO}(I:Inv X pins σ H s)(f:FpOk X pins H D)(ge:X.s₀.heap.objs.size<=D)(new:ObjOk X.prog X.w (upd H D o) s.heap D o):Inv X pins σ (upd H D o) s:=by
 have n:=f.1
 have ne:∀b u,H b=some u->b≠D:=fun b u e=>jl e n
 refine⟨I.ok,I.os,I.bare,⟨I.base.keep,I.base.slot,fun b ob e q hx=>?_,I.base.there,fun b xs e=>?_,fun b ob u e=>?_,fun b ps e=>?_⟩,I.loc,I.cell,?_,fun x c e=>?_,fun p hp=>?_,fun b u e=>?_,I.len⟩
 ·rw[jf (Nat.ne_of_lt (Nat.lt_of_lt_of_le (Heap.lt_size e) ge))]
  exact I.base.free b ob e q hx
 ·have q:=I.base.tups b xs e
  rw[jf (ne _ _ q)]
  exact q
 ·have q:=I.base.frzs b ob u e
  rw[jf (ne _ _ q)]
  exact q
 ·obtain⟨more,q⟩:=I.base.tbls b ps e
  exact⟨more,by rw[jf (ne _ _ q)];exact q⟩
 ·rw[jf (Ne.symm f.2.1)]
  exact I.free
 ·rw[jf (f.2.2.2.2.1 x c e)]
  exact I.freeC x c e
 ·obtain⟨e,q,r⟩:=I.pin p hp
  exact⟨e,by rw[jf (f.2.2.2.2.2 p hp)];exact q,r⟩
 ·by_cases hb:b=D
  ·subst hb
   rw[je]at e
   cases e
   exact new
  ·rw[jf hb]at e
   exact(I.hok b u e).stay (fun _ _ _ q=>q) (fun c q=>by rw[jf (ne _ _ q)];exact q) fun c xs q=>by rw[jf (ne _ _ q)];exact q
noncomputable abbrev lstO(us:List Value):Obj:={ cls:=.type "list",data:=.seq us.toArray us.length }
theorem Yc(us:List Value)(y:Value):({ cls:=.type "list",data:=.seq (us.toArray.push y) (us.length+1) }:Obj)=lstO (us++[y]):=by
 show({ cls:=.type "list",data:=.seq (us.toArray.push y) (us.length+1) }:Obj)={ cls:=.type "list",data:=.seq (us++[y]).toArray (us++[y]).length }
 rw[List.length_append,List.length_singleton,List.push_toArray]
def PF(X:Cx)(ifs:List Expr)(t:TT):Prop:=
 ∀(pins:List (Addr×Obj)) (s:Shared) (σ:St) (H:Hp) (Q:Bool->Hp->Prop),Inv X pins σ H s->t σ H Q->
  wpAny (model X.prog X.w) X.A (forIn ifs true fun c r=>if r=true then do let ok <- isTrue c X.env (eval c X.env);pure (ForInStep.yield ok) else pure (ForInStep.yield r)) (TP X pins σ Q) X.xe s
def tAll:TT:=fun _ H Q=>Q true H
theorem zw:PF X [] tAll:=fun _ _ _ H _ I h=>wpAny_tests_nil ⟨H,I,h⟩
theorem pf_one{c:Expr}{t:TT}(h:PT X c t):PF X [c] t:=fun pins s σ H Q I q=>wpAny_tests_one (h pins s σ H Q I q)
noncomputable def sTail(ix:List Nat)(σ:St):St:=ix.map fun i=>(σ[i]?).getD none
def CompR(J:It)(nT:Nat)(tail:St)(g:TG)(tt:TT)(te:TE)(Q:List V->Hp->Prop)(H:Hp):Prop:=
 ∃W:Nat->Nat->List V->Hp->Prop,(∃m,W 0 m [] H)/\∀i m ys H,W i m ys H->
  (J.stop i H/\Q ys H)∨(J.go i H/\ys.length < sizeLine/\∃N:List V->Hp->Prop,(∀ys' H2,N ys' H2->∃m',m' < m/\W (i+1) m' ys' H2)/\
   ∀x H' (ts:St),ts.length=nT->J.yld i H x H'->g x (ts++tail) H' fun σ2 H2=>(∃ts':St,ts'.length=nT/\σ2=ts'++tail)/\tt σ2 H2 fun b H3=>if b=true then te σ2 H3 fun y H4=>N (ys++[y]) H4 else N ys H3)
theorem Kb{tg elt iter:Expr}{ifs:List Expr}{scope:Scope}{pos:Pos}{M:List Str}{nT:Nat}{ix:List Nat}{g:TG}{tt:TT}{te:TE}{it:Addr}{fp:List Addr}{tn:Nat->Heap->Prop}{J:It}{E:Value->Shared->Prop}
  {RR:Value->Addr->Result->Shared->Prop} {Qf:List V->Hp->Prop}
  (I:Inv X pins σ H s) (hc:X.calm=true) (T:Turn X.prog X.w X.K tg J fp it tn) (st:tn 0 s.heap) (hf:∀b∈fp,FpOk X pins H b) (S:CompSc X.N X.env.scope scope M nT ix)
  (hg:∀cl C fp s H,PG (compCx X scope M cl C fp s H) tg g) (hi:∀cl C fp s H,PF (compCx X scope M cl C fp s H) ifs tt) (he:∀cl C fp s H,PE (compCx X scope M cl C fp s H) elt te)
  (h:CompR J nT (sTail ix σ) g tt te Qf H)
  (hRR:∀D C ys m H' s',(∀b o u,H b=some (.frz o u)->H' b=some (.frz o u))->H' D=none->Inv X pins σ (upd H' D (.lst ys)) s'->FpOk X pins (upd H' D (.lst ys)) C->s'.heap.Ns C m->Qf ys H'->RR (.ref D) C (.ok .next) s'):
  wpAny (model X.prog X.w) X.A (newList []) (fun acc s₃=>wpAny (model X.prog X.w) X.A (newFunctionEnv scope X.env.globals (clFrom X.env scope.names []) [] X.env.qual none .none (some X.env)) (fun cenv s₄=>
   codeAny (model X.prog X.w) X.A (.compStart (.ListComp elt [⟨tg,iter,ifs,0⟩] scope pos) 0 (.ref it) acc { cenv with scope:=relabel scope X.env }) (RR acc cenv.locals) s₄) E s₃) E s:=by
 obtain⟨W,⟨m0,w0⟩,turn⟩:=h
 have hfs:∀b∈fp,b < s.heap.objs.size:=fun b hb=>by
  obtain⟨o,e,_⟩:=T.obj 0 _ st b hb
  exact Heap.lt_size e
 refine wpAny_newObj_type (wpAny_newFunctionEnv S.cell (by intro y hy;simp at hy) (fun h₁ hns₁ hsb₁=>?_) S.kind)
 dsimp only at hns₁ hsb₁ ⊢
 generalize hH2:s.heap.push { cls:=.type "list",dict:=none,data:=.seq ([]:List Value).toArray }=H2 at hns₁ hsb₁ ⊢
 have hC:H2.objs.size=s.heap.objs.size+1:=by rw[<- hH2,Heap.size_push]
 have hDC:s.heap.objs.size≠H2.objs.size:=by rw[hC];exact Nat.ne_of_lt (Nat.lt_succ_self _)
 have hCle:s.heap.objs.size<=H2.objs.size:=by rw[hC];exact Nat.le_succ _
 have below:∀b,b < s.heap.objs.size->b≠H2.objs.size/\b≠s.heap.objs.size:=fun b hb=>⟨by rw[hC];exact Nat.ne_of_lt (Nat.lt_succ_of_lt hb),Nat.ne_of_lt hb⟩
 have old:∀b o,s.heap.get? b=some o->h₁.get? b=some o:=fun b o e=>hsb₁.extBut b o (below b (Heap.lt_size e)).1 (Heap.get?_push_of_some _ (hH2▸Heap.get?_push_of_some _ e))
 have hacc:h₁.get? s.heap.objs.size=some (lstO []):=hsb₁.extBut _ _ hDC (Heap.get?_push_of_some _ (hH2▸Heap.get?_push_size _ rfl))
 have hDn:H s.heap.objs.size=none:=I.hok.fresh (Nat.le_refl _)
 have hDfs:s.heap.objs.size∉frs X.stack:=fun hb=>(List.mem_cons.mp (I.stkSub _ hb)).elim (fun e=>absurd I.lt (by rw[<- e];exact Nat.lt_irrefl _)) (I.nofs (Nat.le_refl _))
 generalize hD:s.heap.objs.size=D at*
 generalize hCC:H2.objs.size=C at*
 have J0:∀tk,Inv (compCx X scope M (clFrom X.env scope.names []) C fp s H) [] (sIn nT ix σ) H { s with heap:=h₁,toks:=tk }:=fun tk=>Zs I hf (by rw[hD];exact hfs) S (by rw[hD];exact hCle) old hns₁
 have cne:∀x c,(clFrom X.env scope.names []).lookup x=some c->c≠D:=fun x c e z=>by
  have sub:=zR (qR I S) (acc:=[]) (fun x c h=>by simp at h) x c e
  obtain⟨v,o,ho,_⟩:=I.cell x c sub
  have:=Heap.lt_size ho
  rw[z,hD]at this
  exact Nat.lt_irrefl _ this
 have pinD:∀{σ':St} {H':Hp} {s':Shared} {us:List Value},Inv (compCx X scope M (clFrom X.env scope.names []) C fp s H) [] σ' H' s'->s'.heap.get? D=some (lstO us)->H' D=none->
   Inv (compCx X scope M (clFrom X.env scope.names []) C fp s H) [(D,lstO us)] σ' H' s':=fun {σ' H' s' us} I' e n=>I'.pins_of fun p hp=>by
  have ep:p=(D,lstO us):=by simpa using hp
  subst ep
  exact⟨e,n,hDC,hDfs,fun v z=>by cases z⟩
 have stat:∀{H':Hp} {us:List Value},(∀b∈fp,H' b=none)->∀b∈fp,FpOk (compCx X scope M (clFrom X.env scope.names []) C fp s H) [(D,lstO us)] H' b:=fun {H' us} hn b hb=>
  ⟨hn b hb,((J0 0).ok.exf b hb).1,(J0 0).ok.exfs b hb,.inl hb,((J0 0).ok.exf b hb).2,fun p hp z=>by
   have ep:p=(D,lstO us):=by simpa [compCx] using hp
   rw[ep]at z
   have:=hfs b hb
   rw[<- z]at this
   exact Nat.lt_irrefl _ this⟩
 have loop:∀s₃:Shared,(∃tk,s₃={ s with heap:=h₁,toks:=tk })->
   codeAny (model X.prog X.w) X.A (.compLoop (.ListComp elt [⟨tg,iter,ifs,0⟩] scope pos) 0 (.ref it) (.ref D) (compEnvC scope (clFrom X.env scope.names []) C X.env)) (RR (.ref D) C) s₃:=by
  rintro s₃ ⟨tk,rfl⟩
  refine Yb (fun n s'=>∃i ys us ts H',ts.length=nT/\Inv (compCx X scope M (clFrom X.env scope.names []) C fp s H) [(D,lstO us)] (ts++sTail ix σ) H' s'/\Vals ys us/\ys.length<=sizeLine/\tn i s'.heap/\(∀b∈fp,H' b=none)/\W i n ys H') ?_ m0
   ⟨0,[],[],List.replicate nT none,H,List.length_replicate,pinD (J0 tk) hacc hDn,.nil,Nat.zero_le _,T.keep _ _ _ st fun b hb o e=>old b o e,fun b hb=>(hf b hb).1,w0⟩
  rintro n s1 ⟨i,ys,us,ts,H1,hts,I1,rv,hz,st1,fr1,w1⟩
  rcases turn i n ys H1 w1 with ⟨stop,q⟩ | ⟨go,hlt,N,hN,step⟩
  ·refine thn (T.done (compCx X scope M (clFrom X.env scope.names []) C fp s H) rfl rfl rfl hc i _ s1 _ H1 NoE I1 (stat fr1) st1 stop) fun r s2 ⟨hr,I2⟩=>?_
   subst hr
   have IO:Inv X pins σ H1 s2:=I.call' (ch:=fp) I2.os I2.base I2.hok I2.bare fun b hb=>⟨(hf b hb).2.2.2.1,(hf b hb).2.1,(hf b hb).2.2.2.2.1,(hf b hb).2.2.2.2.2⟩
   have pD:=I2.pin (D,lstO us) (by simp [compCx])
   have hn1:H1 D=none:=pD.2.1
   have fD:FpOk X pins H1 D:=by rw[<- hD];exact I.fpOk (Nat.le_refl _) (by rw[hD];exact hn1)
   have IT:Inv X pins σ (upd H1 D (.lst ys)) s2:=IO.track fD (by rw[<- hD];exact I.sz) ⟨hz,us,us.length,rv,pD.1⟩
   obtain⟨mC,hnC,_⟩:=I2.loc
   have hC1:H1 C=none:=I2.free
   exact hRR D C ys mC H1 s2 I2.base.frzs hn1 IT (I.fpOk (by rw[hD];exact hCle) (by rw[jf (Ne.symm hDC)];exact hC1)) hnC q
  ·refine thn (T.item (compCx X scope M (clFrom X.env scope.names []) C fp s H) rfl rfl rfl hc i _ s1 _ H1 NoE I1 (stat fr1) st1 go) fun r s2 ⟨u,hr,h2⟩=>?_
   subst hr
   refine thn h2 fun _ s3 ⟨x,H3,I3,r3,y3,st3,fr3⟩=>?_
   have I3':=I3.pinned (stat fr3) (T.obj _ _ st3)
   refine thn (hg _ _ _ _ _ _ s3 _ H3 x u _ I3' r3 (step x H3 ts hts y3)) fun _ s4 ⟨σ4,H4,I4,⟨ts4,hts4,e4⟩,q4⟩=>?_
   subst e4
   refine thn (hi _ _ _ _ _ _ s4 _ H4 _ I4 q4) fun b s5 ⟨H5,I5,q5⟩=>?_
   cases b with
   |false=>
    obtain⟨m',hm,w'⟩:∃m',m' < n/\W (i+1) m' ys H5:=hN _ _ q5
    refine⟨m',hm,i+1,ys,us,ts4,H5,hts4,I5.unpinned,rv,hz,T.keep _ _ _ st3 fun b hb o e=>(I5.pin (b,o) (List.mem_append_right _ (List.mem_append_right _ (zg hb e)))).1,fun b hb=>?_,w'⟩
    obtain⟨o,e,d⟩:=T.obj _ _ st3 b hb
    exact(I5.pin (b,o) (List.mem_append_right _ (List.mem_append_right _ (zg hb e)))).2.1
   |true=>
    refine thn (he _ _ _ _ _ _ s5 _ H5 _ I5 q5) fun v s6 ⟨y,H6,I6,r6,q6⟩=>?_
    obtain⟨m',hm,w'⟩:=hN _ _ q6
    have pD:=I6.pin (D,lstO us) (List.mem_append_right _ (List.mem_append_left _ List.mem_cons_self))
    have hl:=rv.length
    have keepfp:∀b∈fp,∀o,s3.heap.get? b=some o->s6.heap.get? b=some o:=fun b hb o e=>(I6.pin (b,o) (List.mem_append_right _ (List.mem_append_right _ (zg hb e)))).1
    have freefp:∀b∈fp,H6 b=none:=fun b hb=>by
     obtain⟨o,e,d⟩:=T.obj _ _ st3 b hb
     exact(I6.pin (b,o) (List.mem_append_right _ (List.mem_append_right _ (zg hb e)))).2.1
    refine append_at (hsz:=by rw[List.size_toArray,<- hl];exact hz) pD.1 fun h7 sb hD7=>?_
    have I7:Inv (compCx X scope M (clFrom X.env scope.names []) C fp s H) [] (ts4++sTail ix σ) H6 { s6 with heap:=h7 }:=
     (I6.pins_of (pins':=[]) fun p hp=>absurd hp (by simp)).turned (t':=s6.toks) (it:=D) (fun b o hb e=>(sb.2 b hb).trans e) pD.2.1 hDC (.inr (by show s.heap.objs.size<=D;rw[hD];exact Nat.le_refl _)) cne fun p hp=>absurd (show p∈([]:List (Addr×Obj)) from hp) (by simp)
    refine⟨m',hm,i+1,ys++[y],us++[v],ts4,H6,hts4,pinD I7 (hD7.trans (congrArg some (Yc us v))) pD.2.1,rv.append (.cons r6 .nil),by rw[List.length_append,List.length_singleton];exact hlt,
     T.keep _ _ _ (T.keep _ _ _ st3 keepfp) fun b hb o e=>(sb.2 b fun z=>?_).trans e,freefp,w'⟩
    have:=hfs b hb
    rw[z]at this
    exact Nat.lt_irrefl _ this
 exact codeAny_compStart_list (loop _ ⟨_,rfl⟩) (T.self _ 0 _ _ _ (T.keep _ _ _ st fun b hb o e=>old b o e) (loop _ ⟨_,rfl⟩))
def tComp(wi:TI)(nT:Nat)(ix:List Nat)(g:TG)(tt:TT)(te:TE):TE:=fun σ H Q=>wi σ H fun J H1=>CompR J nT (sTail ix σ) g tt te (fun ys H'=>∀p,H' p=none->Q (.ref p) (upd H' p (.lst ys))) H1
theorem zc{tg elt iter:Expr}{ifs:List Expr}{scope:Scope}{pos:Pos}{M:List Str}{nT:Nat}{ix:List Nat}{wi:TI}{g:TG}{tt:TT}{te:TE}(hc:X.calm=true)(hI:PI X tg iter wi)(S:CompSc X.N X.env.scope scope M nT ix)
  (hg:∀cl C fp s H,PG (compCx X scope M cl C fp s H) tg g) (hi:∀cl C fp s H,PF (compCx X scope M cl C fp s H) ifs tt) (he:∀cl C fp s H,PE (compCx X scope M cl C fp s H) elt te)
  (hs:∀x,foldedSetIterable iter X.env x=pure x:=by intro _;rfl):
  PE X (.ListComp elt [⟨tg,iter,ifs,0⟩] scope pos) (tComp wi nT ix g tt te):=by
 intro pins s σ H Q I h
 rw[eval_ListComp]
 refine wpAny_comprehension_free (use:=none) rfl hs (qp (qR I S)) S.kind S.loc (thn (hI pins s σ H _ I h) fun xv s1 h1=>thn h1 fun itv s2 h2=>?_)
 obtain⟨it,fp,tn,J,H2,e,I2,T,st2,f2,R⟩:=h2
 subst e
 refine Kb (RR:=fun acc C=>compPost (model X.prog X.w) X.A X.xe none (EP X pins σ Q) acc C) I2 hc T st2 f2 S hg hi he R ?_
 intro D C ys m H' s' _ n I' fC ns q
 exact⟨m,ns,fun h' sb=>⟨.ref D,_,I'.turned (t':=s'.toks) (fun b o hb e=>(sb.2 b hb).trans e) fC.1 fC.2.1 fC.2.2.2.1 fC.2.2.2.2.1 fC.2.2.2.2.2,rfl,q D n⟩⟩
theorem ps_setC{tg elt iter:Expr}{ifs:List Expr}{scope:Scope}{pos py spos:Pos}{y:Str}{i:Nat}{M:List Str}{nT:Nat}{ix:List Nat}{wi:TI}{g:TG}{tt:TT}{te:TE}(hN:X.N.Nodup)(hy:X.N[i]?=some y)(hx:Loc X.env.scope y)
  (hc:X.calm=true) (hI:PI X tg iter wi) (S:CompSc X.N X.env.scope scope M nT ix)
  (hg:∀cl C fp s H,PG (compCx X scope M cl C fp s H) tg g) (hi:∀cl C fp s H,PF (compCx X scope M cl C fp s H) ifs tt) (he:∀cl C fp s H,PE (compCx X scope M cl C fp s H) elt te)
  (hsw:swapsWith (.ListComp elt [⟨tg,iter,ifs,0⟩] scope pos) (some (.Name y py)) spos.line X.env=pure true:=by rfl)
  (hf:X.fn y=true∨X.env.scope.names.lookup y=some .local:=by first |exact .inl rfl |exact .inr rfl |assumption)
  (hs:∀x,foldedSetIterable iter X.env x=pure x:=by intro _;rfl):
  PS X (.Assign [.Name y py] (.ListComp elt [⟨tg,iter,ifs,0⟩] scope pos) spos) (fun D σ H=>tComp wi nT ix g tt te σ H fun v H1=>D.nx (σ.set i (some v)) H1):=by
 intro pins s σ H D I h
 rw[exec_Assign_Name_used _ _ _ _ hsw]
 refine wpAny_bind (wpAny_standAt (wpAny_bind ?_))
 show wpAny _ X.A (do let _ <- comprehension (.ListComp elt [⟨tg,iter,ifs,0⟩] scope pos) scope X.env _ (newList []) false (eval iter X.env) (some (assign (.Name y py) X.env))) _ _ s
 refine wpAny_bind (thn (wpAny_comprehension_free (use:=some (assign (.Name y py) X.env)) (Q:=fun _ s'=>SP X pins D .next s') rfl hs (qp (qR I S)) S.kind S.loc
  (thn (hI pins s σ H _ I h) fun xv s1 h1=>thn h1 fun itv s2 h2=>?_)) fun _ s' hq=>wpAny_pure (wpAny_pure hq))
 obtain⟨it,fp,tn,J,H2,e,I2,T,st2,f2,R⟩:=h2
 subst e
 refine Kb (RR:=fun acc C=>compPost (model X.prog X.w) X.A X.xe (some (assign (.Name y py) X.env)) (fun _ s'=>SP X pins D .next s') acc C) I2 hc T st2 f2 S hg hi he R ?_
 intro Dd C ys m H' s' _ n I' fC ns q
 show wpAny _ X.A (assign (.Name y py) X.env (.ref Dd)) _ _ s'
 refine wpAny_assign_Name (KB I' hN hy hx (v:=.ref Dd) rfl (fun s'' I'' hh=>?_) hf)
 obtain⟨a,sb,ha⟩:=hh
 have hCa:C≠a:=by
  rcases ha with z |z
  ·rw[z];exact fC.2.1
  ·exact Ne.symm (fC.2.2.2.2.1 _ _ z)
 exact⟨m,ns.sameBut sb hCa,fun h' sb'=>⟨_,_,I''.turned (t':=s''.toks) (fun b o hb e=>(sb'.2 b hb).trans e) fC.1 fC.2.1 fC.2.2.2.1 fC.2.2.2.2.1 fC.2.2.2.2.2,q Dd n⟩⟩
end
section
variable {X:Cx}
def CDivB(i j:Int):Prop:=0 < j/\j<=1000000000000000000
theorem qU:OpR X (binaryOp .FloorDiv) (rI CDivB fun i j=>.int (i / j)):=opI fun i j _ _ _ _ _ hc q=>by
 have h1:(0:Int) < j:=hc.1
 have h2:j<=1000000000000000000:=hc.2
 refine floordiv_int (by omega) (by rw[Int.fdiv_eq_ediv_of_nonneg i (by omega)];exact q) (.inl (PyProof.noPylong_of_log2 ?_))
 have h3:j.natAbs≠0:=by omega
 have h4:j.natAbs < 2 ^ 60:=by omega
 have h5:j.natAbs.log2 < 60:=(Nat.log2_lt h3).mpr h4
 omega
noncomputable def clsV:V->Option Value
 | .ty n=>some (.type n)
 | .ref a=>some (.ref a)
 |_=>none
theorem zG:CallR X (.builtin "isinstance") (fun xs H Q=>∃x y c t b,xs=[x,y]/\clsV y=some c/\TyOf X.K H x t/\kitOne X.K t c=some b/\Q (.bl b) H):=by
 intro pins s σ H xs us Q I r h
 obtain⟨x,y,c,t,b,rfl,hc,ty,e,q⟩:=h
 obtain⟨u,w',rfl,rx,ry⟩:=vals2 r
 have ec:w'=c:=by
  cases y with
  |ty n=>exact Eq.trans ry (Option.some.inj hc)
  |ref a=>exact Eq.trans ry (Option.some.inj hc)
  |_=>cases hc
 subst ec
 exact X4 I rx ty e fun tk=>⟨.bl b,H,I.tok tk,rfl,q⟩
theorem Jw:∀{bs:List Bool} {us:List Value},Vals (bs.map V.bl) us->LSm.BoolsAre us bs
 | [],_,.nil=>.nil
 |b::r,_,.cons (b:=u) h t=>by
  have e:u=Value.bool b:=h
  subst e
  exact .cons b (Jw t)
theorem Zt(hc:X.calm=true):CallR X (.builtin "all") (fun xs H Q=>∃(p:Addr) (bs:List Bool),xs=[.ref p]/\SqL X.K H p (bs.map V.bl)/\Q (.bl (bs.all id)) H):=by
 intro pins s σ H xs us Q I r h
 obtain⟨p,bs,rfl,hq,q⟩:=h
 obtain⟨u,rfl,rx⟩:=vals1 r
 cases rx
 obtain⟨its,r',pl,hz⟩:=I.list hq
 have hb:=Jw r'
 have hl:=pl.isList
 have hlt:p < s.heap.objs.size:=by obtain⟨_,e,_⟩:=hl;exact Heap.lt_size e
 refine call_all_walk (wpAny_pyIter_list hl ?_)
 refine⟨s.heap.objs.size,[s.heap.objs.size,p],[s.heap.objs.size],its.toArray.size,_,_,fun i=>(bs[i]?).getD true,rfl,Walks.list (A:=X.A.in1) (I.ok.hd hc) _ p (Nat.ne_of_lt hlt) its.toArray,
  ⟨⟨_,Heap.get?_push_size _ rfl,rfl,rfl⟩,hl.push _⟩,fun i v s' Q' E' hP hQ=>?_,fun h' tk hk=>?_⟩
 ·obtain⟨b,e,rfl⟩:=hb.get i v (by simpa using hP)
  simp only[e,Option.getD_some]at hQ
  exact wpAny_truthy_bool hQ
 ·have e:((List.range its.toArray.size).all fun i=>(bs[i]?).getD true)=bs.all id:=by
   rw[List.size_toArray,hb.length];exact LSm.range_all bs
  rw[e]
  exact⟨.bl _,H,I.kept (t':=tk) (LSm.kept_iter hk),rfl,q⟩
theorem Kc:∀{ys:List Str} {us:List Value},Vals (ys.map V.str) us->StrsAre us ys
 | [],_,.nil=>.nil
 |y::r,_,.cons (b:=u) h t=>by
  obtain⟨tk,e⟩:∃tk,u=Value.str y tk:=h
  subst e
  exact .cons y tk (Kc t)
theorem K8:MtR X "str.join" (fun x xs H Q=>∃(z:Str) (p:Addr) (ys:List Str),x= .str z/\xs=[.ref p]/\SqL X.K H p (ys.map V.str)/\z.length<=16/\(ys.map (·.length)).sum+ys.length<=1048576/\Q (.str (Txt.join z ys)) H):=by
 intro pins s σ H x xs v us Q I rx rs h
 obtain⟨z,p,ys,rfl,rfl,hq,hz,hw,q⟩:=h
 obtain⟨u,rfl,ru⟩:=vals1 rs
 cases ru
 obtain⟨t,rfl⟩:=rx
 obtain⟨its,r',pl,hz'⟩:=I.list hq
 exact join_listW pl.isList (by simpa using Kc r') hz hw fun t' k=>⟨.str _,H,I.tok k,⟨_,rfl⟩,q⟩
noncomputable def cstV:Expr->Option V
 | .Constant (.str x) _ _=>some (.str x)
 | .Constant (.int i) _ _=>some (.int i)
 |_=>none
theorem pe_cst{e:Expr}{v:V}(h:cstV e=some v):PE X e (tC v):=by
 cases e with
 |Constant c j p=>
  cases c with
  |str x=>cases h;exact ji
  |int i=>cases h;exact jc
  |_=>cases h
 |_=>cases h
theorem Zu{e:Expr}{es:List Expr}{env:Env}{v:V}(h:cstV e=some v):starEach (e::es) env=(false,eval e env)::starEach es env:=by
 cases e with
 |Constant c j p=>rfl
 |_=>cases h
noncomputable def isCst(e:Expr):Bool:=(cstV e).isSome
noncomputable def cstG(e:Expr):V:=(cstV e).getD .non
theorem JE:∀{es:List Expr},es.all isCst=true->PA X es (fun _ H Q=>Q (es.map cstG) H)
 | [],_=>jb
 |e::es,h=>by
  rw[List.all_cons,Bool.and_eq_true]at h
  obtain⟨v,hv⟩:=Option.isSome_iff_exists.mp (show(cstV e).isSome=true from h.1)
  have hg:cstG e=v:=by unfold cstG;rw[hv];rfl
  rw[List.map_cons,hg]
  exact ja (pe_cst hv) (JE h.2) (Zu hv)
theorem Xy{es:List Expr}(ys:List Str)(h:(es.all isCst&&decide (es.map cstG=ys.map V.str))=true):PA X es (fun _ H Q=>Q (ys.map V.str) H):=by
 rw[Bool.and_eq_true]at h
 have e:=of_decide_eq_true h.2
 rw[<- e]
 exact JE h.1
theorem Yd{es:List Expr}(h:es.all isCst=true):(es.map cstG).all flatV=true:=by
 rw[List.all_eq_true]at h ⊢
 intro v hv
 obtain⟨e,he,rfl⟩:=List.mem_map.mp hv
 have q:=h e he
 unfold isCst at q
 unfold cstG
 cases e with
 |Constant c j p=>
  cases c with
  |str x=>rfl
  |int i=>rfl
  |_=>exact absurd q Bool.false_ne_true
 |_=>exact absurd q Bool.false_ne_true
def tMid(t:TS):TS:=fun D σ H=>∃R:St->Hp->Prop,t { D with nx:=R } σ H/\∀σ' H',R σ' H'->D.nx σ' H'
theorem jW{st:Stmt}{t:TS}(h:PS X st t):PS X st (tMid t):=by
 intro pins s σ H D I hw
 obtain⟨R,h1,h2⟩:=hw
 refine thn (h pins s σ H _ I h1) fun f s' q=>?_
 cases f with
 |next=>obtain⟨σ',H',I',q⟩:=q;exact⟨σ',H',I',h2 _ _ q⟩
 |brk=>exact q
 |cont=>exact q
 |ret v=>exact q
theorem len1{ts:St}(h:ts.length=1):∃v,ts=[v]:=by
 match ts,h with
 | [v],_=>exact⟨v,rfl⟩
theorem QC{lo:Int}{n:Nat}{te:TE}{Qf:List V->Hp->Prop}{σt:St}{H:Hp}(Pv:Nat->List V->Hp->Prop)(h0:Pv 0 [] H)(hz:n<=sizeLine)(hlen:∀i ys H',Pv i ys H'->ys.length<=i)
  (hs:∀i ys H',i < n->Pv i ys H'->te (some (.int (lo+i))::σt) H' fun y H2=>Pv (i+1) (ys++[y]) H2) (hd:∀ys H',Pv n ys H'->Qf ys H'):
  CompR (Itr lo n) 1 σt (gName 0) tAll te Qf H:=by
 refine⟨fun i m ys H'=>m=n - i/\i<=n/\Pv i ys H',⟨n,by simp,Nat.zero_le _,h0⟩,?_⟩
 rintro i m ys H' ⟨rfl,hi,p⟩
 by_cases hlt:i < n
 ·refine .inr ⟨hlt,Nat.lt_of_le_of_lt (hlen i ys H' p) (Nat.lt_of_lt_of_le hlt hz),Pv (i+1),fun ys' H2 p'=>⟨n - (i+1),by omega,rfl,hlt,p'⟩,fun x H2 ts hts y=>?_⟩
  obtain⟨e,y⟩:=y
  subst e y
  obtain⟨v,rfl⟩:=len1 hts
  exact⟨⟨[some _],rfl,rfl⟩,hs i ys _ hlt p⟩
 ·have e:i=n:=by omega
  subst e
  exact .inl ⟨Nat.le_refl _,hd ys H' p⟩
end
section
variable {κ:Type}[DecidableEq κ]
noncomputable def valV(kvs:List (κ×V))(k:κ):Option V:=(kvs.find? fun kv=>decide (kv.1=k)).map (·.2)
noncomputable def putK(kvs:List (κ×V))(k:κ)(v:V):List (κ×V):=
 if (kvs.any fun kv=>decide (kv.1=k))=true then kvs.map (fun kv=>if kv.1=k then (kv.1,v) else kv) else kvs++[(k,v)]
theorem jZ{p:κ×V}{r:List (κ×V)}{k:κ}(e:p.1=k):valV (p::r) k=some p.2:=by simp [valV,List.find?_cons,e]
theorem j0{p:κ×V}{r:List (κ×V)}{k:κ}(e:¬p.1=k):valV (p::r) k=valV r k:=by simp [valV,List.find?_cons,e]
theorem qV(k:κ):∀kvs:List (κ×V),(kvs.any fun kv=>decide (kv.1=k))=(valV kvs k).isSome
 | []=>rfl
 |p::r=>by
  rw[List.any_cons]
  by_cases e:p.1=k
  ·simp only[jZ e,decide_eq_true e,Bool.true_or,Option.isSome_some]
  ·rw[j0 e,decide_eq_false e,Bool.false_or];exact qV k r
theorem Qm(k j:κ)(y:V):∀kvs:List (κ×V),valV (kvs.map fun kv=>if kv.1=k then (kv.1,y) else kv) j=(valV kvs j).map fun x=>if j=k then y else x
 | []=>rfl
 |p::r=>by
  have ih:=Qm k j y r
  rw[List.map_cons]
  by_cases h:p.1=k
  ·rw[if_pos h]
   by_cases e:p.1=j
   ·rw[jZ (p:=(p.1,y)) e,jZ e,Option.map_some,if_pos (e.symm.trans h)]
   ·rw[j0 (p:=(p.1,y)) e,j0 e,ih]
  ·rw[if_neg h]
   by_cases e:p.1=j
   ·rw[jZ (p:=p) e,jZ e,Option.map_some,if_neg (fun z=>h (e.trans z))]
   ·rw[j0 (p:=p) e,j0 e,ih]
theorem KK(k j:κ)(y:V):∀kvs:List (κ×V),valV kvs k=none->valV (kvs++[(k,y)]) j=if j=k then some y else valV kvs j
 | [],_=>by
  by_cases e:k=j
  ·rw[if_pos e.symm];exact jZ (p:=(k,y)) e
  ·rw[if_neg (fun z=>e z.symm)];exact j0 (p:=(k,y)) e
 |p::r,hn=>by
  rw[List.cons_append]
  have hk:¬p.1=k:=fun z=>by rw[jZ z]at hn;cases hn
  rw[j0 hk]at hn
  have ih:=KK k j y r hn
  by_cases e:p.1=j
  ·rw[jZ e,jZ e,if_neg (fun z=>hk (e.trans z))]
  ·rw[j0 e,j0 e,ih]
theorem J1(kvs:List (κ×V))(k j:κ)(y:V):valV (putK kvs k y) j=if j=k then some y else valV kvs j:=by
 unfold putK
 by_cases a:(kvs.any fun kv=>decide (kv.1=k))=true
 ·rw[if_pos a,Qm]
  rw[qV]at a
  by_cases e:j=k
  ·obtain⟨x,hx⟩:=Option.isSome_iff_exists.mp a
   rw[if_pos e,e,hx,Option.map_some,if_pos rfl]
  ·rw[if_neg e]
   cases valV kvs j with
   |none=>rfl
   |some x=>rw[Option.map_some,if_neg e]
 ·rw[if_neg a]
  refine KK k j y kvs ?_
  rw[qV]at a
  cases q:valV kvs k with
  |none=>rfl
  |some x=>rw[q]at a;exact(a rfl).elim
theorem qe(kvs:List (κ×V))(k:κ)(v:V):(putK kvs k v).length<=kvs.length+1:=by
 unfold putK
 split
 ·rw[List.length_map];omega
 ·rw[List.length_append,List.length_cons,List.length_nil];omega
theorem RelO.isSome_eq{o:Option V}{u:Option Value}(r:RelO o u):o.isSome=u.isSome:=by
 cases o with
 |none=>cases u with
  |none=>rfl
  |some _=>exact(show False from r).elim
 |some _=>cases u with
  |none=>exact(show False from r).elim
  |some _=>rfl
theorem RelO.getD{o:Option V}{u:Option Value}{d:V}{d':Value}(r:RelO o u)(rd:RelV d d'):RelV (o.getD d) (u.getD d'):=by
 cases o with
 |none=>cases u with
  |none=>exact rd
  |some _=>exact(show False from r).elim
 |some _=>cases u with
  |none=>exact(show False from r).elim
  |some _=>exact r
theorem KV.val{kvs:List (κ×V)}{vs:List (κ×Value)}(r:KV kvs vs)(k:κ):RelO (valV kvs k) (valueAt vs k):=by
 unfold KV at r
 induction r with
 |nil=>exact True.intro
 | @cons p q ps qs h t ih=>
  obtain⟨h1,h2⟩:=h
  by_cases e:p.1=k
  ·have e':q.1=k:=h1.symm.trans e
   have b:valueAt (q::qs) k=some q.2:=by simp [valueAt,List.find?_cons,e']
   rw[jZ e,b];exact h2
  ·have e':¬q.1=k:=fun z=>e (h1.trans z)
   have b:valueAt (q::qs) k=valueAt qs k:=by simp [valueAt,List.find?_cons,e']
   rw[j0 e,b];exact ih
theorem KV.any{kvs:List (κ×V)}{vs:List (κ×Value)}(r:KV kvs vs)(k:κ):(kvs.any fun kv=>decide (kv.1=k))=vs.any fun kv=>decide (kv.1=k):=by
 unfold KV at r
 induction r with
 |nil=>rfl
 |cons h t ih=>rw[List.any_cons,List.any_cons,ih,h.1]
theorem KV.repl{kvs:List (κ×V)}{vs:List (κ×Value)}(r:KV kvs vs)(k:κ){y:V}{u:Value}(ry:RelV y u):
  KV (kvs.map fun kv=>if kv.1=k then (kv.1,y) else kv) (vs.map fun kv=>if kv.1=k then (kv.1,u) else kv):=by
 unfold KV at r ⊢
 induction r with
 |nil=>exact .nil
 | @cons p q ps qs h t ih=>
  rw[List.map_cons,List.map_cons]
  refine .cons ?_ ih
  obtain⟨h1,h2⟩:=h
  by_cases e:p.1=k
  ·rw[if_pos e,if_pos (h1.symm.trans e)];exact⟨h1,ry⟩
  ·rw[if_neg e,if_neg (fun z=>e (h1.trans z))];exact⟨h1,h2⟩
theorem KV.put{kvs:List (κ×V)}{vs:List (κ×Value)}(r:KV kvs vs)(k:κ){y:V}{u:Value}(ry:RelV y u):KV (putK kvs k y) (stored vs k u):=by
 unfold putK stored
 rw[r.any k]
 by_cases e:(vs.any fun kv=>decide (kv.1=k))=true
 ·rw[if_pos e,if_pos e];exact r.repl k ry
 ·rw[if_neg e,if_neg e];exact Paired.snoc r ⟨rfl,ry⟩
theorem KV.length{kvs:List (κ×V)}{vs:List (κ×Value)}(r:KV kvs vs):kvs.length=vs.length:=Paired.length r
end
theorem JL{P:Program}{w:World}{k:Key}{u:Value}(r:RelV (kV k) u):(mixKind P w).is k u=true:=by
 cases k with
 |inl i=>obtain⟨t,e⟩:=(show ∃t,u=Value.int i t from r);subst e;exact QA P w i t
 |inr x=>obtain⟨t,e⟩:=(show ∃t,u=Value.str x t from r);subst e;exact QB P w x t
theorem KL{P:Program}{w:World}:∀{ks:List Key} {us:List Value},Vals (ks.map kV) us->ItemsAre (mixKind P w) ks us
 | [],_,r=>by rw[List.map_nil]at r;cases r;exact .nil
 |k::ks,_,r=>by
  rw[List.map_cons]at r
  cases r with
  |cons h t=>exact .cons (JL h) (KL t)
abbrev KT(H:Hp):List (List Key×V)->List (List Key×Addr×Value)->Prop:=Paired fun p q=>p.1=q.1/\H q.2.1=some (.tup (p.1.map kV))/\RelV p.2 q.2.2
theorem KT.val{H:Hp}{kvs:List (List Key×V)}{xs:List (List Key×Addr×Value)}(r:KT H kvs xs)(k:List Key):RelO (valV kvs k) ((atKey xs k).map (·.2)):=by
 induction r with
 |nil=>exact True.intro
 | @cons p q ps qs h t ih=>
  obtain⟨h1,_,h2⟩:=h
  by_cases e:p.1=k
  ·have e':q.1=k:=h1.symm.trans e
   have b:atKey (q::qs) k=some q.2:=by simp [atKey,List.find?_cons,e']
   rw[jZ e,b];exact h2
  ·have e':¬q.1=k:=fun z=>e (h1.trans z)
   have b:atKey (q::qs) k=atKey qs k:=by simp [atKey,List.find?_cons,e']
   rw[j0 e,b];exact ih
theorem KT.repl{H:Hp}{kvs:List (List Key×V)}{xs:List (List Key×Addr×Value)}(r:KT H kvs xs)(k:List Key){y:V}{u:Value}(ry:RelV y u):
  KT H (kvs.map fun kv=>if kv.1=k then (kv.1,y) else kv) (xs.map (putAt k u)):=by
 induction r with
 |nil=>exact .nil
 | @cons p q ps qs h t ih=>
  rw[List.map_cons,List.map_cons]
  refine .cons ?_ ih
  obtain⟨h1,h2,h3⟩:=h
  unfold putAt
  by_cases e:p.1=k
  ·rw[if_pos e,if_pos (h1.symm.trans e)];exact⟨h1,h2,ry⟩
  ·rw[if_neg e,if_neg (fun z=>e (h1.trans z))];exact⟨h1,h2,h3⟩
theorem KT.put{H:Hp}{kvs:List (List Key×V)}{xs:List (List Key×Addr×Value)}(r:KT H kvs xs)(k:List Key){b:Addr}{y:V}{u:Value}(hb:H b=some (.tup (k.map kV)))(ry:RelV y u):
  KT H (putK kvs k y) (storedH xs k b u):=by
 have e:(kvs.any fun kv=>decide (kv.1=k))=(atKey xs k).isSome:=by
  rw[qV,(r.val k).isSome_eq,Option.isSome_map]
 unfold putK storedH
 rw[e]
 by_cases q:(atKey xs k).isSome=true
 ·rw[if_pos q,if_pos q];exact r.repl k ry
 ·rw[if_neg q,if_neg q];exact Paired.snoc r ⟨rfl,hb,ry⟩
theorem KT.keeps{H H':Hp}{kvs:List (List Key×V)}{xs:List (List Key×Addr×Value)}(r:KT H kvs xs)(ht:∀b ys,H b=some (.tup ys)->H' b=some (.tup ys)):KT H' kvs xs:=
 Paired.mapP r fun _ _ z=>⟨z.1,ht _ _ z.2.1,z.2.2⟩
section
variable {P:Program}{w:World}{H:Hp}{h:Heap}{a:Addr}
theorem rd_of{u:HO}(ok:HOk P w H h)(e:Rd H a u):ObjOk P w H h a u:=e.ok ok
theorem JM{kvs:List (Key×V)}(ok:HOk P w H h)(e:Rd H a (.dK kvs)):kvs.length<=sizeLine/\(a==sysModules)=false/\∃vs,KV kvs vs/\h.DictOf (mixKind P w) a vs:=
 show ObjOk P w H h a (.dK kvs) from rd_of ok e
theorem Jr{kvs:List (Key×V)}(ok:HOk P w H h)(e:H a=some (.dK kvs)):kvs.length<=sizeLine/\(a==sysModules)=false/\∃vs,KV kvs vs/\h.DictOf (mixKind P w) a vs:=JM ok (.inl e)
theorem JV{ks:List Key}(ok:HOk P w H h)(e:H a=some (.tup (ks.map kV))):(tupleKind (mixKind P w)).is h ks a:=by
 obtain⟨_,its,r,o,h1,h2,n,h3⟩:=(show ObjOk P w H h a (.tup (ks.map kV)) from ok a _ e)
 exact⟨o,its.toArray,n,h1,h2,h3,by simpa using KL r⟩
theorem KA{kvs:List (List Key×V)}(ok:HOk P w H h)(e:Rd H a (.dT kvs)):kvs.length<=sizeLine/\(a==sysModules)=false/\
  ∃xs,KT H kvs xs/\h.DictOfH (tupleKind (mixKind P w)) a xs:=by
 obtain⟨z,y,xs,r,o,es,ep,h1,h2,h3,h4,h5⟩:=(show ObjOk P w H h a (.dT kvs) from rd_of ok e)
 refine⟨z,y,xs,r,o,es,ep,h1,h2,h3,h4,fun x hx=>?_,h5⟩
 have all:∀{l:List (List Key×V)} {m:List (List Key×Addr×Value)},KT H l m->∀x∈m,(tupleKind (mixKind P w)).is h x.1 x.2.1:=by
  intro l m q
  induction q with
  |nil=>intro x hx;exact nomatch hx
  | @cons p q ps qs hq t ih=>
   intro x hx
   rcases List.mem_cons.mp hx with e |hx
   ·subst e
    exact JV ok (by rw[<- hq.1];exact hq.2.1)
   ·exact ih x hx
 exact all r x hx
theorem dt_of{kvs:List (List Key×V)}(ok:HOk P w H h)(e:H a=some (.dT kvs)):kvs.length<=sizeLine/\(a==sysModules)=false/\
  ∃xs,KT H kvs xs/\h.DictOfH (tupleKind (mixKind P w)) a xs:=KA ok (.inl e)
end
def DGet(H:Hp)(a:Addr)(y:V)(r:Option V):Prop:=
 (∃kvs k,Rd H a (.dK kvs)/\y=kV k/\r=valV kvs k)∨∃kvs k b,Rd H a (.dT kvs)/\y= .ref b/\H b=some (.tup (k.map kV))/\r=valV kvs k
def DPut(H:Hp)(a:Addr)(y v:V)(H':Hp):Prop:=
 (∃kvs k,H a=some (.dK kvs)/\y=kV k/\kvs.length < sizeLine/\H'=upd H a (.dK (putK kvs k v)))∨
 ∃kvs k b,H a=some (.dT kvs)/\y= .ref b/\H b=some (.tup (k.map kV))/\kvs.length < sizeLine/\H'=upd H a (.dT (putK kvs k v))
theorem DGet.k{H:Hp}{a:Addr}{kvs:List (Key×V)}{k:Key}(e:H a=some (.dK kvs)):DGet H a (kV k) (valV kvs k):=.inl ⟨kvs,k,.inl e,rfl,rfl⟩
theorem DPut.k{H:Hp}{a:Addr}{kvs:List (Key×V)}{k:Key}{v:V}(e:H a=some (.dK kvs))(hl:kvs.length < sizeLine):DPut H a (kV k) v (upd H a (.dK (putK kvs k v))):=.inl ⟨kvs,k,e,rfl,hl,rfl⟩
section
variable {X:Cx}{pins:List (Addr×Obj)}{σ:St}{H:Hp}{s:Shared}{a:Addr}{y v:V}{u r:Value}{o:Option V}{A:Around}{E:Value->Shared->Prop}
theorem Inv.big(I:Inv X pins σ H s):sysModules < s.heap.objs.size:=by
 have h:mainGlobals < s.heap.objs.size:=(I.mod.glob.keeps I.bk).lt
 exact Nat.lt_trans (by decide) h
theorem Ye{Q:Value->Shared->Prop}(hu:A.units+1 < cLine)(I:Inv X pins σ H s)(g:DGet H a y (some v))(ry:RelV y u)(h:∀w' s',Inv X pins σ H s'->RelV v w'->Q w' s'):
  wpAny (model X.prog X.w) A (getItem (.ref a) u) Q E s:=by
 rcases g with ⟨kvs,k,e,ey,l⟩ | ⟨kvs,k,b,e,ey,eb,l⟩
 ·subst ey
  obtain⟨z,hd,vs,rel,dd⟩:=JM I.hok e
  obtain⟨w',hw,rw'⟩:=RelO.some_of (v:=v) (o:=valueAt vs k) (by rw[l];exact rel.val k)
  exact wpAny_getItem_of (JL ry) dd.mapOf hw (h w' _ (I.tok _) rw')
 ·subst ey
  cases (show u=Value.ref b from ry)
  obtain⟨z,hd,xs,rel,dd⟩:=KA I.hok e
  obtain⟨w',hw,rw'⟩:=RelO.some_of (v:=v) (o:=(atKey xs k).map (·.2)) (by rw[l];exact rel.val k)
  obtain⟨p,hp,hp2⟩:=Option.map_eq_some_iff.mp hw
  refine wpAny_getItem_heap (tupleKind_room_in1 hu) (JV I.hok eb) dd hp ?_
  rw[hp2]
  exact h w' _ (I.tok _) rw'
theorem d_in{Q:Value->Shared->Prop}(hu:A.units+1 < cLine)(I:Inv X pins σ H s)(g:DGet H a y o)(ry:RelV y u)(h:∀s',Inv X pins σ H s'->Q (.bool o.isSome) s'):
  wpAny (model X.prog X.w) A (compareOp .In u (.ref a)) Q E s:=by
 rcases g with ⟨kvs,k,e,ey,l⟩ | ⟨kvs,k,b,e,ey,eb,l⟩
 ·subst ey
  obtain⟨z,hd,vs,rel,dd⟩:=JM I.hok e
  refine wpAny_in_of (JL ry) hd dd.mapOf ?_
  rw[<- (rel.val k).isSome_eq,<- l]
  exact h _ (I.tok _)
 ·subst ey
  cases (show u=Value.ref b from ry)
  obtain⟨z,hd,xs,rel,dd⟩:=KA I.hok e
  refine wpAny_in_heap (tupleKind_room_in1 hu) (JV I.hok eb) hd dd ?_
  have q:=(rel.val k).isSome_eq
  rw[Option.isSome_map]at q
  rw[<- q,<- l]
  exact h _ (I.tok _)
theorem K9{h':Heap}{t':Nat}{ob:HO}(I:Inv X pins σ H s)(mu:Mut (H a))(hs:Heap.SameBut a s.heap h')(he:∃q,h'.get? a=some q)(new:ObjOk X.prog X.w (upd H a ob) h' a ob):
  Inv X pins σ (upd H a ob) { s with heap:=h',toks:=t' }:=
 I.write (x:=a) (e:=a) mu (.inl rfl) (fun b q hb z=>(hs.2 b hb).trans z) he new
theorem K0{P:Program}{w:World}{H':Hp}{h':Heap}{kvs:List (Key×V)}{vs:List (Key×Value)}(z:kvs.length<=sizeLine)(hd:(a==sysModules)=false)(rel:KV kvs vs)(dd:h'.DictOf (mixKind P w) a vs):
  ObjOk P w H' h' a (.dK kvs):=⟨z,hd,vs,rel,dd⟩
theorem Yf{H':Hp}{Q:Unit->Shared->Prop}(hu:A.units+1 < cLine)(I:Inv X pins σ H s)(g:DPut H a y v H')(ry:RelV y u)(rv:RelV v r)(h:∀s',Inv X pins σ H' s'->Q () s'):
  wpAny (model X.prog X.w) A (setItem (.ref a) u r) Q E s:=by
 rcases g with ⟨kvs,k,e,ey,l,eH⟩ | ⟨kvs,k,b,e,ey,eb,l,eH⟩
 ·subst ey eH
  obtain⟨z,hd,vs,rel,dd⟩:=Jr I.hok e
  have hz:vs.length<=sizeLine:=by rw[<- rel.length];exact z
  have hl:(putK kvs k v).length<=sizeLine:=by have:=qe kvs k v;omega
  refine wpAny_setItem_pairs (hsz:=hz) (JL ry) dd fun h' dd' hs=>h _ ?_
  have he:∃q,h'.get? a=some q:=let ⟨q,_,_,hq,_⟩:=dd';⟨q,hq⟩
  exact K9 I (by rw[e];exact True.intro) hs he (K0 hl hd (rel.put k rv) dd')
 ·subst ey eH
  cases (show u=Value.ref b from ry)
  obtain⟨z,hd,xs,rel,dd⟩:=dt_of I.hok e
  have hz:xs.length<=sizeLine:=by rw[<- Paired.length rel];exact z
  have hl:(putK kvs k v).length<=sizeLine:=by have:=qe kvs k v;omega
  refine wpAny_setItem_heap (hsz:=hz) (tupleKind_room_in1 hu) (JV I.hok eb) dd fun h' dd' hs=>h _ ?_
  obtain⟨q,es,ep,hq,h2,h3,h4,_,h5⟩:=dd'
  refine K9 I (by rw[e];exact True.intro) hs ⟨q,hq⟩ ⟨hl,hd,_,(rel.put k eb rv).keeps fun c ys ec=>?_,q,es,ep,hq,h2,h3,h4,h5⟩
  rw[jf (jz ec e (fun z=>nomatch z))]
  exact ec
end
def NoSl(i:Expr):Prop:=∀ov iv,subscripted i false ov iv=operate [ov,iv] (getItem ov iv)
theorem subD_of{prog:Program}{w:World}{A:Around}{E:Value->Shared->Prop}{s:Shared}{env:Env}{value slice:Expr}{pos:Pos}{T id:String}{Q:Value->Shared->Prop}
  (hl:typeLookup (.type T) "__getitem__"=pure (some (.builtin id))) (hs:NoSl slice)
  (h:wpAny (model prog w) A (eval value env) (fun o s₁=>wpAny (model prog w) A (eval slice env) (fun i s₂=>s₂.TypeIs o T/\wpAny (model prog w) A (getItem o i) Q E s₂) E s₁) E s):
  wpAny (model prog w) A (eval (.Subscript value slice pos) env) Q E s:=by
 refine Subscript_ (wpAny_mono h (fun o s₁ h₁=>wpAny_mono h₁ (fun i s₂ h₂=>?_) fun _ _ x=>x) fun _ _ x=>x)
 obtain⟨hT,h₂⟩:=h₂
 unfold subscriptTail
 refine wpAny_bind ?_
 rw[getitemInPython_of_ne hT.not_modules]
 refine wpAny_bind (wpAny_specialOf hT hl ?_)
 have fin:wpAny (model prog w) A (subscripted slice false o i) (fun r s₃=>wpAny (model prog w) A (letTemporaryGo value o r >>= fun _=>pure r) Q E s₃) E s₂:=by
  rw[hs o i]
  exact wpAny_operating (wpAny_mono h₂ (fun r s₃ h₃=>wpAny_bind (wpAny_letTemporaryGo (wpAny_pure h₃))) fun _ _ x=>x)
 first
  |exact wpAny_pure (wpAny_bind fin)
  |exact wpAny_bind (wpAny_pure (wpAny_bind fin))
  |exact wpAny_bind fin
theorem QD{X:Cx}{pins:List (Addr×Obj)}{σ:St}{H:Hp}{s:Shared}{a:Addr}{y:V}{o:Option V}(I:Inv X pins σ H s)(g:DGet H a y o):s.TypeIs (.ref a) "dict":=by
 rcases g with ⟨kvs,k,e,_,_⟩ | ⟨kvs,k,b,e,_,_,_⟩
 ·obtain⟨_,_,vs,_,dd⟩:=JM I.hok e
  exact dd.typeIs
 ·obtain⟨_,_,xs,_,dd⟩:=KA I.hok e
  exact dd.typeIs
def tDGet(td ty:TE):TE:=fun σ H Q=>td σ H fun x H1=>ty σ H1 fun y H2=>∃a v,x= .ref a/\DGet H2 a y (some v)/\Q v H2
def tDIn(ty td:TE):TE:=fun σ H Q=>ty σ H fun y H1=>td σ H1 fun x H2=>∃a o,x= .ref a/\DGet H2 a y o/\Q (.bl o.isSome) H2
def sDPut(td ty tv:TE):TS:=fun D σ H=>tv σ H fun v H1=>td σ H1 fun x H2=>ty σ H2 fun y H3=>∃a H4,x= .ref a/\DPut H3 a y v H4/\D.nx σ H4
section
variable {X:Cx}{o i e value:Expr}{pos pos' tpos:Pos}{td ty tv:TE}
theorem jX(hu:X.A.units+1 < cLine)(ho:PE X o td)(hi:PE X i ty)(hs:NoSl i):PE X (.Subscript o i pos) (tDGet td ty):=by
 intro pins s σ H Q I h
 refine subD_of PySem.F.slot_dict_getitem.lookup hs (thn (ho pins s σ H _ I h) fun u s1 ⟨x,H1,I1,rx,q1⟩=>thn (hi pins s1 σ H1 _ I1 q1) fun iv s2 ⟨y,H2,I2,ry,a,v,ex,g,q2⟩=>?_)
 subst ex
 obtain rfl:u=Value.ref a:=rx
 exact⟨QD I2 g,Ye hu I2 g ry fun w' s3 I3 rw'=>⟨v,H2,I3,rw',q2⟩⟩
theorem pc_din(hu:X.A.units+1 < cLine)(hi:PE X i ty)(ho:PE X o td):PC X .In i o (tDIn ty td):=by
 intro pins s σ H Q I h
 refine thn (hi pins s σ H _ I h) fun iv s1 ⟨y,H1,I1,ry,q1⟩=>thn (ho pins s1 σ H1 _ I1 q1) fun u s2 ⟨x,H2,I2,rx,a,ov,ex,g,q2⟩=>?_
 subst ex
 obtain rfl:u=Value.ref a:=rx
 exact d_in hu I2 g ry fun s3 I3=>⟨.bl ov.isSome,H2,I3,rfl,q2⟩
theorem jY(hu:X.A.units+1 < cLine)(ho:PE X o td)(hi:PE X i ty)(hv:PE X value tv)(hs:swapsWith value (some (.Subscript o i pos')) pos.line X.env=pure false):
  PS X (.Assign [.Subscript o i pos'] value pos) (sDPut td ty tv):=by
 intro pins s σ H D I h
 refine wpAny_Assign_Subscript (thn (hv pins s σ H _ I h) fun r s1 ⟨v,H1,I1,rv,q1⟩=>thn (ho pins s1 σ H1 _ I1 q1) fun u s2 ⟨x,H2,I2,rx,q2⟩=>thn (hi pins s2 σ H2 _ I2 q2) fun iv s3 ⟨y,H3,I3,ry,a,H4,ex,g,q3⟩=>?_) hs
 subst ex
 obtain rfl:u=Value.ref a:=rx
 exact Yf hu I3 g ry rv fun s4 I4=>⟨σ,H4,I4,q3⟩
end
theorem Qn{P:Program}{w:World}{H:Hp}(h:Heap)(hb:sysModules < h.objs.size):ObjOk P w H (h.push { cls:=.type "dict",data:=.dict #[] }) h.objs.size (.dK []):=
 ⟨Nat.zero_le _,beq_eq_false_iff_ne.mpr (Ne.symm (Nat.ne_of_lt hb)),[],.nil,Heap.DictOf.new h⟩
def tDNewK:TE:=fun _ H Q=>∀p,H p=none->Q (.ref p) (upd H p (.dK []))
section
variable {X:Cx}{pos:Pos}
theorem J2:PE X (.Dict [] [] pos) tDNewK:=fun pins s σ H Q I h=>
 wpAny_Dict_empty ⟨.ref s.heap.objs.size,_,I.laid (a:=s.heap.objs.size) (o:=.dK []) (t':=s.toks) (fun _ _ q=>Heap.get?_push_of_some _ q) (Nat.le_refl _) (Qn s.heap I.big),rfl,h _ (I.hok.fresh (Nat.le_refl _))⟩
end
def tPairs:List (TE×TE)->St->Hp->(List (V×V)->Hp->Prop)->Prop
 | [],_,H,Q=>Q [] H
 | (tk,tv)::r,σ,H,Q=>tk σ H fun x H1=>tv σ H1 fun y H2=>tPairs r σ H2 fun ps H3=>Q ((x,y)::ps) H3
abbrev VV:List (V×V)->List (Value×Value)->Prop:=Paired fun p q=>RelV p.1 q.1/\RelV p.2 q.2
def PPs(X:Cx)(pos:Pos)(keys:List (Option Expr))(values:List Expr)(trs:List (TE×TE)):Prop:=
 ∀(pins:List (Addr×Obj)) (s:Shared) (σ:St) (H:Hp) (Q:List (V×V)->Hp->Prop),Inv X pins σ H s->tPairs trs σ H Q->
  wpAny (model X.prog X.w) X.A (evalPairs (pairTrees keys values X.env pos)) (fun vs s'=>∃ps H',Inv X pins σ H' s'/\VV ps vs/\Q ps H') X.xe s
theorem pps_nil{X:Cx}{pos:Pos}:PPs X pos [] [] []:=fun pins s σ H Q I h=>pairTrees_nil_walk ⟨[],H,I,.nil,h⟩
theorem zM{X:Cx}{pos:Pos}{k v:Expr}{ks:List (Option Expr)}{vs:List Expr}{tk tv:TE}{trs:List (TE×TE)}(hk:PE X k tk)(hv:PE X v tv)(hr:PPs X pos ks vs trs):
  PPs X pos (some k::ks) (v::vs) ((tk,tv)::trs):=fun pins s σ H Q I h=>
 pairTrees_cons_walk (thn (hk pins s σ H _ I h) fun u s1 ⟨x,H1,I1,rx,q1⟩=>thn (hv pins s1 σ H1 _ I1 q1) fun w2 s2 ⟨y,H2,I2,ry,q2⟩=>
  thn (hr pins s2 σ H2 _ I2 q2) fun ws s3 ⟨ps,H3,I3,rel,q3⟩=>⟨(x,y)::ps,H3,I3,.cons ⟨rx,ry⟩ rel,q3⟩)
noncomputable def mergeK(kvs more:List (Key×V)):List (Key×V):=more.foldl (fun acc kv=>putK acc kv.1 kv.2) kvs
theorem KV.merge:∀{more:List (Key×V)} {rs:List (Key×Value)} {kvs:List (Key×V)} {vs:List (Key×Value)},KV more rs->KV kvs vs->KV (mergeK kvs more) (merged vs rs):=by
 intro more rs kvs vs r
 unfold KV at r
 induction r generalizing kvs vs with
 |nil=>intro q;exact q
 | @cons p q ps qs h t ih=>
  intro r0
  have e:KV (putK kvs p.1 p.2) (stored vs q.1 q.2):=by
   have:=r0.put p.1 h.2
   rw[<- h.1];exact this
  exact ih e
theorem qr:∀(more kvs:List (Key×V)),(mergeK kvs more).length<=kvs.length+more.length
 | [],kvs=>by show kvs.length<=kvs.length+0;omega
 |p::r,kvs=>by
  have h1:=qr r (putK kvs p.1 p.2)
  have h2:=qe kvs p.1 p.2
  show(mergeK (putK kvs p.1 p.2) r).length<=_
  rw[List.length_cons];omega
theorem Kd{P:Program}{w:World}:∀{kvs:List (Key×V)} {ws:List (Value×Value)},VV (kvs.map fun kv=>(kV kv.1,kv.2)) ws->∃rs,Carries (mixKind P w) ws rs/\KV kvs rs
 | [],_,r=>by rw[List.map_nil]at r;cases r;exact⟨[],True.intro,.nil⟩
 |p::kvs,_,r=>by
  rw[List.map_cons]at r
  cases r with
  | @cons a b as bs h t=>
   obtain⟨rs,c,q⟩:=Kd (P:=P) (w:=w) t
   obtain⟨b1,b2⟩:=b
   exact⟨(p.1,b2)::rs,⟨JL h.1,rfl,c⟩,.cons ⟨rfl,h.2⟩ q⟩
def tDisp(trs:List (TE×TE)):TE:=fun σ H Q=>∀p,H p=none->tPairs trs σ (upd H p (.dK [])) fun ps H2=>H2 p=some (.dK [])/\∃kvs:List (Key×V),ps=kvs.map (fun kv=>(kV kv.1,kv.2))/\kvs.length<=15/\Q (.ref p) (upd H2 p (.dK (mergeK [] kvs)))
theorem pe_disp{X:Cx}{pos:Pos}{keys:List (Option Expr)}{values:List Expr}{trs:List (TE×TE)}(h:PPs X pos keys values trs)(hall:keys.all (·.isSome)=true)(hl:keys.length=values.length)(h0:keys≠[])
  (h15:keys.length<=15):PE X (.Dict keys values pos) (tDisp trs):=by
 intro pins s σ H Q I q
 have hn:=I.hok.fresh (Nat.le_refl s.heap.objs.size)
 have I1:=I.laid (a:=s.heap.objs.size) (o:=.dK []) (h':=s.heap.push { cls:=.type "dict",data:=.dict #[] }) (t':=s.toks) (fun _ _ q=>Heap.get?_push_of_some _ q) (Nat.le_refl _) (Qn s.heap I.big)
 refine wpAny_Dict_walk (knd:=mixKind X.prog X.w) hall hl h0 h15 (thn (h pins _ σ _ _ I1 (q _ hn)) fun ws s2 ⟨ps,H2,I2,rel,e,kvs,ep,lk,q2⟩=>?_)
 subst ep
 obtain⟨rs,c,rk⟩:=Kd (P:=X.prog) (w:=X.w) rel
 obtain⟨z,hd,vs0,r0,dd⟩:=Jr I2.hok e
 cases r0
 refine⟨rs,c,dd,fun h' dd' hs=>⟨.ref s.heap.objs.size,_,?_,rfl,q2⟩⟩
 have hz:(mergeK [] kvs).length<=sizeLine:=by
  have h1:=qr kvs []
  rw[List.length_nil]at h1
  rw[sizeLine_eq];omega
 have he:∃q,h'.get? s.heap.objs.size=some q:=let ⟨q,_,_,hq,_⟩:=dd';⟨q,hq⟩
 exact K9 I2 (by rw[e];exact True.intro) hs he (K0 hz hd (rk.merge .nil) dd')
structure M2(X:Cx)(o:Expr)(m:Str)(apos:Pos)(e f:Expr)(cpos:Pos):Prop where
 base:attributeBase o m X.env (eval o X.env)=eval o X.env
 few:((backTo cpos (starEach [e,f] X.env)).all (fun x=>!x.1)&&(backToKw cpos (keywordEach [] X.env)).all (fun x=>x.1.isSome)
  &&decide (([e,f]:List Expr).length+([]:List Keyword).length+(if ([]:List Keyword).isEmpty then 0 else 1) < 30))=true
 line:(apos.endLine==cpos.line)=true
 trees:backTo cpos (starEach [e,f] X.env)=[(false,eval e X.env),(false,eval f X.env)]
def IsD(H:Hp)(a:Addr):Prop:=(∃kvs,Rd H a (.dK kvs))∨∃kvs,Rd H a (.dT kvs)
theorem isD_at{X:Cx}{pins:List (Addr×Obj)}{σ:St}{H:Hp}{s:Shared}{a:Addr}(I:Inv X pins σ H s)(d:IsD H a):
  s.TypeIs (.ref a) "dict"/\(∀b,Value.ref a= .ref b->∃ob,s.heap.get? b=some ob/\ob.dict=none)/\(a==sysModules)=false:=by
 rcases d with ⟨kvs,e⟩ | ⟨kvs,e⟩
 ·obtain⟨_,hd,vs,_,dd⟩:=JM I.hok e
  refine⟨dd.typeIs,fun b q=>?_,hd⟩
  cases q
  obtain⟨ob,_,_,h1,h2,_⟩:=dd
  exact⟨ob,h1,h2.2.1⟩
 ·obtain⟨_,hd,xs,_,dd⟩:=KA I.hok e
  refine⟨dd.typeIs,fun b q=>?_,hd⟩
  cases q
  obtain⟨ob,_,_,h1,h2,_⟩:=dd
  exact⟨ob,h1,h2.2.1⟩
section
variable {X:Cx}{pins:List (Addr×Obj)}{σ:St}{H:Hp}{s:Shared}{a:Addr}{y d:V}{u r:Value}{o:Option V}{A:Around}{E:Value->Shared->Prop}
theorem d_get2{Q:Value->Shared->Prop}(hu:A.units+1 < cLine)(I:Inv X pins σ H s)(g:DGet H a y o)(ry:RelV y u)(rd:RelV d r)(h:∀w' s',Inv X pins σ H s'->RelV (o.getD d) w'->Q w' s'):
  wpAny (model X.prog X.w) A (call (.builtin "dict.get") [.ref a,u,r]) Q E s:=by
 rcases g with ⟨kvs,k,e,ey,l⟩ | ⟨kvs,k,b,e,ey,eb,l⟩
 ·subst ey
  obtain⟨z,hd,vs,rel,dd⟩:=JM I.hok e
  refine call_meetsIn PySem.F.slot_dict_get dd.typeIs PySem.F.entry_dict_get (PySem.F.args_dict_get_3 _ _ _) (meets_dict_get_default (mixKind X.prog X.w) a (JL ry) hd r) ⟨_,dd.mapOf,h _ _ (I.tok _) ?_⟩
  rw[l]
  exact(rel.val k).getD rd
 ·subst ey
  cases (show u=Value.ref b from ry)
  obtain⟨z,hd,xs,rel,dd⟩:=KA I.hok e
  refine call_meetsIn PySem.F.slot_dict_get dd.typeIs PySem.F.entry_dict_get (PySem.F.args_dict_get_3 _ _ _) (meetsH_dict_get_default (tupleKind (mixKind X.prog X.w)) a b hd r) ⟨tupleKind_room_in1 hu,k,xs,JV I.hok eb,dd,h _ _ (I.tok _) ?_⟩
  rw[l]
  exact(rel.val k).getD rd
end
def tDGet2(td ty tx:TE):TE:=fun σ H Q=>td σ H fun x H1=>∃a,x= .ref a/\IsD H1 a/\ty σ H1 fun y H2=>tx σ H2 fun z H3=>∃o,DGet H3 a y o/\Q (o.getD z) H3
section
variable {X:Cx}{o e f:Expr}{apos cpos:Pos}{td ty tx:TE}
theorem qW(hu:X.A.units+1 < cLine)(ho:PE X o td)(he:PE X e ty)(hf:PE X f tx)(m:M2 X o "get" apos e f cpos):PE X (.Call (.Attribute o "get" apos) [e,f] [] cpos) (tDGet2 td ty tx):=by
 intro pins s σ H Q I h
 refine wpAny_Call_method m.base m.few m.line PySem.F.plainAttrs_dict PySem.F.slot_dict_get PySem.F.type_dict_get (thn (ho pins s σ H _ I h) fun u s1 ⟨x,H1,I1,rx,a,ex,d,q1⟩=>?_)
 subst ex
 obtain rfl:u=Value.ref a:=rx
 obtain⟨t1,t2,_⟩:=isD_at I1 d
 refine⟨t1,t2,?_⟩
 rw[m.trees]
 refine Calls.callWith_builtin rfl (Calls.evalArgs_plain (Calls.spliced_cons (thn (he pins s1 σ H1 _ I1 q1) fun iv s2 ⟨y,H2,I2,ry,q2⟩=>
  Calls.spliced_cons (thn (hf pins s2 σ H2 _ I2 q2) fun fv s3 ⟨z,H3,I3,rz,ov,g,q3⟩=>Calls.spliced_nil ?_))))
 exact d_get2 hu I3 g ry rz fun w' s4 I4 rw'=>⟨_,H3,I4,rw',q3⟩
end
section
variable {X:Cx}{pins:List (Addr×Obj)}{σ:St}{H:Hp}{s:Shared}{a:Addr}{kvs:List (Key×V)}{A:Around}{E:Value->Shared->Prop}
theorem Zv{Q:Value->Shared->Prop}(I:Inv X pins σ H s)(e:Rd H a (.dK kvs))(h:∀p s',H p=none->Inv X pins σ (upd H p (.dK kvs)) s'->Q (.ref p) s'):wpAny (model X.prog X.w) A (call (.type "dict") [.ref a]) Q E s:=by
 obtain⟨z,hd,vs,rel,dd⟩:=JM I.hok e
 refine kt_call_dict hd dd (by rw[<- rel.length];exact z) fun h' dd' hs=>?_
 refine h _ _ (I.hok.fresh (Nat.le_refl _)) (I.laid (a:=s.heap.objs.size) (o:=.dK kvs) (t':=s.toks) (fun b q hq=>?_) (Nat.le_refl _) (K0 z (beq_eq_false_iff_ne.mpr (Ne.symm (Nat.ne_of_lt I.big))) rel dd'))
 exact(hs.2 b (Nat.ne_of_lt (Heap.lt_size hq))).trans (Heap.get?_push_of_some _ hq)
end
section
variable {X:Cx}{pins:List (Addr×Obj)}{σ:St}{H:Hp}{s:Shared}
theorem KV.get{κ:Type}:∀{kvs:List (κ×V)} {vs:List (κ×Value)} {i:Nat} {k:κ} {x:V},KV kvs vs->kvs[i]?=some (k,x)->∃v,vs[i]?=some (k,v)/\RelV x v
 |_,_,_,_,_,.nil,e=>by simp at e
 |_,_,0,k,x,.cons (b:=q) r _,e=>by
  simp at e
  subst e
  obtain⟨r1,r2⟩:=r
  obtain⟨q1,q2⟩:=q
  cases r1
  exact⟨q2,rfl,r2⟩
 |_,_,i+1,k,x,.cons _ t,e=>by
  obtain⟨v,h1,h2⟩:=KV.get (i:=i) t (by simpa using e)
  exact⟨v,by simpa using h1,h2⟩
theorem relK{k:Key}{v:Value}(h:keyIs k v=true):RelV (kV k) v:=by
 rcases jQ h with ⟨i,t,rfl,rfl⟩ | ⟨x,t,rfl,rfl⟩
 ·exact⟨t,rfl⟩
 ·exact⟨t,rfl⟩
theorem Jl:CallR X (.type "dict") (fun xs H Q=>∃a kvs,xs=[.ref a]/\H a=some (.dK kvs)/\∀p,H p=none->Q (.ref p) (upd H p (.dK kvs))):=by
 intro pins s σ H xs us Q I r h
 obtain⟨a,kvs,rfl,ha,q⟩:=h
 obtain⟨u,rfl,rx⟩:=vals1 r
 cases rx
 exact Zv I (.inl ha) fun p s' np I'=>⟨.ref p,_,I',rfl,q p np⟩
theorem Jx{κ:Type}[DecidableEq κ]{k:κ}{y:Value}:∀{kb:List (κ×Value)},(kb.map (·.1)).Nodup->(k,y)∈kb->valueAt kb k=some y
 | [],_,h=>nomatch h
 | (j,z)::r,nd,h=>by
  unfold valueAt
  rw[List.map_cons,List.nodup_cons]at nd
  rcases List.mem_cons.mp h with e |h
  ·cases e
   simp [List.find?_cons]
  ·have hj:¬j=k:=fun e=>nd.1 (by rw[e];exact List.mem_map.mpr ⟨_,h,rfl⟩)
   rw[List.find?_cons]
   simp only[hj,decide_false]
   exact Jx nd.2 h
theorem Qo{κ:Type}[DecidableEq κ]{A:Around}{s:Shared}{kb:List (κ×Value)}:∀{l:List (κ×Value)},(∀p∈l,∃y,valueAt kb p.1=some y/\SeqAt.EqAt A s p.2 y true)->PySem.W.KeqHits A s kb l true
 | [],_=>.nil
 | (k,v)::r,h=>by
  obtain⟨y,h1,h2⟩:=h (k,v) List.mem_cons_self
  exact .hit (e:=true) (b:=true) h1 h2 (Qo fun p hp=>h p (List.mem_cons_of_mem _ hp))
theorem Zw:MtR X "str.index" (fun x xs H Q=>∃(z y:Str) (i:Nat) (rest:List Nat),x= .str z/\xs=[.str y]/\Builtin.Str.occurrences z y 0 z.length 1=i::rest/\Q (.int i) H):=by
 intro pins s σ H x xs v us Q I rx rs h
 obtain⟨z,y,i,rest,rfl,rfl,ho,q⟩:=h
 obtain⟨u,rfl,t',rfl⟩:=vals1 rs
 obtain⟨t,rfl⟩:=rx
 exact SC.index ho ⟨.int i,H,I.tok _,⟨_,rfl⟩,q⟩
end
section
open PySem.W PySem.Calls Builtin Builtin.ObjectAttr
variable {prog:Program}{w:World}{A:Around}{E:Value->Shared->Prop}{s:Shared}{K:Frag}{x C:Addr}{ox:Obj}{od:Option Obj}{name:Str}
theorem Zx:builtinKind "BaseException.__getattribute__"=some .slot:=by decide+kernel
theorem Yg:splitId "BaseException.__getattribute__"=some ("BaseException","__getattribute__"):=by decide+kernel
theorem ga_run{tk:Tok}{R:Result->Shared->Prop}(X:K.In s.heap)(I:InstAt s.heap x ox C od)(hb:mroIn K C (.type "BaseException")=some true)
  (h:wpAny (model prog w) A.in1 (Builtin.«object.__getattribute__» ⟨[.ref x,.str name tk],[]⟩) (fun fin s'=>match fin with | .done f=>R (.ok f) s' | .again c'=>c'.quiet=true/\codeAny (model prog w) A c' R s') (fun e s'=>R (.error e) s') s):
  codeAny (model prog w) A (.call (.builtin "BaseException.__getattribute__") ⟨[.ref x,.str name tk],[]⟩) R s:=
 codeAny_call_builtin PySem.F.excAttr_ValueError.ga.plain PySem.F.entry_bexc_ga
  (@check_slot (model prog w) _ _ s "BaseException.__getattribute__" "BaseException" "__getattribute__" (.ref x) [.str name tk] [] _ Zx Yg (I.type.andThen (looks_mroIn X hb)) (PySem.F.args_bexc_ga (.ref x) (.str name tk)) h)
theorem Y2{tk:Tok}{fill expr:Bool}{Q:Value->Shared->Prop}(X:K.In s.heap)(I:InstAt s.heap x ox C od)(hga:findIn K (.ref C) "__getattribute__"=some (some (.builtin "BaseException.__getattribute__")))(hgh:findIn K (.ref C) "__getattr__"=some none)
  (hb:mroIn K C (.type "BaseException")=some true)
  (h:wpAny (model prog w) A.in1 (Builtin.«object.__getattribute__» ⟨[.ref x,.str name tk],[]⟩) (fun fin s'=>match fin with | .done (.ret v)=>wpAny (model prog w) A (handedOut v) Q E s' |_=>False) (fun _ _=>False) s):
  wpAny (model prog w) A (getAttrBy (.ref x) (.str name tk) fill expr) Q E s:=by
 obtain⟨hh,g,d,t,os⟩:=s
 have L0:=I.type (M:=model prog w)
 have L1:=looks_findIn (M:=model prog w) X hga
 have L2:=looks_findIn (M:=model prog w) X hgh
 unfold getAttrBy
 refine wpAny_holding (wpAny_bind (L0.at (wpAny_bind (L1.at ?_))))
 show wpAny _ _ (getAttrByItsOwn _ _ _ _ _ _) _ _ _
 unfold getAttrByItsOwn
 refine wpAny_bind (show wpAny _ _ (typeLookup (.ref C) "__getattr__") _ _ _ from L2.at ?_)
 refine wpAny_bind (wpAny_attempt (wpAny_holding ?_))
 have e0:callGetattribute (.ref x) (.str name tk) (.builtin "BaseException.__getattribute__") expr=boundAndCalled (.builtin "BaseException.__getattribute__") (.ref x) (.str name tk):=by cases expr<;>rfl
 rw[e0]
 unfold boundAndCalled
 rw[PySem.F.excAttr_ValueError.ga.bind]
 refine wpAny_bind (wpAny_pure (wpAny_call (ga_run X I hb (wpAny_mono h (fun fin s' z=>?_) fun _ _ z=>z.elim))))
 rcases fin with (_ |_ |_ |_) |_<;>first |exact z |exact z.elim
theorem get_exc{v:Value}{expr:Bool}{Q:Value->Shared->Prop}(X:K.In s.heap)(I:InstAt s.heap x ox C od)(hga:findIn K (.ref C) "__getattribute__"=some (some (.builtin "BaseException.__getattribute__")))(hgh:findIn K (.ref C) "__getattr__"=some none)
  (hb:mroIn K C (.type "BaseException")=some true) (hf:findObj K C od name=some (.value v)) (hv:handedIn v=true) (h:Q v { s with toks:=s.toks+1 }):wpAny (model prog w) A (getAttr (.ref x) name expr) Q E s:=by
 unfold getAttr
 refine wpAny_bind (wpAny_mkText (Y2 (s:={ s with toks:=s.toks+1 }) X I hga hgh hb ?_))
 obtain⟨hh,g,d,t,os⟩:=s
 have L0:=I.type (M:=model prog w)
 have L1:=looks_find (M:=model prog w) X I hf
 refine wpAny_bind (wpAny_pure (wpAny_bind (wpAny_pure (wpAny_bind (L0.at (wpAny_bind (L1.at ?_)))))))
 refine wpAny_pure ?_
 show wpAny _ _ (handedOut v) _ _ _
 rw[handedOut_of hv];exact wpAny_pure h
theorem Yh{Q:Option Value->Shared->Prop}(X:K.In s.heap)(I:InstAt s.heap x ox C od)(hga:findIn K (.ref C) "__getattribute__"=some (some (.builtin "BaseException.__getattribute__")))(hgh:findIn K (.ref C) "__getattr__"=some none)
  (hb:mroIn K C (.type "BaseException")=some true) (hf:findObj K C od "__class__"=some (.bind (.builtin "getset_descriptor.__get__") (.builtin "object.__class__"))) (hm:mroIn K C (.type "object")=some true) (h:Q (some (.ref C)) { s with toks:=s.toks+1 }):
  wpAny (model prog w) A (getAttr? (.ref x) "__class__") Q E s:=by
 unfold getAttr? getAttrBy?
 refine wpAny_bind (wpAny_mkText (wpAny_bind (wpAny_attempt (Y2 (s:={ s with toks:=s.toks+1 }) X I hga hgh hb ?_))))
 obtain⟨hh,g,d,t,os⟩:=s
 have L0:=I.type (M:=model prog w)
 have L1:=looks_find (M:=model prog w) X I hf
 refine wpAny_bind (wpAny_pure (wpAny_bind (wpAny_pure (wpAny_bind (L0.at (wpAny_bind (L1.at ?_)))))))
 show wpAny _ _ (bindTo _ _ _ _) _ _ _
 unfold bindTo
 refine wpAny_bind (wpAny_holding (wpAny_call (class_get (ox:=ox) (od:=od) X I hm ?_)))
 refine wpAny_pure ?_
 exact handed_on rfl (wpAny_pure h)
theorem QE{a g:Value}(hc:(clsIn K C).isSome=true)(ha:findIn K (.ref C) name=some (some a))(hg:specialIn K a "__get__"=some (some g))(ht:takesIn K a=some true):findObj K C od name=some (.bind g a):=by
 obtain⟨cd,hc⟩:=Option.isSome_iff_exists.mp hc
 unfold findObj
 rw[hc,Option.bind_some,ha,Option.bind_some]
 simp [hg,ht]
structure XCls(K:Frag)(C:Addr):Prop where
 ga:findIn K (.ref C) "__getattribute__"=some (some (.builtin "BaseException.__getattribute__"))
 gh:findIn K (.ref C) "__getattr__"=some none
 sa:findIn K (.ref C) "__setattr__"=some (some (.builtin "object.__setattr__"))
 cl:findIn K (.ref C) "__class__"=some (some (.builtin "object.__class__"))
 gt:specialIn K (.builtin "object.__class__") "__get__"=some (some (.builtin "getset_descriptor.__get__"))
 tk:takesIn K (.builtin "object.__class__")=some true
 mb:mroIn K C (.type "BaseException")=some true
 mo:mroIn K C (.type "object")=some true
 hd:hasDictIn K C=true
theorem Qp(c:XCls K C):KitX K (.ref x) (.ref C) (fun h=>∃ox od,InstAt h x ox C od) where
 ty:=fun _ _ _ ⟨_,_,I⟩=>I.type
 it:=fun _ _ X _=>by
  obtain⟨cdD,hcD,_⟩:=any_some c.hd
  unfold clsIn at hcD
  split at hcD
  ·rename_i c' d' cd' sl' ho
   intro A' Q' E' s' k q
   unfold isType loadHead
   exact wpAny_bind (wpAny_loadPart (k _ _ (X _ _ ho)) (wpAny_pure q))
  ·cases hcD
 ne:=fun h tp dd its n sl X htp=>by
  obtain⟨cdD,hcD,_⟩:=any_some c.hd
  refine Bool.eq_false_iff.mpr fun q=>?_
  have e:C=tp:=Value.ref.inj (beq_iff_eq.mp q)
  subst e
  unfold clsIn at hcD
  split at hcD
  ·rename_i c' d' cd' sl' ho
   have z:=(X _ _ ho).symm.trans htp
   cases z
  ·cases hcD
 ca:=fun X ⟨_,_,I⟩ k=>Yh X I c.ga c.gh c.mb (QE (by obtain⟨cd,hc,_⟩:=any_some c.hd;rw[hc];rfl) c.cl c.gt c.tk) c.mo k
abbrev bmVE:List Value:=[.type "ValueError",.type "Exception",.type "BaseException",.type "object"]
noncomputable def veTail:List Value->Bool
 | .ref _::r=>veTail r
 |l=>l==bmVE
theorem Jm(self:Value):∀{l:List Value},veTail l=true->refuseLoop self "__setattr__" l=pure ()
 | .ref c::r,e=>by rw[refuseLoop_ref];exact Jm self (l:=r) e
 | [],e=>by cases (show bmVE=[] from (beq_iff_eq.mp e).symm)
 | .none::r,e=>by rw[show Value.none::r=bmVE from beq_iff_eq.mp e];exact PySem.F.store_ValueError.passes self
 | .bool b::r,e=>by rw[show Value.bool b::r=bmVE from beq_iff_eq.mp e];exact PySem.F.store_ValueError.passes self
 | .type b::r,e=>by rw[show Value.type b::r=bmVE from beq_iff_eq.mp e];exact PySem.F.store_ValueError.passes self
 |v::r,e=>by
  cases v with
  |ref c=>rw[refuseLoop_ref];exact Jm self (l:=r) e
  |_=>rw[show _=bmVE from beq_iff_eq.mp e];exact PySem.F.store_ValueError.passes self
theorem Yi{tk:Tok}{v:Value}{cd:ClassData}{R:Result->Shared->Prop}(X:K.In s.heap)(I:InstAt s.heap x ox C od)(hc:clsIn K C=some cd)(hv:veTail cd.mro=true)(mo:mroIn K C (.type "object")=some true)(ha:findIn K (.ref C) name=some none)
  (h:wpAny (model prog w) A.in1 (storeInOwnDict (.ref x) (.ref C) (.str name tk) name v false)
   (fun fin s'=>match fin with | .done f=>R (.ok f) s' | .again c'=>c'.quiet=true/\codeAny (model prog w) A c' R s') (fun e s'=>R (.error e) s') s):
  codeAny (model prog w) A (.call (.builtin "object.__setattr__") ⟨[.ref x,.str name tk,v],[]⟩) R s:=by
 have SF:=PySem.F.store_object
 have sub:Looks (model prog w) s.heap (isInstance (.ref x) (.type "object")) true:=I.type.andThen (looks_mroIn X mo)
 refine codeAny_call_builtin SF.slot.plain SF.entry (@check_slot (model prog w) _ _ s "object.__setattr__" "object" "__setattr__" (.ref x) [.str name tk,v] [] _ SF.kind SF.split sub (SF.args (.ref x) (.str name tk) v) ?_)
 have hm:Looks (model prog w) s.heap (mroOf (.ref C)) cd.mro:=(looks_clsIn X hc).andThen .now
 have L3:Looks (model prog w) s.heap (storeTaker? none) none:=.now
 rw[osa_eq,refuse_eq]
 refine wpAny_bind (wpAny_bind (I.type.here (wpAny_bind (hm.here ?_))))
 rw[Jm _ hv]
 refine wpAny_pure (wpAny_bind (I.type.here (wpAny_bind ((looks_findIn X ha).here (wpAny_bind (L3.here ?_))))))
 exact h
theorem set_exc{v : Value}{cd : ClassData}{Q : Unit -> Shared -> Prop}(X : K.In s.heap)(hx : s.heap.get? x = some ox)(hcl : ox.cls = .ref C)(hn : notCls ox = true)(hdn : ox.dict = none)(hc : clsIn K C = some cd)(hdct : cd.hasDict = true)(hv : veTail cd.mro = true)
    (mo : mroIn K C (.type "object") = some true) (hs : findIn K (.ref C) "__setattr__" = some (some (.builtin "object.__setattr__"))) (ha : findIn K (.ref C) name = some none)
    (h : ∀ h' tk, h'.get? x = some { ox with dict := some s.heap.objs.size } -> h'.Ns1 s.heap.objs.size (fun y => if y = name then some v else none) -> (∀ b o, b ≠ x -> s.heap.get? b = some o -> h'.get? b = some o) -> Q () { s with heap := h', toks := tk }) :
    wpAny (model prog w) A (setAttr (.ref x) name v) Q E s := by
  have I : InstAt s.heap x ox C none := ⟨hx, hcl, hn, by rw [hdn]; trivial⟩
  refine set_plain X I hs (Yi (s := { s with toks := s.toks + 1 }) X I hc hv mo ha ?_)
  obtain ⟨hp, g, d, t, os⟩ := s
  obtain ⟨oc, odt, oda, osl⟩ := ox
  dsimp only at hcl hdn h hx
  subst hcl hdn
  unfold storeInOwnDict ownDictForStores
  refine wpAny_bind (wpAny_pure (wpAny_bind (wpAny_bind (wpAny_loadPart hx (wpAny_bind (PySem.W.Looks.here (s := ⟨hp, g, d, t + 1, os⟩) (looks_clsIn X hc) ?_))))))
  rw [hdct]
  have hx₁ : (hp.push { cls := .type "dict", data := .dict #[] }).get? x = some ⟨.ref C, none, oda, osl⟩ := Heap.get?_push_of_some _ hx
  have hxs : x ≠ hp.objs.size := Nat.ne_of_lt (Heap.lt_size hx)
  have hfr := (Heap.get?_some_iff.mp hx).2
  have hgd : ((hp.push { cls := .type "dict", data := .dict #[] }).update x fun o => { cls := o.cls, dict := some hp.objs.size, data := o.data, slots := o.slots }).get? hp.objs.size
      = some { cls := .type "dict", data := .dict #[] } :=
    (Heap.get?_update_ne _ _ _ _ hxs.symm).trans (Heap.get?_push_at rfl rfl)
  have hnd : ((hp.push { cls := .type "dict", data := .dict #[] }).update x fun o => { cls := o.cls, dict := some hp.objs.size, data := o.data, slots := o.slots }).Ns hp.objs.size (fun _ => none) :=
    ⟨_, #[], _, hgd, rfl, fun e he => absurd he (by simp), fun _ => rfl⟩
  have fin : wpAny (model prog w) A.in1 (do
        let d <- alloc { cls := .type "dict", data := .dict #[] }
        update x fun o => { o with dict := some d }
        dictMade (.ref C) x d)
      (fun a s' => wpAny (model prog w) A.in1 (match a with
            | some d_1 => storeInDict d_1 (Value.str name t) name v
            | none => noDictFor (Value.ref x) (Value.ref C) name false)
          (fun fin s' => match fin with
              | .done f => (match (Except.ok f : Result) with | .ok (.ret _) => Q () s' | .ok _ => False | .error e => E e s')
              | .again c' => c'.quiet = true /\ codeAny (model prog w) A c' (fun r s' => match r with | .ok (.ret _) => Q () s' | .ok _ => False | .error e => E e s') s')
          (fun e s' => E e s') s') (fun e s' => E e s') ⟨hp, g, d, t + 1, os⟩ := by
    refine wpAny_bind (wpAny_alloc' ?_)
    refine wpAny_bind (wpAny_update' hx₁ ?_)
    refine wpAny_pure ?_
    show wpAny _ _ (storeInDict hp.objs.size (.str name t) name v) _ _ _
    unfold storeInDict newKeyGuard
    refine wpAny_bind (wpAny_pure (wpAny_bind (wpAny_nsSet1 (Heap.Ns1.of_empty hnd) fun h' hn' hs => ?_)))
    obtain ⟨oD, esD, epD, hoD, hdD, hcD⟩ := hn'.count (Within.cons name v Within.nil)
    refine wpAny_bind (wpAny_lookBehind hoD (by rw [hdD]; exact pastItsLine_dict (Nat.le_trans hcD (by rw [List.length_cons, List.length_nil, sizeLine_eq]; omega))) ?_)
    refine wpAny_pure ?_
    refine h h' _ ((hs.2 x hxs).trans (Heap.get?_update_self _ hx₁ ?_)) hn' fun b o hb e => ?_
    · cases oda <;> first | rfl | exact hfr
    · exact (hs.2 b (Nat.ne_of_lt (Heap.lt_size e))).trans ((Heap.get?_update_ne _ _ _ _ hb).trans (Heap.get?_push_of_some _ e))
  cases oda with
  | cls c => exact absurd hn (by simp [notCls])
  | _ => exact fin
end
section
open PySem.W PySem.Calls
variable {prog:Program}{w:World}{A:Around}{E:Value->Shared->Prop}{R:Result->Shared->Prop}{K:Frag}{h:Heap}{g:Array GenState}{d:Drawn}{t:Nat}{os:OsState}{C B:Addr}
structure XMk(K:Frag)(C:Addr):Prop where
 obj:∃nm q N bs bm hdct sn sub ab col dd k0 k1 k2 k3 k5,K.lookup C=some (excClassObj nm q C N bs bm hdct sn sub ab col dd k0 k1 k2 k3 k5 "ValueError.__new__")/\tailIn K bmVE bm=true
 call:specialIn K (.ref C) "__call__"=some (some (.builtin "type.__call__"))
 typ:instIn K (.ref C) (.type "type")=some true
 kp:keepIn K (.ref C)=true
theorem KM(q:excIn K C bmVE "ValueError.__new__"=true):(∃nm q N bs bm hdct sn sub ab col dd k0 k1 k2 k3 k5,K.lookup C=some (excClassObj nm q C N bs bm hdct sn sub ab col dd k0 k1 k2 k3 k5 "ValueError.__new__")/\tailIn K bmVE bm=true/\nsOkIn K N=true/\nsIn K N "__init__"=some none):=by
 unfold excIn at q
 split at q
 ·rename_i dd cd sl ho
  split at q
  ·rename_i C' bm k0 k1 k2 k3 n k5 hm hs
   simp only[Bool.and_eq_true,beq_iff_eq,Bool.not_eq_true']at q
   obtain⟨⟨⟨⟨⟨rfl,rfl⟩,hdel⟩,ht⟩,hok⟩,hni⟩:=q
   obtain⟨nm,bs,mro,ns,qn,hd,sn,sub,ab,col,del⟩:=cd
   dsimp only at hm hdel hok hni
   subst hm hdel
   have hsl:sl=#[k0,k1,k2,k3,some (.builtin "ValueError.__new__"),k5]:=by
    obtain⟨l⟩:=sl
    simp only at hs
    rw[hs]
   subst hsl
   exact⟨nm,qn,ns,bs,bm,hd,sn,sub,ab,col,dd,k0,k1,k2,k3,k5,ho,ht,hok,hni⟩
  ·cases q
 ·cases q
noncomputable abbrev excTup(rest:List Value):Obj:={ cls:=.type "tuple",data:=.seq rest.toArray }
noncomputable abbrev excNew(C t:Addr):Obj:={ cls:=.ref C,data:=.fields #[.ref t,.none,.none,.none,.bool false,.none] }
theorem Zy{rest:List Value}{f:Addr}(X:K.In h)(M:XMk K C)(hi:findIn K (.ref C) "__init__"=some (some (.ref f)))(hf:typeIn K (.ref f)=some (.type "function"))(hrest:rest.length<=sizeLine)
  (hq:codeAny (model prog w) (A.under (.builtin "type.__call__" ⟨.ref C::rest,[]⟩)) (.call (.ref f) ⟨.ref (h.objs.size+1)::rest,[]⟩) (InitBack (h.objs.size+1) R) ⟨(h.push (excTup rest)).push (excNew C h.objs.size),g,d,t,os⟩):
  codeAny (model prog w) A (.call (.ref C) ⟨rest,[]⟩) R ⟨h,g,d,t,os⟩:=by
 obtain⟨nm,q,N,bs,bm,hdct,sn,sub,ab,col,dd,k0,k1,k2,k3,k5,hK,hT⟩:=M.obj
 have hC:=X _ _ hK
 have T:=tail_of_in X hT
 have F:=PySem.F.excBase_ValueError
 have call:=looks_specialIn (M:=model prog w) X M.call
 have typ:=looks_instIn (M:=model prog w) X M.typ
 refine codeAny_of_tree ?_
 show wpAny _ _ (callAny (.ref C) _) _ _ _
 refine nd_load hC ?_
 show wpAny _ _ (callAny.viaDunder (.ref C) _) _ _ _
 unfold callAny.viaDunder
 refine wpAny_bind (call.at ?_)
 dsimp only
 rw[tc_bind]
 refine wpAny_bind (wpAny_pure (wpAny_bind (wpAny_pure ?_)))
 refine wpAny_pure (a:=Fin.again (.call (.builtin "type.__call__") ⟨.ref C::rest,[]⟩)) (And.intro rfl ?_)
 refine codeAny_call_builtin_at (Code.quiet_builtin _ (by decide+kernel)) entry_typeCall (check_slot tc_kind tc_split typ (tc_args _ _ _) ?_)
 unfold Builtin.«type.__call__»
 repeat (first |with_reducible refine wpAny_loadPart_at hC ?_ |with_reducible refine wpAny_madeBy_exc hC ?_ |wp_step)
 refine codeAny_call_builtin_code (Code.quiet_builtin _ F.quiet) (wpAny_check_new_subT F T hC ?_)
 refine codeAny_exc_new_subT F T hC ?_ hrest
 show wpAny _ _ _ _ _ _
 have k:∀b o,h.get? b=some o->((h.push (excTup rest)).push (excNew C h.objs.size)).get? b=some o:=fun b o e=>Heap.get?_push_of_some _ (Heap.get?_push_of_some _ e)
 have hC₁:=k _ _ hC
 have hget:((h.push (excTup rest)).push (excNew C h.objs.size)).get? (h.objs.size+1)=some (excNew C h.objs.size):=by heap_get
 have hcC:(Value.ref C::bm).contains (.ref C)=true:=by simp
 have i1:=(looks_findIn (M:=model prog w) X hi).keeps k
 have b1:=(bind_fn (M:=model prog w) X (.ref (h.objs.size+1)) hf).keeps k
 unfold isInstance
 repeat (first |with_reducible refine wpAny_loadPart_at hget ?_ | (with_reducible refine wpAny_isSubtype_exc hC₁ ?_;rw[hcC]) |wp_step)
 show wpAny _ _ (typeLookup (.ref C) _) _ _ _
 refine i1.at ?_
 refine wpAny_holding (wpAny_bind (b1.at ?_))
 refine wpAny_bind (wpAny_call (codeAny_mono hq fun r s' z=>?_))
 rcases r with e | (v |_ |_ |_)<;>first |exact z |exact z.elim |skip
 obtain⟨rfl,z⟩:=z
 wp_walk
 exact z
end
theorem ObjOk.obj{P:Program}{w:World}{H:Hp}{h:Heap}{a:Addr}{o:HO}(x:ObjOk P w H h a o):∃u,h.get? a=some u:=by
 cases o with
 |lst xs=>obtain⟨_,_,_,_,e⟩:=x;exact⟨_,e⟩
 |tup xs=>obtain⟨_,_,_,o,e,_⟩:=x;exact⟨_,e⟩
 |dK kvs=>obtain⟨_,_,_,_,o,_,_,e,_⟩:=x;exact⟨_,e⟩
 |dT kvs=>obtain⟨_,_,_,_,o,_,_,e,_⟩:=x;exact⟨_,e⟩
 |set S n=>obtain⟨o,_,_,_,e,_⟩:=x;exact⟨_,e⟩
 |ins C dx fs=>obtain⟨_,_,_,e,_⟩:=x;exact⟨_,e⟩
 |own y=>obtain⟨_,e⟩:=x;exact⟨_,e⟩
 |xd fs=>obtain⟨_,⟨_,_,_,e,_⟩,_⟩:=x;exact⟨_,e⟩
 |rng lo hi=>obtain⟨_,_,_,e⟩:=x;exact⟨_,e⟩
 |frz ob u=>obtain⟨e,_⟩:=x;exact⟨_,e⟩
 |tbl ps=>exact⟨_,(show h.get? a=some _ from x)⟩
 |met f y=>exact⟨_,(show h.get? a=some _ from x)⟩
 |ext φ=>obtain⟨_,⟨_,e⟩,_⟩:=x;exact⟨_,e⟩
theorem Inv.laidN{X:Cx}{pins:List (Addr×Obj)}{σ:St}{H:Hp}{s:Shared}{h':Heap}{a:Addr}{o:HO}{t':Nat}(I:Inv X pins σ H s)(k:∀b u,s.heap.get? b=some u->h'.get? b=some u)(hp:s.heap.get? a=none)(new:ObjOk X.prog X.w (upd H a o) h' a o):
  H a=none/\Inv X pins σ (upd H a o) { s with heap:=h',toks:=t' }:=by
 have ne:∀b u,s.heap.get? b=some u->b≠a:=fun b u q z=>by rw[z,hp]at q;cases q
 have hn:H a=none:=by
  cases q:H a with
  |none=>rfl
  |some u=>obtain⟨u',e⟩:=(I.hok a u q).obj;rw[hp]at e;cases e
 refine⟨hn,I.un ?_ ?_⟩
 ·exact { keep:=fun b u q _ _ _=>k b u q,slot:=fun b u q _ _ _=>⟨u.slots,k b u q⟩,free:=fun b u q n _=>by rw[jf (ne b u q)];exact n,there:=fun b u q _=>⟨u,k b u q⟩,tups:=fun b xs q=>by rw[jf (jl q hn)];exact q,frzs:=fun b u xs q=>by rw[jf (jl q hn)];exact q,tbls:=fun b ps q=>⟨#[],by rw[jf (jl q hn),q];simp⟩ }
 ·intro b u e
  by_cases hb:b=a
  ·subst hb;rw[je]at e;cases e;exact new
  ·rw[jf hb]at e
   exact(I.hok b u e).stay (fun c v _ q=>k c v q) (fun c q=>by rw[jf (jl q hn)];exact q) fun c xs q=>by rw[jf (jl q hn)];exact q
noncomputable def ExO(C:Addr)(d:Option Addr)(x:Addr):HO:=.ext fun h=>∃o,h.get? x=some o/\o.cls= .ref C/\notCls o=true/\o.dict=d/\∃vs,o.data= .fields vs/\vs[1]?=some .none
theorem QS{P:Program}{w:World}{H:Hp}{h:Heap}{C x:Addr}{d:Option Addr}{o:Obj}(e:h.get? x=some o)(hc:o.cls= .ref C)(hn:notCls o=true)(hd:o.dict=d)(hf:∃vs,o.data= .fields vs/\vs[1]?=some .none):ObjOk P w H h x (ExO C d x):=
 ⟨⟨o,e,hc,hn,hd,hf⟩,⟨o,e⟩,fun h1 h2 ⟨o1,e1,q⟩ k=>⟨o1,k o1 e1,q⟩⟩
section
variable {X:Cx}{pins:List (Addr×Obj)}{σ:St}{H:Hp}{s:Shared}{a C:Addr}{fs:List (Str×V)}{f:Str}{v:V}{A:Around}{E:Value->Shared->Prop}
theorem setX_ok{y:V}{u:Value}{cd:ClassData}{Q:Unit->Shared->Prop}(I:Inv X pins σ H s)(e:H a=some (ExO C none a))(c:XCls X.K C)(n:NoAttr X.K C f)(hc:clsIn X.K C=some cd)(hdct:cd.hasDict=true)(hv:veTail cd.mro=true)(ry:RelV y u)
  (h:∀dx s',H dx=none->Inv X pins σ (upd (upd H a (ExO C (some dx) a)) dx (.xd [(f,y)])) s'->Q () s'):wpAny (model X.prog X.w) A (setAttr (.ref a) f u) Q E s:=by
 obtain⟨⟨o,h1,h2,h3,h4,h5⟩,_⟩:=I.hok a _ e
 refine set_exc I.kIn h1 h2 h3 h4 hc hdct hv c.mo c.sa n fun h' tk g1 g2 g3=>h s.heap.objs.size _ (I.hok.fresh (Nat.le_refl _)) ?_
 have nd:s.heap.objs.size≠a:=Ne.symm (Nat.ne_of_lt (Heap.lt_size h1))
 have I1:Inv X pins σ (upd H a (ExO C (some s.heap.objs.size) a)) { s with heap:=h',toks:=tk }:=
  I.write (x:=a) (e:=a) (by rw[e];exact True.intro) (.inl rfl) g3 ⟨_,g1⟩ (QS g1 h2 h3 rfl h5)
 have hn:upd H a (ExO C (some s.heap.objs.size) a) s.heap.objs.size=none:=by rw[jf nd];exact I.hok.fresh (Nat.le_refl _)
 refine I1.track (I.fpOk (Nat.le_refl _) hn) I.sz ⟨_,g2,fun g=>?_⟩
 show RelO (List.lookup g [(f,y)]) (if g=f then some u else none)
 by_cases q:g=f
 ·subst q;simp [RelO,ry]
 ·rw[if_neg q]
  have:(g==f)=false:=by simpa using q
  simp [List.lookup,this,RelO]
end
def sFldX(K:Frag)(ta tv:TE)(f:Str):TS:=fun D σ H=>tv σ H fun y H1=>ta σ H1 fun x H2=>∃a C cd,x= .ref a/\H2 a=some (ExO C none a)/\XCls K C/\NoAttr K C f/\clsIn K C=some cd/\cd.hasDict=true/\veTail cd.mro=true/\
 ∀dx,H2 dx=none->D.nx σ (upd (upd H2 a (ExO C (some dx) a)) dx (.xd [(f,y)]))
def tMakeX(C:Addr)(sp:Sp)(E:XK)(t:TA):TE:=fun σ H Q=>t σ H fun vs H1=>vs.length<=1000/\∀x,H1 x=none->sp (.ref x::vs) (upd H1 x (ExO C none x)) (fun v H2=>v= .non/\Q (.ref x) H2) E
def tMakeX0(C:Addr):TE:=fun σ H Q=>∀x,H x=none->Q (.ref x) (upd H x (ExO C none x))
section
variable {X:Cx}{CX:CXT}{k:Nat}{f C:Addr}{fd:FuncData}{ps:List Str}{sp:Sp}{E:XK}{x m g:Str}{p pos pos':Pos}{e o value:Expr}{es:List Expr}{ta tv:TE}{t:TA}
theorem Xz(ha:PE X o ta)(hv:PE X value tv)(hs:swapsWith value (some (.Attribute o g pos')) pos.line X.env=pure false):PS X (.Assign [.Attribute o g pos'] value pos) (sFldX X.K ta tv g):=by
 intro pins s σ H D I h
 refine plainObj_wpAny_Assign_Attribute (thn (hv pins s σ H _ I h) fun u s1 ⟨y,H1,I1,ry,q⟩=>thn (ha pins s1 σ H1 _ I1 q) fun ov s2 hq'=>?_) hs
 obtain⟨x,H2,I2,rx,a,C,cd,ex,ea,c,n,hc,hd,hv,q2⟩:=hq'
 subst ex
 obtain rfl:ov=Value.ref a:=rx
 exact setX_ok I2 ea c n hc hd hv ry fun dx s3 hn I3=>⟨σ,_,I3,q2 dx hn⟩
theorem Inv.madeX{pins:List (Addr×Obj)}{σ:St}{H:Hp}{s:Shared}{us:List Value}(I:Inv X pins σ H s):Inv X pins σ (upd H (s.heap.objs.size+1) (ExO C none (s.heap.objs.size+1)))
  { s with heap:=(s.heap.push (excTup us)).push (excNew C s.heap.objs.size) }:=by
 have I1:=I.kept (h':=s.heap.push (excTup us)) (t':=s.toks) (fun b u q=>Heap.get?_push_of_some _ q)
 have e2:((s.heap.push (excTup us)).push (excNew C s.heap.objs.size)).get? (s.heap.objs.size+1)=some (excNew C s.heap.objs.size):=by
  have:=Heap.get?_push_size (s.heap.push (excTup us)) (o:=excNew C s.heap.objs.size) rfl
  rwa [Heap.size_push]at this
 exact I1.laid (a:=s.heap.objs.size+1) (t':=s.toks) (fun b u q=>Heap.get?_push_of_some _ q) (Nat.le_of_eq (Heap.size_push _ _)) (QS e2 rfl rfl rfl ⟨_,rfl,rfl⟩)
theorem Yj{pins:List (Addr×Obj)}{σ:St}{H:Hp}{s:Shared}{Q:VK}{us:List Value}{vs:List V}(M:XMk X.K C)(hi:findIn X.K (.ref C) "__init__"=some (some (.ref f)))(hf:isFn X.K (.ref f)=true)
  (F:FnOk X.prog X.w X.K X.mg X.base CX k f fd ps sp) (hr:Room (k+1) X.A) (hb:Binds X.K fd ps []) (hx:Passes CX X E) (I:Inv X pins σ H s) (r:Vals vs us) (hl:vs.length<=1000)
  (h:∀x,H x=none->sp (.ref x::vs) (upd H x (ExO C none x)) (fun v H2=>v= .non/\Q (.ref x) H2) E):
  wpAny (model X.prog X.w) X.A (call (.ref C) us) (EP X pins σ Q) X.xe s:=by
 have hq:=h (s.heap.objs.size+1) (I.hok.fresh (Nat.le_succ _))
 have I2:=Inv.madeX (C:=C) (us:=us) I
 have r2:Vals (V.ref (s.heap.objs.size+1)::vs) (Value.ref (s.heap.objs.size+1)::us):=.cons rfl r
 have hln:(Value.ref (s.heap.objs.size+1)::us).length=ps.length:=by
  have e:=r2.length
  rw[F.len _ _ _ _ hq]at e
  exact e.symm
 have hln':((Value.ref (s.heap.objs.size+1)::us)++[]).length=ps.length:=by rw[List.append_nil];exact hln
 have hbb:=hb _ (Value.ref (s.heap.objs.size+1)::us) I2.kIn hln'
 rw[List.append_nil]at hbb
 obtain⟨hp,g,d,tk,os⟩:=s
 refine wpAny_call (Zy (f:=f) I.kIn M hi (beq_iff_eq.mp hf) (by rw[<- r.length,sizeLine_eq];omega) (codeAny_mono (F.run _ X.stack _ _ ⟨Value.ref (hp.objs.size+1)::us,[]⟩ (Value.ref (hp.objs.size+1)::us) _ _ E (hr.make C us [])
  (I2.env0.make C us []) hbb r2 hq) fun r s' hq'=>?_))
 cases r with
 |error e=>exact hx pins σ _ _ e s' I2 hq'
 |ok fl=>
  cases fl with
  |ret u=>
   obtain⟨v,H',I3,rv,ev,q3⟩:=I2.after hq'
   subst ev
   exact⟨rv,⟨V.ref (hp.objs.size+1),H',I3,rfl,q3⟩⟩
  |next=>exact False.elim hq'
  |brk=>exact False.elim hq'
  |cont=>exact False.elim hq'
theorem Qq(M:XMk X.K C)(hi:findIn X.K (.ref C) "__init__"=some (some (.ref f)))(hf:isFn X.K (.ref f)=true)(F:FnOk X.prog X.w X.K X.mg X.base CX k f fd ps sp)(hr:Room (k+1) X.A)(hg:Gl X x)(hm:X.mg x=some (.ref C))(hb:Binds X.K fd ps [])(hx:Passes CX X E)
  (ha:PA X (e::es) t) (hdb:(x==("__debug__":Str))=false:=by decide) (he:starEach (e::es) X.env=(false,eval e X.env)::starEach es X.env:=by rfl) (hpl:(backTo pos (starEach es X.env)).any (·.1)=false:=by rfl):
  PE X (.Call (.Name x p) (e::es) [] pos) (tMakeX C sp E t):=by
 intro pins s σ H Q I h
 refine wpAny_Call_Name_kw (zE I hg hm ?_ hdb)
 refine callWith_K (h₀:=X.base) I.ok.mod.kin M.kp (thn (ha pos pins s σ H _ I h) fun us s1 ⟨vs,H1,I1,r,hl,q⟩=>⟨I1.kIn,?_⟩) he hpl
 exact Yj M hi hf F hr hb hx I1 r hl q
theorem KN(M:excIn X.K C bmVE "ValueError.__new__"=true)(kp:keepIn X.K (.ref C)=true)(hg:Gl X x)(hm:X.mg x=some (.ref C))(hdb:(x==("__debug__":Str))=false:=by decide):
  PE X (.Call (.Name x p) [] [] pos) (tMakeX0 C):=by
 intro pins s σ H Q I h
 refine wpAny_Call_Name_kw (zE I hg hm ?_ hdb)
 refine PySem.W.callWith_K0 I.kIn kp ?_
 obtain⟨nm,q,N,bs,bm,hdct,sn,sub,ab,col,dd,k0,k1,k2,k3,k5,hK,hT,hok,hni⟩:=KM M
 have hC:=I.kIn _ _ hK
 obtain⟨hp,g,d,tk,os⟩:=s
 refine wpAny_call_exc_subT PySem.F.excBase_ValueError (PySem.W.tail_of_in I.kIn hT) hC (.of_isNs (PySem.W.isNs_of_in I.kIn hok)) (PySem.W.nsMap_none_of_in I.kIn hok hni) (fun h' e m=>?_) (Nat.zero_le _)
 obtain⟨t,ht,_,_⟩:=m.there
 obtain⟨hn,I1⟩:=I.laidN (a:=e) (h':=h') (o:=ExO C none e) (t':=tk) m.keeps m.new (QS ht rfl rfl rfl ⟨_,rfl,rfl⟩)
 exact⟨.ref e,_,I1,rfl,h e hn⟩
end
section
variable {M:Model}{A:Around}{E:Value->Shared->Prop}{s:Shared}
structure Noted(fl:Value)(frs:List Addr)(x:Addr)(ox:Obj)(h h':Heap):Prop where
 ex:∃T oT ts,h.objs.size<=T/\h'.get? x=some (Obj.mapFields (·.setIfInBounds 1 (.ref T)) ox)/\h'.get? T=some oT/\oT.data= .fields ts/\ts[3]?=some fl
 keep:∀b o,b∉frs->b≠x->h.get? b=some o->h'.get? b=some o
 slot:∀b o,b≠x->h.get? b=some o->∃sl,h'.get? b=some { o with slots:=sl }
theorem KO{base:Heap}{env:Env}{outer:List Env}{L x:Addr}{ox:Obj}{vs:Array Value}{head:Value}{hadNext:Bool}{Q:Unit->Shared->Prop}
  (hfr:A.frames=some (env::outer)) (hl:s.heap.FunFrames base (env::outer)) (hf:env.frame=some L)
  (hx:s.heap.get? x=some ox) (hd:ox.data= .fields vs) (hsz:1 < vs.size)
  (h:∀h',Noted (rawInt L) ((env::outer).filterMap (·.frame)) x ox s.heap h'->Q () { s with heap:=h' }):
  wpAny M A (do let a <- frameOf env;let pl <- entryPlaceOf L hadNext;let b <- EntryCells.newEntry head a .none (rawInt L) .none pl;setField (.ref x) 1 b) Q E s:=by
 have hxn:x∉(env::outer).filterMap (·.frame):=fun hm=>by
  obtain⟨_,o,ho,hnf⟩:=hl.mem hm
  rw[hx]at ho;injection ho with ho;subst ho;exact hnf vs hd
 refine wpAny_bind (wpAny_frameOf_fun hfr hl hf fun h₁ hs₁=>?_)
 refine wpAny_bind (wpAny_entryPlaceOf fun pl hpl=>?_)
 unfold EntryCells.newEntry newFields
 refine wpAny_bind (wpAny_newObj_type ?_ (hpl.sizeOk5 _ _ _ _ _))
 have hx₁:h₁.get? x=some ox:=(hs₁.2.1 x hxn).trans hx
 have hx₂:=Heap.get?_push_of_some (h:=h₁) { cls:=.type "traceback",dict:=none,data:=.fields ([head,.ref L,.none,rawInt L,.none]++(if pl.isEmpty then List.replicate 6 Value.none else pl)).toArray } hx₁
 refine wpAny_setField hx₂ hd hsz (h _ ?_)
 have hTx:h₁.objs.size≠x:=Nat.ne_of_gt (Heap.lt_size hx₁)
 have hd₃:=Obj.data_mapFields hd (·.setIfInBounds 1 (Value.ref h₁.objs.size))
 have hx₃:=Heap.get?_update_self (Obj.mapFields (·.setIfInBounds 1 (Value.ref h₁.objs.size))) hx₂ (Obj.isFreed_of_fields hd₃)
 have keep:∀b o,b≠x->h₁.get? b=some o->((h₁.push { cls:=.type "traceback",dict:=none,data:=.fields ([head,.ref L,.none,rawInt L,.none]++(if pl.isEmpty then List.replicate 6 Value.none else pl)).toArray }).update x (Obj.mapFields (·.setIfInBounds 1 (Value.ref h₁.objs.size)))).get? b=some o:=fun b o hb e=>by
  rw[Heap.get?_update_other _ _ (Ne.symm hb)]
  exact Heap.get?_push_of_some _ e
 have hT₃:=(Heap.get?_update_other (h₁.push { cls:=.type "traceback",dict:=none,data:=.fields ([head,.ref L,.none,rawInt L,.none]++(if pl.isEmpty then List.replicate 6 Value.none else pl)).toArray })
  (Obj.mapFields (·.setIfInBounds 1 (Value.ref h₁.objs.size))) (Ne.symm hTx)).trans (Heap.get?_push_size h₁ rfl)
 refine⟨⟨h₁.objs.size,_,_,Nat.le_of_eq hs₁.1.symm,hx₃,hT₃,rfl,by simp⟩,fun b o hb hbx e=>keep b o hbx ((hs₁.2.1 b hb).trans e),fun b o hbx e=>?_⟩
 obtain⟨sl,e'⟩:=hs₁.2.2 b o e
 exact⟨sl,keep b _ hbx e'⟩
theorem Q6{base:Heap}{env:Env}{outer:List Env}{L x:Addr}{ox:Obj}{vs:Array Value}{Q:Unit->Shared->Prop}
  (hfr:A.frames=some (env::outer)) (hl:s.heap.FunFrames base (env::outer)) (hf:env.frame=some L)
  (hx:s.heap.get? x=some ox) (hd:ox.data= .fields vs) (h1:vs[1]?=some .none)
  (h:∀h',Noted (rawInt L) ((env::outer).filterMap (·.frame)) x ox s.heap h'->Q () { s with heap:=h' }):
  wpAny M A (noteFrame (.ref x) env) Q E s:=by
 unfold noteFrame
 simp only[hf]
 refine wpAny_bind (wpAny_field hx hd h1 ?_)
 rw[if_neg (by decide)]
 exact KO hfr hl hf hx hd (Array.getElem?_eq_some_iff.mp h1).1 h
theorem land{fl:Value}{frs:List Addr}{x:Addr}{ox:Obj}{vs:Array Value}{h₀:Heap}{Q:Unit->Shared->Prop}(N:Noted fl frs x ox h₀ s.heap)(hx0:h₀.get? x=some ox)(hd:ox.data= .fields vs)(hsz:1 < vs.size)
  (h:∀h',Noted .none frs x ox h₀ h'->Q () { s with heap:=h' }):wpAny M A (setFlight (.ref x) none) Q E s:=by
 obtain⟨T,oT,ts,hT0,hx,hT,hdT,h3⟩:=N.ex
 have hd':=Obj.data_mapFields hd (·.setIfInBounds 1 (Value.ref T))
 have hTx:T≠x:=fun z=>absurd (Nat.lt_of_lt_of_le (Heap.lt_size hx0) (by rw[<- z];exact hT0)) (Nat.lt_irrefl _)
 unfold setFlight
 refine wpAny_bind (wpAny_field hx hd' (x:=.ref T) (by simp [hsz]) ?_)
 rw[if_pos (show(Value.ref T != Value.none)=true from by simp)]
 have h3s:=(Array.getElem?_eq_some_iff.mp h3).1
 refine wpAny_setField hT hdT h3s (h _ ?_)
 have hdT':=Obj.data_mapFields hdT (·.setIfInBounds 3 ((none:Option Addr).elim Value.none fun f=>rawInt f))
 have hT':=Heap.get?_update_self (Obj.mapFields (·.setIfInBounds 3 ((none:Option Addr).elim Value.none fun f=>rawInt f))) hT (Obj.isFreed_of_fields hdT')
 have nT:∀b o,h₀.get? b=some o->T≠b:=fun b o e z=>absurd (Nat.lt_of_lt_of_le (Heap.lt_size e) (by rw[<- z];exact hT0)) (Nat.lt_irrefl _)
 refine⟨⟨T,_,_,hT0,by rw[Heap.get?_update_other _ _ hTx];exact hx,hT',hdT',by simp [h3s]⟩,fun b o hb hbx e=>?_,fun b o hbx e=>?_⟩
 ·rw[Heap.get?_update_other _ _ (nT b o e)]
  exact N.keep b o hb hbx e
 ·obtain⟨sl,q⟩:=N.slot b o hbx e
  exact⟨sl,by rw[Heap.get?_update_other _ _ (nT b o e)];exact q⟩
theorem QF{base:Heap}{env:Env}{outer:List Env}{L x:Addr}{ox:Obj}{vs:Array Value}{Q:Unit->Shared->Prop}
  (hfr:A.frames=some (env::outer)) (hl:s.heap.FunFrames base (env::outer)) (hf:env.frame=some L)
  (hx:s.heap.get? x=some ox) (hd:ox.data= .fields vs) (h1:vs[1]?=some .none)
  (h:∀h',Noted .none ((env::outer).filterMap (·.frame)) x ox s.heap h'->Q () { s with heap:=h' }):
  wpAny M A (leaving env (.ref x)) Q E s:=by
 unfold leaving
 exact wpAny_bind (Q6 hfr hl hf hx hd h1 fun h' N=>land (s:={ s with heap:=h' }) N hx hd (Array.getElem?_eq_some_iff.mp h1).1 h)
end
section
variable {M:Model}{A:Around}{E:Value->Shared->Prop}{s:Shared}
noncomputable abbrev clearT(T:Addr)(h:Heap):Heap:=h.update T (Obj.mapFields (·.setIfInBounds 3 Value.none))
theorem KP{base:Heap}{env:Env}{outer:List Env}{L x T:Addr}{ox oT:Obj}{vs ts:Array Value}{Q:Unit->Shared->Prop}
  (hfr:A.frames=some (env::outer)) (hl:s.heap.FunFrames base (env::outer)) (hf:env.frame=some L)
  (hx:s.heap.get? x=some ox) (hd:ox.data= .fields vs) (h1:vs[1]?=some (.ref T)) (hTx:T≠x) (hT:s.heap.get? T=some oT) (hdT:oT.data= .fields ts) (h3:ts[3]?=some .none)
  (h:∀h',Noted (rawInt L) ((env::outer).filterMap (·.frame)) x ox (clearT T s.heap) h'->Q () { s with heap:=h' }):
  wpAny M A (noteFrame (.ref x) env) Q E s:=by
 unfold noteFrame
 simp only[hf]
 refine wpAny_bind (wpAny_field hx hd h1 ?_)
 rw[if_pos (show(Value.ref T != Value.none)=true from by simp)]
 refine wpAny_bind (wpAny_field hT hdT h3 ?_)
 rw[if_neg (show ¬((Value.none==rawInt L)=true) from by simp [rawInt])]
 refine wpAny_bind (wpAny_setField hT hdT (Array.getElem?_eq_some_iff.mp h3).1 ?_)
 have other:∀b,b≠T->(clearT T s.heap).get? b=s.heap.get? b:=fun b hb=>Heap.get?_update_other _ _ (Ne.symm hb)
 have noRecord:∀b o,s.heap.get? b=some o->(∀vs,o.data≠ .fields vs)->b≠T:=fun b o hb hnf q=>by
  rw[q,hT]at hb;injection hb with hb;subst hb;exact hnf ts hdT
 exact KO (s:={ s with heap:=clearT T s.heap }) hfr (hl.of_keeps fun b o hb hnf=>⟨o,(other b (noRecord b o hb hnf)).trans hb,rfl⟩) hf ((other x (Ne.symm hTx)).trans hx) hd (Array.getElem?_eq_some_iff.mp h1).1 h
theorem Q7{base:Heap}{env:Env}{outer:List Env}{L x T:Addr}{ox oT:Obj}{vs ts:Array Value}{Q:Unit->Shared->Prop}
  (hfr:A.frames=some (env::outer)) (hl:s.heap.FunFrames base (env::outer)) (hf:env.frame=some L)
  (hx:s.heap.get? x=some ox) (hd:ox.data= .fields vs) (h1:vs[1]?=some (.ref T)) (hTx:T≠x) (hT:s.heap.get? T=some oT) (hdT:oT.data= .fields ts) (h3:ts[3]?=some .none)
  (h:∀h',Noted .none ((env::outer).filterMap (·.frame)) x ox (clearT T s.heap) h'->Q () { s with heap:=h' }):
  wpAny M A (leaving env (.ref x)) Q E s:=by
 unfold leaving
 exact wpAny_bind (KP hfr hl hf hx hd h1 hTx hT hdT h3 fun h' N=>land (s:={ s with heap:=h' }) N ((Heap.get?_update_other _ _ hTx).trans hx) hd (Array.getElem?_eq_some_iff.mp h1).1 h)
end
noncomputable def TxO(C:Addr)(d:Option Addr)(T x:Addr):HO:=.ext fun h=>∃o vs,h.get? x=some o/\o.cls= .ref C/\notCls o=true/\o.dict=d/\o.data= .fields vs/\vs[1]?=some (.ref T)
noncomputable def TbO(T:Addr):HO:=.ext fun h=>∃o ts,h.get? T=some o/\o.data= .fields ts/\ts[3]?=some .none
theorem txO_ok{P:Program}{w:World}{H:Hp}{h:Heap}{C T x:Addr}{d:Option Addr}{o:Obj}{vs:Array Value}(e:h.get? x=some o)(hc:o.cls= .ref C)(hn:notCls o=true)(hd:o.dict=d)(hf:o.data= .fields vs)(h1:vs[1]?=some (.ref T)):ObjOk P w H h x (TxO C d T x):=
 ⟨⟨o,vs,e,hc,hn,hd,hf,h1⟩,⟨o,e⟩,fun h1 h2 ⟨o1,vs1,e1,q⟩ k=>⟨o1,vs1,k o1 e1,q⟩⟩
theorem Y3{P:Program}{w:World}{H:Hp}{h:Heap}{T:Addr}{o:Obj}{ts:Array Value}(e:h.get? T=some o)(hf:o.data= .fields ts)(h3:ts[3]?=some .none):ObjOk P w H h T (TbO T):=
 ⟨⟨o,ts,e,hf,h3⟩,⟨o,e⟩,fun h1 h2 ⟨o1,ts1,e1,q⟩ k=>⟨o1,ts1,k o1 e1,q⟩⟩
def CX1(P:Program)(w:World):CXT:=fun outer H s E e s'=>∃x C d T H',e= .ref x/\s'.os=s.os/\AllBare s'.gens/\Un (frs outer) [] H H' s.heap s'.heap/\HOk P w H' s'.heap/\
 H' x=some (TxO C d T x)/\H' T=some (TbO T)/\T≠x/\E (.ref C) d H'
section
variable {X:Cx}{pins:List (Addr×Obj)}{σ:St}{H:Hp}{s:Shared}{x C:Addr}{d:Option Addr}
theorem Noted.hok{fl:Value}{fr:List Addr}{ox:Obj}{vs:Array Value}{h':Heap}{φ:Heap->Prop}(I:Inv X pins σ H s)(hx:H x=some (.ext φ))(ho:s.heap.get? x=some ox)(h2:ox.cls= .ref C)(h4:ox.dict=d)(h5:ox.data= .fields vs)(hsz:1 < vs.size)(hfr:∀b∈fr,H b=none)
  (N:Noted .none fr x ox s.heap h'):∃T,H T=none/\T≠x/\s.heap.objs.size<=T/\HOk X.prog X.w (upd (upd H T (TbO T)) x (TxO C d T x)) h':=by
 obtain⟨T,oT,ts,hT0,hx',hT,hdT,ht3⟩:=N.ex
 have hn:H T=none:=I.hok.fresh hT0
 have hTx:T≠x:=Ne.symm (jl hx hn)
 have hd':=Obj.data_mapFields h5 (·.setIfInBounds 1 (Value.ref T))
 refine⟨T,hn,hTx,hT0,fun b u e=>?_⟩
 by_cases hb:b=x
 ·subst hb
  rw[je]at e
  cases e
  refine txO_ok hx' ((Obj.cls_mapFields _ _).trans h2) ?_ ?_ hd' (by simp [hsz])
  ·unfold notCls
   rw[hd']
  ·obtain⟨oc,od,oda,osl⟩:=ox
   simp only at h5
   subst h5
   exact h4
 ·rw[jf hb]at e
  by_cases hbT:b=T
  ·subst hbT
   rw[je]at e
   cases e
   exact Y3 hT hdT ht3
  ·rw[jf hbT]at e
   refine(I.hok b u e).stay (fun c v hc q=>?_) (fun c q=>?_) fun c xs q=>?_
   ·have hcx:c≠x:=by
     rcases hc with z |z
     ·rw[z];exact hb
     ·exact jz z hx (by intro q;cases q)
    refine N.keep c v (fun hm=>?_) hcx q
    have:=hfr c hm
    rcases hc with z |z
    ·rw[z,e]at this;cases this
    ·rw[z]at this;cases this
   ·rw[jf (jz q hx (by intro z;cases z)),jf (jl q hn)]
    exact q
   ·rw[jf (jz q hx (by intro z;cases z)),jf (jl q hn)]
    exact q
theorem Noted.un{fr:List Addr}{ox:Obj}{h':Heap}{φ:Heap->Prop}{T:Addr}(I:Inv X pins σ H s)(hex:X.ex=[])(hx:H x=some (.ext φ))(hn:H T=none)(hT0:s.heap.objs.size<=T)(hfr:∀b∈fr,b∈X.fs∨X.s₀.heap.objs.size<=b)
  (N:Noted .none fr x ox s.heap h'):Un X.fs [] X.H₀ (upd (upd H T (TbO T)) x (TxO C d T x)) X.s₀.heap h':=by
 have nx:∀b,H b=none->b≠x:=fun b e z=>by rw[z,hx]at e;cases e
 have nT:∀b o,X.s₀.heap.get? b=some o->b≠T:=fun b o e=>Nat.ne_of_lt (Nat.lt_of_lt_of_le (Heap.lt_size e) (Nat.le_trans I.sz hT0))
 have nin:∀b:Addr,b∉X.ex:=fun b z=>by rw[hex]at z;cases z
 have up:∀b,H b=none->b≠T->upd (upd H T (TbO T)) x (TxO C d T x) b=none:=fun b e z=>by rw[jf (nx b e),jf z];exact e
 have upS:∀b u,H b=some u->(∀φ,u≠ .ext φ)->upd (upd H T (TbO T)) x (TxO C d T x) b=some u:=fun b u e z=>by
  rw[jf (fun q=>by rw[q,hx]at e;cases e;exact z _ rfl),jf (jl e hn)]
  exact e
 refine⟨fun b o e n hb _=>?_,fun b o e n hb _=>?_,fun b o e n _=>?_,fun b o e _=>?_,fun b xs e=>upS b _ (I.base.tups b xs e) (by intro _ q;cases q),fun b o u e=>upS b _ (I.base.frzs b o u e) (by intro _ q;cases q),fun b ps e=>?_⟩
 ·refine N.keep b o (fun z=>?_) (nx b (I.base.free b o e n (nin b))) (I.base.keep b o e n hb (nin b))
  rcases hfr b z with q |q
  ·exact hb q
  ·exact absurd (Nat.lt_of_lt_of_le (Heap.lt_size e) q) (Nat.lt_irrefl _)
 ·obtain⟨sl,q⟩:=I.base.slot b o e n hb (nin b)
  obtain⟨sl',q'⟩:=N.slot b _ (nx b (I.base.free b o e n (nin b))) q
  exact⟨sl',q'⟩
 ·exact up b (I.base.free b o e n (nin b)) (nT b o e)
 ·obtain⟨o',q⟩:=I.base.there b o e (nin b)
  by_cases hb:b=x
  ·obtain⟨T',_,_,_,hx',_⟩:=N.ex
   exact⟨_,by rw[hb];exact hx'⟩
  ·obtain⟨sl,q'⟩:=N.slot b o' hb q
   exact⟨_,q'⟩
 ·obtain⟨more,q⟩:=I.base.tbls b ps e
  exact⟨more,upS b _ q (by intro _ q;cases q)⟩
end
section
variable {P:Program}{w:World}{K:Frag}{mg:Str->Option Value}{base:Heap}{N:List Str}{qual:Str}{scope:Scope}{f:Addr}{cd:Value}{A:Around}{outer:List Env}{s₀:Shared}{H₀:Hp}{E:XK}
variable {pins:List (Addr×Obj)}{σ:St}{H:Hp}{s:Shared}{x C:Addr}{d:Option Addr}
theorem Zz(I:Inv (cxOf (CX1 P w) P w K mg base N qual scope f cd A outer s₀ H₀ E) pins σ H s)(hx:H x=some (ExO C d x))
  (h:∀T,H T=none->E (.ref C) d (upd (upd H T (TbO T)) x (TxO C d T x))):(cxOf (CX1 P w) P w K mg base N qual scope f cd A outer s₀ H₀ E).xe (.ref x) s:=by
 obtain⟨⟨ox,h1,h2,h3,h4,vs,h5,h6⟩,_⟩:=I.hok x _ hx
 have hsz:=(Array.getElem?_eq_some_iff.mp h6).1
 refine QF (base:=base) I.ok.frames I.stack rfl h1 h5 h6 fun h' Nd=>?_
 obtain⟨T,hn,hTx,hT0,hok⟩:=Nd.hok (C:=C) (d:=d) (fl:=.none) I hx h1 h2 h4 h5 hsz fun b hb=>I.stkFree b hb
 have un:=Nd.un (C:=C) (d:=d) I rfl hx hn hT0 fun b hb=>by
  rcases List.mem_cons.mp (I.stkSub b hb) with e |e
  ·exact .inr (by rw[e];exact I.ok.above)
  ·exact .inl e
 exact⟨x,C,d,T,_,rfl,I.os,I.bare,un,hok,je,by rw[jf hTx,je],hTx,h T hn⟩
theorem Inv.cleared{X:Cx}{T:Addr}{oT:Obj}{ts:Array Value}(I:Inv X pins σ H s)(hT:H T=some (TbO T))(h1:s.heap.get? T=some oT)(hd:oT.data= .fields ts)(h3:ts[3]?=some .none):Inv X pins σ H { s with heap:=clearT T s.heap }:=by
 have hd':=Obj.data_mapFields hd (·.setIfInBounds 3 Value.none)
 have e':=Heap.get?_update_self (Obj.mapFields (·.setIfInBounds 3 Value.none)) h1 (Obj.isFreed_of_fields hd')
 have:=I.write (x:=T) (e:=T) (o:=TbO T) (h':=clearT T s.heap) (t':=s.toks) (by rw[hT];exact True.intro) (.inl rfl) (fun b u hb q=>(Heap.get?_update_other _ _ (Ne.symm hb)).trans q) ⟨_,e'⟩ (Y3 e' hd' (by simp [(Array.getElem?_eq_some_iff.mp h3).1]))
 have eH:upd H T (TbO T)=H:=by
  funext b
  by_cases hb:b=T
  ·rw[hb,je,hT]
  ·rw[jf hb]
 rw[eH]at this
 exact this
theorem xe_next{T:Addr}(I:Inv (cxOf (CX1 P w) P w K mg base N qual scope f cd A outer s₀ H₀ E) pins σ H s)(hx:H x=some (TxO C d T x))(hT:H T=some (TbO T))(hTx:T≠x)
  (h:∀T',H T'=none->E (.ref C) d (upd (upd H T' (TbO T')) x (TxO C d T' x))):(cxOf (CX1 P w) P w K mg base N qual scope f cd A outer s₀ H₀ E).xe (.ref x) s:=by
 obtain⟨⟨ox,vs,h1,h2,h3,h4,h5,h6⟩,_⟩:=I.hok x _ hx
 obtain⟨⟨oT,ts,t1,t2,t3⟩,_⟩:=I.hok T _ hT
 have hsz:=(Array.getElem?_eq_some_iff.mp h6).1
 have I1:=I.cleared hT t1 t2 t3
 refine Q7 (base:=base) I.ok.frames I.stack rfl h1 h5 h6 hTx t1 t2 t3 fun h' Nd=>?_
 have hx1:(clearT T s.heap).get? x=some ox:=(Heap.get?_update_other _ _ hTx).trans h1
 obtain⟨T',hn,hT'x,hT0,hok⟩:=Noted.hok (C:=C) (d:=d) (fl:=.none) I1 hx hx1 h2 h4 h5 hsz (fun b hb=>I.stkFree b hb) Nd
 have un:=Noted.un (C:=C) (d:=d) I1 rfl hx hn hT0 (fun b hb=>by
  rcases List.mem_cons.mp (I.stkSub b hb) with e |e
  ·exact .inr (by rw[e];exact I.ok.above)
  ·exact .inl e) Nd
 exact⟨x,C,d,T',_,rfl,I.os,I.bare,un,hok,je,by rw[jf hT'x,je],hT'x,h T' hn⟩
theorem passes1{E':XK}(hE:∀x C d T T' H',H' x=some (TxO C d T x)->H' T=some (TbO T)->H' T'=none->E' (.ref C) d H'->E (.ref C) d (upd (upd H' T' (TbO T')) x (TxO C d T' x))):
  Passes (CX1 P w) (cxOf (CX1 P w) P w K mg base N qual scope f cd A outer s₀ H₀ E) E':=by
 intro pins σ H s e s' I h
 obtain⟨x,C,d,T,H',rfl,os,bare,un,hok,hx,hT,hTx,hw⟩:=h
 obtain⟨hh,g,dr,tk,os'⟩:=s'
 obtain rfl:os'=s.os:=os
 have I':=I.call (h':=hh) (g':=g) (d':=dr) (t':=tk) (ch:=[]) un hok bare (fun b z=>absurd z (by simp))
 exact xe_next I' hx hT hTx fun T' hn=>hE x C d T T' H' hx hT hn hw
end
section
open PySem.W
variable {prog:Program}{w:World}{A:Around}{E:Value->Shared->Prop}{K:Frag}{x C:Addr}{ox:Obj}{vs:Array Value}{env:Env}
theorem Q8{s:Shared}{ev:Sem Value}{Q:Flow->Shared->Prop}(hh:A.handled=none)
  (h:wpAny (model prog w) A ev (fun v s₁=>∃x C ox vs,v= .ref x/\K.In s₁.heap/\XCls K C/\typeIn K (.ref C)=some (.type "type")/\s₁.heap.get? x=some ox/\ox.cls= .ref C/\ox.data= .fields vs/\vs[1]?=some .none/\E (.ref x) s₁) E s):
  wpAny (model prog w) A (raiseStmt env (some ev) none) Q E s:=by
 unfold raiseStmt
 refine wpAny_bind (wpAny_mono h (fun v s₁ h₁=>?_) fun _ _ z=>z)
 obtain⟨x,C,ox,vs,rfl,X,xc,ht,hx,hc,hd,h1,hE⟩:=h₁
 obtain⟨hp,g,d,tk,os⟩:=s₁
 have L0:Looks (model prog w) hp (typeOf (.ref x)) (.ref C):=hc▸(Looks.ld hx).andThen .now
 have L1:Looks (model prog w) hp (isType (.ref x)) false:=by
  intro A' Q' E' s' k q
  unfold isType loadHead
  refine wpAny_bind (wpAny_loadPart (k _ _ hx) ?_)
  rw[hd]
  exact wpAny_pure q
 have L2:=looks_mroIn (M:=model prog w) X xc.mb
 have L3:=looks_typeIn (M:=model prog w) X ht
 have L4:Looks (model prog w) hp (isInstance (.ref x) (.type "BaseException")) true:=L0.andThen L2
 have L5:Looks (model prog w) hp (isExcClass (.ref x)) false:=by
  unfold isExcClass
  exact L1.andThen .now
 have L6:Looks (model prog w) hp (raisedInstance (.ref x)) (.ref x):=by
  unfold raisedInstance
  exact L0.andThen (L3.andThen (by rw[if_pos (by decide)];exact .now))
 have L7:Looks (model prog w) hp (excFromValue (.ref x) "exceptions must derive from BaseException") (.ref x):=by
  unfold excFromValue
  exact L5.andThen (by rw[if_neg (by decide)];exact L4.andThen (by rw[if_pos rfl];exact .now))
 refine wpAny_bind (wpAny_pure ?_)
 refine wpAny_bind (wpAny_holding (L7.at ?_))
 dsimp only
 refine wpAny_bind (L1.at ?_)
 rw[if_neg (by decide)]
 refine wpAny_bind (L6.at ?_)
 unfold setFlight
 refine wpAny_bind (wpAny_bind (wpAny_field hx hd h1 ?_))
 rw[if_neg (by decide)]
 exact wpAny_pure (wpAny_raiseNew_none hh hE)
end
def Flies(X:Cx)(Wx:Addr->Addr->Option Addr->Hp->Prop):Prop:=∀(pins:List (Addr×Obj)) (σ:St) (H:Hp) (s:Shared) (x C:Addr) (d:Option Addr),Inv X pins σ H s->H x=some (ExO C d x)->Wx x C d H->X.xe (.ref x) s
theorem qi{P:Program}{w:World}{K:Frag}{mg:Str->Option Value}{base:Heap}{N:List Str}{qual:Str}{scope:Scope}{f:Addr}{cd:Value}{A:Around}{outer:List Env}{s₀:Shared}{H₀:Hp}{E:XK}:
  Flies (cxOf (CX1 P w) P w K mg base N qual scope f cd A outer s₀ H₀ E) (fun x C d H=>∀T,H T=none->E (.ref C) d (upd (upd H T (TbO T)) x (TxO C d T x))):=
 fun _ _ _ _ _ _ _ I hx h=>Zz I hx h
def sRaise(K:Frag)(te:TE)(Wx:Addr->Addr->Option Addr->Hp->Prop):TS:=fun _ σ H=>te σ H fun v H1=>∃x C d,v= .ref x/\H1 x=some (ExO C d x)/\XCls K C/\typeIn K (.ref C)=some (.type "type")/\Wx x C d H1
theorem qX{X:Cx}{e:Expr}{te:TE}{pos:Pos}{Wx:Addr->Addr->Option Addr->Hp->Prop}(hc:X.calm=true)(fl:Flies X Wx)(he:PE X e te):PS X (.Raise (some e) none pos) (sRaise X.K te Wx):=by
 intro pins s σ H D I h
 rw[arm_exec_Raise]
 refine wpAny_bind (wpAny_standAt ?_)
 refine Q8 (K:=X.K) (ev:=do let v <- eval e X.env;standAt pos;pure v) (I.ok.hd hc) (wpAny_bind (thn (he pins s σ H _ I h) fun u s1 hq'=>wpAny_bind (wpAny_standAt (wpAny_pure ?_))))
 obtain⟨v,H1,I1,rv,x,C,d,ev,hx,xc,ht,q⟩:=hq'
 subst ev
 obtain rfl:u=Value.ref x:=rv
 obtain⟨⟨ox,h1,h2,h3,h4,vs,h5,h6⟩,_⟩:=I1.hok x _ hx
 exact⟨x,C,ox,vs,rfl,I1.kIn,xc,ht,h1,h2,h5,h6,fl pins σ H1 s1 x C d I1 hx q⟩
section
variable {X:Cx}{pins:List (Addr×Obj)}{σ:St}{H:Hp}{s:Shared}{x C:Addr}{d:Option Addr}
theorem Inv.noted{ox:Obj}{vs:Array Value}{h':Heap}{φ:Heap->Prop}{t':Nat}(I:Inv X pins σ H s)(hx:H x=some (.ext φ))(ho:s.heap.get? x=some ox)(h2:ox.cls= .ref C)(h4:ox.dict=d)(h5:ox.data= .fields vs)(hsz:1 < vs.size)
  (Nd:Noted .none (frs X.stack) x ox s.heap h'):∃T,H T=none/\T≠x/\Inv X pins σ (upd (upd H T (TbO T)) x (TxO C d T x)) { s with heap:=h',toks:=t' }:=by
 obtain⟨T,hn,hTx,hT0,hok⟩:=Noted.hok (C:=C) (d:=d) (fl:=.none) I hx ho h2 h4 h5 hsz (fun b hb=>I.stkFree b hb) Nd
 have nx:∀b,H b=none->b≠x:=fun b e z=>by rw[z,hx]at e;cases e
 have upS:∀b u,H b=some u->(∀φ,u≠ .ext φ)->upd (upd H T (TbO T)) x (TxO C d T x) b=some u:=fun b u e z=>by
  rw[jf (fun q=>by rw[q,hx]at e;cases e;exact z _ rfl),jf (jl e hn)]
  exact e
 refine⟨T,hn,hTx,I.call (g':=s.gens) (d':=s.drawn) (ch:=[]) ?_ hok I.bare (fun b z=>absurd z (by simp))⟩
 refine⟨fun b o e n hb _=>Nd.keep b o hb (nx b n) e,fun b o e n _ _=>Nd.slot b o (nx b n) e,fun b o e n _=>?_,fun b o e _=>?_,fun b xs e=>upS b _ e (by intro _ q;cases q),fun b o u e=>upS b _ e (by intro _ q;cases q),fun b ps e=>⟨#[],by rw[upS b _ e (by intro _ q;cases q)];simp⟩⟩
 ·rw[jf (nx b n),jf (Nat.ne_of_lt (Nat.lt_of_lt_of_le (Heap.lt_size e) hT0))]
  exact n
 ·by_cases hb:b=x
  ·obtain⟨T',_,_,_,hx',_⟩:=Nd.ex
   exact⟨_,by rw[hb];exact hx'⟩
  ·obtain⟨sl,q⟩:=Nd.slot b o hb e
   exact⟨_,q⟩
theorem Yk{M:Model}{A:Around}{E:Value->Shared->Prop}{i:Nat}{n:Str}{v:V}{pos:Pos}{Q:Unit->Shared->Prop}(I:Inv X pins σ H s)(hN:X.N.Nodup)(hi:X.N[i]?=some n)(hk:X.env.scope.names.lookup n=some .local)(hv:σ[i]?=some (some v))
  (h:∀s',Inv X pins (σ.set i none) H s'->Q () s'):wpAny M A (unbindBehindTheSuite X.env n pos) Q E s:=by
 obtain⟨m,hn,hl⟩:=id I.loc
 have hcls:(X.env.scope.kind== .class||(X.env.scope.kind== .module&&X.env.locals != X.env.globals))=false:=by rw[I.ok.kind];rfl
 obtain⟨u,ru,lk⟩:=hl i n v hi hv (.inl hk)
 have hm:m n=some u:=by
  rcases lk with ⟨_,e⟩ | ⟨k,_⟩
  ·exact e
  ·have k':X.env.scope.names.lookup n=some .cell∨X.env.scope.names.lookup n=some .free:=k
   rw[hk]at k'
   rcases k' with z |z<;>cases z
 have cne:=I.cne
 obtain⟨oL,_,_,hoL,_⟩:=id hn
 unfold unbindBehindTheSuite
 refine wpAny_onRaise (wpAny_unbindName_local hk hn hm hcls fun h' w' hn' hs=>h _ ?_)
 refine⟨I.ok,I.os,I.bare,⟨fun b o e n hb hx=>?_,fun b o e n hb hx=>?_,I.base.free,fun b o e hx=>?_,I.base.tups,I.base.frzs,I.base.tbls⟩,⟨_,hn',fun j y v' e1 e2 e3=>?_⟩,fun y c e=>?_,I.free,I.freeC,fun p hp=>?_,fun b ob e=>?_,by simpa using I.len⟩
 ·exact(hs.2 b (Nat.ne_of_lt (Nat.lt_of_lt_of_le (Heap.lt_size e) I.ok.above))).trans (I.base.keep b o e n hb hx)
 ·obtain⟨sl,e1⟩:=I.base.slot b o e n hb hx
  exact⟨sl,(hs.2 b (Nat.ne_of_lt (Nat.lt_of_lt_of_le (Heap.lt_size e) I.ok.above))).trans e1⟩
 ·obtain⟨o',e1⟩:=I.base.there b o e hx
  exact⟨o',(hs.2 b (Nat.ne_of_lt (Nat.lt_of_lt_of_le (Heap.lt_size e) I.ok.above))).trans e1⟩
 ·have hiσ:i < σ.length:=by rw[I.len];exact(List.getElem?_eq_some_iff.mp hi).1
  by_cases hj:j=i
  ·subst hj
   rw[List.getElem?_set_self hiσ]at e2
   cases e2
  ·rw[List.getElem?_set_ne (Ne.symm hj)]at e2
   obtain⟨u',r',q⟩:=hl j y v' e1 e2 e3
   refine⟨u',r',?_⟩
   rcases q with ⟨k,e⟩ | ⟨k,c,e,z⟩
   ·refine .inl ⟨k,?_⟩
    have:y≠n:=fun e=>hj (JZ hN e1 (e▸hi))
    simp [this,e]
   ·exact .inr ⟨k,c,e,z.sameBut hs (cne y c e)⟩
 ·obtain⟨w2,z⟩:=I.cell y c e
  exact⟨w2,z.sameBut hs (cne y c e)⟩
 ·obtain⟨e,n,ne,nf,d⟩:=I.pin p hp
  exact⟨(hs.2 p.1 ne).trans e,n,ne,nf,d⟩
 ·refine(I.hok b ob e).stay (fun c w' hc q=>(hs.2 c ?_).trans q) (fun _ q=>q) fun _ _ q=>q
  rintro rfl
  rcases hc with z |z
  ·rw[<- z,I.free]at e;cases e
  ·rw[I.free]at z;cases z
end
noncomputable abbrev Cx.mark(X:Cx)(e:Value)(xe:Value->Shared->Prop):Cx:={ X with A:=X.A.mark (some e),calm:=false,xe:=xe }
theorem Inv.mark{X:Cx}{pins:List (Addr×Obj)}{σ:St}{H:Hp}{s:Shared}(I:Inv X pins σ H s)(e:Value)(xe:Value->Shared->Prop):Inv (X.mark e xe) pins σ H s:=
 ⟨⟨I.ok.mod,I.ok.kind,I.ok.glob,I.ok.blt,I.ok.above,I.ok.inj,I.ok.has,I.ok.cab,(fun z=>nomatch (show false=true from z)),I.ok.frames,I.ok.stk,I.ok.exf,I.ok.bs,I.ok.bsz,I.ok.noex,I.ok.exfs,I.ok.funs,I.ok.frf⟩,I.os,I.bare,I.base,I.loc,I.cell,I.free,I.freeC,I.pin,I.hok,I.len⟩
theorem Inv.unmark{X:Cx}{pins:List (Addr×Obj)}{σ:St}{H:Hp}{s:Shared}{e:Value}{xe:Value->Shared->Prop}(ok:X.Ok)(I:Inv (X.mark e xe) pins σ H s):Inv X pins σ H s:=
 ⟨ok,I.os,I.bare,I.base,I.loc,I.cell,I.free,I.freeC,I.pin,I.hok,I.len⟩
section
open PySem.W
theorem Ko{M:Model}{K:Frag}{h:Heap}{x C B:Addr}{ox:Obj}(X:K.In h)(hx:h.get? x=some ox)(hc:ox.cls= .ref C)(hB:clsIn K B≠none)(tB:typeIn K (.ref B)=some (.type "type"))(mB:mroIn K B (.type "BaseException")=some true)(mC:mroIn K C (.ref B)=some true):
  Looks M h (excMatches (.ref x) (.ref B)) true:=by
 have L0:Looks M h (typeOf (.ref x)) (.ref C):=hc▸(Looks.ld hx).andThen .now
 have L1:=looks_typeIn (M:=M) X tB
 have L2:Looks M h (isInstance (.ref B) (.type "tuple")) false:=L1.andThen (Looks.of_pure tc_notTuple)
 have L3:Looks M h (isType (.ref B)) true:=by
  unfold clsIn at hB
  split at hB
  ·rename_i ho
   intro A' Q' E' s' k q
   unfold isType loadHead
   exact wpAny_bind (wpAny_loadPart (k _ _ (X _ _ ho)) (wpAny_pure q))
  ·exact absurd rfl hB
 have L4:Looks M h (isExcClass (.ref B)) true:=by
  unfold isExcClass
  exact L3.andThen (by rw[if_pos rfl];exact looks_mroIn X mB)
 have L5:=looks_mroIn (M:=M) X mC
 intro A' Q' E' s' k q
 unfold excMatches
 refine wpAny_bind (L2 A' _ E' s' k ?_)
 rw[if_neg (by decide)]
 refine wpAny_bind (wpAny_pure ?_)
 dsimp only
 refine wpAny_bind ?_
 rw[List.forIn_cons]
 refine wpAny_bind (wpAny_bind (L4 A' _ E' s' k ?_))
 simp only[Bool.not_true,Bool.false_eq_true,if_false]
 refine wpAny_pure ?_
 dsimp only
 rw[List.forIn_nil]
 refine wpAny_pure ?_
 refine wpAny_bind (L0 A' _ E' s' k ?_)
 refine wpAny_bind ?_
 rw[List.forIn_cons]
 refine wpAny_bind (wpAny_bind (L5 A' _ E' s' k ?_))
 simp only[if_true]
 refine wpAny_pure (wpAny_pure ?_)
 exact wpAny_pure q
end
abbrev XR:=Addr->Addr->Option Addr->Addr->Hp->Prop
def XW(X:Cx)(pins:List (Addr×Obj))(σ:St)(R:XR)(e:Value)(s':Shared):Prop:=
 ∃x C d T H',e= .ref x/\Inv X pins σ H' s'/\H' x=some (TxO C d T x)/\H' T=some (TbO T)/\T≠x/\R x C d T H'
abbrev TEX:=St->Hp->VK->XR->Prop
abbrev TSX:=Ends->XR->St->Hp->Prop
def PEX(X:Cx)(e:Expr)(t:TEX):Prop:=
 ∀(pins:List (Addr×Obj)) (s:Shared) (σ:St) (H:Hp) (Q:VK) (R:XR),Inv X pins σ H s->t σ H Q R->wpAny (model X.prog X.w) X.A (eval e X.env) (EP X pins σ Q) (XW X pins σ R) s
def PSX(X:Cx)(st:Stmt)(t:TSX):Prop:=
 ∀(pins:List (Addr×Obj)) (s:Shared) (σ:St) (H:Hp) (D:Ends) (R:XR),Inv X pins σ H s->t D R σ H->wpAny (model X.prog X.w) X.A (exec st X.env) (SP X pins D) (XW X pins σ R) s
def xOf(R:XR):XK:=fun Cv d H'=>∀x C T,Cv= .ref C->H' x=some (TxO C d T x)->H' T=some (TbO T)->T≠x->R x C d T H'
def tCallX(sp:Sp)(dvs:List V)(t:TA):TEX:=fun σ H Q R=>t σ H fun vs H1=>sp (vs++dvs) H1 Q (xOf R)
section
variable {X:Cx}{k:Nat}{f:Addr}{fd:FuncData}{ps:List Str}{sp:Sp}{dvs:List V}{ds:List Value}{x:Str}{p pos:Pos}{e:Expr}{es:List Expr}{t:TA}{te:TEX}
theorem ZA(F:FnOk X.prog X.w X.K X.mg X.base (CX1 X.prog X.w) k f fd ps sp)(hr:Room k X.A)(hg:Gl X x)(hm:X.mg x=some (.ref f))(hk:keepIn X.K (.ref f)=true)(hb:Binds X.K fd ps ds)(hd:Vals dvs ds)
  (ha:PA X.nox (e::es) t) (hdb:(x==("__debug__":Str))=false:=by decide) (he:starEach (e::es) X.env=(false,eval e X.env)::starEach es X.env:=by rfl) (hpl:(backTo pos (starEach es X.env)).any (·.1)=false:=by rfl):
  PEX X (.Call (.Name x p) (e::es) [] pos) (tCallX sp dvs t):=by
 intro pins s σ H Q R I h
 refine wpAny_Call_Name_kw (zE I hg hm ?_ hdb)
 refine callWith_K (h₀:=X.base) I.ok.mod.kin hk (wpAny_mono (ha pos pins s σ H _ (I.wish _) h) (fun us s1 ⟨vs,H1,I1,r,q⟩=>⟨I1.kIn,?_⟩) fun _ _ z=>z.elim) he hpl
 have I1:=I1.unwish
 have r2:Vals (vs++dvs) (us++ds):=r.append hd
 have hl:(us++ds).length=ps.length:=by rw[<- r2.length];exact F.len _ _ _ _ q
 refine wpAny_call (codeAny_mono (F.run X.A X.stack s1 H1 ⟨us,[]⟩ (us++ds) (vs++dvs) Q (xOf R) hr I1.env0 (hb s1 us I1.kIn hl) r2 q) fun r s' hq=>?_)
 cases r with
 |error e=>
  obtain⟨x,C,d,T,H',rfl,os,bare,un,hok,hx,hT,hTx,hw⟩:=hq
  exact⟨x,C,d,T,H',rfl,I1.call' os un hok bare (fun b z=>absurd z (by simp)),hx,hT,hTx,hw x C T rfl hx hT hTx⟩
 |ok fl=>
  cases fl with
  |ret u=>exact I1.after hq
  |next=>exact False.elim hq
  |brk=>exact False.elim hq
  |cont=>exact False.elim hq
theorem psx_set{i:Nat}{y:Str}{pos':Pos}(hN:X.N.Nodup)(hi:X.N[i]?=some y)(hx:Loc X.env.scope y)(he:PEX X e te)(hs:swapsWith e (some (.Name y pos')) pos.line X.env=pure false:=by rfl)(hf:X.fn y=true∨X.env.scope.names.lookup y=some .local:=by first |exact .inl rfl |exact .inr rfl |assumption):
  PSX X (.Assign [.Name y pos'] e pos) (fun D R σ H=>te σ H (fun v H1=>D.nx (σ.set i (some v)) H1) R):=by
 intro pins s σ H D R I h
 refine wpAny_Assign_Name (thn (he pins s σ H _ R I h) fun v s1 ⟨y,H1,I1,r1,q1⟩=>?_) hs
 exact zk I1 hN hi hx r1 (fun s2 I2=>⟨_,H1,I2,q1⟩) hf
end
theorem qj{X:Cx}{pins:List (Addr×Obj)}{σ:St}{H:Hp}{s:Shared}{M:Model}{A:Around}{E:Value->Shared->Prop}{i:Nat}{n:Str}{pos:Pos}{Q:Unit->Shared->Prop}(I:Inv X pins σ H s)(hN:X.N.Nodup)(hi:X.N[i]?=some n)(hk:X.env.scope.names.lookup n=some .local)
  (h:∀s',Inv X pins (σ.set i none) H s'->Q () s'):wpAny M A (do bindName X.env n .none;unbindBehindTheSuite X.env n pos) Q E s:=by
 have hiσ:i < σ.length:=by rw[I.len];exact(List.getElem?_eq_some_iff.mp hi).1
 refine wpAny_bind ?_
 unfold bindName
 refine wpAny_bind (wpAny_holding (wpAny_point (wpAny_bind (zk (v:=.non) I hN hi (.inl hk) rfl (fun s1 I1=>wpAny_point ?_) (.inr hk)))))
 refine Yk I1 hN hi hk (v:=.non) (List.getElem?_set_self hiσ) fun s2 I2=>h s2 ?_
 rw[List.set_set]at I2
 exact I2
noncomputable def behind(i:Nat)(D:Ends):Ends:={ nx:=fun σ H=>D.nx (σ.set i none) H,rt:=D.rt,bk:=fun σ H=>D.bk (σ.set i none) H,ct:=fun σ H=>D.ct (σ.set i none) H }
def tTry(K:Frag)(B:Addr)(i:Nat)(tb:TSX)(ts:TS):TS:=fun D σ H=>tb D (fun x C d _ H'=>mroIn K C (.ref B)=some true/\∀T',H' T'=none->ts (behind i D) (σ.set i (some (.ref x))) (upd (upd H' T' (TbO T')) x (TxO C d T' x))) σ H
section
variable {X:Cx}{st b₀:Stmt}{suite:List Stmt}{tb:TSX}{ts:TS}{cn n:Str}{np hp pos:Pos}{B:Addr}{i:Nat}
theorem ps_try(hst:X.stack=X.env::X.outer)(hfr:X.env.frame=some X.env.locals)(hb:PSX X st tb)(hg:Gl X cn)(hm:X.mg cn=some (.ref B))(hB:clsIn X.K B≠none)(tB:typeIn X.K (.ref B)=some (.type "type"))(mB:mroIn X.K B (.type "BaseException")=some true)
  (hN:X.N.Nodup) (hi:X.N[i]?=some n) (hk:X.env.scope.names.lookup n=some .local) (hs:∀e,PSs (X.mark e fun _ _=>False) (b₀::suite) ts) (hdb:(cn==("__debug__":Str))=false:=by decide):
  PS X (.Try [st] [.ExceptHandler (some (.Name cn np)) (some n) (b₀::suite) hp] [] [] pos) (tTry X.K B i tb ts):=by
 intro pins s σ H D I h
 refine wpAny_Try_except (wpAny_execs_cons (wpAny_mono (hb pins s σ H D _ I h) (fun f s1 q=>?_) fun e s1 q=>?_))
 ·cases f with
  |next=>exact wpAny_execs_nil (wpAny_execs_nil q)
  |ret v=>exact q
  |brk=>exact q
  |cont=>exact q
 obtain⟨x,C,d,T,H',rfl,I1,hx,hT,hTx,mC,q⟩:=q
 obtain⟨⟨ox,vs,h1,h2,h3,h4,h5,h6⟩,_⟩:=I1.hok x _ hx
 obtain⟨⟨oT,tz,t1,t2,t3⟩,_⟩:=I1.hok T _ hT
 have hsz:=(Array.getElem?_eq_some_iff.mp h6).1
 have fr1:X.A.frames=some (X.env::X.outer):=by rw[<- hst];exact I1.ok.frames
 have fl1:s1.heap.FunFrames X.base (X.env::X.outer):=by rw[<- hst];exact I1.stack
 refine KP (base:=X.base) fr1 fl1 hfr h1 h5 h6 hTx t1 t2 t3 fun g2 Nd=>?_
 have hx1:(clearT T s1.heap).get? x=some ox:=(Heap.get?_update_other _ _ hTx).trans h1
 refine land (s:={ s1 with heap:=g2 }) Nd hx1 h5 hsz fun g3 Nd3=>?_
 obtain⟨T',hn,hT'x,I3⟩:=(I1.cleared hT t1 t2 t3).noted (C:=C) (d:=d) (t':=s1.toks) hx hx1 h2 h4 h5 hsz (by unfold frs;rw[hst];exact Nd3)
 have I3:Inv X pins σ (upd (upd H' T' (TbO T')) x (TxO C d T' x)) { s1 with heap:=g3 }:=I3
 obtain⟨⟨ox3,vs3,k1,k2,k3,k4,k5,k6⟩,_⟩:=I3.hok x _ je
 have hT3:upd (upd H' T' (TbO T')) x (TxO C d T' x) T'=some (TbO T'):=by rw[jf hT'x,je]
 obtain⟨⟨oT3,tz3,u1,u2,u3⟩,_⟩:=I3.hok T' _ hT3
 refine wpAny_handleBy_cons (codeAny_handlers_test ?_) (by intro z;cases z)
 refine zE (I3.mark (.ref x) fun _ _=>False) hg hm ?_ hdb
 refine Ko I3.kIn k1 k2 hB tB mB mC _ _ _ _ (fun _ _ e=>e) ?_
 refine codeAny_handlers_suite_as ?_
 unfold setFlight
 refine wpAny_bind (wpAny_field k1 k5 k6 ?_)
 rw[if_pos (show(Value.ref T' != Value.none)=true from by simp)]
 refine wpAny_setField u1 u2 (Array.getElem?_eq_some_iff.mp u3).1 ?_
 have I4:=I3.cleared hT3 u1 u2 u3
 refine zk (v:=.ref x) I4 hN hi (.inl hk) rfl (fun s5 I5=>?_) (.inr hk)
 refine wpAny_mono (hs (.ref x) pins s5 _ _ (behind i D) (I5.mark (.ref x) fun _ _=>False) (q T' hn)) (fun f s6 q6=>?_) fun _ _ z=>z.elim
 cases f with
 |next=>obtain⟨σ',H6,I6,nx⟩:=q6;exact qj (I6.unmark I.ok) hN hi hk fun s7 I7=>⟨_,_,I7,nx⟩
 |brk=>obtain⟨σ',H6,I6,nx⟩:=q6;exact qj (I6.unmark I.ok) hN hi hk fun s7 I7=>⟨_,_,I7,nx⟩
 |cont=>obtain⟨σ',H6,I6,nx⟩:=q6;exact qj (I6.unmark I.ok) hN hi hk fun s7 I7=>⟨_,_,I7,nx⟩
 |ret v=>obtain⟨y,σ',H6,I6,rv,nx⟩:=q6;exact qj (I6.unmark I.ok) hN hi hk fun s7 I7=>⟨y,_,_,I7,rv,nx⟩
end
def ExcC(H:Hp)(a C:Addr)(fs:List (Str×V)):Prop:=(fs=[]/\∃T,H a=some (TxO C none T a))∨∃dx T,H a=some (TxO C (some dx) T a)/\H dx=some (.xd fs)
section
variable {X:Cx}{pins:List (Addr×Obj)}{σ:St}{H:Hp}{s:Shared}{a C:Addr}{fs:List (Str×V)}{f:Str}{v:V}{A:Around}{E:Value->Shared->Prop}
theorem Jn(I:Inv X pins σ H s)(e:ExcC H a C fs):∃ox od,PySem.W.InstAt s.heap a ox C od/\∀f v,fs.lookup f=some v->∃o u,od=some o/\RelV v u/\lookIn f o=some (some u):=by
 rcases e with ⟨rfl,T,e⟩ | ⟨dx,T,e,e2⟩
 ·obtain⟨⟨o,vs,h1,h2,h3,h4,_⟩,_⟩:=I.hok a _ e
  exact⟨o,none,⟨h1,h2,h3,by rw[h4];trivial⟩,fun f v q=>nomatch q⟩
 ·obtain⟨⟨o,vs,h1,h2,h3,h4,_⟩,_⟩:=I.hok a _ e
  obtain⟨mA,n,r⟩:=(show ObjOk X.prog X.w H s.heap dx (.xd fs) from I.hok dx _ e2)
  obtain⟨od,ho,hl⟩:=KC n
  refine⟨o,some od,⟨h1,h2,h3,by rw[h4];exact ho⟩,fun f v q=>?_⟩
  obtain⟨u,hu,ru⟩:=RelO.some_of (v:=v) (o:=mA f) (by rw[<- q];exact r f)
  exact⟨od,u,rfl,ru,by rw[hl,hu]⟩
theorem getC_ok{b:Bool}{Q:Value->Shared->Prop}(I:Inv X pins σ H s)(e:ExcC H a C fs)(c:XCls X.K C)(n:NoAttr X.K C f)(l:fs.lookup f=some v)
  (h:∀u s',Inv X pins σ H s'->RelV v u->Q u s'):wpAny (model X.prog X.w) A (getAttr (.ref a) f b) Q E s:=by
 obtain⟨ox,od,J,hl⟩:=Jn I e
 obtain⟨o,u,rfl,ru,hu⟩:=hl f v l
 exact get_exc I.kIn J c.ga c.gh c.mb (PySem.W.findObj_own c.hd n rfl hu) (KD ru) (h u _ (I.tok _) ru)
theorem j8:CallR X (.builtin "isinstance") (fun xs H Q=>∃a C fs y c b,xs=[.ref a,y]/\clsV y=some c/\ExcC H a C fs/\XCls X.K C/\kitOne X.K (.ref C) c=some b/\Q (.bl b) H):=by
 intro pins s σ H xs us Q I r h
 obtain⟨a,C,fs,y,c,b,rfl,hc,ex,xc,e,q⟩:=h
 obtain⟨u,w',rfl,rx,ry⟩:=vals2 r
 have ec:w'=c:=by
  cases y with
  |ty n=>exact Eq.trans ry (Option.some.inj hc)
  |ref a=>exact Eq.trans ry (Option.some.inj hc)
  |_=>cases hc
 subst ec
 cases (show u=Value.ref a from rx)
 obtain⟨ox,od,J,_⟩:=Jn I ex
 exact kia_one (Qp xc) I.kIn ⟨ox,od,J⟩ e (fun z=>nomatch z) fun tk=>⟨.bl b,H,I.tok tk,rfl,q⟩
end
def tFldC(K:Frag)(ta:TE)(f:Str):TE:=fun σ H Q=>ta σ H fun x H1=>∃a C fs v,x= .ref a/\ExcC H1 a C fs/\XCls K C/\NoAttr K C f/\fs.lookup f=some v/\Q v H1
theorem pe_fldC{X:Cx}{g:Str}{pos:Pos}{e:Expr}{ta:TE}(he:PE X e ta)(hb:attributeBase e g X.env (eval e X.env)=eval e X.env):PE X (.Attribute e g pos) (tFldC X.K ta g):=by
 intro pins s σ H Q I h
 refine Xv hb (thn (he pins s σ H _ I h) fun u s1 hq'=>?_)
 obtain⟨x,H1,I1,rx,a,C,fs,v,ex,ea,c,n,l,q⟩:=hq'
 subst ex
 obtain rfl:u=Value.ref a:=rx
 exact getC_ok I1 ea c n l fun u' s2 I2 ru=>⟨v,H1,I2,ru,q⟩
theorem Fun.ok1{P:Program}{w:World}{K:Frag}{mg:Str->Option Value}{base:Heap}{x qual:Str}{st:Stmt}{f:Addr}{fd:FuncData}{N ps:List Str}{k:Nat}{sp:Sp}(F:Fun K x qual st f fd)(S:FnScope N ps (defScope st))(len:∀vs H Q E,sp vs H Q E->vs.length=ps.length)
  (hbody:∀(cdv:Value) (A:Around) (outer:List Env) (s:Shared) (H:Hp) (vs:List V) (Q:VK) (E:XK),Room k (A.deeper (envOfC qual (defScope st) s.heap.objs.size f cdv))->sp vs H Q E->
   ∃t,PSs (cxOf (CX1 P w) P w K mg base N qual (defScope st) f cdv A outer s H E) (defBody st) t/\t { nx:=fun _ H'=>Q .non H',rt:=Q } (start N vs) H):FnOk P w K mg base (CX1 P w) (k+1) f fd ps sp:=by
 obtain⟨oc,od,kV,doc,pm,an,cdv,ct,osl,rfl,lk,hcd⟩:=F.ex
 exact fn_of lk hcd S len fun A outer s H vs Q E hr hsp=>hbody cdv A outer s H vs Q E hr hsp
section
variable {prog:Program}{w:World}{A:Around}{E:Value->Shared->Prop}{s:Shared}
theorem XA{α:Type}{Q:α->Shared->Prop}(hh:A.handled=none)
  (h:∀h' e,(∀b o,s.heap.get? b=some o->h'.get? b=some o)->Shared.TypeIs { s with heap:=h' } e "StopIteration"->E e { s with heap:=h' }):
  wpAny (model prog w) A (do raiseNew (<- newExc (.type "StopIteration") []):Sem α) Q E s:=by
 refine wpAny_bind ?_
 simp only[newExc,newTuple]
 refine wpAny_bind (wpAny_newObj_type ?_ (by size_fits))
 refine wpAny_bind (m:=firstArgMember _ _) (wpAny_of_eq (a:=Value.none) ?_ ?_)
 ·first |rfl | (simp only[firstArgMember];rfl)
 refine wpAny_newObj_type ?_ (by size_fits)
 simp only[raiseNew]
 refine wpAny_bind (wpAny_handled ?_)
 rw[hh]
 refine wpAny_bind (wpAny_pure (wpAny_throw (h _ _ (fun b o e=>Heap.get?_push_of_some _ (Heap.get?_push_of_some _ e)) ?_)))
 exact⟨_,Heap.get?_push_size _ rfl,rfl⟩
end
noncomputable def pickIx(lo hi:Option Int)(st:Int)(n:Nat):List Nat:=
 (List.range (Builtin.Slice.slicePlaces (Builtin.Slice.sliceAdjust lo hi st (n:Int)).1 (Builtin.Slice.sliceAdjust lo hi st (n:Int)).2 st)).map fun(k:Nat)=>((Builtin.Slice.sliceAdjust lo hi st (n:Int)).1+(k:Int)*st).toNat
noncomputable def pickV(xs:List V)(lo hi:Option Int)(st:Int):List V:=(pickIx lo hi st xs.length).filterMap fun k=>xs[k]?
theorem Vals.picks{xs:List V}{us:List Value}(r:Vals xs us):∀ks:List Nat,Vals (ks.filterMap fun k=>xs[k]?) (ks.filterMap fun k=>us[k]?)
 | []=>.nil
 |k::ks=>by
  cases e:xs[k]? with
  |none=>
   have e':=Vals.none_of r e
   simp only[List.filterMap_cons,e,e']
   exact Vals.picks r ks
  |some x=>
   obtain⟨u,hu,ru⟩:=r.get e
   simp only[List.filterMap_cons,e,hu]
   exact .cons ru (Vals.picks r ks)
section
variable {prog:Program}{w:World}{A:Around}{E:Value->Shared->Prop}{s:Shared}
theorem Jb{sl:Addr}{vl vu:Value}{lo hi:Option Int}{st:Int}{tk:Tok}{n:Nat}{Q:Int×Int×Nat->Shared->Prop}(hs:s.heap.IsSliceOf sl vl vu (.int st tk))(pl:IsPart vl lo)(pu:IsPart vu hi)(h0:st≠0)
  (h:Q ((Builtin.Slice.sliceAdjust lo hi st (n:Int)).1,st,Builtin.Slice.slicePlaces (Builtin.Slice.sliceAdjust lo hi st (n:Int)).1 (Builtin.Slice.sliceAdjust lo hi st (n:Int)).2 st) s):wpAny (model prog w) A (Builtin.Slice.sliceApplied (.ref sl) (pure (n:Int))) Q E s:=by
 obtain⟨os,hos,hcs,hds⟩:=id hs
 unfold Builtin.Slice.sliceApplied Builtin.Slice.sliceFields
 refine wpAny_bind (wpAny_bind (wpAny_field hos hds (x:=vl) rfl (wpAny_bind (wpAny_field hos hds (x:=vu) rfl (wpAny_bind (wpAny_field hos hds (x:=.int st tk) rfl (wpAny_pure ?_)))))))
 refine wpAny_bind (HT.slicePart_ (.int st tk) ?_)
 show wpAny _ _ (if (st==0)=true then _ else _) _ _ s
 rw[if_neg (by simpa using h0)]
 refine wpAny_bind (HT.slicePart_ pl (wpAny_bind (HT.slicePart_ pu (wpAny_bind (wpAny_pure ?_)))))
 exact wpAny_pure h
theorem qB{t sl:Addr}{items:List Value}{vl vu:Value}{lo hi:Option Int}{st:Int}{tk:Tok}{Q:Value->Shared->Prop}(ht:IsTup s.heap t items.toArray)(hs:s.heap.IsSliceOf sl vl vu (.int st tk))(pl:IsPart vl lo)(pu:IsPart vu hi)(h0:st≠0)(h1:st≠1)
  (h:Q (.ref s.heap.objs.size) { s with heap:=s.heap.push { cls:=.type "tuple",data:=.seq ((pickIx lo hi st items.length).filterMap fun k=>items[k]?).toArray } })
  (hsz:((pickIx lo hi st items.length).filterMap fun k=>items[k]?).length<=sizeLine):wpAny (model prog w) A (getItem (.ref t) (.ref sl)) Q E s:=by
 have htake:sizeOk (.seq ((pickIx lo hi st items.length).filterMap fun k=>items[k]?).toArray):=by
  show((pickIx lo hi st items.length).filterMap fun k=>items[k]?).toArray.size<=sizeLine
  rw[List.size_toArray]
  exact hsz
 obtain⟨os,hos,hcs,hds⟩:=id hs
 have hTs:s.TypeIs (.ref sl) "slice":=⟨os,hos,hcs⟩
 unfold getItem
 try with_reducible refine wpAny_holding ?_
 first |refine wpAny_bind (wpAny_pure ?_) |skip
 refine wpAny_bind (wpAny_sequenceKey ht.typeIs (by decide) ?_)
 refine wpAny_bind (wpAny_callSpecial?_slot (name:=Str.ofString "__getitem__") ht.typeIs PyProof.Rows.slot_tuple_getitem
  (wpAny_call_entry PyProof.Rows.slot_tuple_getitem ht.typeIs PyProof.Rows.entry_tuple_getitem ?_ (PyProof.Rows.args_tuple_getitem _ _)))
 show wpAny _ _ (Builtin.Tuple.tupleItemsOf (.ref t) >>= _) _ _ s
 refine wpAny_bind (PyProof.Rows.tupleItemsOf_ ht ?_)
 refine wpAny_bind (wpAny_typeOf hTs ?_)
 rw[if_pos (by decide)]
 refine wpAny_bind (Jb hs pl pu h0 ?_)
 have hno:¬(((Builtin.Slice.sliceAdjust lo hi st (items.toArray.size:Int)).1==0&&st==1&&Builtin.Slice.slicePlaces (Builtin.Slice.sliceAdjust lo hi st (items.toArray.size:Int)).1 (Builtin.Slice.sliceAdjust lo hi st (items.toArray.size:Int)).2 st==items.toArray.size)=true):=by
  intro q
  rw[Bool.and_eq_true,Bool.and_eq_true]at q
  exact h1 (eq_of_beq q.1.2)
 show wpAny _ _ (if ((Builtin.Slice.sliceAdjust lo hi st (items.toArray.size:Int)).1==0&&st==1&&Builtin.Slice.slicePlaces (Builtin.Slice.sliceAdjust lo hi st (items.toArray.size:Int)).1 (Builtin.Slice.sliceAdjust lo hi st (items.toArray.size:Int)).2 st==items.toArray.size)=true then _ else _) _ _ s
 have hp:((List.range (Builtin.Slice.slicePlaces (Builtin.Slice.sliceAdjust lo hi st (items.toArray.size:Int)).1 (Builtin.Slice.sliceAdjust lo hi st (items.toArray.size:Int)).2 st)).filterMap fun(k:Nat)=>items.toArray[((Builtin.Slice.sliceAdjust lo hi st (items.toArray.size:Int)).1+(k:Int)*st).toNat]?)=(pickIx lo hi st items.length).filterMap fun k=>items[k]?:=by
  unfold pickIx
  rw[List.filterMap_map,List.size_toArray]
  refine congrArg (fun f=>List.filterMap f _) (funext fun k=>?_)
  simp
 rw[if_neg hno,hp]
 first
  |exact wpAny_bind (m:=Builtin.Tuple.tupleExact _) (wpAny_newObj_type (wpAny_pure ⟨_,rfl,wpAny_pure h⟩) htake)
  |exact wpAny_bind (m:=Builtin.Tuple.tupleExact _) (wpAny_newObj_type (wpAny_bind (wpAny_pure (wpAny_pure ⟨_,rfl,wpAny_pure h⟩))) htake)
  |exact wpAny_bind (wpAny_bind (m:=Builtin.Tuple.tupleExact _) (wpAny_newObj_type (wpAny_pure (wpAny_pure ⟨_,rfl,wpAny_pure h⟩)) htake))
  |exact wpAny_bind (wpAny_bind (m:=Builtin.Tuple.tupleExact _) (wpAny_newObj_type (wpAny_pure ⟨_,rfl,wpAny_pure h⟩) htake))
end
section
variable {X:Cx}{e es:Expr}{te ts:TE}{lo hi:Option Expr}{tl th:TO}{pos p2:Pos}
def tSlT(K:Frag)(te:TE)(tl th:TO)(ts:TE):TE:=fun σ H Q=>te σ H fun x H1=>tl σ H1 fun l H2=>th σ H2 fun u H3=>ts σ H3 fun z H4=>∃a xs st,x= .ref a/\z= .int st/\st≠0/\st≠1/\SqT K H4 a xs/\(pickV xs l u st).length<=sizeLine/\∀p,H4 p=none->Q (.ref p) (upd H4 p (.tup (pickV xs l u st)))
theorem Yl(he:PE X e te)(hl:PO X lo tl)(hu:PO X hi th)(hs:PE X es ts)(hgo:∀o r,letTemporaryGo e o r=pure ():=by intro _ _;rfl):PE X (.Subscript e (.Slice lo hi (some es) p2) pos) (tSlT X.K te tl th ts):=by
 intro pins s σ H Q I h
 refine wpAny_Subscript_Slice_step PyProof.Rows.slot_tuple_getitem.lookup (thn (he pins s σ H _ I h) fun v s1 ⟨x,H1,I1,r1,q1⟩=>?_) hgo
 refine wpAny_Slice (thn (hl pins s1 σ H1 _ I1 q1) fun vl s2 ⟨l,H2,I2,pl,q2⟩=>thn (hu pins s2 σ H2 _ I2 q2) fun vu s3 ⟨u,H3,I3,pu,q3⟩=>?_)
 rw[evalPart_some]
 refine thn (hs pins s3 σ H3 _ I3 q3) fun vs s4 ⟨z,H4,I4,rz,a,xs,st,ex,ez,h0,h1,hq,hz,q⟩=>?_
 subst ex ez
 cases r1
 obtain⟨tk,rfl⟩:=(show ∃tk,vs=Value.int st tk from rz)
 have I5:Inv X pins σ H4 { s4 with heap:=s4.heap.push { cls:=.type "slice",data:=.fields #[vl,vu,.int st tk] } }:=I4.kept (t':=s4.toks) fun b ob q=>Heap.get?_push_of_some _ q
 obtain⟨its,r,ht,hzz⟩:=I5.tuple hq
 have rp:Vals (pickV xs l u st) ((pickIx l u st its.length).filterMap fun k=>its[k]?):=by
  unfold pickV
  rw[r.length]
  exact r.picks _
 refine⟨ht.typeIs,qB ht (Heap.IsSliceOf.new ..) pl pu h0 h1 ?_ (by rw[<- rp.length];exact hz)⟩
 refine⟨.ref (s4.heap.push { cls:=.type "slice",data:=.fields #[vl,vu,.int st tk] }).objs.size,_,I5.laid (t':=s4.toks) (o:=.tup (pickV xs l u st)) (fun b ob q=>Heap.get?_push_of_some _ q) (Nat.le_refl _) ?_,rfl,q _ (I5.hok.fresh (Nat.le_refl _))⟩
 exact⟨hz,_,rp,IsTup.new _ _⟩
end
theorem XB:mroOf (.type "reversed")=pure [.type "reversed",.type "object"]:=by rw[mroOf_type];kernel_rfl
theorem Ke:typeLookup (.type "reversed") "__new__"=pure (some (.builtin "reversed.__new__")):=by rw[typeLookup_type,builtinLookup_eq_fast];kernel_rfl
theorem Kq:Slot "reversed" "__init__" "object.__init__":=by
 refine .of (owner:="object") (n:="__init__") ?_ (by decide+kernel) (by decide+kernel) (by decide+kernel) ?_ ?_
 ·rw[typeLookup_type,builtinLookup_eq_fast];kernel_rfl
 ·first |exact .inl (by decide+kernel) |exact .inr (by decide+kernel)
 ·rw[isSubtype_type];kernel_rfl
theorem Q9:TypeCalled "reversed" "reversed.__new__" "object.__init__":=by
 refine⟨by decide+kernel,by decide+kernel,⟨_,_,XB⟩,madeBy_type XB Ke (by decide+kernel),by decide+kernel,?_,Kq⟩
 rw[isSubtype_type];kernel_rfl
theorem Qe(a:Value):checkTypeCall "reversed" ⟨[a],[]⟩=pure ():=by kernel_rfl
theorem QG(a:Value):checkBuiltinCall "reversed.__new__" ⟨[.type "reversed",a],[]⟩=pure ():=by kernel_rfl
theorem Kr:entryFor table "reversed.__new__"=some Builtin.«reversed.__new__»:=entryFor_of_tree (by kernel_rfl)
theorem XD:isSubtype (.type "reversed") (.type "reversed")=pure true:=by rw[isSubtype_type];kernel_rfl
theorem Qg:typeLookup (.type "tuple") "__reversed__"=pure none:=by rw[typeLookup_type,builtinLookup_eq_fast];kernel_rfl
theorem Kf:isSubtype (.type "tuple") (.type "dict")=pure false:=by rw[isSubtype_type];kernel_rfl
noncomputable def revObj(t:Addr)(n:Int):Obj:={ cls:=.type "reversed",data:=.fields #[.ref t,.int (n - 1) 0] }
section
variable {prog:Program}{w:World}{A:Around}{E:Value->Shared->Prop}{s:Shared}
theorem ZB{t:Addr}{items:Array Value}{Q:Value->Shared->Prop}(ht:IsTup s.heap t items)(hn:(items.size:Int) < 2 ^ 63)
  (h:Q (.ref s.heap.objs.size) { s with heap:=s.heap.push (revObj t items.size),toks:=s.toks+1+1 }):wpAny (model prog w) A (call (.type "reversed") [.ref t]) Q E s:=by
 refine callType_new (S:=fun _ R s'=>s'=s/\R (.ok (.ret (.ref s.heap.objs.size))) { s with heap:=s.heap.push (revObj t items.size),toks:=s.toks+1+1 }) Q9 (by decide) (Qe _) (QG _) (fun obj=>PySem.F.args_object_init_2 obj _) Kr
  (.of_wp fun prog' w' A' R s' hs=>?_) ⟨rfl,⟨_,Heap.get?_push_size _ rfl,rfl⟩,h⟩
 obtain⟨rfl,hr⟩:=hs
 unfold Builtin.«reversed.__new__» Builtin.SmallTypes.newClass
 refine wpAny_bind ?_
 dsimp only
 refine wpAny_bind (wpAny_pure ?_)
 simp only[Bool.not_true,Bool.false_eq_true,if_false]
 refine wpAny_bind (wpAny_of_eq XD ?_)
 simp only[Bool.not_true,Bool.false_eq_true,if_false]
 refine wpAny_pure ?_
 refine wpAny_bind (m:=Builtin.SmallTypes.refuseKeywords _ _ _) (wpAny_pure ?_)
 refine wpAny_bind (m:=checkCount "reversed" 1 1 _) (wpAny_pure ?_)
 dsimp only
 refine wpAny_bind (wpAny_specialOf ht.typeIs Qg ?_)
 dsimp only
 refine wpAny_bind ?_
 show wpAny _ _ (isInstance (.ref t) (.type "dict") >>= _) _ _ _
 refine wpAny_bind (wpAny_isInstance (b:=false) ht.typeIs Kf ?_)
 simp only[Bool.false_eq_true,if_false]
 refine wpAny_bind (wpAny_specialOf ht.typeIs PyProof.Rows.slot_tuple_getitem.lookup ?_)
 dsimp only
 rw[if_pos (by decide+kernel)]
 refine wpAny_pure ?_
 simp only[Bool.not_true,Bool.false_eq_true,if_false]
 refine wpAny_bind (len_tuple ht hn ?_)
 refine wpAny_bind (m:=asInt? _) (wpAny_pure ?_)
 dsimp only
 show wpAny _ _ (newObj (.type "reversed") (.fields [Value.ref t,rawInt ((items.size:Int) - 1)].toArray) >>= _) _ _ _
 exact wpAny_bind (wpAny_newObj_type (wpAny_pure ⟨_,rfl,hr⟩))
end
theorem zK:Slot "reversed" "__next__" "reversed.__next__":=by
 refine .of (owner:="reversed") (n:="__next__") ?_ (by decide+kernel) (by decide+kernel) (by decide+kernel) ?_ ?_
 ·rw[typeLookup_type,builtinLookup_eq_fast];kernel_rfl
 ·first |exact .inl (by decide+kernel) |exact .inr (by decide+kernel)
 ·rw[isSubtype_type];kernel_rfl
theorem qt:Slot "reversed" "__iter__" "reversed.__iter__":=by
 refine .of (owner:="reversed") (n:="__iter__") ?_ (by decide+kernel) (by decide+kernel) (by decide+kernel) ?_ ?_
 ·rw[typeLookup_type,builtinLookup_eq_fast];kernel_rfl
 ·first |exact .inl (by decide+kernel) |exact .inr (by decide+kernel)
 ·rw[isSubtype_type];kernel_rfl
theorem zL:Slot "reversed" "__length_hint__" "reversed.__length_hint__":=by
 refine .of (owner:="reversed") (n:="__length_hint__") ?_ (by decide+kernel) (by decide+kernel) (by decide+kernel) ?_ ?_
 ·rw[typeLookup_type,builtinLookup_eq_fast];kernel_rfl
 ·first |exact .inl (by decide+kernel) |exact .inr (by decide+kernel)
 ·rw[isSubtype_type];kernel_rfl
theorem Kg:entryFor table "reversed.__next__"=some Builtin.«reversed.__next__»:=entryFor_of_tree (by kernel_rfl)
theorem Kh:entryFor table "reversed.__length_hint__"=some Builtin.«reversed.__length_hint__»:=entryFor_of_tree (by kernel_rfl)
theorem Ki:entryFor table "reversed.__iter__"=some Builtin.«dict_keyiterator.__iter__»:=by
 refine entryFor_alias (id':="dict_keyiterator.__iter__") ?_ rfl (by decide+kernel) ?_<;>kernel_rfl
theorem Ks(a:Value):argsOk "reversed.__next__" ⟨[a],[]⟩:=by unfold argsOk;kernel_rfl
theorem Kt(a:Value):argsOk "reversed.__iter__" ⟨[a],[]⟩:=by unfold argsOk;kernel_rfl
theorem Ku(a:Value):argsOk "reversed.__length_hint__" ⟨[a],[]⟩:=by unfold argsOk;kernel_rfl
theorem Xa:typeLookup (.type "reversed") "__len__"=pure none:=by rw[typeLookup_type,builtinLookup_eq_fast];kernel_rfl
def RevAt(h:Heap)(I t:Addr)(k:Int):Prop:=∃o,h.get? I=some o/\o.cls= .type "reversed"/\o.data= .fields #[.ref t,.int k 0]
theorem RevAt.at{h h':Heap}{I t:Addr}{k:Int}(x:RevAt h I t k)(e:∀o,h.get? I=some o->h'.get? I=some o):RevAt h' I t k:=let ⟨o,ho,r⟩:=x;⟨o,e o ho,r⟩
theorem RevAt.is{s:Shared}{I t:Addr}{k:Int}(x:RevAt s.heap I t k):s.TypeIs (.ref I) "reversed":=let ⟨o,ho,hc,_⟩:=x;⟨o,ho,hc⟩
section
variable {prog:Program}{w:World}{A:Around}{E:Value->Shared->Prop}{s:Shared}
theorem Qr{I t:Addr}{k:Int}{Q:Option Value->Shared->Prop}(hit:RevAt s.heap I t k)
  (h:wpAny (model prog w) A.in1 (Builtin.«reversed.__next__» ⟨[.ref I],[]⟩) (fun fin s'=>∃v,fin= .done (.ret v)/\Q (some v) s') (fun e s'=>s'.TypeIs e "StopIteration"/\Q none s') s):
  wpAny (model prog w) A (pyNext (.ref I)) Q E s:=by
 unfold pyNext
 refine wpAny_bind (wpAny_attempt (wpAny_callSpecial?_slot (name:=Str.ofString "__next__") hit.is zK (wpAny_call_entry zK hit.is Kg ?_ (Ks _))))
 refine wpAny_mono h (fun fin s' q=>?_) fun e s' q=>?_
 ·obtain⟨v,e,q⟩:=q
  exact⟨v,e,wpAny_pure q⟩
 ·exact wpAny_bind (wpAny_isInstance (T:="StopIteration") (b:=true) q.1 isSubtype_stop (wpAny_pure q.2))
theorem nextR{I t:Addr}{k:Nat}{items:Array Value}{x:Value}{Q:Option Value->Shared->Prop}(hit:RevAt s.heap I t k)(ht:IsTup s.heap t items)(hx:items[k]?=some x)(h63:(items.size:Int) < 2 ^ 63)
  (hQ:∀h',RevAt h' I t ((k:Int) - 1)->Heap.SameBut I s.heap h'->Q (some x) { s with heap:=h',toks:=s.toks+1 }):wpAny (model prog w) A (pyNext (.ref I)) Q E s:=by
 refine Qr hit ?_
 obtain⟨o,ho,hc,hd⟩:=hit
 have hk:k < items.size:=(Array.getElem?_eq_some_iff.mp hx).1
 show wpAny _ _ (field (.ref I) 0 >>= _) _ _ s
 refine wpAny_bind (wpAny_field ho hd (x:=.ref t) rfl (wpAny_bind (wpAny_field ho hd (x:=.int k 0) rfl ?_)))
 dsimp only
 rw[if_neg (by omega)]
 refine wpAny_bind (wpAny_specialOf ht.typeIs PyProof.Rows.slot_tuple_getitem.lookup ?_)
 simp only[Option.isNone_some,Bool.false_eq_true,if_false]
 refine wpAny_bind (wpAny_mkInt (wpAny_bind (wpAny_attempt ?_)))
 refine getItem_tuple (s:={ s with toks:=s.toks+1 }) ht (by omega) (by omega) (j:=k) ?_ hx ?_
 ·unfold seqIndex?
  simp
  omega
 refine wpAny_bind (wpAny_field (s:={ s with toks:=s.toks+1 }) ho hd (x:=.int k 0) rfl ?_)
 dsimp only
 refine wpAny_bind (wpAny_setField ho hd (by simp) (wpAny_pure ⟨x,rfl,hQ _ ?_ (Heap.SameBut.update ..)⟩))
 exact⟨_,Heap.get?_update_self _ ho (Obj.isFreed_of_fields (Obj.data_mapFields hd _)),(Obj.cls_mapFields ..).trans hc,by rw[Obj.data_mapFields hd];simp [rawInt]⟩
theorem Ym(hh:A.handled=none){I t:Addr}{Q:Option Value->Shared->Prop}(hit:RevAt s.heap I t (-1))
  (hQ:∀h',(∀b o,b≠I->s.heap.get? b=some o->h'.get? b=some o)->Q none { s with heap:=h' }):wpAny (model prog w) A (pyNext (.ref I)) Q E s:=by
 refine Qr hit ?_
 obtain⟨o,ho,hc,hd⟩:=hit
 show wpAny _ _ (field (.ref I) 0 >>= _) _ _ s
 refine wpAny_bind (wpAny_field ho hd (x:=.ref t) rfl (wpAny_bind (wpAny_field ho hd (x:=.int (-1) 0) rfl ?_)))
 dsimp only
 rw[if_pos (by decide)]
 refine wpAny_bind (wpAny_rule (wpAny_bind ?_))
 show wpAny _ _ (setField (.ref I) 1 (rawInt (-1)) >>= fun _=>setField (.ref I) 0 .none) _ _ _
 refine wpAny_bind (wpAny_setField ho hd (by simp) ?_)
 refine wpAny_setField (Heap.get?_update_self _ ho (Obj.isFreed_of_fields (Obj.data_mapFields hd _))) (Obj.data_mapFields hd _) (by simp) ?_
 refine wpAny_bind ?_
 refine XA (s:={ s with heap:=_ }) (by simpa using hh) fun h' e k te=>⟨te,hQ h' fun b o hb eb=>k b o ?_⟩
 exact(Heap.get?_update_other _ _ (Ne.symm hb)).trans ((Heap.get?_update_other _ _ (Ne.symm hb)).trans eb)
theorem iterR{I t:Addr}{k:Int}(hit:RevAt s.heap I t k){Q:Value->Shared->Prop}(h:Q (.ref I) s):wpAny (model prog w) A (pyIter (.ref I)) Q E s:=by
 refine wpAny_pyIter_slot hit.is qt (wpAny_call_entry qt hit.is Ki ?_ (Kt _))
 show wpAny _ _ (ret (.ref I)) _ _ s
 exact wpAny_pure ⟨_,rfl,"reversed",_,hit.is,zK.lookup,h⟩
theorem walkR(hh:A.handled=none)(I t:Addr)(hI:t≠I){items:Array Value}(h63:(items.size:Int) < 2 ^ 63):
  WalksS prog w A I [I,t] [I] (fun a b=>b=a) items.size (fun i v=>items.toList.reverse[i]?=some v) (fun i s=>RevAt s.heap I t ((items.size:Int) - 1 - i)/\IsTup s.heap t items) where
 sub:=fun b hb=>by simp at hb;simp [hb]
 grefl:=fun _=>rfl
 gtrans:=fun _ _ _ h1 h2=>h2.trans h1
 frame:=fun i s h' tk st _ k=>⟨st.1.at fun o e=>k I (by simp) o e,let ⟨o,ho,r⟩:=st.2;⟨o,k t (by simp) o ho,r⟩⟩
 item:=fun i s Q E hi st hQ=>by
  have e:((items.size:Int) - 1 - i)=((items.size - 1 - i:Nat):Int):=by omega
  have hl:items.size - 1 - i < items.size:=by omega
  rw[e]at st
  refine nextR st.1 st.2 (x:=items[items.size - 1 - i]) (by simp [hl]) h63 fun h' q sb=>?_
  refine hQ _ _ ?_ ⟨?_,?_⟩ ⟨fun b o hb e=>?_,rfl,rfl,rfl,Nat.le_succ _⟩
  ·rw[List.getElem?_reverse (by simpa using hi)]
   simp [hl]
  ·have e2:((items.size:Int) - 1 - ((i+1:Nat):Int))=((items.size - 1 - i:Nat):Int) - 1:=by omega
   rw[e2];exact q
  ·obtain⟨o,ho,r⟩:=st.2
   exact⟨o,by rw[sb.2 t hI];exact ho,r⟩
  ·rw[sb.2 b (fun z=>hb (by simp [z]))];exact e
 done:=fun s Q E st hQ=>by
  have e:((items.size:Int) - 1 - (items.size:Int))= -1:=by omega
  rw[e]at st
  exact Ym hh st.1 fun h' k=>hQ _ ⟨fun b o hb e=>k b o (fun z=>hb (by simp [z])) e,rfl,rfl,rfl,Nat.le_refl _⟩
 self:=fun _ _ _ _ st hQ=>iterR st.1 hQ
end
section
variable {prog:Program}{w:World}{A:Around}{E:Value->Shared->Prop}{s:Shared}
theorem hintR{I t:Addr}{items:Array Value}(hit:RevAt s.heap I t ((items.size:Int) - 1))(ht:IsTup s.heap t items)(hn:items.size<=sizeLine){Q:Bool->Shared->Prop}
  (h:∀b tk,s.toks<=tk->Q b { s with toks:=tk }):wpAny (model prog w) A (Builtin.List.listLengthHint (.ref I)) Q E s:=by
 have h63:=line63
 unfold Builtin.List.listLengthHint
 refine wpAny_bind (wpAny_specialOf hit.is Xa ?_)
 show wpAny _ A (specialOf (Value.ref I) (Str.ofString "__length_hint__") >>= _) _ _ _
 refine wpAny_bind (wpAny_specialOf hit.is zL.lookup ?_)
 have esp:splitId "reversed.__length_hint__"=some ("reversed","__length_hint__"):=by decide+kernel
 dsimp only
 rw[esp]
 dsimp only
 refine wpAny_bind (wpAny_isInstance (b:=true) hit.is XD ?_)
 simp only[Bool.not_true,Bool.false_eq_true,if_false]
 rw[if_neg (by decide+kernel)]
 refine wpAny_bind (wpAny_rule ?_)
 refine wpAny_bind (wpAny_of_eq (zL.bind (.ref I)) ?_)
 dsimp only
 refine wpAny_bind (wpAny_attempt (wpAny_call_entry zL hit.is Kh ?_ (Ku _)))
 obtain⟨o,ho,hc,hd⟩:=hit
 show wpAny _ _ (field (.ref I) 0 >>= _) _ _ s
 refine wpAny_bind (wpAny_field ho hd (x:=.ref t) rfl ?_)
 rw[if_neg (show ¬((Value.ref t==Value.none)=true) from Bool.false_ne_true)]
 refine wpAny_bind (len_tuple ht (by omega) ?_)
 refine wpAny_bind (m:=asInt? _) (wpAny_pure ?_)
 dsimp only
 refine wpAny_bind (wpAny_field (s:={ s with toks:=s.toks+1+1 }) ho hd (x:=.int ((items.size:Int) - 1) 0) rfl ?_)
 dsimp only
 rw[if_neg (by omega)]
 refine wpAny_bind (wpAny_mkInt (wpAny_pure ⟨_,rfl,?_⟩))
 have e0:(items.size:Int) - 1+1=(items.size:Int):=by omega
 rw[e0]
 dsimp only
 have ea:∀(i:Int) (tk:Tok),asInt? (Value.int i tk)=pure (some i):=fun _ _=>rfl
 rw[ea]
 refine wpAny_bind ?_
 refine wpAny_pure ?_
 dsimp only
 have f1:Builtin.List.listFitsIndex (items.size:Int)=true:=by
  unfold Builtin.List.listFitsIndex
  rw[Bool.and_eq_true,decide_eq_true_eq,decide_eq_true_eq]
  omega
 have f2:Builtin.List.listTooLong ((items.size:Int).toNat)=false:=by
  unfold Builtin.List.listTooLong
  rw[decide_eq_false_iff_not]
  omega
 simp only[f1,f2,Bool.not_true,Bool.false_eq_true,if_false]
 rw[if_neg (by omega)]
 exact wpAny_pure (h _ (s.toks+1+1+1) (Nat.le_trans (Nat.le_succ _) (Nat.le_trans (Nat.le_succ _) (Nat.le_succ _))))
theorem Xb{I t:Addr}{items:Array Value}{Q:Value->Shared->Prop}(hh:A.handled=none)(hit:RevAt s.heap I t ((items.size:Int) - 1))(ht:IsTup s.heap t items)(hI:t≠I)(hn:items.size<=sizeLine)
  (hQ:∀s' l c,s.heap.objs.size<=l->(∀b o,b≠I->s.heap.get? b=some o->s'.heap.get? b=some o)->s'.gens=s.gens->s'.os=s.os->s'.heap.get? l=some { cls:=.type "list",data:=.seq items.toList.reverse.toArray c }->Q (.ref l) s'):
  wpAny (model prog w) A (call (.type "list") [.ref I]) Q E s:=by
 have h63:=line63
 have hIs:I < s.heap.objs.size:=by obtain⟨o,ho,_⟩:=hit;exact Heap.lt_size ho
 have hts:t < s.heap.objs.size:=by obtain⟨o,ho,_⟩:=ht;exact Heap.lt_size ho
 refine callType_codes (Q₁:=fun obj s₁=>obj= .ref s.heap.objs.size/\s₁={ s with heap:=s.heap.push { cls:=.type "list",data:=.seq #[] } }) PySem.F.called_list (PySem.F.typeCall_list_1 _) PySem.F.entry_list_init
  (code_list_new _ ⟨rfl,rfl⟩) fun obj s₁ h₁=>?_
 obtain⟨rfl,rfl⟩:=h₁
 generalize hH:s.heap.push { cls:=.type "list",data:=.seq #[] }=H
 have gl:H.get? s.heap.objs.size=some { cls:=.type "list",data:=.seq #[] }:=by rw[<- hH];exact Heap.get?_push_size _ rfl
 have gk:∀b o,s.heap.get? b=some o->H.get? b=some o:=fun b o e=>by rw[<- hH];exact Heap.get?_push_of_some _ e
 refine⟨⟨_,gl,rfl⟩,PySem.F.args_list_init_2 _ _,?_⟩
 show wpAny _ _ (do let old <- Builtin.List.listItems (.ref s.heap.objs.size);Builtin.List.listUpdate (.ref s.heap.objs.size) (fun _=>#[]);letGo old.toList.reverse;Builtin.List.listExtendWith (.ref s.heap.objs.size) (.ref I) .none) _ _ _
 refine wpAny_bind ?_
 unfold Builtin.List.listItems
 refine wpAny_bind (wpAny_seqItems gl rfl (wpAny_pure ?_))
 show wpAny _ _ (updateSeq s.heap.objs.size (fun _=>#[]) >>= fun _=>letGo (#[]:Array Value).toList.reverse >>= fun _=>Builtin.List.listExtendWith (.ref s.heap.objs.size) (.ref I) .none) _ _ _
 refine wpAny_bind (wpAny_updateSeq gl rfl (wpAny_bind (wpAny_letGo ?_)))
 have g2:=Heap.get?_update_self (Obj.mapSeq (fun _=>(#[]:Array Value))) gl rfl
 have gk2:∀b o,b≠s.heap.objs.size->s.heap.get? b=some o->(H.update s.heap.objs.size (Obj.mapSeq (fun _=>(#[]:Array Value)))).get? b=some o:=fun b o hb e=>(Heap.get?_update_other _ _ (Ne.symm hb)).trans (gk b o e)
 generalize hH2:H.update s.heap.objs.size (Obj.mapSeq (fun _=>(#[]:Array Value)))=H2 at g2 gk2 ⊢
 have nI:I≠s.heap.objs.size:=Nat.ne_of_lt hIs
 have nt:t≠s.heap.objs.size:=Nat.ne_of_lt hts
 have hit2:RevAt H2 I t ((items.size:Int) - 1):=hit.at fun o e=>gk2 I o nI e
 have ht2:IsTup H2 t items:=let ⟨o,ho,r⟩:=ht;⟨o,gk2 t o nt ho,r⟩
 unfold Builtin.List.listExtendWith
 refine wpAny_bind (wpAny_typeOf (s:={ s with heap:=H2 }) hit2.is ?_)
 have n1:Builtin.List.listSameRef (.ref s.heap.objs.size) (.ref I)=false:=by
  simp only[Builtin.List.listSameRef,beq_eq_false_iff_ne]
  exact Ne.symm nI
 have n2:(Value.type "reversed"==Value.type "list")=false:=by decide
 have n3:(Value.type "reversed"==Value.type "tuple")=false:=by decide
 simp only[n1,n2,n3,Bool.or_false,Bool.false_eq_true,if_false]
 refine wpAny_bind (iterR (s:={ s with heap:=H2 }) hit2 (wpAny_bind (wpAny_holding (hintR (s:={ s with heap:=H2 }) hit2 ht2 hn fun b tk htk=>?_))))
 have nfp:¬s.heap.objs.size∈[I,t]:=by simp only[List.mem_cons,List.not_mem_nil,or_false,not_or];exact⟨Ne.symm nI,Ne.symm nt⟩
 have fin:∀(H3:Heap) (c:Nat),H3.get? s.heap.objs.size=some { cls:=.type "list",dict:=none,data:=.seq #[] c,slots:=#[] }->(∀b o,b≠s.heap.objs.size->H2.get? b=some o->H3.get? b=some o)->
   codeAny (model prog w) A.in1 (.builtin "list.extend.loop" ⟨[.ref s.heap.objs.size,.ref I,.none],[]⟩) (fun r s'=>r= .ok (.ret .none)/\Q (.ref s.heap.objs.size) s') { s with heap:=H3,toks:=tk }:=by
  intro H3 c g3 k3
  have W:=walkR (prog:=prog) (w:=w) (A:=A.in1.in1) (by simpa using hh) I t hI (items:=items) (by omega)
  refine codeAny_extend_loopS W hn _ nfp _ items.size 0 _ #[] c rfl (Nat.zero_le _) ⟨by simpa using hit2.at fun o e=>k3 I o nI e,let ⟨o,ho,r⟩:=ht2;⟨o,k3 t o nt ho,r⟩⟩ g3 (ItemsOf.nil _) fun s' acc c' m gS hacc=>⟨rfl,hQ s' _ c' (Nat.le_refl _) (fun b o hb e=>?_) m.gens m.os ?_⟩
  ·have ne:b≠s.heap.objs.size:=Nat.ne_of_lt (Heap.lt_size e)
   exact m.heap b o (by simp only[List.mem_cons,List.not_mem_nil,or_false,not_or];exact⟨ne,hb⟩) (k3 b o ne (gk2 b o ne e))
  ·have ea:acc=items.toList.reverse.toArray:=by
    apply Array.ext'
    refine List.ext_getElem? fun i=>?_
    by_cases hi:i < items.size
    ·have hi':i < acc.size:=by rw[hacc.1];exact hi
     have q:=hacc.2 i acc[i] (by simp [hi'])
     rw[Array.getElem?_toList,Array.getElem?_eq_getElem hi',<- q]
    ·rw[List.getElem?_eq_none (by rw[Array.length_toList,hacc.1];omega),List.getElem?_eq_none (by simp;omega)]
   rw[<- ea];exact gS
 split
 ·refine wpAny_bind (wpAny_rule (wpAny_bind ?_))
  show wpAny _ _ (updateSeq s.heap.objs.size (·.push .none) >>= fun _=>updateSeq s.heap.objs.size (·.pop)) _ _ _
  refine wpAny_bind (wpAny_updateSeq (s:={ s with heap:=H2,toks:=tk }) g2 rfl ?_)
  have g3:=Heap.get?_update_self (Obj.mapSeq (·.push Value.none)) g2 rfl
  refine wpAny_updateSeq g3 rfl ?_
  have g4:=Heap.get?_update_self (Obj.mapSeq (·.pop)) g3 rfl
  refine wpAny_pure ⟨plainId_quiet PySem.F.plain_extend_loop _,codeAny_mono (fin _ _ g4 fun b o hb e=>(Heap.get?_update_other _ _ (Ne.symm hb)).trans ((Heap.get?_update_other _ _ (Ne.symm hb)).trans e)) fun r s' q=>?_⟩
  obtain⟨rfl,q⟩:=q
  exact⟨rfl,q⟩
 ·refine wpAny_pure ⟨plainId_quiet PySem.F.plain_extend_loop _,codeAny_mono (fin _ _ g2 fun b o hb e=>e) fun r s' q=>?_⟩
  obtain⟨rfl,q⟩:=q
  exact⟨rfl,q⟩
end
section
variable {X:Cx}{e:Expr}{te:TE}{xl xr:Str}{p p2 pos pos2:Pos}
def tListRev(K:Frag)(te:TE):TE:=fun σ H Q=>te σ H fun x H1=>∃a xs,x= .ref a/\SqT K H1 a xs/\∀l,H1 l=none->Q (.ref l) (upd H1 l (.lst xs.reverse))
theorem qA(hc:X.calm=true)(hgl:Gl X xl)(hml:X.mg xl=none)(hvl:bootBuiltins xl=some (.type "list"))(hgr:Gl X xr)(hmr:X.mg xr=none)(hvr:bootBuiltins xr=some (.type "reversed"))(he:PE X e te)
  (hnl:xl≠"__name__":=by decide) (hdl:(xl==("__debug__":Str))=false:=by decide) (hnr:xr≠"__name__":=by decide) (hdr:(xr==("__debug__":Str))=false:=by decide)
  (h1:starEach [.Call (.Name xr p2) [e] [] pos2] X.env=(false,eval (.Call (.Name xr p2) [e] [] pos2) X.env)::starEach [] X.env:=by rfl) (h2:(backTo pos (starEach [] X.env)).any (·.1)=false:=by rfl)
  (h3:starEach [e] X.env=(false,eval e X.env)::starEach [] X.env:=by rfl) (h4:(backTo pos2 (starEach [] X.env)).any (·.1)=false:=by rfl):
  PE X (.Call (.Name xl p) [.Call (.Name xr p2) [e] [] pos2] [] pos) (tListRev X.K te):=by
 intro pins s σ H Q I h
 refine wpAny_Call_Name_kw (zP I hgl hml hvl ?_ hnl hdl)
 refine PyProof.Rows.callWith_type1 ?_ h1 h2
 rw[h1]
 show wpAny _ _ (spliced ((false,eval (.Call (.Name xr p2) [e] [] pos2) X.env)::backTo pos (starEach [] X.env))) _ _ s
 refine Calls.spliced_cons ?_
 refine wpAny_Call_Name_kw (zP I hgr hmr hvr ?_ hnr hdr)
 refine PyProof.Rows.callWith_type1 ?_ h3 h4
 rw[h3]
 show wpAny _ _ (spliced ((false,eval e X.env)::backTo pos2 (starEach [] X.env))) _ _ s
 refine Calls.spliced_cons (thn (he pins s σ H _ I h) fun u s1 ⟨x,H1,I1,r1,a,xs,ex,hq,q⟩=>?_)
 subst ex
 cases (show u=Value.ref a from r1)
 obtain⟨its,r',pl,hz⟩:=I1.tuple hq
 have hlen:=r'.length
 have h63:=line63
 refine Calls.spliced_nil (ZB pl (by simp only[List.size_toArray];omega) (Calls.spliced_nil ?_))
 have hlt:a < s1.heap.objs.size:=by obtain⟨o,ho,_⟩:=pl;exact Heap.lt_size ho
 refine Xb (s:={ s1 with heap:=s1.heap.push (revObj a its.toArray.size),toks:=s1.toks+1+1 }) (items:=its.toArray) (I.ok.hd hc) ⟨_,Heap.get?_push_size _ rfl,rfl,rfl⟩ (let ⟨o,ho,r⟩:=pl;⟨o,Heap.get?_push_of_some _ ho,r⟩) (Nat.ne_of_lt hlt)
  (by simp only[List.size_toArray];omega) fun s' l c hl k kg ko hg=>?_
 have hsz:s1.heap.objs.size<=l:=Nat.le_trans (by show _<=(s1.heap.push _).objs.size;rw[Heap.size_push];exact Nat.le_succ _) hl
 have k':∀b o,s1.heap.get? b=some o->s'.heap.get? b=some o:=fun b o e=>k b o (Nat.ne_of_lt (Heap.lt_size e)) (Heap.get?_push_of_some _ e)
 have new:ObjOk X.prog X.w (upd H1 l (.lst xs.reverse)) s'.heap l (.lst xs.reverse):=⟨by rw[List.length_reverse];exact hz,its.reverse,c,Vals.reverse r',by simpa using hg⟩
 exact⟨.ref l,_,I1.call' (ch:=[]) ko (Un.laid k' hsz (I1.hok.fresh hsz)) (I1.hok.laid k' hsz new) (by rw[kg];exact I1.bare) (fun _ z=>nomatch z),rfl,q _ (I1.hok.fresh hsz)⟩
end
theorem Jy:entryFor table "dict.update.loop"=some Builtin.«dict.update.loop»:=entryFor_of_tree (by kernel_rfl)
theorem zH:plainId "dict.update.loop"=true:=by decide+kernel
section
variable {X:Cx}
theorem J3:∀{bs:List Bool} {us:List Value},Vals (bs.map V.bl) us->us=bs.map Value.bool
 | [],_,.nil=>rfl
 |b::bs,_,.cons (b:=u) h t=>by
  have e:u=Value.bool b:=h
  rw[e,J3 t];rfl
noncomputable def isT:Value->Bool
 | .bool b=>b
 |_=>false
theorem Yn:MtM X "list.count" (fun x vs H Q=>∃(l:Addr) (bs:List Bool),x= .ref l/\vs=[.bl true]/\H l=some (.lst (bs.map V.bl))/\Q (.int (bs.countP id:Nat)) H):=by
 intro pins s σ H x vs v us Q I rx rv h
 obtain⟨l,bs,rfl,rfl,hH,q⟩:=h
 cases rx
 obtain⟨u,rfl,ru⟩:=vals1 rv
 have eu:u=Value.bool true:=ru
 subst eu
 obtain⟨z,its,n,r,hl,e⟩:=I.lstM hH
 have ei:=J3 r
 subst ei
 refine call_meets PySem.F.slot_list_count ⟨_,e,rfl⟩ PySem.F.entry_list_count (PySem.F.args_list_count_2 _ _) (SeqAt.list_countAt l _ n _ _ _ isT) ⟨e,fun y hy=>?_,?_⟩
 ·obtain⟨b,hb,rfl⟩:=List.mem_map.mp (List.mem_toArray.mp hy)
  have q:=QQ (A:=X.A.in1) (s:=s) (y:=.bl b) (x:=.bl true) (u:=.bool b) (v:=.bool true) rfl rfl rfl rfl
  have e2:eqV (.bl b) (.bl true)=isT (.bool b):=by cases b<;>rfl
  rw[e2]at q
  exact q
 ·have e3:((bs.map Value.bool).toArray.toList.countP isT)=bs.countP id:=by
   rw[List.countP_map];rfl
  rw[e3]
  exact⟨.int (bs.countP id:Nat),H,I.tok _,⟨_,rfl⟩,q⟩
theorem Yo:MtM X "list.index" (fun x vs H Q=>∃(l:Addr) (bs:List Bool) (j:Nat),x= .ref l/\vs=[.bl true]/\H l=some (.lst (bs.map V.bl))/\bs[j]?=some true/\(∀m:Nat,m < j->bs[m]?=some false)/\Q (.int (j:Nat)) H):=by
 intro pins s σ H x vs v us Q I rx rv h
 obtain⟨l,bs,j,rfl,rfl,hH,hj,hm,q⟩:=h
 cases rx
 obtain⟨u,rfl,ru⟩:=vals1 rv
 have eu:u=Value.bool true:=ru
 subst eu
 obtain⟨z,its,n,r,hl,e⟩:=I.lstM hH
 have ei:=J3 r
 subst ei
 have h63:=line63
 rw[List.length_map]at z
 have hjl:j < bs.length:=(List.getElem?_eq_some_iff.mp hj).1
 refine call_meets PySem.F.slot_list_index ⟨_,e,rfl⟩ PySem.F.entry_list_index (PySem.F.args_list_index_2 _ _) (SeqAt.list_indexAt l _ n _ _ _ isT j (by simpa using hjl) (by omega) ?_ (fun m hm1 hm2=>?_)) ⟨e,fun y hy=>?_,⟨.int (j:Nat),H,I.tok _,⟨_,rfl⟩,q⟩⟩
 ·have:=(List.getElem?_eq_some_iff.mp hj).2
  simp [isT,this]
 ·have:=(List.getElem?_eq_some_iff.mp (hm m hm2)).2
  simp [isT,this]
 ·obtain⟨b,hb,rfl⟩:=List.mem_map.mp (List.mem_toArray.mp hy)
  have q:=QQ (A:=X.A.in1) (s:=s) (y:=.bl b) (x:=.bl true) (u:=.bool b) (v:=.bool true) rfl rfl rfl rfl
  have e2:eqV (.bl b) (.bl true)=isT (.bool b):=by cases b<;>rfl
  rw[e2]at q
  exact q
end
section
variable {X:Cx}{o lo hi:Expr}{to tl th:TE}{pos p2:Pos}
def gSl(to tl th:TE):TG:=fun v σ H Q=>to σ H fun ov H1=>tl σ H1 fun a H2=>th σ H2 fun c H3=>∃l b xs ys i j,ov= .ref l/\v= .ref b/\a= .int i/\c= .int j/\H3 l=some (.lst xs)/\H3 b=some (.lst ys)/\l≠b/\0<=i/\i<=j/\j<=(xs.length:Int)/\
 xs.length+ys.length<=sizeLine/\Q σ (upd H3 l (.lst (xs.take i.toNat++ys++xs.drop j.toNat)))
theorem ZC(ho:PE X o to)(hl:PE X lo tl)(hh:PE X hi th)
  (ha:∀v,assign (.Subscript o (.Slice (some lo) (some hi) none p2) pos) X.env v=(do
   let ov <- holding [v] (eval o X.env)
   let iv <- holding [v,ov] (eval (.Slice (some lo) (some hi) none p2) X.env)
   standAt pos
   holding [v,ov,iv] (setItem ov iv v)
   release [iv,v,ov] []):=by intro _;rfl):PG X (.Subscript o (.Slice (some lo) (some hi) none p2) pos) (gSl to tl th):=by
 intro pins s σ H v u Q I r h
 rw[ha]
 refine wpAny_bind (wpAny_holding (thn (ho pins s σ H _ I h) fun ov s1 ⟨x,H1,I1,r1,q1⟩=>?_))
 refine wpAny_bind (wpAny_holding ?_)
 refine wpAny_Slice (thn (hl pins s1 σ H1 _ I1 q1) fun vl s2 ⟨y,H2,I2,r2,q2⟩=>thn (hh pins s2 σ H2 _ I2 q2) fun vu s3 hq'=>?_)
 obtain⟨z,H3,I3,r3,l,b,xs,ys,i,j,e1,e2,e3,e4,h1,h2,hne,h0,hij,hj,hz,q⟩:=hq'
 subst e1 e2 e3 e4
 cases (show ov=Value.ref l from r1)
 cases (show u=Value.ref b from r)
 refine wpAny_pure ?_
 have I4:Inv X pins σ H3 { s3 with heap:=s3.heap.push { cls:=.type "slice",data:=.fields #[vl,vu,.none] } }:=I3.kept (t':=s3.toks) fun b o e=>Heap.get?_push_of_some _ e
 refine wpAny_bind (wpAny_standAt (wpAny_bind (wpAny_holding ?_)))
 exact X8 I4 h1 h2 hne (Heap.IsSliceOf.new s3.heap vl vu .none) r2 r3 h0 hij hj hz fun s5 I5=>wpAny_release ⟨σ,_,I5,q⟩
end
end L2
namespace L2
open PySem PySem.Spec PyProof.Rows Builtin Builtin.Str
section
variable {prog:Program}{w:World}{A:Around}{E:Value->Shared->Prop}{s:Shared}
theorem Jc{t sl:Addr}{items:Array Value}{vl vu:Value}{lo hi:Option Int}{Q:Value->Shared->Prop}(ht:IsTup s.heap t items)(hs:s.heap.IsSliceOf sl vl vu .none)(pl:IsPart vl lo)(pu:IsPart vu hi)
  (hw:HT.sIx items.size 0 lo=0/\HT.sIx items.size items.size hi=items.size) (h:Q (.ref t) s):wpAny (model prog w) A (getItem (.ref t) (.ref sl)) Q E s:=by
 obtain⟨os,hos,hcs,hds⟩:=id hs
 have hTs:s.TypeIs (.ref sl) "slice":=⟨os,hos,hcs⟩
 unfold getItem
 try with_reducible refine wpAny_holding ?_
 first |refine wpAny_bind (wpAny_pure ?_) |skip
 refine wpAny_bind (wpAny_sequenceKey ht.typeIs (by decide) ?_)
 refine wpAny_bind (wpAny_callSpecial?_slot (name:=Str.ofString "__getitem__") ht.typeIs PyProof.Rows.slot_tuple_getitem
  (wpAny_call_entry PyProof.Rows.slot_tuple_getitem ht.typeIs PyProof.Rows.entry_tuple_getitem ?_ (PyProof.Rows.args_tuple_getitem _ _)))
 show wpAny _ _ (Builtin.Tuple.tupleItemsOf (.ref t) >>= _) _ _ s
 refine wpAny_bind (PyProof.Rows.tupleItemsOf_ ht ?_)
 refine wpAny_bind (wpAny_typeOf hTs ?_)
 rw[if_pos (by decide)]
 refine wpAny_bind (HT.sliceApplied_gen hs pl pu ?_)
 show wpAny _ _ (if (((HT.sIx items.size 0 lo:Nat):Int)==0&&(1:Int)==1&&(HT.sIx items.size items.size hi - HT.sIx items.size 0 lo)==items.size)=true then _ else _) _ _ s
 rw[hw.1,hw.2,if_pos (by simp)]
 unfold Builtin.Tuple.tupleIsExact
 refine wpAny_bind (wpAny_bind (wpAny_typeOf ht.typeIs (wpAny_pure ?_)))
 rw[if_pos (by decide)]
 first
  |exact wpAny_rule (wpAny_pure ⟨_,rfl,wpAny_pure h⟩)
  |exact wpAny_bind (wpAny_rule (wpAny_pure ⟨_,rfl,wpAny_pure h⟩))
  |exact wpAny_bind (wpAny_pure (wpAny_pure ⟨_,rfl,wpAny_pure h⟩))
end
section
variable {X:Cx}
def rCatH:R2:=fun x y H Q=>∃a b xs ys,x= .ref a/\y= .ref b/\H a=some (.tup xs)/\H b=some (.tup ys)/\xs.length+ys.length<=sizeLine/\∀r H',H' r=some (.tup (xs++ys))->Same H H'->Q (.ref r) H'
theorem zq:OpR X (binaryOp .Add) rCatH:=by
 intro pins s σ H x y v u Q I rx ry h
 obtain⟨a,b,xs,ys,rfl,rfl,ha',hb',hz,q⟩:=h
 have ha:=SqT.of (K:=X.K) ha'
 have hb:=SqT.of (K:=X.K) hb'
 by_cases hx:xs=[]
 ·subst hx
  cases rx
  cases ry
  obtain⟨its,r1,p1,_⟩:=I.tuple ha
  obtain⟨its2,r2,p2,_⟩:=I.tuple hb
  have e0:its=[]:=r1.nil_iff.mpr rfl
  subst e0
  obtain⟨⟨cls,dd,data,sl⟩,ho,hc,n,hd⟩:=id p1
  obtain⟨⟨cls2,dd2,data2,sl2⟩,ho2,hc2,n2,hd2⟩:=id p2
  simp only at hc hd hc2 hd2
  subst hc hd hc2 hd2
  exact concat_meets ⟨_,ho,rfl⟩ ⟨_,ho2,rfl⟩ noFill_tuple_add seq_tuple_add PySem.F.slot_tuple_add PySem.F.entry_tuple_add (PySem.F.args_tuple_add_2 _ _)
   (tuple_addW0 a b ([]:List Value).toArray its2.toArray n n2 dd dd2 sl sl2 rfl) ⟨ho,ho2,.ref b,H,I,rfl,q b H hb' (Same.refl H)⟩
 ·refine op_catT pins s σ H _ _ v u Q I rx ry ⟨a,b,xs,ys,rfl,rfl,ha,hb,hx,hz,fun e=>?_,fun _ p np=>?_⟩
  ·subst e
   exact q a H (by rw[List.append_nil];exact ha') (Same.refl H)
  ·exact q p _ je fun c o e=>by rw[jf (jl e np)];exact e
def rSlA:V->Option Int->Option Int->Hp->VK->Prop:=fun x lo hi H Q=>∃a xs,x= .ref a/\H a=some (.tup xs)/\∀r H',H' r=some (.tup (cutV xs lo hi))->Same H H'->Q (.ref r) H'
theorem XE:SlR X rSlA:=by
 intro pins s σ H x v vl vu lo hi sl Q I rx hs pl pu h
 obtain⟨a,xs,rfl,hx',q⟩:=h
 have hx:=SqT.of (K:=X.K) hx'
 by_cases hw:HT.sIx xs.length 0 lo=0/\HT.sIx xs.length xs.length hi=xs.length
 ·cases rx
  obtain⟨its,r,ht,hz⟩:=I.tuple hx
  have hlen:its.toArray.size=xs.length:=by rw[List.size_toArray];exact r.length.symm
  refine⟨"tuple",_,PyProof.Rows.slot_tuple_getitem.lookup,ht.typeIs,?_⟩
  refine Jc ht hs pl pu (by rw[hlen];exact hw) ⟨.ref a,H,I,rfl,q a H ?_ (Same.refl H)⟩
  rw[hx']
  unfold cutV
  rw[hw.1,hw.2,List.drop_zero,Nat.sub_zero,List.take_length]
 ·exact sl_tup pins s σ H _ v vl vu lo hi sl Q I rx hs pl pu ⟨a,xs,rfl,hx,hw,fun p np=>q p _ je fun c o e=>by rw[jf (jl e np)];exact e⟩
def rSlS:V->Option Int->Option Int->Hp->VK->Prop:=fun x lo hi H Q=>∃y,x= .str y/\y.length<=sizeLine/\∀z:Str,z.length<=y.length->Q (.str z) H
theorem sl_str:SlR X rSlS:=by
 intro pins s σ H x v vl vu lo hi sl Q I rx hs pl pu h
 obtain⟨y,rfl,hz,q⟩:=h
 obtain⟨tk,rfl⟩:=(show ∃t,v=Value.str y t from rx)
 obtain⟨os,hos,hcs,hds⟩:=id hs
 have part:∀{v:Value} {o:Option Int},IsPart v o->∃l:Option (Int×Tok),v=partValue l/\l.map (·.1)=o:=by
  intro v o h
  cases h with
  |none=>exact⟨none,rfl,rfl⟩
  |int i t=>exact⟨some (i,t),rfl,rfl⟩
 obtain⟨l,rfl,el⟩:=part pl
 obtain⟨u,rfl,eu⟩:=part pu
 refine⟨"str",_,F.slot_str_getitem.lookup,typeIs_str _ _ _,wpAny_getItem_str_slice (l:=l) (u:=u) (st:=none) ⟨os,hos,hcs,hds⟩ rfl ?_⟩
 have le:=Txt.slice_le y (l.map (·.1)) (u.map (·.1))
 show(if ((1:Int)==1&&(strSliceIndices (l.map (·.1)) (u.map (·.1)) 1 y.length).length==y.length)=true then Made.val (.str y tk) else Made.str ⟨((strSliceIndices (l.map (·.1)) (u.map (·.1)) 1 y.length).filterMap (y.cps[·]?)).toArray⟩).post _ s
 unfold Txt.slice at le
 refine post_val_or_str ?_
 revert le
 generalize (if ((1:Int)==1&&(strSliceIndices (l.map (·.1)) (u.map (·.1)) 1 y.length).length==y.length)=true then y else (⟨((strSliceIndices (l.map (·.1)) (u.map (·.1)) 1 y.length).filterMap (y.cps[·]?)).toArray⟩:Str))=zz
 intro le
 exact⟨Nat.le_trans le hz,fun t' k=>⟨.str zz,H,I.tok k,⟨t',rfl⟩,q zz le⟩⟩
end
end L2
namespace L2
open PySem PySem.Spec PyProof.Rows
theorem boolC{G:Bool->Hp->Prop}{b:Bool}{H:Hp}(y:G true H)(n:b=false->G b H):G b H:=by
 cases b
 ·exact n rfl
 ·exact y
theorem opq{A:Prop}(h:∀G:Prop,(A->G)->G):A:=h A fun z=>z
section
variable {t u:TS}{D:Ends}{σ:St}{H:Hp}
theorem seqF(h:∀F:St->Hp->Prop,(∀σ' H',u D σ' H'->F σ' H')->t { D with nx:=F } σ H):tSeq t u D σ H:=h _ fun _ _ h=>h
theorem ifG{c:TT}(h:∀F:Bool->Hp->Prop,(∀b H',(if b=true then t D σ H' else u D σ H')->F b H')->c σ H F):tIfS c t u D σ H:=h _ fun _ _ x=>x
theorem ifE{c:TT}(h:∀F:Bool->Hp->Prop,(∀H',t D σ H'->F true H')->(∀H',u D σ H'->F false H')->c σ H F):tIfS c t u D σ H:=by
 refine h _ (fun H' x=>?_) fun H' x=>?_
 ·show if true=true then _ else _
  rw[if_pos rfl];exact x
 ·show if false=true then _ else _
  rw[if_neg (by decide)];exact x
theorem midE(R:St->Hp->Prop)(h1:∀E:Ends,E.rt=D.rt->(∀σ' H',R σ' H'->E.nx σ' H')->t E σ H)(h2:∀σ' H',R σ' H'->D.nx σ' H'):tMid t D σ H:=⟨R,h1 { D with nx:=R } rfl fun _ _ h=>h,h2⟩
theorem whileE{c:TT}{tb:TS}(W:Nat->St->Hp->Prop)(m0:Nat)(h0:W m0 σ H)
  (hs:∀m σ H,∀E:Ends,E.rt=D.rt->(∀m' σ' H',m' < m->W m' σ' H'->E.nx σ' H')->∀F:Bool->Hp->Prop,(∀H',tb E σ H'->F true H')->(∀H',D.nx σ H'->F false H')->∀G:Prop,(c σ H F->G)->W m σ H->G):tWhile c tb D σ H:=by
 refine⟨W,⟨m0,h0⟩,fun m σ H w=>?_⟩
 refine hs m σ H { D with nx:=fun σ' H'=>∃m',m' < m/\W m' σ' H',ct:=fun σ' H'=>∃m',m' < m/\W m' σ' H',bk:=D.nx } rfl (fun m' σ' H' l w'=>⟨m',l,w'⟩) _ (fun H' x=>?_) (fun H' x=>?_) _ (fun z=>z) w
 ·show if true=true then _ else _
  rw[if_pos rfl]
  exact⟨_,fun _ _ h=>h,x⟩
 ·show if false=true then _ else _
  rw[if_neg (by decide)];exact x
def ForW(J:It)(g:TG)(tb:TS)(D:Ends)(σ:St)(H:Hp):Prop:=∃W:Nat->Nat->St->Hp->Prop,(∃m,W 0 m σ H)/\∀i m σ H,W i m σ H->
 (J.stop i H/\D.nx σ H)∨(J.go i H/\∃N:St->Hp->Prop,(∀σ' H',N σ' H'->∃m',m' < m/\W (i+1) m' σ' H')/\∀x H',J.yld i H x H'->g x σ H' fun σ2 H2=>tb { D with nx:=N,ct:=N,bk:=D.nx } σ2 H2)
theorem forE{wi:TI}{g:TG}{tb:TS}(h:∀F:It->Hp->Prop,(∀J H',ForW J g tb D σ H'->F J H')->wi σ H F):tFor wi g tb D σ H:=h _ fun _ _ z=>z
theorem tgE{g:TG}{x:V}{Q:St->Hp->Prop}(h:∀F:St->Hp->Prop,(∀σ' H',Q σ' H'->F σ' H')->g x σ H F):g x σ H Q:=h _ fun _ _ z=>z
theorem zS{lo:Int}{n:Nat}{g:TG}{tb:TS}{D:Ends}{σ:St}{H:Hp}(Pv:Nat->St->Hp->Prop)(h0:Pv 0 σ H)
  (hs:∀E:Ends,E.rt=D.rt->∀i σ H,i < n->(∀σ' H',Pv (i+1) σ' H'->E.nx σ' H')->∀G:Prop,((g (.int (lo+i)) σ H fun σ2 H2=>tb E σ2 H2)->G)->Pv i σ H->G) (hd:∀σ H,Pv n σ H->D.nx σ H):ForW (Itr lo n) g tb D σ H:=
 Jj Pv h0 (fun i σ H hi p=>hs { D with nx:=Pv (i+1),ct:=Pv (i+1),bk:=D.nx } rfl i σ H hi (fun _ _ h=>h) _ (fun z=>z) p) hd
theorem Yp{K:Frag}{a:Addr}{xs:List V}{g:TG}{tb:TS}{D:Ends}{σ:St}{H:Hp}(Pv:Nat->St->Hp->Prop)(h0:Pv 0 σ H)(hl:∀i σ H,i<=xs.length->Pv i σ H->SqL K H a xs)
  (hs:∀E:Ends,E.rt=D.rt->∀i x σ H,xs[i]?=some x->(∀σ' H',Pv (i+1) σ' H'->E.nx σ' H')->∀G:Prop,((g x σ H fun σ2 H2=>tb E σ2 H2)->G)->Pv i σ H->G) (hd:∀σ H,Pv xs.length σ H->D.nx σ H):ForW (Itl K a) g tb D σ H:=
 Zk Pv h0 hl (fun i x σ H hi p=>hs { D with nx:=Pv (i+1),ct:=Pv (i+1),bk:=D.nx } rfl i x σ H hi (fun _ _ h=>h) _ (fun z=>z) p) hd
theorem J4{K:Frag}{a:Addr}{xs:List V}{g:TG}{tb:TS}{D:Ends}{σ:St}{H:Hp}(Pv:Nat->St->Hp->Prop)(h0:Pv 0 σ H)(hl:∀i σ H,i<=xs.length->Pv i σ H->SqT K H a xs)
  (hs:∀E:Ends,E.rt=D.rt->∀i x σ H,xs[i]?=some x->(∀σ' H',Pv (i+1) σ' H'->E.nx σ' H')->∀G:Prop,((g x σ H fun σ2 H2=>tb E σ2 H2)->G)->Pv i σ H->G) (hd:∀σ H,Pv xs.length σ H->D.nx σ H):ForW (Itt K a) g tb D σ H:=
 Z8 Pv h0 hl (fun i x σ H hi p=>hs { D with nx:=Pv (i+1),ct:=Pv (i+1),bk:=D.nx } rfl i x σ H hi (fun _ _ h=>h) _ (fun z=>z) p) hd
end
end L2
namespace L2
open PySem PySem.Spec PyProof.Rows PySem.SeqAt
noncomputable def okV:V->Bool
 | .byt _=>false
 | .flt _=>false
 |_=>true
theorem Yq{A:Around}{s:Shared}{v:V}{u u':Value}(ok:okV v=true)(r:RelV v u)(r':RelV v u'):EqAt A s u u' true:=by
 cases v with
 |int a=>
  obtain⟨t,rfl⟩:=r
  obtain⟨t',rfl⟩:=r'
  have:=EqAt.int_int (A:=A) (s:=s) a t a t'
  rwa [beq_self_eq_true]at this
 |str a=>
  obtain⟨t,rfl⟩:=r
  obtain⟨t',rfl⟩:=r'
  have:=EqAt.str_str (A:=A) (s:=s) a t a t'
  rwa [beq_self_eq_true]at this
 |byt b=>cases ok
 |flt b=>cases ok
 |non=>cases r;cases r';exact EqAt.same _
 |bl b=>cases r;cases r';exact EqAt.same _
 |ref b=>cases r;cases r';exact EqAt.same _
 |ty b=>cases r;cases r';exact EqAt.same _
end L2
namespace L2
open PySem PySem.Spec PyProof.Rows
section
variable {prog:Program}{w:World}{A:Around}{E:Value->Shared->Prop}{s:Shared}
theorem Xc{J T:Addr}{i:Nat}{items:Array Value}{x:Value}{Q:Value->Shared->Prop}(hJ:s.heap.IsTupleIter J T i)(hT:s.heap.IsTuple T items)(hx:items[i]?=some x)
  (q:∀h',h'.IsTupleIter J T (i+1)->Heap.SameBut J s.heap h'->Q x { s with heap:=h' }):wpAny (model prog w) A (Builtin.SmallTypes.nextOf (.ref J)) Q E s:=by
 obtain⟨o,ho,hc,hd⟩:=id hJ
 obtain⟨ol,hol,_,nl,hdl⟩:=hT
 unfold Builtin.SmallTypes.nextOf
 refine wpAny_bind (wpAny_callSpecial?_slot (name:=Str.ofString "__next__") hJ.typeIs PySem.F.slot_tuple_iterator_next (wpAny_call_entry PySem.F.slot_tuple_iterator_next hJ.typeIs PySem.F.entry_tuple_iterator_next (show wpAny _ _ (field (.ref J) 0 >>= _) _ _ s from ?_) (PySem.F.args_tuple_iterator_next_1 _)))
 refine wpAny_bind (wpAny_field ho hd (x:=.ref T) rfl (show wpAny _ _ (if (Value.ref T==Value.none)=true then _ else _) _ _ s from ?_))
 rw[if_neg (show ¬((Value.ref T==Value.none)=true) from Bool.false_ne_true)]
 refine(show wpAny _ _ (field (.ref J) 1 >>= _) _ _ s from wpAny_bind (wpAny_field ho hd (x:=.int i 0) rfl (show wpAny _ _ (seqItems? (.ref T) >>= _) _ _ s from wpAny_bind (wpAny_seqItems hol hdl ?_))))
 simp only[Int.toNat_natCast,hx]
 refine wpAny_bind (wpAny_setField ho hd (by simp) (wpAny_pure ⟨x,rfl,wpAny_pure (q _ ⟨_,Heap.get?_update_self _ ho (Obj.isFreed_of_fields (Obj.data_mapFields hd _)),(Obj.cls_mapFields ..).trans hc,by rw[Obj.data_mapFields hd];simp [rawInt]⟩ (Heap.SameBut.update ..))⟩))
theorem Yr{J T:Addr}{i:Nat}{items:Array Value}{Q:Value->Shared->Prop}(hh:A.handled=none)(hJ:s.heap.IsTupleIter J T i)(hT:s.heap.IsTuple T items)(hx:items[i]?=none)
  (q:∀h' e,Heap.ExtBut J s.heap h'->Shared.TypeIs { s with heap:=h' } e "StopIteration"->E e { s with heap:=h' }):wpAny (model prog w) A (Builtin.SmallTypes.nextOf (.ref J)) Q E s:=by
 obtain⟨o,ho,hc,hd⟩:=id hJ
 obtain⟨ol,hol,_,nl,hdl⟩:=hT
 unfold Builtin.SmallTypes.nextOf
 refine wpAny_bind (wpAny_callSpecial?_slot (name:=Str.ofString "__next__") hJ.typeIs PySem.F.slot_tuple_iterator_next (wpAny_call_entry PySem.F.slot_tuple_iterator_next hJ.typeIs PySem.F.entry_tuple_iterator_next (show wpAny _ _ (field (.ref J) 0 >>= _) _ _ s from ?_) (PySem.F.args_tuple_iterator_next_1 _)))
 refine wpAny_bind (wpAny_field ho hd (x:=.ref T) rfl (show wpAny _ _ (if (Value.ref T==Value.none)=true then _ else _) _ _ s from ?_))
 rw[if_neg (show ¬((Value.ref T==Value.none)=true) from Bool.false_ne_true)]
 refine(show wpAny _ _ (field (.ref J) 1 >>= _) _ _ s from wpAny_bind (wpAny_field ho hd (x:=.int i 0) rfl (show wpAny _ _ (seqItems? (.ref T) >>= _) _ _ s from wpAny_bind (wpAny_seqItems hol hdl ?_))))
 simp only[Int.toNat_natCast,hx]
 refine wpAny_bind (wpAny_rule (wpAny_bind (wpAny_setField ho hd (by simp) ?_)))
 refine XA (by simpa using hh) fun h' e k te=>q h' e (fun b o hb eb=>k b o ?_) te
 exact(Heap.get?_update_other _ _ (Ne.symm hb)).trans eb
end
def SIt(b:Bool)(h:Heap)(i l:Addr)(k:Nat):Prop:=match b with
 |true=>h.IsListIter i l k
 |false=>h.IsTupleIter i l k
def SSq(b:Bool)(h:Heap)(l:Addr)(xs:Array Value):Prop:=match b with
 |true=>h.IsList l xs
 |false=>h.IsTuple l xs
noncomputable def itCls:Bool->String
 |true=>"list_iterator"
 |false=>"tuple_iterator"
theorem SIt.kp{b:Bool}{h h':Heap}{i l:Addr}{k:Nat}(x:SIt b h i l k)(e:∀o,h.get? i=some o->h'.get? i=some o):SIt b h' i l k:=by
 cases b
 ·exact Heap.IsTupleIter.at x e
 ·obtain⟨o,ho,r⟩:=x;exact⟨o,e o ho,r⟩
theorem SSq.kp{b:Bool}{h h':Heap}{l:Addr}{xs:Array Value}(x:SSq b h l xs)(e:∀o,h.get? l=some o->h'.get? l=some o):SSq b h' l xs:=by
 cases b
 ·obtain⟨o,ho,r⟩:=x;exact⟨o,e o ho,r⟩
 ·exact Heap.IsList.at x e
theorem SIt.ob{b:Bool}{h:Heap}{i l:Addr}{k:Nat}(x:SIt b h i l k):∃o,h.get? i=some o/\o.cls= .type (itCls b)/\∀v,o.data≠ .cell v:=by
 cases b
 ·obtain⟨o,ho,c,d⟩:=x;exact⟨o,ho,c,fun v z=>by rw[d]at z;cases z⟩
 ·obtain⟨o,ho,c,d⟩:=x;exact⟨o,ho,c,fun v z=>by rw[d]at z;cases z⟩
section
variable {prog:Program}{w:World}{A:Around}{E:Value->Shared->Prop}{s:Shared}
theorem zT{b:Bool}{J T:Addr}{i:Nat}{items:Array Value}{x:Value}{Q:Value->Shared->Prop}(hJ:SIt b s.heap J T i)(hT:SSq b s.heap T items)(hx:items[i]?=some x)
  (q:∀h',SIt b h' J T (i+1)->Heap.SameBut J s.heap h'->Q x { s with heap:=h' }):wpAny (model prog w) A (Builtin.SmallTypes.nextOf (.ref J)) Q E s:=by
 cases b
 ·exact Xc hJ hT hx q
 ·exact wpAny_nextOf_list_item hJ hT hx q
theorem KQ{b:Bool}{J T:Addr}{i:Nat}{items:Array Value}{Q:Value->Shared->Prop}(hh:A.handled=none)(hJ:SIt b s.heap J T i)(hT:SSq b s.heap T items)(hx:items[i]?=none)
  (q:∀h' e,Heap.ExtBut J s.heap h'->Shared.TypeIs { s with heap:=h' } e "StopIteration"->E e { s with heap:=h' }):wpAny (model prog w) A (Builtin.SmallTypes.nextOf (.ref J)) Q E s:=by
 cases b
 ·exact Yr hh hJ hT hx q
 ·exact wpAny_nextOf_list_end hh hJ hT hx fun h' e k ⟨o,ho,hc⟩=>q h' (.ref e) k ⟨o,ho,hc⟩
theorem iterS{b:Bool}{T:Addr}{items:Array Value}{Q:Value->Shared->Prop}(hT:SSq b s.heap T items)
  (q:Q (.ref s.heap.objs.size) { s with heap:=s.heap.push { cls:=.type (itCls b),data:=.fields #[.ref T,.int 0 0] } }):wpAny (model prog w) A (pyIter (.ref T)) Q E s:=by
 cases b
 ·exact wpAny_pyIter_tuple hT q
 ·exact wpAny_pyIter_list hT q
structure ZpA(z u v c d a b:Addr):Prop where
 uz:u≠z
 vz:v≠z
 cz:c≠z
 dz:d≠z
 uv:u≠v
 uc:u≠c
 ud:u≠d
 vc:v≠c
 vd:v≠d
 cd:c≠d
 az:a≠z
 av:a≠v
 ac:a≠c
 ad:a≠d
 bz:b≠z
 bv:b≠v
 bc:b≠c
 bd:b≠d
theorem zp_item{b1 b2:Bool}{z u v c d a b:Addr}{k:Nat}{xs ys:Array Value}{x y p q:Value}{Q:Option Value->Shared->Prop}(D:ZpA z u v c d a b)
  (hz:IsZip s.heap z u v .none) (hu:IsPair s.heap u (.ref c) (.ref d)) (hv:IsPair s.heap v p q) (h1:SIt b1 s.heap c a k) (h2:SIt b2 s.heap d b k) (g1:SSq b1 s.heap a xs) (g2:SSq b2 s.heap b ys) (hx:xs[k]?=some x) (hy:ys[k]?=some y)
  (hQ:∀h',IsZip h' z u v (rawInt s.heap.objs.size)->IsPair h' v x y->SIt b1 h' c a (k+1)->SIt b2 h' d b (k+1)->IsPair h' s.heap.objs.size x y->h'.objs.size=s.heap.objs.size+1->
   (∀e o,e≠z->e≠v->e≠c->e≠d->s.heap.get? e=some o->h'.get? e=some o)->Q (some (.ref s.heap.objs.size)) { s with heap:=h' }):wpAny (model prog w) A (pyNext (.ref z)) Q E s:=by
 have hT:s.TypeIs (.ref z) "zip":=⟨_,hz,rfl⟩
 unfold pyNext
 refine wpAny_bind (wpAny_attempt (wpAny_callSpecial?_slot (name:=Str.ofString "__next__") hT PySem.F.slot_zip_next (wpAny_call_entry PySem.F.slot_zip_next hT PySem.F.entry_zip_next (show wpAny _ _ (field (.ref z) 2 >>= _) _ _ _ from ?_) (PySem.F.args_zip_next_1 _))))
 refine wpAny_bind (wpAny_field hz rfl (x:=.bool false) rfl (show wpAny _ _ (field (.ref z) 3 >>= _) _ _ _ from wpAny_bind (wpAny_field hz rfl (x:=.ref u) rfl (wpAny_bind (wpAny_seqItems hu rfl ?_)))))
 refine(show wpAny _ _ (Builtin.SmallTypes.ownedTupleIsFree (.ref z) >>= _) _ _ _ from wpAny_bind ?_)
 unfold Builtin.SmallTypes.ownedTupleIsFree
 refine wpAny_bind (wpAny_field hz rfl (x:=.none) rfl (wpAny_pure ?_))
 simp only[if_true]
 refine wpAny_bind (wpAny_rule (wpAny_bind (wpAny_field hz rfl (x:=.ref v) rfl (wpAny_bind (wpAny_setField_rec hz (by simp) fun m1 z1 s1=>?_)))))
 replace z1:IsZip m1 z u v .ellipsis:=z1
 refine wpAny_bind ?_
 simp only[List.zipIdx_cons,List.zipIdx_nil,List.forIn_cons,List.forIn_nil]
 refine wpAny_bind (wpAny_bind (wpAny_onRaise (show wpAny _ _ (Builtin.SmallTypes.nextOf (.ref c) >>= _) _ _ _ from ?_)))
 refine wpAny_bind (zT (s:={ s with heap:=m1 }) (h1.kp fun o e=>s1.extBut _ _ D.cz e) (g1.kp fun o e=>s1.extBut _ _ D.az e) hx fun m2 i2 s2=>wpAny_pure ?_)
 have v2:IsPair m2 v p q:=s2.extBut _ _ D.vc (s1.extBut _ _ D.vz hv)
 refine wpAny_bind (wpAny_seqItems (s:={ s with heap:=m2 }) v2 rfl (wpAny_bind (wpAny_updateSeq_pair (s:={ s with heap:=m2 }) v2 fun m3 v3 s3=>?_)))
 replace v3:IsPair m3 v x q:=v3
 refine wpAny_bind (wpAny_letGo (wpAny_pure (wpAny_bind (wpAny_bind (wpAny_onRaise (show wpAny _ _ (Builtin.SmallTypes.nextOf (.ref d) >>= _) _ _ _ from ?_))))))
 have k3:∀e o,e≠z->e≠c->e≠v->s.heap.get? e=some o->m3.get? e=some o:=fun e o n1 n2 n3 w=>s3.extBut _ _ n3 (s2.extBut _ _ n2 (s1.extBut _ _ n1 w))
 refine wpAny_bind (zT (s:={ s with heap:=m3 }) (h2.kp fun o e=>k3 _ _ D.dz D.cd.symm D.vd.symm e) (g2.kp fun o e=>k3 _ _ D.bz D.bc D.bv e) hy fun m4 i4 s4=>wpAny_pure ?_)
 have v4:IsPair m4 v x q:=s4.extBut _ _ D.vd v3
 refine wpAny_bind (wpAny_seqItems (s:={ s with heap:=m4 }) v4 rfl (wpAny_bind (wpAny_updateSeq_pair (s:={ s with heap:=m4 }) v4 fun m5 v5 s5=>?_)))
 replace v5:IsPair m5 v x y:=v5
 refine wpAny_bind (wpAny_letGo (wpAny_pure (wpAny_pure (wpAny_bind (wpAny_seqItems (s:={ s with heap:=m5 }) v5 rfl (wpAny_bind (wpAny_newTuple ?_)))))))
 have e5:m5.objs.size=s.heap.objs.size:=by rw[s5.1,s4.1,s3.1,s2.1,s1.1]
 have k5:∀e o,e≠z->e≠v->e≠c->e≠d->s.heap.get? e=some o->m5.get? e=some o:=fun e o n1 n2 n3 n4 w=>s5.extBut _ _ n2 (s4.extBut _ _ n4 (k3 e o n1 n3 n2 w))
 have z5:IsZip m5 z u v .ellipsis:=s5.extBut _ _ D.vz.symm (s4.extBut _ _ D.dz.symm (s3.extBut _ _ D.vz.symm (s2.extBut _ _ D.cz.symm z1)))
 have j1:SIt b1 m5 c a (k+1):=i2.kp fun o e=>s5.extBut _ _ D.vc.symm (s4.extBut _ _ D.cd (s3.extBut _ _ D.vc.symm e))
 have j2:SIt b2 m5 d b (k+1):=i4.kp fun o e=>s5.extBut _ _ D.vd.symm e
 have lz:z < m5.objs.size:=Heap.lt_size z5
 refine(show wpAny _ _ (Builtin.SmallTypes.ownedTupleHandOut (.ref z) (.ref m5.objs.size) >>= _) _ _ _ from wpAny_bind ?_)
 unfold Builtin.SmallTypes.ownedTupleHandOut
 have z6:IsZip (m5.push { cls:=.type "tuple",data:=.seq #[x,y] }) z u v .ellipsis:=Heap.get?_push_of_some _ z5
 refine wpAny_bind (wpAny_setField_rec z6 (by simp) fun m7 z7 s7=>?_)
 replace z7:IsZip m7 z u v (rawInt m5.objs.size):=z7
 refine wpAny_setField_rec z7 (by simp) fun m8 z8 s8=>?_
 replace z8:IsZip m8 z u v (rawInt m5.objs.size):=z8
 have up:∀e o,e≠z->m5.get? e=some o->m8.get? e=some o:=fun e o n w=>s8.extBut _ _ n (s7.extBut _ _ n (Heap.get?_push_of_some _ w))
 have t8:IsPair m8 m5.objs.size x y:=s8.extBut _ _ (Nat.ne_of_gt lz) (s7.extBut _ _ (Nat.ne_of_gt lz) (Heap.get?_push_size _ rfl))
 have e8:m8.objs.size=m5.objs.size+1:=by rw[s8.1,s7.1,Heap.size_push]
 rw[e5]at z8 t8 e8
 refine wpAny_pure ⟨_,rfl,wpAny_pure ?_⟩
 show Q (some (.ref m5.objs.size)) _
 rw[e5]
 exact hQ m8 z8 (up _ _ D.vz v5) (j1.kp fun o e=>up _ o D.cz e) (j2.kp fun o e=>up _ o D.dz e) t8 e8 fun e o n1 n2 n3 n4 w=>up e o n1 (k5 e o n1 n2 n3 n4 w)
theorem zp_end{b1 b2:Bool}{z u v c d a b:Addr}{k:Nat}{xs ys:Array Value}{p q:Value}{Q:Option Value->Shared->Prop}(hh:A.handled=none)(D:ZpA z u v c d a b)
  (hz:IsZip s.heap z u v .none) (hu:IsPair s.heap u (.ref c) (.ref d)) (h1:SIt b1 s.heap c a k) (g1:SSq b1 s.heap a xs) (hx:xs[k]?=none)
  (hQ:∀h',(∀e o,e≠z->e≠v->e≠c->e≠d->s.heap.get? e=some o->h'.get? e=some o)->Q none { s with heap:=h' }):wpAny (model prog w) A (pyNext (.ref z)) Q E s:=by
 have hT:s.TypeIs (.ref z) "zip":=⟨_,hz,rfl⟩
 unfold pyNext
 refine wpAny_bind (wpAny_attempt (wpAny_callSpecial?_slot (name:=Str.ofString "__next__") hT PySem.F.slot_zip_next (wpAny_call_entry PySem.F.slot_zip_next hT PySem.F.entry_zip_next (show wpAny _ _ (field (.ref z) 2 >>= _) _ _ _ from ?_) (PySem.F.args_zip_next_1 _))))
 refine wpAny_bind (wpAny_field hz rfl (x:=.bool false) rfl (show wpAny _ _ (field (.ref z) 3 >>= _) _ _ _ from wpAny_bind (wpAny_field hz rfl (x:=.ref u) rfl (wpAny_bind (wpAny_seqItems hu rfl ?_)))))
 refine(show wpAny _ _ (Builtin.SmallTypes.ownedTupleIsFree (.ref z) >>= _) _ _ _ from wpAny_bind ?_)
 unfold Builtin.SmallTypes.ownedTupleIsFree
 refine wpAny_bind (wpAny_field hz rfl (x:=.none) rfl (wpAny_pure ?_))
 simp only[if_true]
 refine wpAny_bind (wpAny_rule (wpAny_bind (wpAny_field hz rfl (x:=.ref v) rfl (wpAny_bind (wpAny_setField_rec hz (by simp) fun m1 z1 s1=>?_)))))
 replace z1:IsZip m1 z u v .ellipsis:=z1
 refine wpAny_bind ?_
 simp only[List.zipIdx_cons,List.zipIdx_nil,List.forIn_cons,List.forIn_nil]
 refine wpAny_bind (wpAny_bind (wpAny_onRaise (show wpAny _ _ (Builtin.SmallTypes.nextOf (.ref c) >>= _) _ _ _ from ?_)))
 refine wpAny_bind (KQ (s:={ s with heap:=m1 }) (by simpa using hh) (h1.kp fun o e=>s1.extBut _ _ D.cz e) (g1.kp fun o e=>s1.extBut _ _ D.az e) hx fun m2 e s2 te=>?_)
 have z2:IsZip m2 z u v .ellipsis:=s2 _ _ D.cz.symm z1
 refine wpAny_setField_rec (s:={ s with heap:=m2 }) z2 (by simp) fun m3 z3 s3=>?_
 have te3:Shared.TypeIs { s with heap:=m3 } e "StopIteration":=by
  cases e with
  |ref x=>
   obtain⟨o,ho,hc⟩:=te
   have nx:x≠z:=fun w=>by
    subst w
    have:=ho.symm.trans z2
    cases this
    injection hc with w
    exact absurd w (by decide)
   exact⟨o,s3.extBut _ _ nx ho,hc⟩
  |_=>exact te
 exact wpAny_bind (wpAny_isInstance (T:="StopIteration") (b:=true) te3 isSubtype_stop (wpAny_pure (hQ m3 fun e o n1 n2 n3 n4 w=>s3.extBut _ _ n1 (s2 _ _ n3 (s1.extBut _ _ n1 w)))))
theorem zp_new{b1 b2:Bool}{a b:Addr}{xs ys:Array Value}{Q:Value->Shared->Prop}(g1:SSq b1 s.heap a xs)(g2:SSq b2 s.heap b ys)
  (h:∀h',IsZip h' (s.heap.objs.size+4) (s.heap.objs.size+2) (s.heap.objs.size+3) .none->IsPair h' (s.heap.objs.size+2) (.ref s.heap.objs.size) (.ref (s.heap.objs.size+1))->
   IsPair h' (s.heap.objs.size+3) .none .none->SIt b1 h' s.heap.objs.size a 0->SIt b2 h' (s.heap.objs.size+1) b 0->(∀e o,s.heap.get? e=some o->h'.get? e=some o)->Q (.ref (s.heap.objs.size+4)) { s with heap:=h' }):
  wpAny (model prog w) A (call (.type "zip") [.ref a,.ref b]) Q E s:=by
 refine callType_new (S:=fun _ R s'=>s'=s/\R (.ok (.ret (.ref (s.heap.objs.size+4)))) { s with heap:=((((s.heap.push { cls:=.type (itCls b1),data:=.fields #[.ref a,.int 0 0] }).push { cls:=.type (itCls b2),data:=.fields #[.ref b,.int 0 0] }).push { cls:=.type "tuple",data:=.seq #[.ref s.heap.objs.size,.ref (s.heap.objs.size+1)] }).push { cls:=.type "tuple",data:=.seq #[.none,.none] }).push { cls:=.type "zip",data:=.fields #[.none,.bool false,.bool false,.ref (s.heap.objs.size+2),.ref (s.heap.objs.size+3)] } })
  PySem.F.called_zip (by decide) (PySem.F.typeCall_zip_2 _ _) (PySem.F.newCall_zip_2 _ _) (fun ob=>PySem.F.args_object_init_3 ob _ _) PySem.F.entry_zip_new (.of_wp fun prog' w' A' R s' hs=>?_) ⟨rfl,?_⟩
 ·obtain⟨rfl,hr⟩:=hs
  obtain⟨hp,g,dr,tk,os⟩:=s'
  have hsub:=sub_zip
  have L1:SSq b1 (Shared.heap ⟨hp,g,dr,tk,os⟩) a xs:=g1
  have L2:SSq b2 (Shared.heap ⟨hp.push { cls:=.type (itCls b1),data:=.fields #[.ref a,.int 0 0] },g,dr,tk,os⟩) b ys:=g2.kp fun o e=>Heap.get?_push_of_some _ e
  wp_walk using iterS L1,iterS L2
  refine⟨_,rfl,?_⟩
  simp only[Heap.size_push]at hr ⊢
  exact hr
 ·have z (h:Heap) (o:Obj):(h.push o).objs.size=h.objs.size+1:=Heap.size_push ..
  generalize e1:s.heap.push { cls:=.type (itCls b1),data:=.fields #[.ref a,.int 0 0] }=m1
  generalize e2:m1.push { cls:=.type (itCls b2),data:=.fields #[.ref b,.int 0 0] }=m2
  generalize e3:m2.push { cls:=.type "tuple",data:=.seq #[.ref s.heap.objs.size,.ref (s.heap.objs.size+1)] }=m3
  generalize e4:m3.push { cls:=.type "tuple",data:=.seq #[.none,.none] }=m4
  generalize e5:m4.push { cls:=.type "zip",data:=.fields #[.none,.bool false,.bool false,.ref (s.heap.objs.size+2),.ref (s.heap.objs.size+3)] }=m5
  have n1:m1.objs.size=s.heap.objs.size+1:=by rw[<- e1,z]
  have n2:m2.objs.size=s.heap.objs.size+2:=by rw[<- e2,z,n1]
  have n3:m3.objs.size=s.heap.objs.size+3:=by rw[<- e3,z,n2]
  have n4:m4.objs.size=s.heap.objs.size+4:=by rw[<- e4,z,n3]
  have k5:∀e o,m4.get? e=some o->m5.get? e=some o:=fun e o w=>by rw[<- e5];exact Heap.get?_push_of_some _ w
  have k4:∀e o,m3.get? e=some o->m5.get? e=some o:=fun e o w=>k5 e o (by rw[<- e4];exact Heap.get?_push_of_some _ w)
  have k3:∀e o,m2.get? e=some o->m5.get? e=some o:=fun e o w=>k4 e o (by rw[<- e3];exact Heap.get?_push_of_some _ w)
  have k2:∀e o,m1.get? e=some o->m5.get? e=some o:=fun e o w=>k3 e o (by rw[<- e2];exact Heap.get?_push_of_some _ w)
  have k1:∀e o,s.heap.get? e=some o->m5.get? e=some o:=fun e o w=>k2 e o (by rw[<- e1];exact Heap.get?_push_of_some _ w)
  have q5:IsZip m5 (s.heap.objs.size+4) (s.heap.objs.size+2) (s.heap.objs.size+3) .none:=by rw[<- n4,<- e5];exact Heap.get?_push_size _ rfl
  have q4:IsPair m5 (s.heap.objs.size+3) .none .none:=k5 _ _ (by rw[<- n3,<- e4];exact Heap.get?_push_size _ rfl)
  have q3:IsPair m5 (s.heap.objs.size+2) (.ref s.heap.objs.size) (.ref (s.heap.objs.size+1)):=k4 _ _ (by rw[<- n2,<- e3];exact Heap.get?_push_size _ rfl)
  have q2:m5.get? (s.heap.objs.size+1)=some { cls:=.type (itCls b2),data:=.fields #[.ref b,.int 0 0] }:=k3 _ _ (by rw[<- n1,<- e2];exact Heap.get?_push_size _ rfl)
  have q1:m5.get? s.heap.objs.size=some { cls:=.type (itCls b1),data:=.fields #[.ref a,.int 0 0] }:=k2 _ _ (by rw[<- e1];exact Heap.get?_push_size _ rfl)
  refine⟨⟨_,q5,rfl⟩,h m5 q5 q3 q4 ?_ ?_ k1⟩
  ·cases b1<;>exact⟨_,q1,rfl,rfl⟩
  ·cases b2<;>exact⟨_,q2,rfl,rfl⟩
end
theorem zpa_new(n a b:Nat)(h1:a < n)(h2:b < n):ZpA (n+4) (n+2) (n+3) n (n+1) a b:=by
 refine⟨?_,?_,?_,?_,?_,?_,?_,?_,?_,?_,?_,?_,?_,?_,?_,?_,?_,?_⟩<;>(show(_:Nat)≠_;omega)
section
variable {prog:Program}{w:World}{A:Around}{E:Value->Shared->Prop}
theorem drawL{J l:Addr}{items:Array Value}(hne:l≠J):∀(n i:Nat) (s:Shared) (Q:List Value->Shared->Prop),s.heap.IsListIter J l i->s.heap.IsList l items->i+n<=items.size->
  (∀h',h'.IsListIter J l (i+n)->Heap.SameBut J s.heap h'->Q ((items.toList.drop i).take n) { s with heap:=h' })->wpAny (model prog w) A (draw (.ref J) n) Q E s
 |0,i,s,Q,hJ,_,_,q=>show wpAny _ _ (pure []) Q E s from wpAny_pure (by simpa using q s.heap hJ (Heap.SameBut.refl ..))
 |n+1,i,s,Q,hJ,hl,hle,q=>by
  have hlt:i < items.size:=by omega
  refine(show wpAny _ _ (pyNext (.ref J) >>= _) Q E s from wpAny_bind (wpAny_pyNext_list_item hJ hl (x:=items[i]) (by simp [hlt]) fun h1 j1 s1=>?_))
  refine wpAny_bind (wpAny_holding (drawL hne n (i+1) _ _ j1 (hl.extBut s1.extBut hne) (by omega) fun h2 j2 s2=>wpAny_pure ?_))
  have e:=q h2 (by rw[show i+(n+1)=i+1+n by omega];exact j2) (s1.trans s2)
  rwa [show items.toList.drop i=items[i]::items.toList.drop (i+1) by simp [List.drop_eq_getElem_cons,hlt],List.take_succ_cons]at e
theorem unpackL{s:Shared}{l:Addr}{items:Array Value}{n:Nat}{Q:List Value->Shared->Prop}(hh:A.handled=none)(hl:s.heap.IsList l items)(hn:items.size=n)
  (q:∀h',Heap.ExtBut s.heap.objs.size s.heap h'->Q items.toList { s with heap:=h' }):wpAny (model prog w) A (unpackItems (.ref l) n none) Q E s:=by
 have hne:l≠s.heap.objs.size:=by obtain⟨o,ho,_⟩:=hl;exact Nat.ne_of_lt (Heap.lt_size ho)
 unfold unpackItems
 refine wpAny_bind ?_
 unfold notIterableAtAll
 refine wpAny_bind (wpAny_specialOf hl.typeIs slot_list_iter.lookup ?_)
 refine wpAny_pure ?_
 simp only[Bool.false_eq_true,if_false]
 refine wpAny_bind (wpAny_holding (wpAny_pyIter_list hl ?_))
 have i0:(s.heap.push { cls:=.type "list_iterator",data:=.fields #[.ref l,.int 0 0] }).IsListIter s.heap.objs.size l 0:=⟨_,Heap.get?_push_size _ rfl,rfl,rfl⟩
 refine wpAny_bind (wpAny_holding (drawL hne n 0 _ _ i0 (hl.push _) (by omega) fun h1 j1 s1=>?_))
 have et:(items.toList.drop 0).take n=items.toList:=by rw[List.drop_zero,List.take_of_length_le (by simp [hn])]
 rw[et,if_neg (by simp [hn])]
 have l1:h1.IsList l items:=(hl.push _).extBut s1.extBut hne
 refine wpAny_bind (wpAny_holding (wpAny_pyNext_list_end hh j1 l1 (by simp [hn]) fun h3 e3=>?_))
 simp only[Option.isSome_none,Bool.false_eq_true,if_false]
 exact wpAny_pure (q h3 fun b o hb e=>e3 b o hb (s1.extBut b o hb (Heap.get?_push_of_some _ e)))
end
section
variable {X:Cx}{pos:Pos}
def gLn(K:Frag)(n:Nat)(t:TGs):TG:=fun v σ H Q=>∃a xs,v= .ref a/\SqL K H a xs/\xs.length=n/\t xs σ H Q
theorem XF{es:List Expr}{k n:Nat}{t:TGs}(hc:X.calm=true)(h:PGs X es t)
  (hn:(assignEach es X.env).length=n:=by rfl) (hst:(assignEach es X.env).findIdx? (·.1)=none:=by rfl):PG X (.Tuple es k pos) (gLn X.K n t):=by
 intro pins s σ H v u Q I r hw
 obtain⟨a,xs,e1,hq,hl,hw⟩:=hw
 subst e1
 cases r
 obtain⟨its,rv,p,hz⟩:=I.list hq
 rw[assign_Tuple]
 refine wpAny_bind (wpAny_standAt ?_)
 unfold unpack
 rw[hn,hst]
 refine wpAny_bind (wpAny_holding (unpackL (I.ok.hd hc) p.isList (by simp [<- hl,rv.length]) fun h' hx=>?_))
 have I1:Inv X pins σ H { s with heap:=h' }:=I.kept (t':=s.toks) fun b o e=>hx b o (Nat.ne_of_lt (Heap.lt_size e)) e
 exact h pins _ σ H xs _ Q I1 (by simpa using rv) hw
def tAsg3(K:Frag)(te:TE)(i j k:Nat):TS:=fun D σ H=>te σ H fun x H1=>∃a v1 v2 v3,x= .ref a/\SqT K H1 a [v1,v2,v3]/\D.nx (((σ.set k (some v3)).set j (some v2)).set i (some v1)) H1
theorem ps_asg3{tg e:Expr}{te:TE}{x y z:Str}{i j k:Nat}(hc:X.calm=true)(hN:X.N.Nodup)(hi:X.N[i]?=some x)(hj:X.N[j]?=some y)(hk:X.N[k]?=some z)(lx:Loc X.env.scope x)(ly:Loc X.env.scope y)(lz:Loc X.env.scope z)(he:PE X e te)
  (fx:X.fn x=true∨X.env.scope.names.lookup x=some .local:=by first |exact .inl rfl |exact .inr rfl) (fy:X.fn y=true∨X.env.scope.names.lookup y=some .local:=by first |exact .inl rfl |exact .inr rfl) (fz:X.fn z=true∨X.env.scope.names.lookup z=some .local:=by first |exact .inl rfl |exact .inr rfl)
  (hs:swapsWithSole [tg] e pos.line X.env=pure false:=by rfl) (hw:swappedStores [tg] e X.env=pure (some [x,y,z]):=by rfl):PS X (.Assign [tg] e pos) (tAsg3 X.K te i j k):=by
 intro pins s σ H D I h
 rw[exec_Assign_arm]
 refine wpAny_bind (wpAny_standAt ?_)
 rw[hs]
 refine wpAny_bind (wpAny_pure ?_)
 rw[if_neg (by decide)]
 refine wpAny_bind (thn (he pins s σ H _ I h) fun v s1 ⟨xv,H1,I1,r1,a,v1,v2,v3,e1,hq,q⟩=>?_)
 rw[hw]
 refine wpAny_bind (wpAny_pure ?_)
 subst e1
 cases r1
 obtain⟨its,rv,ht,hz⟩:=I1.tuple hq
 cases rv with
 |cons q1 rv=>
  cases rv with
  |cons q2 rv=>
   cases rv with
   |cons q3 rv=>
    cases rv
    rename_i u1 u2 u3
    unfold assignStores
    refine wpAny_bind (wpAny_rule (wpAny_bind (wpAny_unpackItems_tuple (items:=#[u1,u2,u3]) (I.ok.hd hc) ht fun h' hx=>?_)))
    have I2:Inv X pins σ H1 { s1 with heap:=h' }:=I1.kept (t':=s1.toks) fun b o e=>hx b o (Nat.ne_of_lt (Heap.lt_size e)) e
    refine wpAny_bind ?_
    show wpAny _ _ (assignInOrder [fun v=>bindName X.env z v,fun v=>bindName X.env y v,fun v=>bindName X.env x v] [u3,u2,u1]) _ _ _
    refine wpAny_bind (wpAny_holding (wpAny_bindName (zk I2 hN hk lz q3 (fun s2 I3=>?_) fz)))
    refine wpAny_bind (wpAny_holding (wpAny_bindName (zk I3 hN hj ly q2 (fun s3 I4=>?_) fy)))
    refine wpAny_bind (wpAny_holding (wpAny_bindName (zk I4 hN hi lx q1 (fun s4 I5=>?_) fx)))
    exact wpAny_pure (wpAny_pure ⟨_,H1,I5,q⟩)
end
section
variable {X:Cx}{CX:CXT}{k:Nat}{f C:Addr}{fd:FuncData}{ps:List Str}{sp:Sp}{dvs:List V}{ds:List Value}{E:XK}{x m:Str}{p pos apos:Pos}{e:Expr}{es:List Expr}{t:TA}
structure ClsM(K:Frag)(C:Addr)(m:Str)(f:Addr):Prop where
 rd:PySem.W.readsIn K C (.type "type")=true
 ga:specialIn K (.ref C) "__getattribute__"=some (some (.builtin "type.__getattribute__"))
 at_:PySem.W.findCls K (.ref C) (.type "type") m=some (.val (.ref f))
 kp:keepIn K (.ref f)=true
theorem pe_clsm{pl:Sem Bool}(hg:Gl X x)(hm:X.mg x=some (.ref C))(M:ClsM X.K C m f)(F:FnOk X.prog X.w X.K X.mg X.base CX k f fd ps sp)(hr:Room k X.A)(hb:Binds X.K fd ps ds)(hd:Vals dvs ds)(hx:Passes CX X E)(ha:PA X (e::es) t)
  (hdb:(x==("__debug__":Str))=false:=by decide)
  (hst:starEach (e::es) X.env=(false,eval e X.env)::starEach es X.env:=by rfl) (hpl:(backTo pos (starEach es X.env)).any (·.1)=false:=by rfl)
  (ht:eval (.Call (.Attribute (.Name x p) m apos) (e::es) [] pos) X.env=(do
   let ov <- eval (.Name x p) X.env
   standAt apos.atName
   let (f,first) <- holding [ov] (getMethod ov m pl)
   callWith pos f first (backTo pos (starEach (e::es) X.env)) (backToKw pos (keywordEach [] X.env))):=by rfl):
  PE X (.Call (.Attribute (.Name x p) m apos) (e::es) [] pos) (tCall sp dvs E t):=by
 intro pins s σ H Q I h
 refine PySem.W.methodCall_KW (pl:=pl) (zE I hg hm ?_ hdb) ht
 refine PySem.W.method_cls I.kIn M.ga (PySem.W.cls_value I.kIn M.rd M.at_ rfl ?_)
 have I1:Inv X pins σ H { s with toks:=s.toks+1 }:=I.kept (h':=s.heap) fun b o e=>e
 refine callWith_K (h₀:=X.base) I.ok.mod.kin M.kp (thn (ha pos pins _ σ H _ I1 h) fun us s2 ⟨vs,H2,I2,r,q2⟩=>⟨I2.kIn,?_⟩) hst hpl
 exact KZ F hr hb hd hx I2 r q2
end
abbrev IsZipB(h:Heap)(z u v T:Addr)(f:Bool):Prop:=
 h.get? z=some { cls:=.type "zip",dict:=none,data:=.fields #[rawInt T,.bool f,.bool false,.ref u,.ref v],slots:=#[] }
section
variable {prog:Program}{w:World}{A:Around}{E:Value->Shared->Prop}{s:Shared}
theorem Ys{M:Model}{a:Addr}{Q:Option Obj->Shared->Prop}(h:Q (s.heap.get? a) s):wpAny M A (loadIfAlive a) Q E s:=fun _ _ _=>h
theorem busy{z u v T:Addr}{f:Bool}{Q:Bool->Shared->Prop}(hz:IsZipB s.heap z u v T f)(hT:∃o,s.heap.get? T=some o)
  (q:∀h',IsZipB h' z u v T true->Heap.ExtBut z s.heap h'->h'.objs.size=s.heap.objs.size->Q false { s with heap:=h' }):wpAny (model prog w) A (Builtin.SmallTypes.ownedTupleIsFree (.ref z)) Q E s:=by
 unfold Builtin.SmallTypes.ownedTupleIsFree
 refine wpAny_bind (wpAny_field hz rfl (x:=rawInt T) rfl ?_)
 show wpAny _ _ (loadIfAlive ((T:Int).toNat) >>= _) _ _ s
 refine wpAny_bind (Ys ?_)
 obtain⟨o,ho⟩:=hT
 rw[Int.toNat_natCast,ho]
 simp only[Option.isNone_some,Bool.false_eq_true,if_false]
 refine wpAny_bind (wpAny_field hz rfl (x:=.bool f) rfl ?_)
 cases f with
 |true=>
  simp only[bne_self_eq_false,Bool.false_eq_true,if_false]
  exact wpAny_bind (wpAny_pure (wpAny_pure (q s.heap hz (fun b o _ e=>e) rfl)))
 |false=>
  rw[if_pos (by decide)]
  refine wpAny_bind (wpAny_setField_rec hz (by simp) fun h' z' sb=>wpAny_pure (q h' z' sb.extBut sb.1))
theorem zb_item{b1 b2 f:Bool}{z u v c d a b T:Addr}{k:Nat}{xs ys:Array Value}{x y:Value}{Q:Option Value->Shared->Prop}(D:ZpA z u v c d a b)
  (hz:IsZipB s.heap z u v T f) (hT:∃o,s.heap.get? T=some o) (hu:IsPair s.heap u (.ref c) (.ref d)) (h1:SIt b1 s.heap c a k) (h2:SIt b2 s.heap d b k) (g1:SSq b1 s.heap a xs) (g2:SSq b2 s.heap b ys) (hx:xs[k]?=some x) (hy:ys[k]?=some y)
  (hQ:∀h',IsZipB h' z u v T true->SIt b1 h' c a (k+1)->SIt b2 h' d b (k+1)->IsPair h' s.heap.objs.size x y->h'.objs.size=s.heap.objs.size+1->
   (∀e o,e≠z->e≠c->e≠d->s.heap.get? e=some o->h'.get? e=some o)->Q (some (.ref s.heap.objs.size)) { s with heap:=h' }):wpAny (model prog w) A (pyNext (.ref z)) Q E s:=by
 have hTy:s.TypeIs (.ref z) "zip":=⟨_,hz,rfl⟩
 unfold pyNext
 refine wpAny_bind (wpAny_attempt (wpAny_callSpecial?_slot (name:=Str.ofString "__next__") hTy PySem.F.slot_zip_next (wpAny_call_entry PySem.F.slot_zip_next hTy PySem.F.entry_zip_next (show wpAny _ _ (field (.ref z) 2 >>= _) _ _ _ from ?_) (PySem.F.args_zip_next_1 _))))
 refine wpAny_bind (wpAny_field hz rfl (x:=.bool false) rfl (show wpAny _ _ (field (.ref z) 3 >>= _) _ _ _ from wpAny_bind (wpAny_field hz rfl (x:=.ref u) rfl (wpAny_bind (wpAny_seqItems hu rfl ?_)))))
 refine(show wpAny _ _ (Builtin.SmallTypes.ownedTupleIsFree (.ref z) >>= _) _ _ _ from wpAny_bind (busy hz hT fun m1 z1 e1 n1=>?_))
 simp only[Bool.false_eq_true,if_false]
 refine wpAny_bind ?_
 simp only[List.forIn_toArray,List.forIn_cons,List.forIn_nil]
 refine wpAny_bind (wpAny_bind (wpAny_holding (show wpAny _ _ (Builtin.SmallTypes.nextOf (.ref c) >>= _) _ _ _ from ?_)))
 refine wpAny_bind (zT (s:={ s with heap:=m1 }) (h1.kp fun o e=>e1 _ _ D.cz e) (g1.kp fun o e=>e1 _ _ D.az e) hx fun m2 i2 s2=>wpAny_pure (wpAny_pure ?_))
 refine wpAny_bind (wpAny_bind (wpAny_holding (show wpAny _ _ (Builtin.SmallTypes.nextOf (.ref d) >>= _) _ _ _ from ?_)))
 have k2:∀e o,e≠z->e≠c->s.heap.get? e=some o->m2.get? e=some o:=fun e o n1 n2 w=>s2.extBut _ _ n2 (e1 _ _ n1 w)
 refine wpAny_bind (zT (s:={ s with heap:=m2 }) (h2.kp fun o e=>k2 _ _ D.dz D.cd.symm e) (g2.kp fun o e=>k2 _ _ D.bz D.bc e) hy fun m3 i3 s3=>wpAny_pure (wpAny_pure (wpAny_pure ?_)))
 show wpAny _ _ (newTuple [x,y] >>= _) _ _ _
 refine wpAny_bind (wpAny_newTuple (wpAny_pure ⟨_,rfl,wpAny_pure ?_⟩))
 have n3:m3.objs.size=s.heap.objs.size:=by rw[s3.1,s2.1];exact n1
 have z3:IsZipB m3 z u v T true:=s3.extBut _ _ D.dz.symm (s2.extBut _ _ D.cz.symm z1)
 show Q (some (.ref m3.objs.size)) _
 rw[n3]
 refine hQ _ (Heap.get?_push_of_some _ z3) (i2.kp fun o e=>Heap.get?_push_of_some _ (s3.extBut _ _ D.cd e)) (i3.kp fun o e=>Heap.get?_push_of_some _ e) (by rw[<- n3];exact Heap.get?_push_size _ rfl) (by rw[Heap.size_push,n3]) fun e o a1 a2 a3 w=>Heap.get?_push_of_some _ (s3.extBut _ _ a3 (k2 _ _ a1 a2 w))
theorem zb_end{b1 b2 f:Bool}{z u v c d a b T:Addr}{k:Nat}{xs ys:Array Value}{Q:Option Value->Shared->Prop}(hh:A.handled=none)(D:ZpA z u v c d a b)
  (hz:IsZipB s.heap z u v T f) (hT:∃o,s.heap.get? T=some o) (hu:IsPair s.heap u (.ref c) (.ref d)) (h1:SIt b1 s.heap c a k) (g1:SSq b1 s.heap a xs) (hx:xs[k]?=none)
  (hQ:∀h',(∀e o,e≠z->e≠c->e≠d->s.heap.get? e=some o->h'.get? e=some o)->Q none { s with heap:=h' }):wpAny (model prog w) A (pyNext (.ref z)) Q E s:=by
 have hTy:s.TypeIs (.ref z) "zip":=⟨_,hz,rfl⟩
 unfold pyNext
 refine wpAny_bind (wpAny_attempt (wpAny_callSpecial?_slot (name:=Str.ofString "__next__") hTy PySem.F.slot_zip_next (wpAny_call_entry PySem.F.slot_zip_next hTy PySem.F.entry_zip_next (show wpAny _ _ (field (.ref z) 2 >>= _) _ _ _ from ?_) (PySem.F.args_zip_next_1 _))))
 refine wpAny_bind (wpAny_field hz rfl (x:=.bool false) rfl (show wpAny _ _ (field (.ref z) 3 >>= _) _ _ _ from wpAny_bind (wpAny_field hz rfl (x:=.ref u) rfl (wpAny_bind (wpAny_seqItems hu rfl ?_)))))
 refine(show wpAny _ _ (Builtin.SmallTypes.ownedTupleIsFree (.ref z) >>= _) _ _ _ from wpAny_bind (busy hz hT fun m1 z1 e1 n1=>?_))
 simp only[Bool.false_eq_true,if_false]
 refine wpAny_bind ?_
 simp only[List.forIn_toArray,List.forIn_cons,List.forIn_nil]
 refine wpAny_bind (wpAny_bind (wpAny_holding (show wpAny _ _ (Builtin.SmallTypes.nextOf (.ref c) >>= _) _ _ _ from ?_)))
 refine wpAny_bind (KQ (s:={ s with heap:=m1 }) (by simpa using hh) (h1.kp fun o e=>e1 _ _ D.cz e) (g1.kp fun o e=>e1 _ _ D.az e) hx fun m2 e s2 te=>?_)
 exact wpAny_bind (wpAny_isInstance (T:="StopIteration") (b:=true) te isSubtype_stop (wpAny_pure (hQ m2 fun e o n1 n2 n3 w=>s2 _ _ n2 (e1 _ _ n1 w))))
end
theorem Jo:typeLookup (.type "zip") "__getattr__"=pure none:=by rw[typeLookup_type,builtinLookup_eq_fast];kernel_rfl
theorem QH:typeLookup (.type "zip") "keys"=pure none:=by rw[typeLookup_type,builtinLookup_eq_fast];kernel_rfl
theorem Qh:entryFor table "zip.__getattribute__"=some Builtin.«object.__getattribute__»:=
 entryFor_alias (id':="object.__getattribute__") (by kernel_rfl) (by decide+kernel) (by decide+kernel) (by kernel_rfl)
theorem Kj(a:Addr)(xs:Array Value)(sl:Array (Option Value))(u:Tok):
  Meets (Builtin.«object.__getattribute__» ⟨[.ref a,.str "keys" u],[]⟩) (fun A R s=>s.heap.get? a=some { cls:=.type "zip",dict:=none,data:=.fields xs,slots:=sl }/\raisesAttr (.ref a) "keys" A R s):=
 Meets.of_wp fun prog w A R s hs=>by
  obtain⟨hp,g,d,tk,os⟩:=s
  obtain⟨hx,hs⟩:=hs
  have hT:(⟨hp,g,d,tk,os⟩:Shared).TypeIs (.ref a) "zip":=⟨_,hx,rfl⟩
  have hmiss:=QH
  have hname:(["__module__","__name__","__qualname__","__doc__","__annotations__"]:List Str).contains "keys"=false:=by decide+kernel
  unfold Builtin.«object.__getattribute__»
  repeat (any_goals (first |assumption |wp_step))
  try simp only[hname,Bool.false_eq_true,if_false]
  repeat (any_goals (first |assumption |wp_step))
  exact wpAny_raiseAttrError hs.1 hs.2 (attrMsg_fits (by decide+kernel) (by size_fits))
section
variable {prog:Program}{w:World}{A:Around}{E:Value->Shared->Prop}{s:Shared}
theorem noKeysZ{a:Addr}{xs:Array Value}{sl:Array (Option Value)}{Q:Option Value->Shared->Prop}(hx:s.heap.get? a=some { cls:=.type "zip",dict:=none,data:=.fields xs,slots:=sl })(hA:A.handled=none)
  (h:∀h' tk,(∀b o,s.heap.get? b=some o->h'.get? b=some o)->Q none { s with heap:=h',toks:=tk }):wpAny (model prog w) A (getAttr? (.ref a) "keys") Q E s:=by
 obtain⟨hp,g,d,tk,os⟩:=s
 have hT:∀tk',(⟨hp,g,d,tk',os⟩:Shared).TypeIs (.ref a) "zip":=fun _=>⟨_,hx,rfl⟩
 have f1:=sub_AttributeError
 have f3:=PySem.F.slot_zip_getattribute.lookup
 have f4:=PySem.F.slot_zip_getattribute.bind (.ref a)
 have f5:=Jo
 unfold getAttr? getAttrBy? getAttrBy
 repeat (any_goals (first |assumption |exact hT _ | ((with_reducible show wpAny _ _ (call (Value.builtin "zip.__getattribute__") _ _) _ _ _);refine call_meets PySem.F.slot_zip_getattribute (hT _) Qh (PySem.F.args_zip_getattribute_2 _ _) (Kj a xs sl _) ⟨hx,by simpa using hA,fun h' tk' e hx'=>?_⟩) |wp_step))
 obtain⟨t',u',he⟩:=hx'.there
 show wpAny _ _ (getattributeRaised _ _ _ _ _ _ _) _ _ _
 unfold getattributeRaised
 repeat (any_goals (first |assumption |wp_step))
 exact h _ _ hx'.keeps
def ZSt(h:Heap)(z u v c d a b Dd:Addr)(xs ys:Array Value)(i:Nat):Prop:=
 ((IsZip h z u v .none/\∃p q,IsPair h v p q)∨∃T f o,IsZipB h z u v T f/\h.get? T=some o/\T≠z/\T≠c/\T≠d/\T≠Dd)/\IsPair h u (.ref c) (.ref d)/\SIt false h c a i/\SIt false h d b i/\SSq false h a xs/\SSq false h b ys
theorem zs_item{z u v c d a b Dd:Addr}{k:Nat}{xs ys:Array Value}{x y:Value}{Q:Option Value->Shared->Prop}(D:ZpA z u v c d a b)(ltD:Dd < s.heap.objs.size)(hs:ZSt s.heap z u v c d a b Dd xs ys k)(hx:xs[k]?=some x)(hy:ys[k]?=some y)
  (hQ:∀h',ZSt h' z u v c d a b Dd xs ys (k+1)->IsPair h' s.heap.objs.size x y->h'.objs.size=s.heap.objs.size+1->(∀e o,e≠z->e≠v->e≠c->e≠d->s.heap.get? e=some o->h'.get? e=some o)->Q (some (.ref s.heap.objs.size)) { s with heap:=h' }):wpAny (model prog w) A (pyNext (.ref z)) Q E s:=by
 obtain⟨hz,hu,h1,h2,g1,g2⟩:=hs
 obtain⟨oc,hoc,_⟩:=h1.ob
 obtain⟨od,hod,_⟩:=h2.ob
 rcases hz with ⟨hz,p,q,hv⟩ | ⟨T,f,o,hz,hT,t1,t2,t3,t4⟩
 ·refine zp_item D hz hu hv h1 h2 g1 g2 hx hy fun h' z1 v1 i1 i2 t1 e1 k1=>hQ h' ⟨.inr ⟨s.heap.objs.size,false,_,z1,t1,Nat.ne_of_gt (Heap.lt_size hz),Nat.ne_of_gt (Heap.lt_size hoc),Nat.ne_of_gt (Heap.lt_size hod),Nat.ne_of_gt ltD⟩,k1 _ _ D.uz D.uv D.uc D.ud hu,i1,i2,g1.kp fun o e=>k1 _ _ D.az D.av D.ac D.ad e,g2.kp fun o e=>k1 _ _ D.bz D.bv D.bc D.bd e⟩ t1 e1 k1
 ·refine zb_item D hz ⟨o,hT⟩ hu h1 h2 g1 g2 hx hy fun h' z1 i1 i2 p1 e1 k1=>hQ h' ⟨.inr ⟨T,true,o,z1,k1 _ _ t1 t2 t3 hT,t1,t2,t3,t4⟩,k1 _ _ D.uz D.uc D.ud hu,i1,i2,g1.kp fun o e=>k1 _ _ D.az D.ac D.ad e,g2.kp fun o e=>k1 _ _ D.bz D.bc D.bd e⟩ p1 e1 fun e o n1 n2 n3 n4 w=>k1 e o n1 n3 n4 w
theorem zs_end{z u v c d a b Dd:Addr}{k:Nat}{xs ys:Array Value}{Q:Option Value->Shared->Prop}(hh:A.handled=none)(D:ZpA z u v c d a b)(hs:ZSt s.heap z u v c d a b Dd xs ys k)(hx:xs[k]?=none)
  (hQ:∀h',(∀e o,e≠z->e≠v->e≠c->e≠d->s.heap.get? e=some o->h'.get? e=some o)->Q none { s with heap:=h' }):wpAny (model prog w) A (pyNext (.ref z)) Q E s:=by
 obtain⟨hz,hu,h1,h2,g1,g2⟩:=hs
 rcases hz with ⟨hz,p,q,hv⟩ | ⟨T,f,o,hz,hT,t1,t2,t3,t4⟩
 ·exact zp_end (b2:=false) (p:=p) (q:=q) (ys:=ys) hh D hz hu h1 g1 hx hQ
 ·exact zb_end (b2:=false) (ys:=ys) hh D hz ⟨o,hT⟩ hu h1 g1 hx fun h' k1=>hQ h' fun e o n1 n2 n3 n4 w=>k1 e o n1 n3 n4 w
structure Far(D z u v c d a b:Addr):Prop where
 z:D≠z
 u:D≠u
 v:D≠v
 c:D≠c
 d:D≠d
 a:D≠a
 b:D≠b
theorem ZSt.keep{h h':Heap}{z u v c d a b Dd:Addr}{xs ys:Array Value}{i:Nat}(F:Far Dd z u v c d a b)(k:∀e o,e≠Dd->h.get? e=some o->h'.get? e=some o)(st:ZSt h z u v c d a b Dd xs ys i):ZSt h' z u v c d a b Dd xs ys i:=by
 obtain⟨hz,hu,h1,h2,g1,g2⟩:=st
 refine⟨?_,k _ _ F.u.symm hu,h1.kp fun o e=>k _ _ F.c.symm e,h2.kp fun o e=>k _ _ F.d.symm e,g1.kp fun o e=>k _ _ F.a.symm e,g2.kp fun o e=>k _ _ F.b.symm e⟩
 rcases hz with ⟨hz,p,q,hv⟩ | ⟨T,f,o,hz,hT',t1,t2,t3,t4⟩
 ·exact .inl ⟨k _ _ F.z.symm hz,p,q,k _ _ F.v.symm hv⟩
 ·exact .inr ⟨T,f,o,k _ _ F.z.symm hz,k _ _ t4 hT',t1,t2,t3,t4⟩
theorem Kk{K:Type}[DecidableEq K]{knd:KeyKind prog w K}{R:Result->Shared->Prop}{z u v c d a b Dd:Addr}{xs ys:Array Value}(hh:A.handled=none)(D:ZpA z u v c d a b)(F:Far Dd z u v c d a b)(more:List (K×Value))(hn:more.length=xs.size)(hsz:xs.size<=sizeLine)
  (hP:∀(i:Nat),i < xs.size->∃ku vu k,xs[i]?=some ku/\ys[i]?=some vu/\knd.is k ku=true/\more[i]?=some (k,vu)):
  ∀(j i:Nat) (s:Shared) (n:Int),xs.size - i=j->i<=xs.size->ZSt s.heap z u v c d a b Dd xs ys i->s.heap.DictOf knd Dd (merged [] (more.take i))->
   (∀h' tk,(∀e o,e≠Dd->e≠z->e≠v->e≠c->e≠d->s.heap.get? e=some o->h'.get? e=some o)->h'.DictOf knd Dd (merged [] more)->R (.ok (.ret .none)) { s with heap:=h',toks:=tk })->
   codeAny (model prog w) A (.builtin "dict.update.loop" ⟨[.ref Dd,.ref z,.int n 0,.none],[]⟩) R s:=by
 intro j
 induction j with
 |zero=>
  intro i s n hj hi st hS hR
  have e:i=xs.size:=by omega
  subst e
  refine codeAny_builtin Jy ?_
  rw[Around.under_plainId zH]
  show wpAny _ A.in1 (pyNext (.ref z) >>= _) _ _ s
  refine wpAny_bind (zs_end (by simpa using hh) D st (by simp) fun h' k1=>?_)
  show wpAny _ A.in1 (Builtin.Dict.addKeywords Dd [] >>= fun _=>ret Value.none) _ _ { s with heap:=h' }
  refine wpAny_bind ?_
  unfold Builtin.Dict.addKeywords
  refine wpAny_pure (wpAny_pure (hR h' s.toks (fun e o _ n1 n2 n3 n4 w=>k1 e o n1 n2 n3 n4 w) ?_))
  rw[<- hn,List.take_length]at hS
  obtain⟨o,es,ep,ho,r⟩:=hS
  exact⟨o,es,ep,k1 _ _ F.z F.v F.c F.d ho,r⟩
 |succ j ih=>
  intro i s n hj hi st hS hR
  have lt:i < xs.size:=by omega
  obtain⟨ku,vu,k,hx,hy,hk,hm⟩:=hP i lt
  refine codeAny_builtin Jy ?_
  rw[Around.under_plainId zH]
  show wpAny _ A.in1 (pyNext (.ref z) >>= _) _ _ s
  obtain⟨oD,esD,epD,hoD,rD⟩:=id hS
  have ltD:Dd < s.heap.objs.size:=Heap.lt_size hoD
  refine wpAny_bind (zs_item D ltD st hx hy fun h1 st1 p1 n1 k1=>?_)
  have hb:Shared.TypeIs { s with heap:=h1 } (.ref s.heap.objs.size) "tuple":=⟨_,p1,rfl⟩
  have hS':h1.DictOf knd Dd (merged [] (more.take i)):=⟨oD,esD,epD,k1 _ _ F.z F.v F.c F.d hoD,rD⟩
  dsimp only
  refine wpAny_bind (wpAny_holding ?_)
  refine wpAny_bind (wpAny_tryCatch ?_)
  unfold Builtin.Dict.pairItems
  refine wpAny_bind (wpAny_typeOf hb ?_)
  rw[if_pos (by decide)]
  refine wpAny_bind (wpAny_seqItems p1 rfl (wpAny_pure ?_))
  show wpAny _ A.in1 (holding [ku,vu] (dictSet Dd ku vu)) _ _ { s with heap:=h1 }
  unfold dictSet
  refine wpAny_holding (wpAny_holding (wpAny_bind (knd.pyHash hk ?_)))
  have hlen:(merged ([]:List (K×Value)) (more.take i)).length<=i:=by
   have:=merged_length_le ([]:List (K×Value)) (more.take i)
   rw[List.length_take]at this
   simp only[List.length_nil]at this
   omega
  refine wpAny_dictSetHashed_pairs (s:={ s with heap:=h1,toks:=s.toks+1 }) hk hS' (fun h' hd' sb=>?_) (by omega)
  rw[<- merged_take_succ [] more i (k,vu) hm]at hd'
  have kk:∀e o,e≠Dd->h1.get? e=some o->h'.get? e=some o:=fun e o ne w=>(sb.2 e ne).trans w
  refine wpAny_pure ⟨plainId_quiet zH _,ih (i+1) _ (n+1) (by omega) lt (st1.keep F kk) hd' fun h2 tk k2 d2=>hR h2 tk (fun e o n0 n1 n2 n3 n4 w=>k2 e o n0 n1 n2 n3 n4 (kk _ _ n0 (k1 e o n1 n2 n3 n4 w))) d2⟩
theorem Kv{K:Type}[DecidableEq K]{knd:KeyKind prog w K}{z u v c d a b:Addr}{xs ys:Array Value}{more:List (K×Value)}{Q:Value->Shared->Prop}(hh:A.handled=none)(D:ZpA z u v c d a b)
  (hz:IsZip s.heap z u v .none) (hu:IsPair s.heap u (.ref c) (.ref d)) (hv:∃p q,IsPair s.heap v p q) (h1:SIt false s.heap c a 0) (h2:SIt false s.heap d b 0) (g1:SSq false s.heap a xs) (g2:SSq false s.heap b ys)
  (hn:more.length=xs.size) (hsz:xs.size<=sizeLine) (hP:∀(i:Nat),i < xs.size->∃ku vu k,xs[i]?=some ku/\ys[i]?=some vu/\knd.is k ku=true/\more[i]?=some (k,vu))
  (h:∀h' tk,h'.DictOf knd s.heap.objs.size (merged [] more)->(∀e o,e≠z->e≠v->e≠c->e≠d->s.heap.get? e=some o->h'.get? e=some o)->Q (.ref s.heap.objs.size) { s with heap:=h',toks:=tk }):
  wpAny (model prog w) A (call (.type "dict") [.ref z]) Q E s:=by
 refine callType_codes (Q₁:=fun obj s₁=>obj= .ref s.heap.objs.size/\s₁={ s with heap:=s.heap.push { cls:=.type "dict",data:=.dict #[] } }) PySem.F.kt_called_dict (PySem.F.kt_typeCall_dict_1 _) PySem.F.entry_dict_init (kt_code_dict_new _ ⟨rfl,rfl⟩) ?_
 rintro obj s₁ ⟨rfl,rfl⟩
 have hnew:(s.heap.push { cls:=.type "dict",data:=.dict #[] }).DictOf knd s.heap.objs.size []:=Heap.DictOf.new s.heap
 refine⟨hnew.typeIs,PySem.F.args_dict_init_2 _ _,?_⟩
 unfold Builtin.«dict.__init__»
 refine wpAny_bind ?_
 unfold Builtin.Dict.selfAndRest
 refine wpAny_bind (wpAny_notOrdered_dict hnew.typeIs ?_)
 show wpAny _ _ (pure (s.heap.objs.size,[Value.ref z])) _ _ _
 refine wpAny_pure ?_
 show wpAny _ _ (Builtin.Dict.updateFrom "dict.__init__" s.heap.objs.size (.ref z) [] .none) _ _ _
 unfold Builtin.Dict.updateFrom
 generalize hH:s.heap.push { cls:=.type "dict",data:=.dict #[] }=H at hnew ⊢
 have gk:∀b o,s.heap.get? b=some o->H.get? b=some o:=fun b o e=>by rw[<- hH];exact Heap.get?_push_of_some _ e
 refine wpAny_bind (wpAny_typeOf ⟨_,gk _ _ hz,rfl⟩ ?_)
 rw[if_pos (by decide)]
 refine wpAny_bind (noKeysZ (s:={ s with heap:=H }) (gk _ _ hz) (by simpa using hh) fun m1 tk k1=>?_)
 simp only[Option.isNone_none,if_true]
 refine wpAny_bind (wpAny_rule ?_)
 have kk:∀b o,s.heap.get? b=some o->m1.get? b=some o:=fun b o e=>k1 _ _ (gk _ _ e)
 refine wpAny_bind (wpAny_pyIter_zip (s:={ s with heap:=m1,toks:=tk }) (kk _ _ hz) ?_)
 obtain⟨oD,eD,epD,hoD,rD⟩:=hnew
 obtain⟨p,q,hv⟩:=hv
 obtain⟨oc,hoc,_⟩:=h1.ob
 obtain⟨od,hod,_⟩:=h2.ob
 obtain⟨oa,hoa,_⟩:=id g1
 obtain⟨ob,hob,_⟩:=id g2
 have F:Far s.heap.objs.size z u v c d a b:=⟨Nat.ne_of_gt (Heap.lt_size hz),Nat.ne_of_gt (Heap.lt_size hu),Nat.ne_of_gt (Heap.lt_size hv),Nat.ne_of_gt (Heap.lt_size hoc),Nat.ne_of_gt (Heap.lt_size hod),Nat.ne_of_gt (Heap.lt_size hoa),Nat.ne_of_gt (Heap.lt_size hob)⟩
 refine wpAny_pure ⟨plainId_quiet zH _,codeAny_mono (Kk (knd:=knd) (A:=A.in1) (R:=fun r s'=>r= .ok (.ret .none)/\Q (.ref s.heap.objs.size) s') (by simpa using hh) D F more hn hsz hP xs.size 0 { s with heap:=m1,toks:=tk } 0 rfl (Nat.zero_le _)
  ⟨.inl ⟨kk _ _ hz,p,q,kk _ _ hv⟩,kk _ _ hu,h1.kp fun o e=>kk _ _ e,h2.kp fun o e=>kk _ _ e,g1.kp fun o e=>kk _ _ e,g2.kp fun o e=>kk _ _ e⟩ ⟨oD,eD,epD,k1 _ _ hoD,rD⟩ fun h' tk' k2 d2=>⟨rfl,?_⟩) fun r s' q=>?_⟩
 ·exact h h' tk' d2 fun e o n1 n2 n3 n4 w=>k2 e o (Nat.ne_of_lt (Heap.lt_size w)) n1 n2 n3 n4 (kk _ _ w)
 ·obtain⟨rfl,q⟩:=q
  exact⟨rfl,q⟩
end
section
variable {X:Cx}{e1 e2:Expr}{ta:TA}{p p2 pos pos2:Pos}
def tDz(K:Frag)(ta:TA):TE:=fun σ H Q=>ta σ H fun vs H1=>∃(a b:Addr) (ks:List Key) (ys:List V),vs=[.ref a,.ref b]/\SqT K H1 a (ks.map kV)/\SqT K H1 b ys/\ks.length=ys.length/\∀l,H1 l=none->Q (.ref l) (upd H1 l (.dK (mergeK [] (ks.zip ys))))
theorem XG{P:Program}{w:World}:∀{ks:List Key} {us:List Value},Vals (ks.map kV) us->∀(i:Nat) (k:Key),ks[i]?=some k->∃u,us[i]?=some u/\(mixKind P w).is k u=true
 | [],_,_,i,k,h=>by simp at h
 |k0::ks,_,.cons (b:=u) h t,0,k,e=>by
  have e':k0=k:=by simpa using e
  subst e'
  exact⟨u,rfl,JL h⟩
 |k0::ks,_,.cons h t,i+1,k,e=>by simpa using XG (P:=P) (w:=w) t i k (by simpa using e)
theorem Y4:∀{ks:List Key} {ys:List V} {us:List Value},Vals ys us->KV (ks.zip ys) (ks.zip us)
 | [],_,_,_=>by simp only[List.zip_nil_left];exact .nil
 |_::_,_,_,.nil=>by simp only[List.zip_nil_right];exact .nil
 |k::ks,_,_,.cons h t=>.cons ⟨rfl,h⟩ (Y4 t)
theorem XH(hgd:Gl X "dict")(hmd:X.mg "dict"=none)(hgz:Gl X "zip")(hmz:X.mg "zip"=none)(hc:X.calm=true)(ha:PA X [e1,e2] ta)
  (hs:starEach [e1,e2] X.env=(false,eval e1 X.env)::starEach [e2] X.env:=by rfl) (hp:(backTo pos2 (starEach [e2] X.env)).any (·.1)=false:=by rfl)
  (hs2:starEach [Expr.Call (.Name "zip" p2) [e1,e2] [] pos2] X.env=(false,eval (.Call (.Name "zip" p2) [e1,e2] [] pos2) X.env)::starEach [] X.env:=by rfl) (hp2:(backTo pos (starEach [] X.env)).any (·.1)=false:=by rfl):
  PE X (.Call (.Name "dict" p) [.Call (.Name "zip" p2) [e1,e2] [] pos2] [] pos) (tDz X.K ta):=by
 intro pins s σ H Q I h
 refine wpAny_Call_Name_kw (zP I hgd hmd PyProof.Rows.boot_dict ?_)
 refine PyProof.Rows.callWith_type1 ?_ hs2 hp2
 rw[hs2]
 show wpAny _ _ (spliced ((false,eval _ X.env)::backTo pos (starEach [] X.env))) _ _ s
 refine Calls.spliced_cons ?_
 refine wpAny_Call_Name_kw (zP I hgz hmz PyProof.Rows.boot_zip ?_)
 refine PyProof.Rows.callWith_type1 (thn (ha pos2 pins s σ H _ I h) fun us s1 ⟨vs,H1,I1,r1,q1⟩=>?_) hs hp
 obtain⟨a,b,ks,ys,e,gx,gy,hl,q⟩:=q1
 subst e
 cases r1 with
 |cons r rr=>
  cases rr with
  |cons r' rr'=>
   cases rr'
   cases r
   cases r'
   obtain⟨its,rv,g1,z1⟩:=I1.tuple gx
   obtain⟨jts,rw',g2,z2⟩:=I1.tuple gy
   have l1:=rv.length
   have l2:=rw'.length
   rw[List.length_map]at l1 z1
   have la:a < s1.heap.objs.size:=by obtain⟨o,ho,_⟩:=g1;exact Heap.lt_size ho
   have lb:b < s1.heap.objs.size:=by obtain⟨o,ho,_⟩:=g2;exact Heap.lt_size ho
   refine zp_new (b1:=false) (b2:=false) (xs:=its.toArray) (ys:=jts.toArray) g1 g2 fun h' z' u' v' i1 i2 k=>?_
   refine Calls.spliced_nil ?_
   have Dz:=zpa_new s1.heap.objs.size a b la lb
   refine Kv (s:={ s1 with heap:=h' }) (knd:=mixKind X.prog X.w) (more:=ks.zip jts) (I1.ok.hd hc) Dz z' u' ⟨_,_,v'⟩ i1 i2 (SSq.kp (b:=false) g1 fun o e=>k _ _ e) (SSq.kp (b:=false) g2 fun o e=>k _ _ e) (by rw[List.length_zip,List.size_toArray];omega) (by rw[List.size_toArray];omega) (fun i hi=>?_) fun h2 tk dd k2=>?_
   ·rw[List.size_toArray]at hi
    have hk:i < ks.length:=by omega
    have hj:i < jts.length:=by omega
    obtain⟨u,hu,ku⟩:=XG rv i _ (List.getElem?_eq_getElem hk)
    refine⟨u,jts[i],ks[i],by simpa using hu,by simp [hj],ku,?_⟩
    rw[List.getElem?_zip_eq_some]
    exact⟨List.getElem?_eq_getElem hk,List.getElem?_eq_getElem hj⟩
   ·have rel:KV (mergeK [] (ks.zip ys)) (merged [] (ks.zip jts)):=KV.merge (Y4 rw') .nil
    have zl:(mergeK [] (ks.zip ys)).length<=sizeLine:=by
     rw[rel.length]
     have:=merged_length_le ([]:List (Key×Value)) (ks.zip jts)
     rw[List.length_zip]at this
     simp only[List.length_nil]at this
     omega
    have k3:∀e o,s1.heap.get? e=some o->h2.get? e=some o:=fun e o w=>by
     have lt:=Heap.lt_size w
     exact k2 e o (Nat.ne_of_lt (Nat.lt_of_lt_of_le lt (Nat.le_add_right _ _))) (Nat.ne_of_lt (Nat.lt_of_lt_of_le lt (Nat.le_add_right _ _))) (Nat.ne_of_lt lt) (Nat.ne_of_lt (Nat.lt_of_lt_of_le lt (Nat.le_add_right _ _))) (k _ _ w)
    have big:s1.heap.objs.size<=h'.objs.size:=Nat.le_of_lt (Nat.lt_of_le_of_lt (Nat.le_add_right _ 4) (Heap.lt_size z'))
    exact⟨.ref h'.objs.size,_,I1.laid k3 big (K0 zl (beq_eq_false_iff_ne.mpr (Ne.symm (Nat.ne_of_lt (Nat.lt_of_lt_of_le I1.big big)))) rel dd),rfl,q _ (I1.hok.fresh big)⟩
end
end L2
namespace L2
open PySem PySem.Spec PyProof.Rows PySem.SeqAt
theorem Qa:∀(xs:List V) (us:List Value),us.length=xs.length->(∀(j:Nat) (x:V) (u:Value),xs[j]?=some x->us[j]?=some u->RelV x u)->Vals xs us
 | [],[],_,_=>.nil
 | [],_::_,h,_=>by simp at h
 |_::_,[],h,_=>by simp at h
 |x::xs,u::us,h,k=>.cons (k 0 x u rfl rfl) (Qa xs us (by simpa using h) fun j y v h1 h2=>k (j+1) y v (by simpa using h1) (by simpa using h2))
theorem KV.at'{kvs:List (Key×V)}{vs:List (Key×Value)}(r:KV kvs vs)(i:Nat){k:Key}{v:Value}(h:vs[i]?=some (k,v)):∃x,kvs[i]?=some (k,x)/\RelV x v:=by
 induction r generalizing i with
 |nil=>simp at h
 |cons a _ ih=>
  cases i with
  |zero=>
   rename_i p q _ _ _
   obtain⟨p1,p2⟩:=p
   obtain⟨q1,q2⟩:=q
   have e:q1=k/\q2=v:=by simpa using h
   obtain⟨rfl,rfl⟩:=e
   obtain⟨e1,e2⟩:=a
   have e1':p1=q1:=e1
   subst e1'
   exact⟨p2,rfl,e2⟩
  |succ i=>simpa using ih i (by simpa using h)
section
variable {X:Cx}
theorem Xd(hc:X.calm=true):CallR X (.type "list") (fun xs H Q=>∃a kvs,xs=[.ref a]/\H a=some (.dK kvs)/\∀l,H l=none->Q (.ref l) (upd H l (.lst (kvs.map fun p=>kV p.1)))):=by
 intro pins s σ H xs us Q I r h
 obtain⟨a,kvs,rfl,ha,q⟩:=h
 obtain⟨u,rfl,rx⟩:=vals1 r
 cases rx
 obtain⟨z,lo,va,ra,o,es,ep,ho,hx⟩:=Jr I.hok ha
 have hl:=ra.length
 refine PySem.W.kdl_call (PySem.W.kdl_dict (knd:=mixKind X.prog X.w) (kvs:=va) (ep:=ep) lo) (I.ok.hd hc) ⟨o,es,ho,hx⟩ (by omega) fun h' tk acc c' hk hD hacc=>?_
 have rv:Vals (kvs.map fun p=>kV p.1) acc.toList:=by
  refine Qa _ _ (by rw[List.length_map,Array.length_toList,hacc.1];omega) fun j x u hx hu=>?_
  obtain⟨k,y,e1,e2⟩:=hacc.2 j u (by rw[<- Array.getElem?_toList];exact hu)
  obtain⟨x',e3,_⟩:=ra.at' j e1
  rw[List.getElem?_map,e3]at hx
  cases hx
  exact relK e2
 exact⟨.ref s.heap.objs.size,_,I.laid hk (Nat.le_refl _) (show ObjOk X.prog X.w _ h' _ (.lst (kvs.map fun p=>kV p.1)) from ⟨by rw[List.length_map];exact z,acc.toList,c',rv,by rw[Array.toArray_toList];exact hD⟩),rfl,q _ (I.hok.fresh (Nat.le_refl _))⟩
def tLv(K:Frag)(to:TE):TE:=fun σ H Q=>to σ H fun x H1=>∃a kvs,x= .ref a/\H1 a=some (.dK kvs)/\∀l,H1 l=none->Q (.ref l) (upd H1 l (.lst (kvs.map fun p=>p.2)))
theorem QI{o:Expr}{to:TE}{p pos apos cpos:Pos}(hg:Gl X "list")(hm:X.mg "list"=none)(hc:X.calm=true)(ho:PE X o to)
  (hbase:attributeBase o "values" X.env (eval o X.env)=eval o X.env:=by rfl) (hline:(apos.endLine==cpos.line)=true:=by rfl)
  (hs2:starEach [Expr.Call (.Attribute o "values" apos) [] [] cpos] X.env=(false,eval (.Call (.Attribute o "values" apos) [] [] cpos) X.env)::starEach [] X.env:=by rfl) (hp2:(backTo pos (starEach [] X.env)).any (·.1)=false:=by rfl):
  PE X (.Call (.Name "list" p) [.Call (.Attribute o "values" apos) [] [] cpos] [] pos) (tLv X.K to):=by
 intro pins s σ H Q I h
 refine wpAny_Call_Name_kw (zP I hg hm PyProof.Rows.boot_list ?_)
 refine PyProof.Rows.callWith_type1 ?_ hs2 hp2
 rw[hs2]
 show wpAny _ _ (spliced ((false,eval _ X.env)::backTo pos (starEach [] X.env))) _ _ s
 refine Calls.spliced_cons ?_
 refine wpAny_Call_method0_late hbase hline (thn (ho pins s σ H _ I h) fun v s1 ⟨x,H1,I1,r1,a,kvs,e,ha,q⟩=>?_)
 subst e
 cases r1
 obtain⟨h1,h2⟩:=QR (T:="dict") I1 (x:=.ref a) rfl (.inr (.inr (.inl ⟨rfl,.inl ⟨_,ha⟩⟩)))
 obtain⟨z,lo,va,ra,o',es,ep,ho',hx⟩:=Jr I1.hok ha
 have hl:=ra.length
 refine⟨"dict","dict.values",PySem.F.plainAttrs_dict,PySem.F.slot_dict_values,PySem.F.type_dict_values,h1,h2,Calls.callWith_builtin rfl (PySem.evalArgs_none ?_)⟩
 refine call_meetsIn PySem.F.slot_dict_values h1 PySem.F.entry_dict_values (PySem.F.args_dict_values_1 _) (meets_dict_values (mixKind X.prog X.w) a lo) ⟨⟨va,o',es,ep,ho',hx⟩,?_⟩
 refine Calls.spliced_nil ?_
 have k1:∀b o,s1.heap.get? b=some o->(s1.heap.push { cls:=.type "dict_values",data:=.fields #[.ref a] }).get? b=some o:=fun b o e=>Heap.get?_push_of_some _ e
 refine PySem.W.kdl_call (s:={ s1 with heap:=s1.heap.push { cls:=.type "dict_values",data:=.fields #[.ref a] } }) (PySem.W.kdl_values (r:=s1.heap.objs.size) (d:=a) (knd:=mixKind X.prog X.w) (kvs:=va) (ep:=ep)) (I1.ok.hd hc) ⟨⟨_,Heap.get?_push_size _ rfl,rfl,rfl⟩,o',es,k1 _ _ ho',hx⟩ (by omega) fun h' tk acc c' hk hD hacc=>?_
 have rv:Vals (kvs.map fun p=>p.2) acc.toList:=by
  refine Qa _ _ (by rw[List.length_map,Array.length_toList,hacc.1];omega) fun j x u hx hu=>?_
  obtain⟨k,e1⟩:=hacc.2 j u (by rw[<- Array.getElem?_toList];exact hu)
  obtain⟨x',e3,e4⟩:=ra.at' j e1
  rw[List.getElem?_map,e3]at hx
  cases hx
  exact e4
 have big:s1.heap.objs.size<=(s1.heap.push { cls:=.type "dict_values",data:=.fields #[.ref a] }).objs.size:=by rw[Heap.size_push];exact Nat.le_succ _
 exact⟨.ref _,_,I1.laid (fun b o e=>hk b o (k1 b o e)) big (show ObjOk X.prog X.w _ h' _ (.lst (kvs.map fun p=>p.2)) from ⟨by rw[List.length_map];exact z,acc.toList,c',rv,by rw[Array.toArray_toList];exact hD⟩),rfl,q _ (I1.hok.fresh big)⟩
theorem KR{pins:List (Addr×Obj)}{σ:St}{H:Hp}{s:Shared}(I:Inv X pins σ H s){A:Around}{kvs:List (Key×V)}{va vb:List (Key×Value)}(ra:KV kvs va)(rb:KV kvs vb)(ndb:(vb.map (·.1)).Nodup)(hv:∀p∈kvs,∃i,p.2= .int i):PySem.W.KeqHits A s vb va true:=by
 refine Qo fun p hp=>?_
 have l1:=ra.length
 obtain⟨i,hi,e⟩:=List.getElem_of_mem hp
 have hik:i < kvs.length:=by omega
 have hx:kvs[i]?=some (kvs[i].1,kvs[i].2):=List.getElem?_eq_getElem hik
 obtain⟨v1,q1,r1⟩:=ra.get hx
 obtain⟨v2,q2,r2⟩:=rb.get hx
 have ep:p=(kvs[i].1,v1):=by
  have:va[i]?=some p:=by rw[List.getElem?_eq_getElem hi,e]
  rw[this]at q1
  exact Option.some.inj q1
 subst ep
 obtain⟨n,hn⟩:=hv _ (List.getElem_mem hik)
 rw[hn]at r1 r2
 obtain⟨t1,rfl⟩:=r1
 obtain⟨t2,rfl⟩:=r2
 refine⟨_,Jx ndb (List.mem_of_getElem? q2),?_⟩
 obtain⟨e',h1,h2⟩:=HT.eqAt_int A s n t1 n t2
 rw[h2.mpr rfl]at h1
 exact h1
theorem op_neD(hu:X.A.units < cLine):OpR X (compareOp .NotEq) (fun x y H Q=>∃a b kvs,x= .ref a/\y= .ref b/\H a=some (.dK kvs)/\H b=some (.dK kvs)/\(∀p∈kvs,∃i,p.2= .int i)/\Q (.bl false) H):=by
 intro pins s σ H x y v u Q I rx ry h
 obtain⟨a,b,kvs,rfl,rfl,ha,hb,hv,q⟩:=h
 cases rx
 cases ry
 obtain⟨z1,m1,va,ra,da⟩:=Jr I.hok ha
 obtain⟨z2,m2,vb,rb,db⟩:=Jr I.hok hb
 obtain⟨_,_,_,_,_,_,_,_,ndb⟩:=id db
 have l1:=ra.length
 have l2:=rb.length
 refine PySem.W.keq_ne (r:=true) m1 m2 da db hu (fun _=>KR I ra rb ndb hv) ?_
 rw[<- l1,<- l2,beq_self_eq_true]
 exact⟨.bl false,H,I,rfl,q⟩
end
def EqW(prog:Program)(w:World)(A:Around)(s:Shared)(u v:Value):Prop:=∀(E:Value->Shared->Prop) (Q:Bool->Shared->Prop),Q true s->wpAny (model prog w) A (eqBool u v) Q E s
theorem neT_in{prog:Program}{w:World}(l b:Addr)(us vs:Array Value)(n n2:Nat)(dd dd2:Option Addr)(sl sl2:Array (Option Value))(hsz:us.size=vs.size):
  MeetsIn prog w (Builtin.«tuple.__ne__» ⟨[.ref l,.ref b],[]⟩) (fun A R s=>(s.heap.get? l=some ⟨.type "tuple",dd,.seq us n,sl⟩/\s.heap.get? b=some ⟨.type "tuple",dd2,.seq vs n2,sl2⟩)/\
   (∀q∈us.toList.zip vs.toList,EqW prog w A.in1 s q.1 q.2)/\R (.ok (.ret (.bool false))) s):=
 .of_wp fun A R s ⟨⟨h1,h2⟩,h3,h4⟩=>by
  obtain⟨hp,g,d,tk,os⟩:=s
  have sub:=AutoSeq1.sub_tuple_tuple
  wp_walk using wpAny_loadPart' h1,wpAny_loadPart' h2,wpAny_forIn_list _ (fun rest b s'=>b.1=none/\s'=⟨hp,g,d,tk,os⟩/\∀q∈rest,EqW prog w A.in1 ⟨hp,g,d,tk,os⟩ q.1 q.2) _
  case turn=>
   rintro ⟨y,x⟩ rest b s' ⟨e1,rfl,e2⟩
   refine wpAny_bind (e2 (y,x) List.mem_cons_self _ _ ?_)
   wp_walk
   exact⟨rfl,rfl,fun q hq=>e2 q (List.mem_cons_of_mem _ hq)⟩
  case fin=>
   rintro ⟨b1,b2⟩ s' ⟨e1,rfl,_⟩
   simp only at e1
   subst e1
   wp_walk
   exact⟨_,rfl,by simpa [Builtin.Tuple.tupleCompareSizes,bne,hsz] using h4⟩
  case h=>exact⟨rfl,rfl,h3⟩
section
variable {X:Cx}
def Alike(H:Hp)(x y:V):Prop:=(x=y/\okV x=true)∨∃a b kvs,x= .ref a/\y= .ref b/\H a=some (.dK kvs)/\H b=some (.dK kvs)/\∀p∈kvs,∃i,p.2= .int i
theorem Qs{pins:List (Addr×Obj)}{σ:St}{H:Hp}{s:Shared}(I:Inv X pins σ H s){A:Around}(hu:A.units < cLine){x y:V}(h:Alike H x y){u v:Value}(rx:RelV x u)(ry:RelV y v):EqW X.prog X.w A s u v:=by
 rcases h with ⟨rfl,ok⟩ | ⟨a,b,kvs,rfl,rfl,ha,hb,hv⟩
 ·exact fun E Q q=>Yq ok rx ry X.prog X.w E Q q
 ·cases rx
  cases ry
  intro E Q q
  by_cases e:a=b
  ·rw[e];exact EqAt.same _ X.prog X.w E Q q
  ·obtain⟨z1,m1,va,ra,da⟩:=Jr I.hok ha
   obtain⟨z2,m2,vb,rb,db⟩:=Jr I.hok hb
   obtain⟨_,_,_,_,_,_,_,_,ndb⟩:=id db
   have l1:=ra.length
   have l2:=rb.length
   unfold eqBool
   refine wpAny_holding (wpAny_ite_split (fun z=>absurd (by have y:=eq_of_beq z;injection y) e) fun _=>wpAny_bind ?_)
   refine PySem.W.keq_eq (r:=true) m1 m2 da db hu (fun _=>KR I ra rb ndb hv) ?_
   rw[<- l1,<- l2,beq_self_eq_true]
   exact wpAny_truthy_bool q
def rNeA(K:Frag):R2:=fun x y H Q=>∃a b xs ys,x= .ref a/\y= .ref b/\SqT K H a xs/\SqT K H b ys/\xs.length=ys.length/\(∀q∈xs.zip ys,Alike H q.1 q.2)/\Q (.bl false) H
theorem J5:∀{xs ys:List V} {us vs:List Value},Vals xs us->Vals ys vs->∀q∈us.zip vs,∃p∈xs.zip ys,RelV p.1 q.1/\RelV p.2 q.2
 |_,_,_,_,.nil,_,q,h=>by simp at h
 |_,_,_,_,.cons _ _,.nil,q,h=>by simp at h
 |_,_,_,_,.cons a r,.cons b t,q,h=>by
  rcases List.mem_cons.mp (by simpa only[List.zip_cons_cons] using h) with rfl |h
  ·exact⟨_,List.mem_cons_self,a,b⟩
  ·obtain⟨p,m,e⟩:=J5 r t q h
   exact⟨p,List.mem_cons_of_mem _ m,e⟩
theorem QT(hu:X.A.units+1 < cLine):OpR X (compareOp .NotEq) (rNeA X.K):=by
 intro pins s σ H x y v u Q I rx ry h
 obtain⟨a,b,xs,ys,rfl,rfl,ha,hb,hl,hz,q⟩:=h
 cases rx
 cases ry
 obtain⟨ia,ra,pa,_⟩:=I.tuple ha
 obtain⟨ib,rb,pb,_⟩:=I.tuple hb
 obtain⟨⟨c1,d1,t1,s1⟩,o1,e1,n1,f1⟩:=pa
 obtain⟨⟨c2,d2,t2,s2⟩,o2,e2,n2,f2⟩:=pb
 simp only at e1 f1 e2 f2
 subst e1 f1 e2 f2
 have la:=ra.length
 have lb:=rb.length
 refine wpAny_richCompare_same_room (op:=.NotEq) ⟨_,o1,rfl⟩ ⟨_,o2,rfl⟩ PySem.F.slot_tuple_ne (call_meetsIn PySem.F.slot_tuple_ne ⟨_,o1,rfl⟩ PySem.F.entry_tuple_ne (PySem.F.args_tuple_ne_2 _ _) (neT_in a b ia.toArray ib.toArray n1 n2 d1 d2 s1 s2 (by simp;omega)) ⟨⟨o1,o2⟩,fun p hp=>?_,?_⟩) (by omega)
 ·obtain⟨z,m,r1,r2⟩:=J5 ra rb p (by simpa using hp)
  exact Qs I (by show X.A.units+1 < cLine;exact hu) (hz z m) r1 r2
 ·exact⟨(fun x=>nomatch x),.bl false,H,I,rfl,q⟩
end
end L2
namespace L2
open PySem PySem.Spec PyProof.Rows
section
variable {X:Cx}{st:Stmt}{ss:List Stmt}{e:Expr}{es:List Expr}
def sNo:TS:=fun _ _ _=>False
theorem ps_no:PS X st sNo:=fun _ _ _ _ _ _ h=>False.elim h
theorem zY:PSs X ss sNo:=fun _ _ _ _ _ _ h=>False.elim h
end
theorem any3{K:Frag}{t a b c:Value}(h1:kitOne K t a=some false)(h2:kitOne K t b=some false)(h3:kitOne K t c=some false):kitAny K t [a,b,c]=some false:=by
 unfold kitAny
 rw[h1]
 show kitAny K t [b,c]=some false
 unfold kitAny
 rw[h2]
 show kitAny K t [c]=some false
 unfold kitAny
 rw[h3]
 rfl
theorem Qt:∀{cs:List Addr} {us:List Value},Vals (cs.map V.ref) us->us=cs.map Value.ref
 | [],_,h=>by rw[List.map_nil]at h;cases h;rfl
 |c::r,_,h=>by
  rw[List.map_cons]at h
  cases h with
  |cons h1 h2=>rw[show _=Value.ref c from h1,Qt h2];rfl
theorem Kw{X:Cx}:CallR X (.builtin "isinstance") (fun xs H Q=>∃(a C:Addr) (fs:List (Str×V)) (tp:Addr) (cs:List Addr) (b:Bool),xs=[.ref a,.ref tp]/\H tp=some (.tup (cs.map V.ref))/\ExcC H a C fs/\XCls X.K C/\kitAny X.K (.ref C) (cs.map Value.ref)=some b/\Q (.bl b) H):=by
 intro pins s σ H xs us Q I r h
 obtain⟨a,C,fs,tp,cs,b,rfl,ht,ex,xc,e,q⟩:=h
 obtain⟨u,w',rfl,rx,ry⟩:=vals2 r
 cases (show u=Value.ref a from rx)
 cases (show w'=Value.ref tp from ry)
 obtain⟨_,its,rv,it⟩:=I.hok tp _ ht
 rw[Qt rv]at it
 obtain⟨ox,od,J,_⟩:=Jn I ex
 obtain⟨⟨c1,d1,da,sl⟩,e2,hc,n,hd⟩:=it
 cases (show c1=_ from hc)
 cases (show da=_ from hd)
 exact PySem.W.kia_tup (Qp xc) I.kIn ⟨ox,od,J⟩ e2 e (fun z=>nomatch z) fun tk=>⟨.bl b,H,I.tok tk,rfl,q⟩
end L2
namespace L2
open PySem PySem.Spec PyProof.Rows PySem.SeqAt
theorem eqT_in{prog:Program}{w:World}(l b:Addr)(us vs:Array Value)(n n2:Nat)(dd dd2:Option Addr)(sl sl2:Array (Option Value))(hsz:us.size=vs.size):
  MeetsIn prog w (Builtin.«tuple.__eq__» ⟨[.ref l,.ref b],[]⟩) (fun A R s=>(s.heap.get? l=some ⟨.type "tuple",dd,.seq us n,sl⟩/\s.heap.get? b=some ⟨.type "tuple",dd2,.seq vs n2,sl2⟩)/\
   (∀q∈us.toList.zip vs.toList,EqW prog w A.in1 s q.1 q.2)/\R (.ok (.ret (.bool true))) s):=
 .of_wp fun A R s ⟨⟨h1,h2⟩,h3,h4⟩=>by
  obtain⟨hp,g,d,tk,os⟩:=s
  have sub:=AutoSeq1.sub_tuple_tuple
  wp_walk using wpAny_loadPart' h1,wpAny_loadPart' h2,wpAny_forIn_list _ (fun rest b s'=>b.1=none/\s'=⟨hp,g,d,tk,os⟩/\∀q∈rest,EqW prog w A.in1 ⟨hp,g,d,tk,os⟩ q.1 q.2) _
  case turn=>
   rintro ⟨y,x⟩ rest b s' ⟨e1,rfl,e2⟩
   refine wpAny_bind (e2 (y,x) List.mem_cons_self _ _ ?_)
   wp_walk
   exact⟨rfl,rfl,fun q hq=>e2 q (List.mem_cons_of_mem _ hq)⟩
  case fin=>
   rintro ⟨b1,b2⟩ s' ⟨e1,rfl,_⟩
   simp only at e1
   subst e1
   wp_walk
   exact⟨_,rfl,by simpa [Builtin.Tuple.tupleCompareSizes,bne,hsz] using h4⟩
  case h=>exact⟨rfl,rfl,h3⟩
def rEqA(K:Frag):R2:=fun x y H Q=>∃a b xs ys,x= .ref a/\y= .ref b/\SqT K H a xs/\SqT K H b ys/\xs.length=ys.length/\(∀q∈xs.zip ys,Alike H q.1 q.2)/\Q (.bl true) H
theorem op_eqA{X:Cx}(hu:X.A.units+1 < cLine):OpR X (compareOp .Eq) (rEqA X.K):=by
 intro pins s σ H x y v u Q I rx ry h
 obtain⟨a,b,xs,ys,rfl,rfl,ha,hb,hl,hz,q⟩:=h
 cases rx
 cases ry
 obtain⟨ia,ra,pa,_⟩:=I.tuple ha
 obtain⟨ib,rb,pb,_⟩:=I.tuple hb
 obtain⟨⟨c1,d1,t1,s1⟩,o1,e1,n1,f1⟩:=pa
 obtain⟨⟨c2,d2,t2,s2⟩,o2,e2,n2,f2⟩:=pb
 simp only at e1 f1 e2 f2
 subst e1 f1 e2 f2
 have la:=ra.length
 have lb:=rb.length
 refine wpAny_richCompare_same_room (op:=.Eq) ⟨_,o1,rfl⟩ ⟨_,o2,rfl⟩ PySem.F.slot_tuple_eq (call_meetsIn PySem.F.slot_tuple_eq ⟨_,o1,rfl⟩ PySem.F.entry_tuple_eq (PySem.F.args_tuple_eq_2 _ _) (eqT_in a b ia.toArray ib.toArray n1 n2 d1 d2 s1 s2 (by simp;omega)) ⟨⟨o1,o2⟩,fun p hp=>?_,?_⟩) (by omega)
 ·obtain⟨z,m,r1,r2⟩:=J5 ra rb p (by simpa using hp)
  exact Qs I (by show X.A.units+1 < cLine;exact hu) (hz z m) r1 r2
 ·exact⟨(fun x=>nomatch x),.bl true,H,I,rfl,q⟩
end L2
namespace L2
open PySem PySem.Spec PyProof.Rows
theorem Room.m{j k:Nat}{A:Around}(r:Room k A)(h:j<=k:=by omega):Room j A:=r.mono h
theorem fsc{N P:List Str}{s:Scope}(a:s.kind=.function:=by rfl)(b:s.isCoroutine=false:=by rfl)(c:s.isGenerator=false:=by rfl)(d:N.Nodup:=by decide +kernel)(e:N.take P.length=P:=by rfl)(f:∀x∈P,s.names.lookup x=some .local ∨ s.names.lookup x=some .cell:=by decide +kernel)(g:∀y∈s.names,y.2≠.free:=by decide +kernel):FnScope N P s:=⟨a,b,c,d,e,f,g⟩
theorem csc{N:List Str}{s t:Scope}{M:List Str}{n:Nat}{i:List Nat}(a:∀y∈t.names,y.2≠.cell:=by decide +kernel)(b:t.kind=.function:=by rfl)(c:∀y∈t.names,y.2=.local->t.names.lookup y.1=some .local:=by decide +kernel)(d:∀y∈t.names,y.2=.free->s.names.lookup y.1=some .cell:=by decide +kernel)(e:M.drop n=i.map (fun i=>N.getD i Str.empty):=by decide +kernel)(f:M.length=n+i.length:=by rfl)(g:∀j∈i,t.names.lookup (N.getD j Str.empty)=some .free:=by decide +kernel):CompSc N s t M n i:=⟨a,b,c,d,e,f,g⟩
end L2
namespace K12
open PySem PySem.Spec PyProof.Rows L2
variable {P:Program}{w:World}{K:Frag}{mg:Str->Option Value}{base:Heap}
noncomputable def top(i:Nat):Stmt:=PySem.Challenge.pw_againbook_k12_whole_plain_runs.main.body.getD i (.Pass ⟨0,0,0,0⟩)
noncomputable abbrev sBox:Stmt:=top 25
noncomputable abbrev sTake:Stmt:=top 26
noncomputable abbrev sNames:Stmt:=top 28
def But(p:Addr)(H H':Hp):Prop:=∀b o,b≠p->H b=some o->H' b=some o
theorem But.refl{p:Addr}{H:Hp}:But p H H:=fun _ _ _ h=>h
theorem But.trans{p:Addr}{H H1 H2:Hp}(a:But p H H1)(b:But p H1 H2):But p H H2:=fun c o n h=>b c o n (a c o n h)
theorem But.of_eq{p:Addr}{H H':Hp}(h:∀b,b≠p->H' b=H b):But p H H':=fun b o n e=>by rw[h b n];exact e
theorem But.upd_new{p r:Addr}{H H':Hp}{o:HO}(a:But p H H')(n:H' r=none):But p H (upd H' r o):=fun b u nb e=>by
 have q:=a b u nb e
 rw[jf (jl q n)];exact q
theorem But.upd_own{p r:Addr}{H H':Hp}{o:HO}(a:But p H H')(n:H r=none):But p H (upd H' r o):=fun b u nb e=>by
 rw[jf (jl e n)];exact a b u nb e
structure BoxAt(H:Hp)(p:Addr):Prop where
 ob:∃a b:Int,0<=a/\1<=b/\b<=2147483646/\H p=some (.lst [.int a,.int b])
theorem BoxAt.eq{H H':Hp}{p:Addr}(B:BoxAt H p)(e:H' p=H p):BoxAt H' p:=by
 refine opq fun Gq kq=>?_
 obtain⟨a,b,h1,h2,h3,h⟩:=B.ob
 refine kq ?_
 clear kq
 exact⟨a,b,h1,h2,h3,by rw[e];exact h⟩
theorem BoxAt.upd_new{H:Hp}{p r:Addr}{o:HO}(B:BoxAt H p)(n:H r=none):BoxAt (upd H r o) p:=by
 refine opq fun Gq kq=>?_
 obtain⟨a,b,h1,h2,h3,h⟩:=B.ob
 refine kq ?_
 clear kq
 exact B.eq (by rw[jf (jl h n)])
theorem BoxAt.ne{H:Hp}{p r:Addr}(B:BoxAt H p)(n:H r=none):r≠p:=by
 refine opq fun Gq kq=>?_
 obtain⟨a,b,h1,h2,h3,h⟩:=B.ob
 refine kq ?_
 clear kq
 exact Ne.symm (jl h n)
def spTake:Sp:=fun vs H Q _=>∃(p:Addr) (w:Int),vs=[.ref p,.int w]/\BoxAt H p/\0 < w/\w<=1000000000000000000/\
 ∀(d:Int) (H':Hp),0<=d->d < w->BoxAt H' p->(∀b,b≠p->H' b=H b)->Q (.int d) H'
def spBox(K:Frag):Sp:=fun vs H Q _=>∃(a:Addr) (ns:List Int) (k:Int),vs=[.ref a,.int k]/\SqL K H a (ns.map V.int)/\0<=k/\k < 1000/\
 ∀(r:Addr) (H':Hp),H r=none->BoxAt H' r->(∀b,b≠r->H' b=H b)->Q (.ref r) H'
theorem ten18:(10:Int) ^ (18:Int).toNat=1000000000000000000:=by decide
theorem Y5{ns:List Int}{k:Int}(h0:0<=k)(h1:k < (ns.length:Int)):∃v:Int,atI (ns.map V.int) k=some (.int v):=by
 have hk:k.toNat < ns.length:=by omega
 have ek:k=((k.toNat:Nat):Int):=by omega
 have q:atI (ns.map V.int) ((k.toNat:Nat):Int)=some (.int ns[k.toNat]):=j6 (by rw[List.getElem?_map,List.getElem?_eq_getElem hk];rfl)
 rw[<- ek]at q
 exact⟨_,q⟩
theorem scTake:FnScope ["_law_box_here","_law_wide","_law_digit","_law_one","_law_mixed"] ["_law_box_here","_law_wide"] (defScope sTake):=fsc
theorem ok_take{f:Addr}{fd:FuncData}(F:Fun K "_law_take" "_law_take" sTake f fd):FnOk P w K mg base CX0 1 f fd ["_law_box_here","_law_wide"] spTake:=by
 refine F.ok scTake (fun vs H Q E h=>?_) (fun cdv A outer s H vs Q E hr h=>?_)
 ·refine opq fun Gq kq=>?_
  obtain⟨p,w,rfl,_⟩:=h
  refine kq ?_
  clear kq
  rfl
 refine opq fun Gq kq=>?_
 obtain⟨p,wd,rfl,B,hw0,hw1,q⟩:=h
 refine kq ?_
 clear kq
 refine opq fun Gq kq=>?_
 obtain⟨a,b,ha,hb1,hb2,hp⟩:=B.ob
 refine kq ?_
 clear kq
 refine⟨_,jd (jy (jp qC (jm jr (pv 0) jc (fun _ _=>rfl)) jc (nomark _))
   (jd (jo (i:=2) scTake.nd rfl (Or.inl rfl) (jw kH (jm jr (pv 0) jc (fun _ _=>rfl)) (pv 1)))
   (jd (kE (jw qU (jm jr (pv 0) jc (fun _ _=>rfl)) (pv 1)) (qv (pv 0) jc zB))
   (jj (jv (pv 2))))) jq)
  (jd (jo (i:=3) scTake.nd rfl (Or.inl rfl) (jw kH (jw kG (jm jr (pv 0) jc (fun _ _=>rfl)) jc) jc))
  (jd (kE (jw jO (jw kH (jw jO (jw kG (pv 3) jc) jc) jc) jc) (qv (pv 0) jc zB))
  (jd (jo (i:=4) scTake.nd rfl (Or.inl rfl) (jw qU (jw jO (jw kG (pv 3) jc) (jm jr (pv 0) jc (fun _ _=>rfl))) jc))
  (jd (jy (jp qC (pv 1) (jw Je jc jc) (nomark _)) (jj (jo (i:=4) scTake.nd rfl (Or.inl rfl) (jw kG (pv 4) (pv 4)))) jq)
  (jj (jv (jw kH (pv 4) (pv 1)))))))),?_⟩
 refine⟨_,rfl,p,_,_,_,rfl,rfl,SqL.of hp,rfl,_,_,rfl,rfl,_,rfl,?_⟩
 refine ite2 (fun c=>?_) (fun c=>?_)
 ·have c':(0:Int) < a:=of_decide_eq_true c
  refine⟨_,rfl,p,_,_,_,rfl,rfl,SqL.of hp,rfl,_,rfl,_,_,rfl,rfl,hw0,?_⟩
  refine⟨_,rfl,p,_,_,_,rfl,rfl,SqL.of hp,rfl,_,rfl,_,_,rfl,rfl,⟨hw0,hw1⟩,_,rfl,p,_,_,0,rfl,rfl,hp,rfl,_,rfl,?_⟩
  refine q (a % wd) _ (Int.emod_nonneg _ (by omega)) (Int.emod_lt_of_pos _ hw0) ⟨a / wd,b,Int.ediv_nonneg ha (by omega),hb1,hb2,je⟩ fun b n=>jf n
 ·have m0:0<=b*69621 % 2147483647:=Int.emod_nonneg _ (by decide)
  have m1:b*69621 % 2147483647 < 2147483647:=Int.emod_lt_of_pos _ (by decide)
  refine⟨_,rfl,p,_,_,_,rfl,rfl,SqL.of hp,rfl,_,_,rfl,rfl,.inr ⟨by decide,by decide⟩,_,_,rfl,rfl,(by show(0:Int) < 2147483647;decide),?_⟩
  refine⟨_,rfl,_,_,rfl,rfl,.inr ⟨by decide,by decide⟩,_,_,rfl,rfl,_,_,rfl,rfl,(by show(0:Int) < 2147483646;decide),_,_,rfl,rfl,_,rfl,p,_,_,1,rfl,rfl,hp,rfl,?_⟩
  generalize hone:b*69621 % 2147483647=one at*
  have n0:0<=(one*48271+30103) % 2147483646:=Int.emod_nonneg _ (by decide)
  have n1:(one*48271+30103) % 2147483646 < 2147483646:=Int.emod_lt_of_pos _ (by decide)
  generalize htwo:(one*48271+30103) % 2147483646=two at*
  refine⟨_,rfl,_,_,rfl,rfl,.inr ⟨by decide,by decide⟩,_,rfl,p,_,_,_,rfl,rfl,SqL.of je,rfl,_,_,rfl,rfl,_,_,rfl,rfl,⟨by decide,by decide⟩,?_⟩
  have x0:0<=(one*2147483647+(two+1)) / 8191:=by omega
  have x1:(one*2147483647+(two+1)) / 8191 < 18446744073709551616:=by omega
  generalize hmix:(one*2147483647+(two+1)) / 8191=mix at*
  refine⟨_,rfl,_,_,rfl,rfl,⟨by decide,by decide,by decide⟩,_,_,rfl,rfl,_,rfl,?_⟩
  have B2:BoxAt (upd H p (.lst [.int a,.int (two+1)])) p:=⟨a,two+1,ha,by omega,by omega,je⟩
  refine ite2 (fun c2=>?_) (fun c2=>?_)
  ·refine⟨_,rfl,_,rfl,_,_,rfl,rfl,.inl ⟨by omega,by omega⟩,?_⟩
   refine⟨_,rfl,_,rfl,_,_,rfl,rfl,hw0,?_⟩
   exact q _ _ (Int.emod_nonneg _ (by omega)) (Int.emod_lt_of_pos _ hw0) B2 fun b n=>jf n
  ·refine⟨_,rfl,_,rfl,_,_,rfl,rfl,hw0,?_⟩
   exact q _ _ (Int.emod_nonneg _ (by omega)) (Int.emod_lt_of_pos _ hw0) B2 fun b n=>jf n
theorem scBox:FnScope ["_law_script","_law_k","_law_cell","_law_seed"] ["_law_script","_law_k"] (defScope sBox):=fsc
theorem ok_box{f:Addr}{fd:FuncData}(F:Fun K "_law_box" "_law_box" sBox f fd)(ml:mg "len"=none)(mi:mg "int"=none):FnOk P w K mg base CX0 1 f fd ["_law_script","_law_k"] (spBox K):=by
 refine F.ok scBox (fun vs H Q E h=>?_) (fun cdv A outer s H vs Q E hr h=>?_)
 ·refine opq fun Gq kq=>?_
  obtain⟨a,ns,k,rfl,_⟩:=h
  refine kq ?_
  clear kq
  rfl
 refine opq fun Gq kq=>?_
 obtain⟨a,ns,k,rfl,hS,hk0,hk1,q⟩:=h
 refine kq ?_
 clear kq
 refine⟨_,jd (jo (i:=2) scBox.nd rfl (Or.inl rfl) (jw jO (jw kG jc (pv 1)) jc))
  (jd (jy (jp JK (pv 1) (jG jJ rfl ml PySem.boot_len (ja (pv 0) jb)) (nomark _))
   (jj (jo (i:=2) scBox.nd rfl (Or.inl rfl) (jm jr (pv 0) (pv 1) (fun _ _=>rfl))))
   (jj (jy (jp qC (jG jJ rfl ml PySem.boot_len (ja (pv 0) jb)) jc (nomark _))
    (jj (jo (i:=2) scBox.nd rfl (Or.inl rfl) (jw jO (pv 2) (jw kG (jw kH (jm jr (pv 0) (jw kH (pv 1) (jG jJ rfl ml PySem.boot_len (ja (pv 0) jb))) (fun _ _=>rfl)) jc) jc)))) jq)))
  (jd (jo (i:=3) scBox.nd rfl (Or.inl rfl) (jw jO (jw kH (jw jO (jw kG (jw kH (pv 2) jc) jc) (jw kG jc (pv 1))) jc) jc))
  (jj (jv (jH (ja (jw kG (pv 2) (jF jV rfl mi boot_int (ja (j5 YQ (pv 2) (jw Je jc jc) (nomark _)) jb))) (ja (pv 3) jb))))))),?_⟩
 have hl:(ns.map V.int).length=ns.length:=List.length_map _
 have tail:∀c:Int,∃v:V,∃x:Int,v= .int x/\1<=x/\x<=2147483646/\v= .int ((c % 2147483629*48271+40692*k) % 2147483646+1):=fun c=>by
  have n0:0<=(c % 2147483629*48271+40692*k) % 2147483646:=Int.emod_nonneg _ (by decide)
  have n1:(c % 2147483629*48271+40692*k) % 2147483646 < 2147483646:=Int.emod_lt_of_pos _ (by decide)
  exact⟨_,_,rfl,by omega,by omega,rfl⟩
 have fin:∀(c:Int) (r:Addr),H r=none->Q (.ref r) (upd H r (.lst [.int (c*(if decide ((10:Int) ^ (18:Int).toNat<=c)=true then 1 else 0)),.int ((c % 2147483629*48271+40692*k) % 2147483646+1)])):=fun c r hn=>by
  refine q r _ hn ⟨_,_,?_,?_,?_,je⟩ fun b n=>jf n
  ·rw[ten18]
   by_cases h:(1000000000000000000:Int)<=c
   ·rw[decide_eq_true h,if_pos rfl];omega
   ·rw[decide_eq_false h,if_neg Bool.false_ne_true];omega
  ·have n0:0<=(c % 2147483629*48271+40692*k) % 2147483646:=Int.emod_nonneg _ (by decide)
   omega
  ·have n1:(c % 2147483629*48271+40692*k) % 2147483646 < 2147483646:=Int.emod_lt_of_pos _ (by decide)
   omega
 have bnd:∀c:Int,CMul c (if decide ((10:Int) ^ (18:Int).toNat<=c)=true then 1 else 0):=fun c=>.inr (by split<;>decide)
 refine⟨_,rfl,_,_,rfl,rfl,.inl ⟨by decide,by decide⟩,_,_,rfl,rfl,?_⟩
 refine⟨_,rfl,_,rfl,a,_,rfl,.inl hS,_,_,rfl,rfl,_,rfl,?_⟩
 refine ite2 (fun c=>?_) (fun c=>?_)
 ·have c':k < (((ns.map V.int).length:Nat):Int):=of_decide_eq_true c
  rw[hl]at c'
  obtain⟨v,hv⟩:=Y5 (ns:=ns) hk0 c'
  refine⟨_,rfl,_,rfl,a,_,_,_,rfl,rfl,hS,hv,?_⟩
  refine⟨_,rfl,_,_,rfl,rfl,(by show(0:Int) < 2147483629;decide),_,_,rfl,rfl,.inr ⟨by decide,by decide⟩,_,rfl,_,_,rfl,rfl,.inl ⟨by decide,by decide⟩,_,_,rfl,rfl,_,_,rfl,rfl,(by show(0:Int) < 2147483646;decide),_,_,rfl,rfl,?_⟩
  exact⟨_,rfl,_,rfl,_,_,rfl,rfl,⟨by decide,by decide,by decide⟩,_,_,rfl,rfl,.inr ⟨_,rfl,_,_,rfl,rfl,bnd v,_,rfl,sz2,fin v⟩⟩
 ·have c':¬k < (((ns.map V.int).length:Nat):Int):=of_decide_eq_false (Bool.eq_false_iff.mpr c)
  rw[hl]at c'
  refine⟨_,rfl,a,_,rfl,.inl hS,_,_,rfl,rfl,_,rfl,?_⟩
  refine ite2 (fun c2=>?_) (fun c2=>?_)
  ·have c3:(0:Int) < (((ns.map V.int).length:Nat):Int):=of_decide_eq_true c2
   obtain⟨v,hv⟩:=Y5 (ns:=ns) (k:=k % (((ns.map V.int).length:Nat):Int)) (Int.emod_nonneg _ (by omega)) (by have:=Int.emod_lt_of_pos k c3;rw[hl]at this;rw[hl];exact this)
   refine⟨_,rfl,_,rfl,_,rfl,_,rfl,a,_,rfl,.inl hS,_,_,rfl,rfl,c3,a,_,_,_,rfl,rfl,hS,hv,_,_,rfl,rfl,(by show(0:Int) < 2147483629;decide),_,_,rfl,rfl,.inr ⟨by decide,by decide⟩,_,_,rfl,rfl,?_⟩
   refine⟨_,rfl,_,_,rfl,rfl,(by show(0:Int) < 2147483629;decide),_,_,rfl,rfl,.inr ⟨by decide,by decide⟩,_,rfl,_,_,rfl,rfl,.inl ⟨by decide,by decide⟩,_,_,rfl,rfl,_,_,rfl,rfl,(by show(0:Int) < 2147483646;decide),_,_,rfl,rfl,?_⟩
   exact⟨_,rfl,_,rfl,_,_,rfl,rfl,⟨by decide,by decide,by decide⟩,_,_,rfl,rfl,.inr ⟨_,rfl,_,_,rfl,rfl,bnd _,_,rfl,sz2,fin _⟩⟩
  ·refine⟨_,rfl,_,_,rfl,rfl,(by show(0:Int) < 2147483629;decide),_,_,rfl,rfl,.inr ⟨by decide,by decide⟩,_,rfl,_,_,rfl,rfl,.inl ⟨by decide,by decide⟩,_,_,rfl,rfl,_,_,rfl,rfl,(by show(0:Int) < 2147483646;decide),_,_,rfl,rfl,?_⟩
   exact⟨_,rfl,_,rfl,_,_,rfl,rfl,⟨by decide,by decide,by decide⟩,_,_,rfl,rfl,.inr ⟨_,rfl,_,_,rfl,rfl,bnd _,_,rfl,sz2,fin _⟩⟩
def NdP(ys:List Str):Prop:=ys.Nodup/\∀y∈ys,1<=y.length
theorem slen(i j:Str):(i++j).length=i.length+j.length:=by
 show(i.cps++j.cps).size=i.cps.size+j.cps.size
 exact Array.size_append
theorem Qu:1000000<=sizeLine:=by rw[sizeLine_eq];decide
theorem keepN{H:Hp}{r b:Addr}{o u:HO}(h:H b=some u)(n:H r=none):upd H r o b=some u:=by rw[jf (jl h n)];exact h
theorem Y6{z:Str}{k:Int}(h0:0<=k)(h1:k < (z.length:Int)):∃c:Nat,atI z.cps.toList k=some c:=by
 have hl:z.cps.toList.length=z.length:=Array.length_toList
 have hk:k.toNat < z.cps.toList.length:=by omega
 have ek:k=((k.toNat:Nat):Int):=by omega
 have q:atI z.cps.toList ((k.toNat:Nat):Int)=some z.cps.toList[k.toNat]:=j6 (List.getElem?_eq_getElem hk)
 rw[<- ek]at q
 exact⟨_,q⟩
theorem JW{ys:List Str}{k:Int}(h0:0<=k)(h1:k < (ys.length:Int)):∃y∈ys,atI (ys.map V.str) k=some (.str y):=by
 have hk:k.toNat < ys.length:=by omega
 have ek:k=((k.toNat:Nat):Int):=by omega
 have q:atI (ys.map V.str) ((k.toNat:Nat):Int)=some (.str ys[k.toNat]):=j6 (by rw[List.getElem?_map,List.getElem?_eq_getElem hk];rfl)
 rw[<- ek]at q
 exact⟨_,List.getElem_mem hk,q⟩
noncomputable def cutS(ss:List Str)(lo hi:Option Int):List Str:=(ss.drop (HT.sIx ss.length 0 lo)).take (HT.sIx ss.length ss.length hi - HT.sIx ss.length 0 lo)
theorem zC(ss:List Str)(lo hi:Option Int):cutV (ss.map V.str) lo hi=(cutS ss lo hi).map V.str:=by
 unfold cutV cutS
 rw[List.length_map,List.map_take,List.map_drop]
theorem zN{ss:List Str}{lo hi:Option Int}{y:Str}(h:y∈cutS ss lo hi):y∈ss:=List.mem_of_mem_drop (List.mem_of_mem_take h)
theorem qd(ss:List Str)(lo hi:Option Int):(cutS ss lo hi).length<=ss.length:=by
 unfold cutS
 rw[List.length_take,List.length_drop]
 omega
theorem qJ:∀{ys:List Str},(∀y∈ys,y.length<=1)->(ys.map (·.length)).sum<=ys.length
 | [],_=>Nat.le_refl _
 |y::r,h=>by
  have h1:=h y List.mem_cons_self
  have h2:=qJ (ys:=r) fun z hz=>h z (List.mem_cons_of_mem _ hz)
  rw[List.map_cons,List.sum_cons,List.length_cons]
  omega
theorem qK{z:Str}{ys:List Str}(hz:z.length=0)(h:∀y∈ys,y.length<=1):(Txt.join z ys).length<=ys.length:=by
 show(Builtin.Str.glued z ys).length<=_
 rw[size_glued,hz,Nat.mul_zero,Nat.add_zero]
 exact qJ h
noncomputable def letters:Str:="abcdefghijklmnopqrstuvwxyz"
theorem Jz:letters.length=26:=by decide+kernel
def spNames:Sp:=fun vs H Q _=>∃(p:Addr) (n:Int),vs=[.ref p,.int n]/\BoxAt H p/\1<=n/\n<=20/\
 ∀(r:Addr) (ys:List Str) (H':Hp),H r=none->H' r=some (.lst (ys.map V.str))->(ys.length:Int)=n->(∀y∈ys,y.length<=20)->NdP ys->BoxAt H' p->But p H H'->Q (.ref r) H'
theorem scNames:FnScope ["_law_box_here","_law_total","_law_letters","_law_wide","_law_spot_here","_law_signs","_law_first","_law_form","_law_found","_law_k","_law_one","_law_word","_law_some","_law_odd"] ["_law_box_here","_law_total"] (defScope sNames):=fsc
noncomputable def Kx:Scope:=⟨.function,[(".0",.local),("_law_k",.local),("_law_take",.globalImplicit),("_law_box_here",.free),("_law_letters",.free)],false,false,[]⟩
theorem Xe:(["_law_k","_law_box_here","_law_letters"]:List Str).Nodup:=by decide+kernel
theorem Xf:CompSc ["_law_box_here","_law_total","_law_letters","_law_wide","_law_spot_here","_law_signs","_law_first","_law_form","_law_found","_law_k","_law_one","_law_word","_law_some","_law_odd"] (defScope sNames) Kx ["_law_k","_law_box_here","_law_letters"] 1 [0,2]:=csc
noncomputable def Ky:Scope:=⟨.function,[(".0",.local),("_law_j",.local),("_law_take",.globalImplicit),("_law_box_here",.free),("_law_letters",.free)],false,false,[]⟩
theorem Xg:(["_law_j","_law_box_here","_law_letters"]:List Str).Nodup:=by decide+kernel
theorem Xh:CompSc ["_law_box_here","_law_total","_law_letters","_law_wide","_law_spot_here","_law_signs","_law_first","_law_form","_law_found","_law_k","_law_one","_law_word","_law_some","_law_odd"] (defScope sNames) Ky ["_law_j","_law_box_here","_law_letters"] 1 [0,2]:=csc
theorem Ja{p:Addr}{n:Nat}{H0:Hp}{Qf:List V->Hp->Prop}(hn:n<=20)(B:BoxAt H0 p)
  (hd:∀(ss:List Str) (H':Hp),ss.length=n->(∀s∈ss,s.length<=1)->BoxAt H' p->(∀b,b≠p->H' b=H0 b)->Qf (ss.map V.str) H'):
  CompR (Itr 0 n) 1 [some (.ref p),some (.str letters)] (gName 0) tAll (tOp rIxS (tVar 2) (tCall spTake [] E0 (tCons (tVar 1) (tCons (tC (.int 26)) tNil)))) Qf H0:=by
 refine QC (fun i ys H'=>∃ss:List Str,ys=ss.map V.str/\ss.length=i/\(∀s∈ss,s.length<=1)/\BoxAt H' p/\∀b,b≠p->H' b=H0 b)
  ⟨[],rfl,rfl,(fun _ h=>nomatch h),B,fun _ _=>rfl⟩ (Nat.le_trans hn (by decide)) (fun i ys H' ⟨ss,e,l,_⟩=>by rw[e,List.length_map,l];exact Nat.le_refl _) ?_ ?_
 ·intro i ys H' hi hq'
  refine opq fun Gq kq=>?_
  obtain⟨ss,rfl,hl,h1,B',e'⟩:=hq'
  refine kq ?_
  clear kq
  refine⟨_,rfl,_,rfl,p,26,rfl,B',by decide,by decide,fun d H2 d0 d1 B2 e2=>?_⟩
  obtain⟨c,hc⟩:=Y6 (z:=letters) d0 (by rw[Jz];exact d1)
  refine⟨_,_,c,rfl,rfl,by decide,hc,ss++[⟨#[c]⟩],by rw[List.map_append];rfl,by rw[List.length_append,hl];rfl,fun s hs=>?_,B2,fun b nb=>(e2 b nb).trans (e' b nb)⟩
  rcases List.mem_append.mp hs with hs |hs
  ·exact h1 s hs
  ·rw[List.mem_singleton.mp hs];exact Nat.le_refl 1
 ·intro ys H' hq'
  refine opq fun Gq kq=>?_
  obtain⟨ss,rfl,hl,h1,B',e'⟩:=hq'
  refine kq ?_
  clear kq
  exact hd ss H' hl h1 B' e'
noncomputable def toL(x:Str):List Nat:=x.cps.toList
theorem qh(x y:Str):toL (x++y)=toL x++toL y:=by
 show(x.cps++y.cps).toList=x.cps.toList++y.cps.toList
 exact Array.toList_append
theorem JF(x:Str):(toL x).length=x.length:=Array.length_toList
theorem JG(c:Nat):toL ⟨#[c]⟩=[c]:=rfl
def Let(d4:Int)(i c:Nat):Prop:=atI letters.cps.toList ((d4+5*(0+(i:Int))) % 26)=some c
theorem let_nd:letters.cps.toList.Nodup:=by decide+kernel
theorem let_ne{d4:Int}{i j c c':Nat}(hi:i < 20)(hj:j < 20)(ne:i≠j)(h:Let d4 i c)(h':Let d4 j c'):c≠c':=by
 have l26:letters.cps.toList.length=26:=by decide+kernel
 have at_:∀{k:Int} {c:Nat},0<=k->k < 26->atI letters.cps.toList k=some c->letters.cps.toList[k.toNat]?=some c:=fun {k c} k0 k1 e=>by
  unfold atI ixN at e
  rw[if_pos k0,l26,if_pos (by omega)]at e
  exact e
 have m:∀k:Nat,0<=(d4+5*(0+(k:Int))) % 26/\(d4+5*(0+(k:Int))) % 26 < 26:=fun k=>⟨Int.emod_nonneg _ (by decide),Int.emod_lt_of_pos _ (by decide)⟩
 have a1:=at_ (m i).1 (m i).2 h
 have a2:=at_ (m j).1 (m j).2 h'
 intro e
 subst e
 obtain⟨q1,e1⟩:=List.getElem?_eq_some_iff.mp a1
 obtain⟨q2,e2⟩:=List.getElem?_eq_some_iff.mp a2
 have z:=(List.getElem_inj let_nd).mp (e1.trans e2.symm)
 have mi:=m i
 have mj:=m j
 omega
noncomputable def qq:Str:="qqqqqqq"
def Wd(d5:Int)(A B:List Nat)(c:Nat)(w:Str):Prop:=(d5=2->∃pre,toL w=pre++[c])/\(d5≠2->(∃t,toL w=A++c::(B++t)/\t.length<=1)∨toL w=toL qq++[c])
theorem wd_ne{d5:Int}{A B:List Nat}{c c':Nat}{w w':Str}(hl:A.length+B.length<=5)(ne:c≠c')(h:Wd d5 A B c w)(h':Wd d5 A B c' w'):w≠w':=by
 intro e
 subst e
 have l7:(toL qq).length=7:=by decide+kernel
 by_cases h2:d5=2
 ·obtain⟨p,e1⟩:=h.1 h2
  obtain⟨p',e2⟩:=h'.1 h2
  have:=List.append_inj' (e1.symm.trans e2) rfl
  exact ne (by simpa using this.2)
 ·rcases h.2 h2 with ⟨t,e1,t1⟩ |e1
  ·rcases h'.2 h2 with ⟨t',e2,t2⟩ |e2
   ·have:=List.append_cancel_left (e1.symm.trans e2)
    exact ne (List.cons.inj this).1
   ·have:=congrArg List.length (e1.symm.trans e2)
    simp only[List.length_append,List.length_cons,List.length_nil,l7]at this
    omega
  ·rcases h'.2 h2 with ⟨t',e2,t2⟩ |e2
   ·have:=congrArg List.length (e1.symm.trans e2)
    simp only[List.length_append,List.length_cons,List.length_nil,l7]at this
    omega
   ·have:=List.append_inj' (e1.symm.trans e2) rfl
    exact ne (by simpa using this.2)
def Wds(d4 d5:Int)(A B:List Nat)(ys:List Str):Prop:=∀k y,ys[k]?=some y->∃c,Let d4 k c/\Wd d5 A B c y
theorem wds_nd{d4 d5:Int}{A B:List Nat}{ys:List Str}(hl:A.length+B.length<=5)(hn:ys.length<=20)(h:Wds d4 d5 A B ys):ys.Nodup:=by
 refine List.pairwise_iff_getElem.mpr fun i j hi hj hij=>?_
 obtain⟨c,l1,w1⟩:=h i _ (List.getElem?_eq_getElem hi)
 obtain⟨c',l2,w2⟩:=h j _ (List.getElem?_eq_getElem hj)
 exact wd_ne hl (let_ne (by omega) (by omega) (Nat.ne_of_lt hij) l1 l2) w1 w2
theorem ZD{d4 d5:Int}{A B:List Nat}{ys:List Str}{w:Str}{c:Nat}(h:Wds d4 d5 A B ys)(hc:Let d4 ys.length c)(hw:Wd d5 A B c w):Wds d4 d5 A B (ys++[w]):=by
 intro k y e
 by_cases hk:k < ys.length
 ·rw[List.getElem?_append_left hk]at e
  exact h k y e
 ·have:k=ys.length:=by
   have:=(List.getElem?_eq_some_iff.mp e).1
   rw[List.length_append,List.length_singleton]at this
   omega
  subst this
  rw[List.getElem?_append_right (Nat.le_refl _),Nat.sub_self]at e
  cases e
  exact⟨c,hc,hw⟩
theorem nd_set{ys:List Str}{j:Nat}{o:Str}(nd:ys.Nodup)(no:o∉ys):(ys.set j o).Nodup:=by
 refine List.pairwise_iff_getElem.mpr fun a b ha hb hab=>?_
 rw[List.length_set]at ha hb
 rw[List.getElem_set,List.getElem_set]
 have n1:∀(k:Nat) (hk:k < ys.length),o≠ys[k]:=fun k hk e=>no (by rw[e];exact List.getElem_mem hk)
 by_cases h1:j=a
 ·rw[if_pos h1,if_neg (by omega)]
  exact n1 b hb
 ·rw[if_neg h1]
  by_cases h2:j=b
  ·rw[if_pos h2]
   exact fun e=>n1 a ha e.symm
  ·rw[if_neg h2]
   exact fun e=>absurd ((List.getElem_inj nd).mp e) (by omega)
theorem not_inV{o:Str}{ys:List Str}(h:inV (.str o) (ys.map V.str)=false):o∉ys:=by
 intro m
 have:inV (.str o) (ys.map V.str)=true:=by
  unfold inV
  rw[List.any_eq_true]
  exact⟨.str o,List.mem_map.mpr ⟨o,m,rfl⟩,by simp [eqV]⟩
 rw[h]at this
 cases this
theorem cut_len{ss:List Str}{d:Int}(h0:0<=d)(h1:d < (ss.length:Int)):(cutS ss none (some d)).length+(cutS ss (some (d+1)) none).length+1<=ss.length:=by
 obtain⟨k,rfl⟩:∃k:Nat,d=(k:Int):=⟨d.toNat,by omega⟩
 have e:((k:Int)+1)=((k+1:Nat):Int):=by omega
 unfold cutS
 rw[e,HT.sIx_nat,HT.sIx_nat,HT.sIx_none,HT.sIx_none]
 simp only[List.length_take,List.length_drop]
 omega
theorem wds_pos{d4 d5:Int}{A B:List Nat}{ys:List Str}(h:Wds d4 d5 A B ys):∀y∈ys,1<=y.length:=fun y hy=>by
 obtain⟨k,hk,e⟩:=List.getElem_of_mem hy
 obtain⟨c,_,w⟩:=h k y (by rw[List.getElem?_eq_getElem hk,e])
 rw[<- JF]
 by_cases h2:d5=2
 ·obtain⟨pre,e⟩:=w.1 h2
  rw[e,List.length_append]
  show 1<=pre.length+1
  omega
 ·rcases w.2 h2 with ⟨t,e,_⟩ |e
  ·rw[e,List.length_append,List.length_cons]
   omega
  ·rw[e,List.length_append]
   show 1<=(toL qq).length+1
   omega
theorem ndp_set{ys:List Str}{j:Nat}{o:Str}(nd:NdP ys)(no:o∉ys)(ho:1<=o.length):NdP (ys.set j o):=⟨nd_set nd.1 no,fun y hy=>by
 rcases List.mem_or_eq_of_mem_set hy with h |h
 ·exact nd.2 y h
 ·rw[h];exact ho⟩
def Rw(p g r:Addr)(n d1 d2 d4 d5:Int)(i c:Nat)(ss ys:List Str)(H:Hp)(L:Nat)(Pw:Str->Prop):L2.St->Hp->Prop:=fun σ' H'=>∃w1:Str,w1.length<=L/\Pw w1/\
 σ'=[some (.ref p),some (.int n),some (.str letters),some (.int (1+d1)),some (.int d2),some (.ref g),some (.int d4),some (.int d5),some (.ref r),some (.int (0+(i:Int))),some (.str ⟨#[c]⟩),some (.str w1),none,none]/\
 H' g=some (.lst (ss.map V.str))/\H' r=some (.lst (ys.map V.str))/\BoxAt H' p/\But p H H'
def Rf(p r:Addr)(n:Int)(H:Hp):L2.St->Hp->Prop:=fun σ' H'=>σ'[8]?=some (some (.ref r))/\∃ys:List Str,H' r=some (.lst (ys.map V.str))/\(ys.length:Int)=n/\(∀y∈ys,y.length<=20)/\NdP ys/\BoxAt H' p/\But p H H'
theorem Yt(ys:List Str):(ys.map V.str).all flatV=true:=by
 rw[List.all_eq_true]
 intro v hv
 obtain⟨y,_,rfl⟩:=List.mem_map.mp hv
 rfl
theorem ZE(ys:List Str)(j:Nat)(y:Str):(ys.map V.str).set j (V.str y)=(ys.set j y).map V.str:=(List.map_set ..).symm
theorem ZF{f fT:Addr}{fd fdT:FuncData}(F:Fun K "_law_names" "_law_names" sNames f fd)(GT:FnOk P w K mg base CX0 1 fT fdT ["_law_box_here","_law_wide"] spTake)(bT:Binds K fdT ["_law_box_here","_law_wide"] [])(kT:keepIn K (.ref fT)=true)
  (mT:mg "_law_take"=some (.ref fT)) (mr:mg "range"=none):FnOk P w K mg base CX0 2 f fd ["_law_box_here","_law_total"] spNames:=by
 refine F.ok scNames (fun vs H Q E h=>?_) (fun cdv A outer s H vs Q E hr h=>?_)
 ·refine opq fun Gq kq=>?_
  obtain⟨p,n,rfl,_⟩:=h
  refine kq ?_
  clear kq
  rfl
 refine opq fun Gq kq=>?_
 obtain⟨p,n,rfl,B,hn0,hn1,q⟩:=h
 refine kq ?_
 clear kq
 refine⟨_,(@jd _ _ _ _ _ (@jo _ _ (2) _ _ _ _ scNames.nd rfl (Or.inr rfl) (@ji _ _ _ _) (by rfl) (.inl rfl)) (@jd _ _ _ _ _ (@jo _ _ (3) _ _ _ _ scNames.nd rfl (Or.inl rfl) (@jw _ _ _ _ _ _ _ _ jO (@jc _ _ _ _) (@jh _ _ _ _ _ _ _ _ _ _ _ _ _ _ _ _ GT hr rfl mT kT bT .nil pass0 (@ja _ _ _ _ _ (@pv _ 0 _ _ (by rfl) (.inr (.inl rfl)) (by decide) (by decide)) (@ja _ _ _ _ _ (@jc _ _ _ _) (@jb _) (by rfl)) (by rfl)) (by decide) (by rfl) (by rfl))) (by rfl) (.inl rfl)) (@jd _ _ _ _ _ (@jo _ _ (4) _ _ _ _ scNames.nd rfl (Or.inl rfl) (@jh _ _ _ _ _ _ _ _ _ _ _ _ _ _ _ _ GT hr rfl mT kT bT .nil pass0 (@ja _ _ _ _ _ (@pv _ 0 _ _ (by rfl) (.inr (.inl rfl)) (by decide) (by decide)) (@ja _ _ _ _ _ (@pv _ 3 _ _ (by rfl) (.inl rfl) (by decide) (by decide)) (@jb _) (by rfl)) (by rfl)) (by decide) (by rfl) (by rfl)) (by rfl) (.inl rfl)) (@jd _ _ _ _ _ (@ps_setC _ _ _ _ _ _ _ _ _ _ (5) (["_law_k","_law_box_here","_law_letters"]) (1) ([0,2]) _ _ _ _ scNames.nd rfl (Or.inl rfl) rfl (@kQ _ _ _ _ _ _ rfl mr (@ja _ _ _ _ _ (@pv _ 3 _ _ (by rfl) (by first |exact Or.inl rfl |exact Or.inr (Or.inl rfl) |exact Or.inr (Or.inr rfl)) (by decide) (by decide)) (@jb _) (by rfl)) (by rfl)) Xf (fun _ _ _ _ _=>(@jx _ _ (0) _ Xe rfl (Or.inl rfl) (by first |exact .inl rfl |exact .inr rfl))) (fun _ _ _ _ _=>(@zw _)) (fun _ _ _ _ _=>(@jm _ _ _ _ _ _ _ JU (@pv _ 2 _ _ (by rfl) (by first |exact Or.inl rfl |exact Or.inr (Or.inl rfl) |exact Or.inr (Or.inr rfl)) (by decide) (by decide)) (@jh _ _ _ _ _ _ _ _ _ _ _ _ _ _ _ _ GT hr rfl mT kT bT .nil pass0 (@ja _ _ _ _ _ (@pv _ 1 _ _ (by rfl) (by first |exact Or.inl rfl |exact Or.inr (Or.inl rfl) |exact Or.inr (Or.inr rfl)) (by decide) (by decide)) (@ja _ _ _ _ _ (@jc _ _ _ _) (@jb _) (by rfl)) (by rfl)) (by decide) (by rfl) (by rfl)) (fun _ _=>rfl))) (by rfl) (by first |exact .inl rfl |exact .inr rfl) (by intro _;rfl)) (@jd _ _ _ _ _ (@jo _ _ (6) _ _ _ _ scNames.nd rfl (Or.inl rfl) (@jh _ _ _ _ _ _ _ _ _ _ _ _ _ _ _ _ GT hr rfl mT kT bT .nil pass0 (@ja _ _ _ _ _ (@pv _ 0 _ _ (by rfl) (.inr (.inl rfl)) (by decide) (by decide)) (@ja _ _ _ _ _ (@jc _ _ _ _) (@jb _) (by rfl)) (by rfl)) (by decide) (by rfl) (by rfl)) (by rfl) (.inl rfl)) (@jd _ _ _ _ _ (@jo _ _ (7) _ _ _ _ scNames.nd rfl (Or.inl rfl) (@jh _ _ _ _ _ _ _ _ _ _ _ _ _ _ _ _ GT hr rfl mT kT bT .nil pass0 (@ja _ _ _ _ _ (@pv _ 0 _ _ (by rfl) (.inr (.inl rfl)) (by decide) (by decide)) (@ja _ _ _ _ _ (@jc _ _ _ _) (@jb _) (by rfl)) (by rfl)) (by decide) (by rfl) (by rfl)) (by rfl) (.inl rfl)) (@jd _ _ _ _ _ (@jo _ _ (8) _ _ _ _ scNames.nd rfl (Or.inl rfl) (@jH _ _ _ _ (@jb _)) (by rfl) (.inl rfl)) (@jd _ _ _ _ _ (@zJ _ _ _ _ _ _ _ _ PassesOwn.never rfl (@kQ _ _ _ _ _ _ rfl mr (@ja _ _ _ _ _ (@pv _ 1 _ _ (by rfl) (.inl rfl) (by decide) (by decide)) (@jb _) (by rfl)) (by rfl)) (@jx _ _ (9) _ scNames.nd rfl (Or.inl rfl) (.inl rfl)) (@jd _ _ _ _ _ (@jo _ _ (10) _ _ _ _ scNames.nd rfl (Or.inl rfl) (@jm _ _ _ _ _ _ _ JU (@pv _ 2 _ _ (by rfl) (.inr (.inl rfl)) (by decide) (by decide)) (@jw _ _ _ _ _ _ _ _ kH (@jw _ _ _ _ _ _ _ _ jO (@pv _ 6 _ _ (by rfl) (.inl rfl) (by decide) (by decide)) (@jw _ _ _ _ _ _ _ _ kG (@jc _ _ _ _) (@pv _ 9 _ _ (by rfl) (.inl rfl) (by decide) (by decide)))) (@jc _ _ _ _)) (fun _ _=>rfl)) (by rfl) (.inl rfl)) (@jd _ _ _ _ _ (@jW _ _ _ (@jo _ _ (11) _ _ _ _ scNames.nd rfl (Or.inl rfl) (@jw _ _ _ _ _ _ _ _ zh (@jw _ _ _ _ _ _ _ _ zh (@ze _ _ _ _ _ _ _ _ _ _ _ _ PySem.F.plainAttrs_str PySem.F.slot_str_join PySem.F.type_str_join K8 (@ji _ _ _ _) (@ja _ _ _ _ _ (@jR _ _ _ _ _ _ _ _ _ _ kt (@pv _ 5 _ _ (by rfl) (.inl rfl) (by decide) (by decide)) (@zb _) (@jN _ _ _ (@pv _ 4 _ _ (by rfl) (.inl rfl) (by decide) (by decide)))) (@jb _) (by rfl)) (by rfl) (by rfl) (by rfl) (by rfl) (by rfl)) (@pv _ 10 _ _ (by rfl) (.inl rfl) (by decide) (by decide))) (@ze _ _ _ _ _ _ _ _ _ _ _ _ PySem.F.plainAttrs_str PySem.F.slot_str_join PySem.F.type_str_join K8 (@ji _ _ _ _) (@ja _ _ _ _ _ (@jR _ _ _ _ _ _ _ _ _ _ kt (@pv _ 5 _ _ (by rfl) (.inl rfl) (by decide) (by decide)) (@jN _ _ _ (@jw _ _ _ _ _ _ _ _ jO (@pv _ 4 _ _ (by rfl) (.inl rfl) (by decide) (by decide)) (@jc _ _ _ _))) (@zb _)) (@jb _) (by rfl)) (by rfl) (by rfl) (by rfl) (by rfl) (by rfl))) (by rfl) (.inl rfl))) (@jd _ _ _ _ _ (@jW _ _ _ (@jy _ _ _ _ _ _ _ _ (@PW.pt _ _ _ (@Jd _ _ _ _ _ _ _ (@jp _ _ _ _ _ _ _ _ jD (@pv _ 7 _ _ (by rfl) (.inl rfl) (by decide) (by decide)) (@jc _ _ _ _) (nomark _)) (@qg _ _ _ _ (@jp _ _ _ _ _ _ _ _ jD (@jw _ _ _ _ _ _ _ _ kH (@pv _ 9 _ _ (by rfl) (.inl rfl) (by decide) (by decide)) (@jc _ _ _ _)) (@jc _ _ _ _) (nomark _))))) (@jj _ _ _ (@jo _ _ (11) _ _ _ _ scNames.nd rfl (Or.inl rfl) (@jw _ _ _ _ _ _ _ _ zh (@pv _ 11 _ _ (by rfl) (.inl rfl) (by decide) (by decide)) (@ji _ _ _ _)) (by rfl) (.inl rfl))) (@jq _))) (@jd _ _ _ _ _ (@jW _ _ _ (@jy _ _ _ _ _ _ _ _ (@jp _ _ _ _ _ _ _ _ jD (@pv _ 7 _ _ (by rfl) (.inl rfl) (by decide) (by decide)) (@jc _ _ _ _) (nomark _)) (@jj _ _ _ (@jo _ _ (11) _ _ _ _ scNames.nd rfl (Or.inl rfl) (@jw _ _ _ _ _ _ _ _ zh (@ze _ _ _ _ _ _ _ _ _ _ _ _ PySem.F.plainAttrs_str PySem.F.slot_str_join PySem.F.type_str_join K8 (@ji _ _ _ _) (@ja _ _ _ _ _ (@zc _ _ _ _ _ _ _ (["_law_j","_law_box_here","_law_letters"]) (1) ([0,2]) _ _ _ _ rfl (@kQ _ _ _ _ _ _ rfl mr (@ja _ _ _ _ _ (@jh _ _ _ _ _ _ _ _ _ _ _ _ _ _ _ _ GT hr rfl mT kT bT .nil pass0 (@ja _ _ _ _ _ (@pv _ 0 _ _ (by rfl) (by first |exact Or.inl rfl |exact Or.inr (Or.inl rfl) |exact Or.inr (Or.inr rfl)) (by decide) (by decide)) (@ja _ _ _ _ _ (@jc _ _ _ _) (@jb _) (by rfl)) (by rfl)) (by decide) (by rfl) (by rfl)) (@jb _) (by rfl)) (by rfl)) Xh (fun _ _ _ _ _=>(@jx _ _ (0) _ Xg rfl (Or.inl rfl) (by first |exact .inl rfl |exact .inr rfl))) (fun _ _ _ _ _=>(@zw _)) (fun _ _ _ _ _=>(@jm _ _ _ _ _ _ _ JU (@pv _ 2 _ _ (by rfl) (by first |exact Or.inl rfl |exact Or.inr (Or.inl rfl) |exact Or.inr (Or.inr rfl)) (by decide) (by decide)) (@jh _ _ _ _ _ _ _ _ _ _ _ _ _ _ _ _ GT hr rfl mT kT bT .nil pass0 (@ja _ _ _ _ _ (@pv _ 1 _ _ (by rfl) (by first |exact Or.inl rfl |exact Or.inr (Or.inl rfl) |exact Or.inr (Or.inr rfl)) (by decide) (by decide)) (@ja _ _ _ _ _ (@jc _ _ _ _) (@jb _) (by rfl)) (by rfl)) (by decide) (by rfl) (by rfl)) (fun _ _=>rfl))) (by intro _;rfl)) (@jb _) (by rfl)) (by rfl) (by rfl) (by rfl) (by rfl) (by rfl)) (@pv _ 10 _ _ (by rfl) (.inl rfl) (by decide) (by decide))) (by rfl) (.inl rfl))) (@jq _))) (@jd _ _ _ _ _ (@jW _ _ _ (@jy _ _ _ _ _ _ _ _ (@jp _ _ _ _ _ _ _ _ KI (@pv _ 11 _ _ (by rfl) (.inl rfl) (by decide) (by decide)) (@jk _ _ _ _ _ (@JE _ _ (by rfl))) rfl) (@jj _ _ _ (@jo _ _ (11) _ _ _ _ scNames.nd rfl (Or.inl rfl) (@jw _ _ _ _ _ _ _ _ zh (@ji _ _ _ _) (@pv _ 10 _ _ (by rfl) (.inl rfl) (by decide) (by decide))) (by rfl) (.inl rfl))) (@jq _))) (@jj _ _ _ (@jU _ _ _ _ (@ze _ _ _ _ _ _ _ _ _ _ _ _ PySem.F.plainAttrs_list PySem.F.slot_list_append PySem.F.type_list_append jT (@pv _ 8 _ _ (by rfl) (.inl rfl) (by decide) (by decide)) (@ja _ _ _ _ _ (@pv _ 11 _ _ (by rfl) (.inl rfl) (by decide) (by decide)) (@jb _) (by rfl)) (by rfl) (by rfl) (by rfl) (by rfl) (by rfl)) (by rfl)))))))) (by intro _;rfl)) (@jd _ _ _ _ _ (@jW _ _ _ (@jy _ _ _ _ _ _ _ _ (@jp _ _ _ _ _ _ _ _ jD (@jh _ _ _ _ _ _ _ _ _ _ _ _ _ _ _ _ GT hr rfl mT kT bT .nil pass0 (@ja _ _ _ _ _ (@pv _ 0 _ _ (by rfl) (.inr (.inl rfl)) (by decide) (by decide)) (@ja _ _ _ _ _ (@jc _ _ _ _) (@jb _) (by rfl)) (by rfl)) (by decide) (by rfl) (by rfl)) (@jc _ _ _ _) (nomark _)) (@jd _ _ _ _ _ (@jo _ _ (12) _ _ _ _ scNames.nd rfl (Or.inl rfl) (@jH _ _ _ _ (@JE _ _ (by rfl))) (by rfl) (.inl rfl)) (@jd _ _ _ _ _ (@jo _ _ (13) _ _ _ _ scNames.nd rfl (Or.inl rfl) (@jm _ _ _ _ _ _ _ jr (@pv _ 12 _ _ (by rfl) (.inl rfl) (by decide) (by decide)) (@jh _ _ _ _ _ _ _ _ _ _ _ _ _ _ _ _ GT hr rfl mT kT bT .nil pass0 (@ja _ _ _ _ _ (@pv _ 0 _ _ (by rfl) (.inr (.inl rfl)) (by decide) (by decide)) (@ja _ _ _ _ _ (@jc _ _ _ _) (@jb _) (by rfl)) (by rfl)) (by decide) (by rfl) (by rfl)) (fun _ _=>rfl)) (by rfl) (.inl rfl)) (@jj _ _ _ (@jy _ _ _ _ _ _ _ _ (@jp _ _ _ _ _ _ _ _ q8 (@pv _ 13 _ _ (by rfl) (.inl rfl) (by decide) (by decide)) (@pv _ 8 _ _ (by rfl) (.inl rfl) (by decide) (by decide)) rfl) (@jj _ _ _ (@kE _ _ _ _ _ _ (@pv _ 13 _ _ (by rfl) (.inl rfl) (by decide) (by decide)) (@qv _ _ _ _ _ _ _ (@pv _ 8 _ _ (by rfl) (.inl rfl) (by decide) (by decide)) (@jh _ _ _ _ _ _ _ _ _ _ _ _ _ _ _ _ GT hr rfl mT kT bT .nil pass0 (@ja _ _ _ _ _ (@pv _ 0 _ _ (by rfl) (.inr (.inl rfl)) (by decide) (by decide)) (@ja _ _ _ _ _ (@pv _ 1 _ _ (by rfl) (.inl rfl) (by decide) (by decide)) (@jb _) (by rfl)) (by rfl)) (by decide) (by rfl) (by rfl)) zB (by intro _;rfl)) (by rfl) (by rfl) (by rfl))) (@jq _))))) (@jq _))) (@jj _ _ _ (@jv _ _ _ _ (@pv _ 8 _ _ (by rfl) (.inl rfl) (by decide) (by decide))))))))))))),?_⟩
 try dsimp only[cxOf,Cx.nox,Cx.wish]
 refine⟨_,rfl,p,6,rfl,B,by decide,by decide,fun d1 H1 d10 d11 B1 e1=>⟨_,_,rfl,rfl,?_⟩⟩
 refine⟨_,rfl,_,rfl,p,_,rfl,B1,by omega,by omega,fun d2 H2 d20 d21 B2 e2=>?_⟩
 refine⟨_,rfl,_,rfl,by omega,by omega,?_⟩
 refine Ja (p:=p) (by omega) B2 fun ss H3 hss1 hss2 B3 e3 g hg=>?_
 have k3:But p H H3:=(But.of_eq e1).trans ((But.of_eq e2).trans (But.of_eq e3))
 have hgp:g≠p:=B3.ne hg
 refine⟨_,rfl,p,26,rfl,B3.upd_new hg,by decide,by decide,fun d4 H4 d40 d41 B4 e4=>?_⟩
 refine⟨_,rfl,p,3,rfl,B4,by decide,by decide,fun d5 H5 d50 d51 B5 e5=>?_⟩
 have hg5:H5 g=some (.lst (ss.map V.str)):=by rw[e5 g hgp,e4 g hgp];exact je
 have k5:But p H H5:=(k3.upd_new hg).trans ((But.of_eq e4).trans (But.of_eq e5))
 refine⟨(by decide),fun r hr5=>?_⟩
 have hrp:r≠p:=B5.ne hr5
 have hrg:g≠r:=jl hg5 hr5
 have nog:H g=none:=by
  cases z:H g with
  |none=>rfl
  |some o=>have:=k3 g o hgp z;rw[hg]at this;cases this
 have nor:H r=none:=by
  cases z:H r with
  |none=>rfl
  |some o=>have:=k5 r o hrp z;rw[hr5]at this;cases this
 have big:=Qu
 have jA:=qK (z:="") (ys:=cutS ss none (some d2)) (by decide+kernel) fun y hy=>hss2 y (zN hy)
 have jB:=qK (z:="") (ys:=cutS ss (some (d2+1)) none) (by decide+kernel) fun y hy=>hss2 y (zN hy)
 have jC:=cut_len (ss:=ss) d20 (by omega)
 have hAB:(toL (Txt.join "" (cutS ss none (some d2)))).length+(toL (Txt.join "" (cutS ss (some (d2+1)) none))).length<=5:=by rw[JF,JF];omega
 generalize hA:toL (Txt.join "" (cutS ss none (some d2)))=LA at hAB
 generalize hB:toL (Txt.join "" (cutS ss (some (d2+1)) none))=LB at hAB
 refine⟨_,rfl,_,rfl,by omega,by omega,Jj (lo:=0) (fun i σ H'=>∃(ok oo ow:Option V) (ys:List Str),
   σ=[some (.ref p),some (.int n),some (.str letters),some (.int (1+d1)),some (.int d2),some (.ref g),some (.int d4),some (.int d5),some (.ref r),ok,oo,ow,none,none]/\
   H' g=some (.lst (ss.map V.str))/\H' r=some (.lst (ys.map V.str))/\ys.length=i/\(∀y∈ys,y.length<=20)/\Wds d4 d5 LA LB ys/\BoxAt H' p/\But p H H')
  ⟨none,none,none,[],rfl,keepN hg5 hr5,je,rfl,(fun _ h=>nomatch h),(fun _ _ h=>nomatch h),B5.upd_new hr5,k5.upd_new hr5⟩ ?_ ?_⟩
 ·intro i σ H' hi hq'
  refine opq fun Gq kq=>?_
  obtain⟨ok,oo,ow,ys,rfl,hg',hr',hyl,hy,hw,B',k'⟩:=hq'
  refine kq ?_
  clear kq
  obtain⟨c,hc⟩:=Y6 (z:=letters) (k:=(d4+5*(0+(i:Int))) % 26) (Int.emod_nonneg _ (by decide)) (by rw[Jz];exact Int.emod_lt_of_pos _ (by decide))
  refine⟨_,rfl,_,rfl,_,rfl,_,_,rfl,rfl,.inl ⟨by decide,by decide⟩,_,_,rfl,rfl,_,_,rfl,rfl,(by show(0:Int) < 26;decide),_,_,c,rfl,rfl,by decide,hc,?_⟩
  have h1c:(⟨#[c]⟩:Str).length=1:=rfl
  refine⟨Rw p g r n d1 d2 d4 d5 i c ss ys H 13 (fun w=>toL w=LA++c::LB),?_,?_⟩
  ·refine⟨rfl,_,rfl,_,rfl,_,rfl,g,_,rfl,SqL.of hg',fun s1 n1=>?_⟩
   have z1:=qJ (ys:=cutS ss none (some d2)) fun y hy=>hss2 y (zN hy)
   have z2:=qd ss none (some d2)
   refine⟨_,s1,cutS ss none (some d2),rfl,rfl,SqL.of (by rw[je,zC]),by decide,by omega,?_⟩
   have j1:=qK (z:="") (ys:=cutS ss none (some d2)) (by decide+kernel) fun y hy=>hss2 y (zN hy)
   refine⟨_,rfl,_,_,rfl,rfl,by omega,?_⟩
   refine⟨rfl,_,rfl,_,rfl,_,_,rfl,rfl,_,rfl,g,_,rfl,SqL.of (keepN hg' n1),fun s2 n2=>?_⟩
   have z3:=qJ (ys:=cutS ss (some (d2+1)) none) fun y hy=>hss2 y (zN hy)
   have z4:=qd ss (some (d2+1)) none
   refine⟨_,s2,cutS ss (some (d2+1)) none,rfl,rfl,SqL.of (by rw[je,zC]),by decide,by omega,?_⟩
   have j2:=qK (z:="") (ys:=cutS ss (some (d2+1)) none) (by decide+kernel) fun y hy=>hss2 y (zN hy)
   refine⟨_,_,rfl,rfl,by rw[slen];omega,?_⟩
   exact⟨_,by rw[slen,slen];omega,by show toL _=_;rw[qh,qh,hA,hB,JG,List.append_assoc];rfl,rfl,keepN (keepN hg' n1) n2,keepN (keepN hr' n1) n2,(B'.upd_new n1).upd_new n2,(k'.upd_new n1).upd_new n2⟩
  intro _ H1 hq'
  refine opq fun Gq kq=>?_
  obtain⟨w1,hw1,pw1,rfl,g1,r1,B1,k1⟩:=hq'
  refine kq ?_
  clear kq
  refine⟨Rw p g r n d1 d2 d4 d5 i c ss ys H 14 (fun w=>∃t,toL w=LA++c::(LB++t)/\t.length<=1),?_,?_⟩
  ·refine⟨_,rfl,rfl,_,rfl,?_⟩
   refine ite2 (fun ca=>?_) (fun ca=>?_)
   ·refine⟨_,rfl,_,_,rfl,rfl,(by show(0:Int) < 2;decide),rfl,_,rfl,?_⟩
    refine ite2 (fun cb=>?_) (fun cb=>?_)
    ·have hz:(Str.ofString "z").length=1:=by decide+kernel
     refine⟨_,rfl,_,_,rfl,rfl,by rw[hz];omega,?_⟩
     exact⟨_,by rw[slen,hz];omega,⟨toL "z",by rw[qh,pw1,List.append_assoc];rfl,by rw[JF];exact Nat.le_of_eq hz⟩,rfl,g1,r1,B1,k1⟩
    ·exact⟨w1,by omega,⟨[],by rw[pw1,List.append_nil],by decide⟩,rfl,g1,r1,B1,k1⟩
   ·exact iteF ⟨w1,by omega,⟨[],by rw[pw1,List.append_nil],by decide⟩,rfl,g1,r1,B1,k1⟩
  intro _ H2 hq'
  refine opq fun Gq kq=>?_
  obtain⟨w2,hw2,pw2,rfl,g2,r2,B2,k2⟩:=hq'
  refine kq ?_
  clear kq
  refine⟨Rw p g r n d1 d2 d4 d5 i c ss ys H 14 (fun w=>(d5=2->∃pre,toL w=pre++[c])/\(d5≠2->∃t,toL w=LA++c::(LB++t)/\t.length<=1)),?_,?_⟩
  ·refine⟨_,rfl,rfl,_,rfl,?_⟩
   refine ite2 (fun ca=>?_) (fun ca=>?_)
   ·refine⟨rfl,_,rfl,p,8,rfl,B2,by decide,by decide,fun d6 H6 d60 d61 B6 e6=>?_⟩
    refine⟨_,rfl,by omega,by omega,?_⟩
    refine Ja (p:=p) (by omega) B6 fun tt H7 ht1 ht2 B7 e7 g7 n7=>?_
    have jt:=qK (z:="") (ys:=tt) (by decide+kernel) ht2
    have zt:=qJ ht2
    refine⟨_,g7,tt,rfl,rfl,SqL.of je,by decide,by omega,?_⟩
    refine⟨_,rfl,_,_,rfl,rfl,by omega,?_⟩
    have g8:H7 g=some (.lst (ss.map V.str)):=by rw[e7 g hgp,e6 g hgp];exact g2
    have r8:H7 r=some (.lst (ys.map V.str)):=by rw[e7 r hrp,e6 r hrp];exact r2
    have is2:d5=2:=by
     have z:=of_decide_eq_true ca
     injection z
    exact⟨_,by rw[slen];omega,⟨fun _=>⟨_,by rw[qh,JG]⟩,fun z=>absurd is2 z⟩,rfl,keepN g8 n7,keepN r8 n7,B7.upd_new n7,(k2.trans ((But.of_eq e6).trans (But.of_eq e7))).upd_new n7⟩
   ·have no2:d5≠2:=fun z=>ca (decide_eq_true (by rw[z]))
    exact⟨w2,by omega,⟨fun z=>absurd z no2,fun _=>pw2⟩,rfl,g2,r2,B2,k2⟩
  intro _ H3 hq'
  refine opq fun Gq kq=>?_
  obtain⟨w3,hw3,pw3,rfl,g3,r3,B3,k3⟩:=hq'
  refine kq ?_
  clear kq
  refine⟨Rw p g r n d1 d2 d4 d5 i c ss ys H 14 (Wd d5 LA LB c),?_,?_⟩
  ·refine⟨_,rfl,by decide,fun t0 n0=>?_⟩
   refine⟨t0,_,rfl,.inr (SqT.of je),rfl,Yd (by rfl),_,rfl,?_⟩
   refine ite2 (fun ca=>?_) (fun ca=>?_)
   ·have hq:(Str.ofString "qqqqqqq").length=7:=by decide+kernel
    refine⟨_,rfl,_,_,rfl,rfl,by rw[hq];omega,?_⟩
    exact⟨_,by rw[slen,hq];omega,⟨fun _=>⟨_,by rw[qh,JG]⟩,fun _=>.inr (by rw[qh,JG];rfl)⟩,rfl,keepN g3 n0,keepN r3 n0,B3.upd_new n0,k3.upd_new n0⟩
   ·exact⟨w3,by omega,⟨pw3.1,fun z=>.inl (pw3.2 z)⟩,rfl,keepN g3 n0,keepN r3 n0,B3.upd_new n0,k3.upd_new n0⟩
  intro _ H4 hq'
  refine opq fun Gq kq=>?_
  obtain⟨w4,hw4,pw4,rfl,g4,r4,B4,k4⟩:=hq'
  refine kq ?_
  clear kq
  refine⟨_,rfl,.inl ⟨rfl,_,SqL.of r4⟩,_,rfl,r,_,_,rfl,rfl,r4,by rw[List.length_map];omega,?_⟩
  refine⟨_,_,_,ys++[w4],rfl,by rw[jf hrg];exact g4,by rw[je,List.map_append];rfl,by rw[List.length_append,hyl];rfl,fun y hm=>?_,ZD hw (by rw[hyl];exact hc) pw4,B4.eq (jf (Ne.symm hrp)),k4.upd_own nor⟩
  rcases List.mem_append.mp hm with hm |hm
  ·exact hy y hm
  ·rw[List.mem_singleton.mp hm];omega
 ·intro σ H' hq'
  refine opq fun Gq kq=>?_
  obtain⟨ok,oo,ow,ys,rfl,hg',hr',hyl,hy,hw,B',k'⟩:=hq'
  refine kq ?_
  clear kq
  have ynd:NdP ys:=⟨wds_nd hAB (by omega) hw,wds_pos hw⟩
  have hyn:(ys.length:Int)=n:=by omega
  refine⟨Rf p r n H,?_,?_⟩
  ·refine⟨_,rfl,p,6,rfl,B',by decide,by decide,fun d6 H6 d60 d61 B6 e6=>⟨rfl,_,rfl,?_⟩⟩
   have r6:H6 r=some (.lst (ys.map V.str)):=by rw[e6 r hrp];exact hr'
   have k6:But p H H6:=k'.trans (But.of_eq e6)
   refine ite2 (fun ca=>?_) (fun ca=>?_)
   ·refine⟨by decide,fun t0 n0=>?_⟩
    have t0p:t0≠p:=B6.ne n0
    refine⟨_,rfl,_,rfl,p,13,rfl,B6.upd_new n0,by decide,by decide,fun d7 H7 d70 d71 B7 e7=>?_⟩
    have t7:H7 t0=some (.lst ((["num","var","op","go","ask","back","chain","sets","iff","ends","calls","reads","gives"]:List Str).map V.str)):=((e7 t0 t0p).trans je).trans (congrArg (fun l=>some (HO.lst l)) (by decide+kernel))
    have r7:H7 r=some (.lst (ys.map V.str)):=by rw[e7 r hrp];exact keepN r6 n0
    have k7:But p H H7:=(k6.upd_new n0).trans (But.of_eq e7)
    obtain⟨od,hod,hat⟩:=JW (ys:=(["num","var","op","go","ask","back","chain","sets","iff","ends","calls","reads","gives"]:List Str)) d70 (by simpa using d71)
    refine⟨t0,_,_,_,rfl,rfl,SqL.of t7,hat,?_⟩
    have hol2:1<=od.length:=by
     have:∀y∈(["num","var","op","go","ask","back","chain","sets","iff","ends","calls","reads","gives"]:List Str),1<=y.length:=by decide+kernel
     exact this od hod
    have hol:od.length<=20:=by
     have:∀y∈(["num","var","op","go","ask","back","chain","sets","iff","ends","calls","reads","gives"]:List Str),y.length<=20:=by decide+kernel
     exact this od hod
    refine⟨_,rfl,_,rfl,r,_,rfl,.inl (SqL.of r7),rfl,Yt _,_,rfl,?_⟩
    refine ite2 (fun cb=>?_) (fun cb=>?_)
    ·refine⟨_,rfl,_,rfl,_,rfl,_,rfl,p,n,rfl,B7,by omega,by omega,fun d8 H8 d80 d81 B8 e8=>?_⟩
     have r8:H8 r=some (.lst (ys.map V.str)):=by rw[e8 r hrp];exact r7
     have k8:But p H H8:=k7.trans (But.of_eq e8)
     refine⟨r,_,d8,d8.toNat,rfl,rfl,r8,?_,?_⟩
     ·unfold ixN
      rw[if_pos d80,List.length_map,if_pos (by omega)]
     refine⟨rfl,ys.set d8.toNat od,by rw[je,ZE],by rw[List.length_set];exact hyn,fun y hm=>?_,ndp_set ynd (not_inV (by simpa using cb)) hol2,B8.eq (jf (Ne.symm hrp)),k8.upd_own nor⟩
     rcases List.mem_or_eq_of_mem_set hm with hm |hm
     ·exact hy y hm
     ·rw[hm];exact hol
    ·exact⟨rfl,ys,r7,hyn,hy,ynd,B7,k7⟩
   ·exact⟨rfl,ys,r6,hyn,hy,ynd,B6,k6⟩
  intro σ' H1 hq'
  refine opq fun Gq kq=>?_
  obtain⟨hs8,ys1,r1,l1,y1,nd1,B1,k1⟩:=hq'
  refine kq ?_
  clear kq
  exact⟨_,hs8,q r ys1 H1 nor r1 l1 y1 nd1 B1 k1⟩
def TMono(H H':Hp):Prop:=∀b xs,H b=some (.tup xs)->H' b=some (.tup xs)
theorem Same.tm{H H':Hp}(a:Same H H'):TMono H H':=fun b xs h=>a b _ h
theorem jg{H:Hp}{p:Addr}{o:HO}(n:H p=none):Same H (upd H p o):=fun b u e=>keepN e n
theorem ifY{b:Bool}{A B:Prop}(h:b=true)(x:A):if b=true then A else B:=by rw[if_pos h];exact x
theorem ifX{b:Bool}{A B:Prop}(h:b=false)(x:B):if b=true then A else B:=by rw[h,if_neg Bool.false_ne_true];exact x
theorem line24:sizeLine=16777216:=by rw[sizeLine_eq]
theorem BoxAt.same{H H':Hp}{p:Addr}(B:BoxAt H p)(s:Same H H'):BoxAt H' p:=by
 refine opq fun Gq kq=>?_
 obtain⟨a,b,h1,h2,h3,h⟩:=B.ob
 refine kq ?_
 clear kq
 exact⟨a,b,h1,h2,h3,s _ _ h⟩
theorem But.of_same{p:Addr}{H H':Hp}(s:Same H H'):But p H H':=fun b o _ e=>s _ _ e
theorem But.tm{p:Addr}{H H':Hp}(k:But p H H')(B:BoxAt H p):TMono H H':=fun b xs e=>by
 refine opq fun Gq kq=>?_
 obtain⟨a,c,_,_,_,hp⟩:=B.ob
 refine kq ?_
 clear kq
 exact k b _ (jz e hp (by intro w;cases w)) e
theorem But.none{p r:Addr}{H H':Hp}(k:But p H H')(B:BoxAt H' p)(n:H' r=none):H r=none:=by
 cases z:H r with
 |none=>rfl
 |some o=>have:=k _ _ (B.ne n) z;rw[n]at this;cases this
theorem KS{K:Frag}{a:Addr}{xs:List V}{te:TE}{Qf:List V->Hp->Prop}{σt:L2.St}{H:Hp}(hz:xs.length<=sizeLine)(Pv:Nat->List V->Hp->Prop)(h0:Pv 0 [] H)
  (hk:∀i ys H',Pv i ys H'->SqL K H' a xs/\ys.length<=i) (hs:∀i x ys H',xs[i]?=some x->Pv i ys H'->te (some x::σt) H' fun y H2=>Pv (i+1) (ys++[y]) H2) (hd:∀ys H',Pv xs.length ys H'->Qf ys H'):
  CompR (Itl K a) 1 σt (gName 0) tAll te Qf H:=by
 refine⟨fun i m ys H'=>m=xs.length - i/\i<=xs.length/\Pv i ys H',⟨xs.length,by simp,Nat.zero_le _,h0⟩,?_⟩
 intro i m ys H' hq'
 refine opq fun Gq kq=>?_
 obtain⟨rfl,hi,p⟩:=hq'
 refine kq ?_
 clear kq
 obtain⟨hq,hy⟩:=hk i ys H' p
 by_cases hlt:i < xs.length
 ·refine .inr ⟨⟨xs,xs[i],hq,List.getElem?_eq_getElem hlt⟩,by omega,Pv (i+1),fun ys' H2 p'=>⟨xs.length - (i+1),by omega,rfl,hlt,p'⟩,fun v H2 ts hts y=>?_⟩
  obtain⟨e,y⟩:=y
  subst e
  obtain⟨w,rfl⟩:=len1 hts
  exact⟨⟨[some _],rfl,rfl⟩,hs i v ys H2 (y xs hq) p⟩
 ·have e:i=xs.length:=by omega
  subst e
  exact .inl ⟨⟨xs,hq,Nat.le_refl _⟩,hd ys H' p⟩
theorem zv{K:Frag}{a:Addr}{xs:List V}{te:TE}{Qf:List V->Hp->Prop}{σt:L2.St}{H:Hp}(hz:xs.length<=sizeLine)(Pv:Nat->List V->Hp->Prop)(h0:Pv 0 [] H)
  (hk:∀i ys H',Pv i ys H'->SqT K H' a xs/\ys.length<=i) (hs:∀i x ys H',xs[i]?=some x->Pv i ys H'->te (some x::σt) H' fun y H2=>Pv (i+1) (ys++[y]) H2) (hd:∀ys H',Pv xs.length ys H'->Qf ys H'):
  CompR (Itt K a) 1 σt (gName 0) tAll te Qf H:=by
 refine⟨fun i m ys H'=>m=xs.length - i/\i<=xs.length/\Pv i ys H',⟨xs.length,by simp,Nat.zero_le _,h0⟩,?_⟩
 intro i m ys H' hq'
 refine opq fun Gq kq=>?_
 obtain⟨rfl,hi,p⟩:=hq'
 refine kq ?_
 clear kq
 obtain⟨hq,hy⟩:=hk i ys H' p
 by_cases hlt:i < xs.length
 ·refine .inr ⟨⟨xs,xs[i],hq,List.getElem?_eq_getElem hlt⟩,by omega,Pv (i+1),fun ys' H2 p'=>⟨xs.length - (i+1),by omega,rfl,hlt,p'⟩,fun v H2 ts hts y=>?_⟩
  obtain⟨e,y⟩:=y
  subst e
  obtain⟨w,rfl⟩:=len1 hts
  exact⟨⟨[some _],rfl,rfl⟩,hs i v ys H2 (y xs hq) p⟩
 ·have e:i=xs.length:=by omega
  subst e
  exact .inl ⟨⟨xs,hq,Nat.le_refl _⟩,hd ys H' p⟩
noncomputable abbrev sNumber:Stmt:=top 27
def spNum:Sp:=fun vs H Q _=>∃p:Addr,vs=[.ref p]/\BoxAt H p/\∀(d:Int) (H':Hp),0<=d->d < 1000000000000000000->BoxAt H' p->(∀b,b≠p->H' b=H b)->Q (.int d) H'
theorem zZ{H:Hp}{p g:Addr}{ys:List Str}(B:BoxAt H p)(h:H g=some (.lst (ys.map V.str))):g≠p:=by
 refine opq fun Gq kq=>?_
 obtain⟨x,y,_,_,_,hp⟩:=B.ob
 refine kq ?_
 clear kq
 refine jz h hp fun z=>?_
 injection z with z
 match ys,z with
 |a::r,z=>injection z with z1 _;cases z1
theorem scNumber:FnScope ["_law_box_here"] ["_law_box_here"] (defScope sNumber):=fsc
theorem Yu{f:Addr}{fd:FuncData}(F:Fun K "_law_number" "_law_number" sNumber f fd)(GT:FnOk P w K mg base CX0 1 fT fdT ["_law_box_here","_law_wide"] spTake)(bT:Binds K fdT ["_law_box_here","_law_wide"] [])(kT:keepIn K (.ref fT)=true)(mT:mg "_law_take"=some (.ref fT)):FnOk P w K mg base CX0 2 f fd ["_law_box_here"] spNum:=by
 refine F.ok scNumber (fun vs H Q E h=>?_) (fun cdv A outer s H vs Q E hr h=>?_)
 ·obtain⟨p,rfl,_⟩:=h
  rfl
 refine opq fun Gq kq=>?_
 obtain⟨p,rfl,B,q⟩:=h
 refine kq ?_
 clear kq
 refine⟨_,(jd (jy (@jp _ _ _ _ _ _ _ _ jD (jh GT hr rfl mT kT bT .nil pass0 (ja (pv 0) (ja jc jb))) jc (nomark _)) (jj (jv (jh GT hr rfl mT kT bT .nil pass0 (ja (pv 0) (ja (jw Je jc jc) jb))))) jq) (jj (jv (jh GT hr rfl mT kT bT .nil pass0 (ja (pv 0) (ja jc jb)))))),?_⟩
 try dsimp only[cxOf,Cx.nox,Cx.wish]
 refine⟨_,rfl,p,4,rfl,B,by decide,by decide,fun d1 H1 d10 d11 B1 e1=>⟨rfl,_,rfl,?_⟩⟩
 refine ite2 (fun c=>?_) (fun c=>?_)
 ·refine⟨_,rfl,_,_,rfl,rfl,⟨by decide,by decide,by decide⟩,p,_,rfl,B1,by decide,by decide,fun d2 H2 d20 d21 B2 e2=>?_⟩
  have z:=ten18
  exact q d2 H2 d20 (by omega) B2 fun b n=>(e2 b n).trans (e1 b n)
 ·refine⟨_,rfl,p,9,rfl,B1,by decide,by decide,fun d2 H2 d20 d21 B2 e2=>?_⟩
  exact q d2 H2 d20 (by omega) B2 fun b n=>(e2 b n).trans (e1 b n)
noncomputable abbrev sTerm:Stmt:=top 29
inductive Tm where
 |num (n:Int) |var (x:Str) |op (i:Nat) (a b:Tm)
noncomputable def Tm.depth:Tm->Nat
 | .num _=>0
 | .var _=>0
 | .op _ a b=>max a.depth b.depth+1
noncomputable def sgns:Str:="+-*/<="
theorem ZG:sgns.length=6:=by decide+kernel
noncomputable def sgn(i:Nat):Str:=⟨#[sgns.cps.toList.getD i 0]⟩
theorem sgn_at{d:Int}(h0:0<=d)(h1:d < 6):atI sgns.cps.toList d=some (sgns.cps.toList.getD d.toNat 0):=by
 have hl:sgns.cps.toList.length=6:=by decide+kernel
 have hk:d.toNat < sgns.cps.toList.length:=by omega
 have ek:d=((d.toNat:Nat):Int):=by omega
 have q:atI sgns.cps.toList ((d.toNat:Nat):Int)=some (sgns.cps.toList.getD d.toNat 0):=j6 (by rw[List.getD_eq_getElem?_getD,List.getElem?_eq_getElem hk];rfl)
 rw[<- ek]at q
 exact q
def Tm.Good(ys:List Str):Tm->Prop
 | .num n=>0<=n/\n < 1000000000000000000
 | .var x=>x∈ys
 | .op i a b=>i < 6/\a.Good ys/\b.Good ys
def TmAt(H:Hp):Tm->Addr->Prop
 | .num n,p=>H p=some (.tup [.str "num",.int n])
 | .var x,p=>H p=some (.tup [.str "var",.str x])
 | .op i a b,p=>∃q r,H p=some (.tup [.str "op",.str (sgn i),.ref q,.ref r])/\TmAt H a q/\TmAt H b r
theorem TmAt.mono{H H':Hp}(h:∀b xs,H b=some (.tup xs)->H' b=some (.tup xs)):∀{t:Tm} {p:Addr},TmAt H t p->TmAt H' t p
 | .num _,_,e=>h _ _ e
 | .var _,_,e=>h _ _ e
 | .op _ _ _,_,⟨q,r,e,e1,e2⟩=>⟨q,r,h _ _ e,TmAt.mono h e1,TmAt.mono h e2⟩
theorem TmAt.same{H H':Hp}(h:Same H H'){t:Tm}{p:Addr}(e:TmAt H t p):TmAt H' t p:=e.mono fun b xs z=>h b _ z
theorem TmAt.but{H H':Hp}{p:Addr}(B:BoxAt H p)(k:But p H H'){t:Tm}{a:Addr}(e:TmAt H t a):TmAt H' t a:=e.mono fun b xs z=>by
 obtain⟨x,y,_,_,_,hp⟩:=B.ob
 exact k b _ (jz z hp (by intro q;cases q)) z
theorem TmAt.new{H:Hp}{r:Addr}{o:HO}(n:H r=none){t:Tm}{a:Addr}(e:TmAt H t a):TmAt (upd H r o) t a:=e.mono fun b xs z=>keepN z n
def spTerm(n:Nat):Sp:=fun vs H Q _=>∃(p g:Addr) (d:Int) (ys:List Str),vs=[.ref p,.ref g,.int d]/\BoxAt H p/\H g=some (.lst (ys.map V.str))/\1<=ys.length/\ys.length<=20/\0<=d/\d < (n:Int)/\
 ∀(r:Addr) (T:Tm) (H':Hp),TmAt H' T r->(T.depth:Int)<=d->T.Good ys->BoxAt H' p->But p H H'->Q (.ref r) H'
theorem scTerm:FnScope ["_law_box_here","_law_names_here","_law_deep","_law_kind","_law_one"] ["_law_box_here","_law_names_here","_law_deep"] (defScope sTerm):=fsc
theorem ok_term{f:Addr}{fd:FuncData}(F:Fun K "_law_term" "_law_term" sTerm f fd){n:Nat}(G:FnOk P w K mg base CX0 (n+2) f fd ["_law_box_here","_law_names_here","_law_deep"] (spTerm n))(bF:Binds K fd ["_law_box_here","_law_names_here","_law_deep"] [])(kF:keepIn K (.ref f)=true)(mF:mg "_law_term"=some (.ref f))(GT:FnOk P w K mg base CX0 1 fT fdT ["_law_box_here","_law_wide"] spTake)(bT:Binds K fdT ["_law_box_here","_law_wide"] [])(kT:keepIn K (.ref fT)=true)(mT:mg "_law_take"=some (.ref fT))(GN:FnOk P w K mg base CX0 2 fN fdN ["_law_box_here"] spNum)(bN:Binds K fdN ["_law_box_here"] [])(kN:keepIn K (.ref fN)=true)(mN:mg "_law_number"=some (.ref fN))(ml:mg "len"=none):FnOk P w K mg base CX0 (n+3) f fd ["_law_box_here","_law_names_here","_law_deep"] (spTerm (n+1)):=by
 refine F.ok scTerm (fun vs H Q E h=>?_) (fun cdv A outer s H vs Q E hr h=>?_)
 ·obtain⟨p,g,d,ys,rfl,_⟩:=h
  rfl
 obtain⟨p,g,d,ys,rfl,B,hg,hy1,hy2,hd0,hd1,q⟩:=h
 refine⟨_,(jd (jo (i:=3) scTerm.nd rfl (Or.inl rfl) (jh GT hr.m rfl mT kT bT .nil pass0 (ja (pv 0) (ja jc jb)))) (jd (jW (jy (@PW.pt _ _ _ (@Jp _ _ _ _ _ _ _ (@jp _ _ _ _ _ _ _ _ JK (pv 3) jc (nomark _)) (@qu _ _ _ _ (@PW.pt _ _ _ (@Jd _ _ _ _ _ _ _ (@jp _ _ _ _ _ _ _ _ qC (pv 3) jc (nomark _)) (@qg _ _ _ _ (@jp _ _ _ _ _ _ _ _ jD (pv 2) jc (nomark _)))))))) (jj (jv (jk (ja ji (ja (jh GN hr.m rfl mN kN bN .nil pass0 (ja (pv 0) jb)) jb))))) jq)) (jd (jy (@jp _ _ _ _ _ _ _ _ JK (pv 3) jc (nomark _)) (jj (jv (jk (ja ji (ja (@jm _ _ _ _ _ _ _ jr (pv 1) (jh GT hr.m rfl mT kT bT .nil pass0 (ja (pv 0) (ja (@jG _ _ _ _ _ _ _ _ _ jJ rfl ml PySem.boot_len (ja (pv 1) jb) (by decide) (by decide) (by rfl) (by rfl)) jb))) (fun _ _=>rfl)) jb))))) jq) (jd (jo (i:=4) scTerm.nd rfl (Or.inl rfl) (jh G hr rfl mF kF bF .nil pass0 (ja (pv 0) (ja (pv 1) (ja (jw zf (pv 2) jc) jb))))) (jj (jv (jk (ja ji (ja (@jm _ _ _ _ _ _ _ JU ji (jh GT hr.m rfl mT kT bT .nil pass0 (ja (pv 0) (ja jc jb))) (fun _ _=>rfl)) (ja (pv 4) (ja (jh G hr rfl mF kF bF .nil pass0 (ja (pv 0) (ja (pv 1) (ja (jw zf (pv 2) jc) jb)))) jb))))))))))),?_⟩
 have big:=Qu
 have hgp:g≠p:=zZ B hg
 refine⟨_,rfl,p,6,rfl,B,by decide,by decide,fun kd H1 k0 k1 B1 e1=>?_⟩
 have hg1:H1 g=some (.lst (ys.map V.str)):=by rw[e1 g hgp];exact hg
 have K1:But p H H1:=But.of_eq e1
 have num:∀(d2:Int) (H2:Hp) (r:Addr),0<=d2->d2 < 1000000000000000000->BoxAt H2 p->(∀b,b≠p->H2 b=H1 b)->H2 r=none->Q (.ref r) (upd H2 r (.tup [.str "num",.int d2])):=fun d2 H2 r d0 d1 B2 e2 nr=>
  q r (.num d2) _ je (by show((0:Nat):Int)<=d;omega) ⟨d0,d1⟩ (B2.upd_new nr) ((K1.trans (But.of_eq e2)).upd_new nr)
 refine⟨fun σ' H'=>σ'=[some (.ref p),some (.ref g),some (.int d),some (.int kd),none]/\H'=H1/\(kd<=3∨d≠0),?_,?_⟩
 ·refine⟨_,rfl,_,_,rfl,rfl,_,rfl,?_⟩
  refine ite2 (fun c=>?_) (fun c=>?_)
  ·refine iteT ?_
   exact⟨_,rfl,p,rfl,B1,fun d2 H2 d0 d1 B2 e2=>⟨sz2,fun r nr=>num d2 H2 r d0 d1 B2 e2 nr⟩⟩
  refine⟨_,rfl,_,_,rfl,rfl,_,rfl,?_⟩
  refine ite2 (fun c2=>?_) (fun c2=>?_)
  ·refine⟨_,rfl,rfl,_,rfl,?_⟩
   refine ite2 (fun c3=>?_) (fun c3=>?_)
   ·exact⟨_,rfl,p,rfl,B1,fun d2 H2 d0 d1 B2 e2=>⟨sz2,fun r nr=>num d2 H2 r d0 d1 B2 e2 nr⟩⟩
   ·exact⟨rfl,rfl,.inr fun z=>c3 (by rw[z];rfl)⟩
  ·have c2':¬(3:Int) < kd:=of_decide_eq_false (Bool.eq_false_iff.mpr c2)
   exact iteF ⟨rfl,rfl,.inl (by omega)⟩
 rintro _ _ ⟨rfl,rfl,hk⟩
 refine⟨_,rfl,_,_,rfl,rfl,_,rfl,?_⟩
 refine ite2 (fun c=>?_) (fun c=>?_)
 ·-- a variable
  refine⟨_,rfl,_,rfl,_,rfl,g,_,rfl,.inl (SqL.of hg1),p,_,rfl,B1,by rw[List.length_map];omega,by rw[List.length_map];omega,fun d2 H2 d20 d21 B2 e2=>?_⟩
  rw[List.length_map]at d21
  obtain⟨y,hy,hat⟩:=JW (ys:=ys) d20 d21
  have hg2:H2 g=some (.lst (ys.map V.str)):=by rw[e2 g hgp];exact hg1
  refine⟨g,_,_,_,rfl,rfl,SqL.of hg2,hat,sz2,fun r nr=>?_⟩
  exact q r (.var y) _ je (by show((0:Nat):Int)<=d;omega) hy (B2.upd_new nr) ((K1.trans (But.of_eq e2)).upd_new nr)
 ·have c':¬kd < (4:Int):=of_decide_eq_false (Bool.eq_false_iff.mpr c)
  have hd:d≠0:=hk.resolve_left (by omega)
  refine⟨_,rfl,_,rfl,_,rfl,_,_,rfl,rfl,p,g,d - 1,ys,rfl,B1,hg1,hy1,hy2,by omega,by omega,fun r1 T1 H2 t1 dp1 gd1 B2 k2=>?_⟩
  have hg2:H2 g=some (.lst (ys.map V.str)):=k2 g _ hgp hg1
  refine⟨_,rfl,p,6,rfl,B2,by decide,by decide,fun s3 H3 s30 s31 B3 e3=>?_⟩
  have hg3:H3 g=some (.lst (ys.map V.str)):=by rw[e3 g hgp];exact hg2
  have k3:But p H2 H3:=But.of_eq e3
  refine⟨sgns,_,_,rfl,rfl,(by rw[ZG];omega),sgn_at s30 s31,?_⟩
  refine⟨_,rfl,_,rfl,_,rfl,_,rfl,_,_,rfl,rfl,p,g,d - 1,ys,rfl,B3,hg3,hy1,hy2,by omega,by omega,fun r2 T2 H4 t2 dp2 gd2 B4 k4=>?_⟩
  refine⟨sz4,fun r nr=>?_⟩
  have t1':TmAt H4 T1 r1:=(t1.but B2 k3).but B3 k4
  refine q r (.op s3.toNat T1 T2) _ ⟨r1,r2,je,t1'.new nr,t2.new nr⟩ ?_ ⟨by omega,gd1,gd2⟩ (B4.upd_new nr) (((K1.trans k2).trans (k3.trans k4)).upd_new nr)
  show((max T1.depth T2.depth+1:Nat):Int)<=d
  omega
theorem no_term{f:Addr}{fd:FuncData}:FnOk P w K mg base CX0 2 f fd ["_law_box_here","_law_names_here","_law_deep"] (spTerm 0):=by
 have no:∀vs H Q E,¬spTerm 0 vs H Q E:=fun vs H Q E h=>by
  obtain⟨p,g,d,ys,_,_,_,_,_,h0,h1,_⟩:=h
  have h1':d < ((0:Nat):Int):=h1
  omega
 exact⟨fun vs H Q E h=>absurd h (no vs H Q E),fun A outer s H args us vs Q E _ _ _ _ h=>absurd h (no vs H Q E)⟩
theorem terms{f fT fN:Addr}{fd fdT fdN:FuncData}(F:Fun K "_law_term" "_law_term" sTerm f fd)(bF:Binds K fd ["_law_box_here","_law_names_here","_law_deep"] [])(mF:mg "_law_term"=some (.ref f))(GT:FnOk P w K mg base CX0 1 fT fdT ["_law_box_here","_law_wide"] spTake)(bT:Binds K fdT ["_law_box_here","_law_wide"] [])(kT:keepIn K (.ref fT)=true)(mT:mg "_law_take"=some (.ref fT))(GN:FnOk P w K mg base CX0 2 fN fdN ["_law_box_here"] spNum)(bN:Binds K fdN ["_law_box_here"] [])(kN:keepIn K (.ref fN)=true)(mN:mg "_law_number"=some (.ref fN))(ml:mg "len"=none):
  ∀n:Nat,FnOk P w K mg base CX0 (n+2) f fd ["_law_box_here","_law_names_here","_law_deep"] (spTerm n)
 |0=>no_term
 |n+1=>ok_term F (terms F bF mF GT bT kT mT GN bN kN mN ml n) bF F.kp mF GT bT kT mT GN bN kN mN ml
noncomputable abbrev sJoined:Stmt:=top 2
noncomputable abbrev sWorth:Stmt:=top 3
abbrev Tab:=List (Key×V)
def InT(x:Int):Prop:=0<=x/\x < 1000000000000000000
def GT(kvs:Tab):Prop:=∀p∈kvs,∃i,p.2= .int i/\InT i
theorem GT.nil:GT []:=fun _ h=>absurd h List.not_mem_nil
theorem GT.put{kvs:Tab}(h:GT kvs)(k:Key){i:Int}(hi:InT i):GT (putK kvs k (.int i)):=by
 intro p hp
 unfold putK at hp
 split at hp
 ·obtain⟨q,hq,rfl⟩:=List.mem_map.mp hp
  by_cases e:q.1=k
  ·rw[if_pos e];exact⟨i,rfl,hi⟩
  ·rw[if_neg e];exact h q hq
 ·rcases List.mem_append.mp hp with hp |hp
  ·exact h p hp
  ·rw[List.mem_singleton.mp hp];exact⟨i,rfl,hi⟩
theorem GT.val{kvs:Tab}(h:GT kvs){k:Key}{v:V}(e:valV kvs k=some v):∃i,v= .int i/\InT i:=by
 unfold valV at e
 obtain⟨p,hp,rfl⟩:=Option.map_eq_some_iff.mp e
 exact h p (List.mem_of_find?_eq_some hp)
noncomputable def look(kvs:Tab)(k:Key)(z:Int):Int:=match valV kvs k with
 |some (.int i)=>i
 |_=>z
theorem qY{kvs:Tab}(h:GT kvs)(k:Key)(z:Int):(valV kvs k).getD (.int z)= .int (look kvs k z):=by
 unfold look
 cases e:valV kvs k with
 |none=>rfl
 |some v=>obtain⟨i,rfl,_⟩:=h.val e;rfl
theorem Yv{kvs:Tab}(h:GT kvs){k:Key}{v:V}(e:valV kvs k=some v)(z:Int):v= .int (look kvs k z):=by
 unfold look
 obtain⟨i,rfl,_⟩:=h.val e
 rw[e]
theorem Yw{kvs:Tab}{k:Key}(e:valV kvs k=none)(z:Int):look kvs k z=z:=by
 unfold look
 rw[e]
theorem JH{kvs:Tab}(h:GT kvs){k:Key}{z:Int}(hz:InT z):InT (look kvs k z):=by
 unfold look
 cases e:valV kvs k with
 |none=>exact hz
 |some v=>obtain⟨i,rfl,hi⟩:=h.val e;exact hi
theorem qM:InT 0:=⟨by decide,by decide⟩
noncomputable def jn(i:Nat)(x y:Int):Int:=match i with
 |0=>(x+y) % 1000000000000000000
 |1=>(x - y) % 1000000000000000000
 |2=>x*y % 1000000000000000000
 |3=>if y=0 then 0 else x / y
 |4=>if x < y then 1 else 0
 |_=>if x=y then 1 else 0
noncomputable def Tm.ev(kvs:Tab):Tm->Int
 | .num n=>n
 | .var x=>look kvs (.inr x) 0
 | .op i a b=>jn i (a.ev kvs) (b.ev kvs)
theorem jn_in{i:Nat}{x y:Int}(hx:InT x)(hy:InT y):InT (jn i x y):=by
 have hT:(1000000000000000000:Int)≠0:=by decide
 have hP:(0:Int) < 1000000000000000000:=by decide
 match i with
 |0=>exact⟨Int.emod_nonneg _ hT,Int.emod_lt_of_pos _ hP⟩
 |1=>exact⟨Int.emod_nonneg _ hT,Int.emod_lt_of_pos _ hP⟩
 |2=>exact⟨Int.emod_nonneg _ hT,Int.emod_lt_of_pos _ hP⟩
 |3=>
  show InT (if y=0 then 0 else x / y)
  by_cases h:y=0
  ·rw[if_pos h];exact⟨by decide,by decide⟩
  ·rw[if_neg h]
   have h0:=hy.1
   have hy0:0 < y:=by omega
   refine⟨Int.ediv_nonneg hx.1 (by omega),Int.lt_of_le_of_lt ?_ hx.2⟩
   exact Int.ediv_le_self _ hx.1
 |4=>
  show InT (if x < y then 1 else 0)
  split<;>exact⟨by decide,by decide⟩
 |n+5=>
  show InT (if x=y then 1 else 0)
  split<;>exact⟨by decide,by decide⟩
theorem zD{kvs:Tab}(g:GT kvs){ys:List Str}:∀{t:Tm},t.Good ys->InT (t.ev kvs)
 | .num _,h=>h
 | .var x,_=>JH g qM
 | .op _ _ _,h=>jn_in (zD g h.2.1) (zD g h.2.2)
def spJoin:Sp:=fun vs H Q _=>∃(i:Nat) (x y:Int),vs=[.str (sgn i),.int x,.int y]/\i < 6/\InT x/\InT y/\Q (.int (jn i x y)) H
def spWorth(n:Nat):Sp:=fun vs H Q _=>∃(a d:Addr) (T:Tm) (ys:List Str) (kvs:Tab),vs=[.ref a,.ref d]/\TmAt H T a/\T.depth < n/\T.Good ys/\H d=some (.dK kvs)/\GT kvs/\Q (.int (T.ev kvs)) H
theorem scJoined:FnScope ["sign","left","right"] ["sign","left","right"] (defScope sJoined):=fsc
theorem Yx{f:Addr}{fd:FuncData}(F:Fun K "joined" "joined" sJoined f fd){tk:Tok}(mTop:mg "TOP"=some (.int 1000000000000000000 tk)):FnOk P w K mg base CX0 1 f fd ["sign","left","right"] spJoin:=by
 refine F.ok scJoined (fun vs H Q E h=>?_) (fun cdv A outer s H vs Q E hr h=>?_)
 ·obtain⟨i,x,y,rfl,_⟩:=h
  rfl
 obtain⟨i,x,y,rfl,hi,hx,hy,q⟩:=h
 refine⟨_,(jd (jy (@jp _ _ _ _ _ _ _ _ jD (pv 0) ji (nomark _)) (jj (jv (jw kH (jw jO (pv 1) (pv 2)) (@kr _ _ (.int 1000000000000000000) _ _ rfl mTop ⟨_,rfl⟩ (by decide))))) jq) (jd (jy (@jp _ _ _ _ _ _ _ _ jD (pv 0) ji (nomark _)) (jj (jv (jw kH (jw zf (pv 1) (pv 2)) (@kr _ _ (.int 1000000000000000000) _ _ rfl mTop ⟨_,rfl⟩ (by decide))))) jq) (jd (jy (@jp _ _ _ _ _ _ _ _ jD (pv 0) ji (nomark _)) (jj (jv (jw kH (jw kG (pv 1) (pv 2)) (@kr _ _ (.int 1000000000000000000) _ _ rfl mTop ⟨_,rfl⟩ (by decide))))) jq) (jd (jy (@jp _ _ _ _ _ _ _ _ jD (pv 0) ji (nomark _)) (jj (jv (@z0 _ _ _ _ _ _ _ _ (@jp _ _ _ _ _ _ _ _ jD (pv 2) jc (nomark _)) jc (jw qU (pv 1) (pv 2))))) jq) (jd (jy (@jp _ _ _ _ _ _ _ _ jD (pv 0) ji (nomark _)) (jj (jv (@z0 _ _ _ _ _ _ _ _ (@jp _ _ _ _ _ _ _ _ JK (pv 1) (pv 2) (nomark _)) jc jc))) jq) (jj (jv (@z0 _ _ _ _ _ _ _ _ (@jp _ _ _ _ _ _ _ _ jD (pv 1) (pv 2) (nomark _)) jc jc)))))))),?_⟩
 obtain⟨hx0,hx1⟩:=hx
 obtain⟨hy0,hy1⟩:=hy
 rcases(by omega:i=0∨i=1∨i=2∨i=3∨i=4∨i=5) with rfl |rfl |rfl |rfl |rfl |rfl
 ·refine⟨_,rfl,rfl,_,rfl,ifY (by decide+kernel) ?_⟩
  exact⟨_,rfl,_,rfl,_,_,rfl,rfl,_,_,rfl,rfl,(by show(0:Int) < 1000000000000000000;decide),q⟩
 ·refine⟨_,rfl,rfl,_,rfl,ifX (by decide+kernel) ?_⟩
  refine⟨_,rfl,rfl,_,rfl,ifY (by decide+kernel) ?_⟩
  exact⟨_,rfl,_,rfl,_,_,rfl,rfl,_,_,rfl,rfl,(by show(0:Int) < 1000000000000000000;decide),q⟩
 ·refine⟨_,rfl,rfl,_,rfl,ifX (by decide+kernel) ?_⟩
  refine⟨_,rfl,rfl,_,rfl,ifX (by decide+kernel) ?_⟩
  refine⟨_,rfl,rfl,_,rfl,ifY (by decide+kernel) ?_⟩
  exact⟨_,rfl,_,rfl,_,_,rfl,rfl,.inl ⟨by omega,by omega⟩,_,_,rfl,rfl,(by show(0:Int) < 1000000000000000000;decide),q⟩
 ·refine⟨_,rfl,rfl,_,rfl,ifX (by decide+kernel) ?_⟩
  refine⟨_,rfl,rfl,_,rfl,ifX (by decide+kernel) ?_⟩
  refine⟨_,rfl,rfl,_,rfl,ifX (by decide+kernel) ?_⟩
  refine⟨_,rfl,rfl,_,rfl,ifY (by decide+kernel) ?_⟩
  have q':Q (.int (if y=0 then 0 else x / y)) H:=q
  refine⟨_,rfl,rfl,_,rfl,?_⟩
  refine ite2 (fun c=>?_) (fun c=>?_)
  ·have c':V.int y=V.int 0:=of_decide_eq_true c
   injection c' with c'
   rw[if_pos c']at q'
   exact q'
  ·have c':y≠0:=fun z=>c (by rw[z];rfl)
   rw[if_neg c']at q'
   exact⟨_,rfl,_,rfl,_,_,rfl,rfl,⟨by omega,by omega⟩,q'⟩
 ·refine⟨_,rfl,rfl,_,rfl,ifX (by decide+kernel) ?_⟩
  refine⟨_,rfl,rfl,_,rfl,ifX (by decide+kernel) ?_⟩
  refine⟨_,rfl,rfl,_,rfl,ifX (by decide+kernel) ?_⟩
  refine⟨_,rfl,rfl,_,rfl,ifX (by decide+kernel) ?_⟩
  refine⟨_,rfl,rfl,_,rfl,ifY (by decide+kernel) ?_⟩
  have q':Q (.int (if x < y then 1 else 0)) H:=q
  refine⟨_,rfl,_,rfl,_,_,rfl,rfl,_,rfl,?_⟩
  refine ite2 (fun c=>?_) (fun c=>?_)
  ·rw[if_pos (of_decide_eq_true c)]at q'
   exact q'
  ·rw[if_neg (of_decide_eq_false (Bool.eq_false_iff.mpr c))]at q'
   exact q'
 ·refine⟨_,rfl,rfl,_,rfl,ifX (by decide+kernel) ?_⟩
  refine⟨_,rfl,rfl,_,rfl,ifX (by decide+kernel) ?_⟩
  refine⟨_,rfl,rfl,_,rfl,ifX (by decide+kernel) ?_⟩
  refine⟨_,rfl,rfl,_,rfl,ifX (by decide+kernel) ?_⟩
  refine⟨_,rfl,rfl,_,rfl,ifX (by decide+kernel) ?_⟩
  have q':Q (.int (if x=y then 1 else 0)) H:=q
  refine⟨_,rfl,_,rfl,rfl,_,rfl,?_⟩
  refine ite2 (fun c=>?_) (fun c=>?_)
  ·have c':V.int x=V.int y:=of_decide_eq_true c
   injection c' with c'
   rw[if_pos c']at q'
   exact q'
  ·have c':x≠y:=fun z=>c (by rw[z];exact decide_eq_true rfl)
   rw[if_neg c']at q'
   exact q'
theorem scWorth:FnScope ["term","held"] ["term","held"] (defScope sWorth):=fsc
theorem ZH{f:Addr}{fd:FuncData}(F:Fun K "worth" "worth" sWorth f fd){n:Nat}(G:FnOk P w K mg base CX0 (n+1) f fd ["term","held"] (spWorth n))(bF:Binds K fd ["term","held"] [])(kF:keepIn K (.ref f)=true)(mF:mg "worth"=some (.ref f))(GJ:FnOk P w K mg base CX0 1 fJ fdJ ["sign","left","right"] spJoin)(bJ:Binds K fdJ ["sign","left","right"] [])(kJ:keepIn K (.ref fJ)=true)(mJ:mg "joined"=some (.ref fJ)):FnOk P w K mg base CX0 (n+2) f fd ["term","held"] (spWorth (n+1)):=by
 refine F.ok scWorth (fun vs H Q E h=>?_) (fun cdv A outer s H vs Q E hr h=>?_)
 ·obtain⟨a,d,T,ys,kvs,rfl,_⟩:=h
  rfl
 obtain⟨a,d,T,ys,kvs,rfl,ta,dp,gd,hd,gk,q⟩:=h
 refine⟨_,(jd (jy (@jp _ _ _ _ _ _ _ _ jD (@jm _ _ _ _ _ _ _ ju (pv 0) jc (fun _ _=>rfl)) ji (nomark _)) (jj (jv (@jm _ _ _ _ _ _ _ ju (pv 0) jc (fun _ _=>rfl)))) jq) (jd (jy (@jp _ _ _ _ _ _ _ _ jD (@jm _ _ _ _ _ _ _ ju (pv 0) jc (fun _ _=>rfl)) ji (nomark _)) (jj (jv (@qW _ _ _ _ _ _ _ _ _ (jM hr) (pv 1) (@jm _ _ _ _ _ _ _ ju (pv 0) jc (fun _ _=>rfl)) jc ⟨by rfl,by rfl,by rfl,by rfl⟩))) jq) (jj (jv (jh GJ hr.m rfl mJ kJ bJ .nil pass0 (ja (@jm _ _ _ _ _ _ _ ju (pv 0) jc (fun _ _=>rfl)) (ja (jh G hr rfl mF kF bF .nil pass0 (ja (@jm _ _ _ _ _ _ _ ju (pv 0) jc (fun _ _=>rfl)) (ja (pv 1) jb))) (ja (jh G hr rfl mF kF bF .nil pass0 (ja (@jm _ _ _ _ _ _ _ ju (pv 0) jc (fun _ _=>rfl)) (ja (pv 1) jb))) jb)))))))),?_⟩
 cases T with
 |num m=>
  have ha:H a=some (.tup [.str "num",.int m]):=ta
  refine⟨_,rfl,a,_,_,_,rfl,rfl,SqT.of ha,rfl,rfl,_,rfl,ifY (by decide+kernel) ?_⟩
  exact⟨_,rfl,a,_,_,_,rfl,rfl,SqT.of ha,rfl,q⟩
 |var x=>
  have ha:H a=some (.tup [.str "var",.str x]):=ta
  refine⟨_,rfl,a,_,_,_,rfl,rfl,SqT.of ha,rfl,rfl,_,rfl,ifX (by decide+kernel) ?_⟩
  refine⟨_,rfl,a,_,_,_,rfl,rfl,SqT.of ha,rfl,rfl,_,rfl,ifY (by decide+kernel) ?_⟩
  refine⟨_,rfl,d,rfl,.inl ⟨kvs,.inl hd⟩,_,rfl,a,_,_,_,rfl,rfl,SqT.of ha,rfl,_,DGet.k (k:=Sum.inr x) hd,?_⟩
  rw[qY gk]
  exact q
 |op i t1 t2=>
  obtain⟨p1,p2,ha,h1,h2⟩:=ta
  have dp':max t1.depth t2.depth+1 < n+1:=dp
  refine⟨_,rfl,a,_,_,_,rfl,rfl,SqT.of ha,rfl,rfl,_,rfl,ifX (by decide+kernel) ?_⟩
  refine⟨_,rfl,a,_,_,_,rfl,rfl,SqT.of ha,rfl,rfl,_,rfl,ifX (by decide+kernel) ?_⟩
  refine⟨_,rfl,a,_,_,_,rfl,rfl,SqT.of ha,rfl,?_⟩
  refine⟨_,rfl,a,_,_,_,rfl,rfl,SqT.of ha,rfl,_,rfl,p1,d,t1,ys,kvs,rfl,h1,by omega,gd.2.1,hd,gk,?_⟩
  refine⟨_,rfl,a,_,_,_,rfl,rfl,SqT.of ha,rfl,_,rfl,p2,d,t2,ys,kvs,rfl,h2,by omega,gd.2.2,hd,gk,?_⟩
  exact⟨i,_,_,rfl,gd.1,zD gk gd.2.1,zD gk gd.2.2,q⟩
theorem ZI{f:Addr}{fd:FuncData}:FnOk P w K mg base CX0 1 f fd ["term","held"] (spWorth 0):=by
 have no:∀vs H Q E,¬spWorth 0 vs H Q E:=fun vs H Q E h=>by
  obtain⟨a,d,T,ys,kvs,_,_,h1,_⟩:=h
  exact absurd h1 (Nat.not_lt_zero _)
 exact⟨fun vs H Q E h=>absurd h (no vs H Q E),fun A outer s H args us vs Q E _ _ _ _ h=>absurd h (no vs H Q E)⟩
theorem worths{f fJ:Addr}{fd fdJ:FuncData}(F:Fun K "worth" "worth" sWorth f fd)(bF:Binds K fd ["term","held"] [])(mF:mg "worth"=some (.ref f))(GJ:FnOk P w K mg base CX0 1 fJ fdJ ["sign","left","right"] spJoin)(bJ:Binds K fdJ ["sign","left","right"] [])(kJ:keepIn K (.ref fJ)=true)(mJ:mg "joined"=some (.ref fJ)):
  ∀n:Nat,FnOk P w K mg base CX0 (n+1) f fd ["term","held"] (spWorth n)
 |0=>ZI
 |n+1=>ZH F (worths F bF mF GJ bJ kJ mJ n) bF F.kp mF GJ bJ kJ mJ
def TOk(T:Tm):Prop:=T.depth < 8/\∃ys,T.Good ys
inductive Lf where
 |set (x:Str) (T:Tm)
 |rd (x:Str) (T:Tm)
 |wr (T U:Tm)
 |cl (x f:Str) (ts:List Tm)
 |gv (T:Tm)
inductive Bd where
 |nil
 |lf (l:Lf) (r:Bd)
 |ite (T:Tm) (a b r:Bd)
 |loop (T:Tm) (a r:Bd)
noncomputable def Bd.app:Bd->Bd->Bd
 | .nil,s=>s
 | .lf l r,s=>.lf l (r.app s)
 | .ite T a b r,s=>.ite T a b (r.app s)
 | .loop T a r,s=>.loop T a (r.app s)
noncomputable def Bd.size:Bd->Nat
 | .nil=>0
 | .lf _ r=>r.size+1
 | .ite _ a b r=>a.size+b.size+r.size+1
 | .loop _ a r=>a.size+r.size+1
noncomputable def Bd.top:Bd->Nat
 | .nil=>0
 | .lf _ r=>r.top+1
 | .ite _ _ _ r=>r.top+1
 | .loop _ _ r=>r.top+1
def Lf.Ok:Lf->Prop
 | .set _ T=>TOk T
 | .rd _ T=>TOk T
 | .wr T U=>TOk T/\TOk U
 | .cl _ _ ts=>(∀T∈ts,TOk T)/\ts.length<=100
 | .gv T=>TOk T
def Bd.Ok:Bd->Prop
 | .nil=>True
 | .lf l r=>l.Ok/\r.Ok
 | .ite T a b r=>(TOk T/\a.top<=200/\b.top<=200)/\a.Ok/\b.Ok/\r.Ok
 | .loop T a r=>(TOk T/\a.top<=200)/\a.Ok/\r.Ok
theorem Bd.Ok.app{s:Bd}(hs:s.Ok):∀{b:Bd},b.Ok->(b.app s).Ok
 | .nil,_=>hs
 | .lf _ _,h=>⟨h.1,Bd.Ok.app hs h.2⟩
 | .ite _ _ _ _,h=>⟨h.1,h.2.1,h.2.2.1,Bd.Ok.app hs h.2.2.2⟩
 | .loop _ _ _,h=>⟨h.1,h.2.1,Bd.Ok.app hs h.2.2⟩
def TmsAt(H:Hp):List Tm->List V->Prop
 | [],vs=>vs=[]
 |T::ts,vs=>∃p r,vs= .ref p::r/\TmAt H T p/\TmsAt H ts r
theorem TmsAt.mono{H H':Hp}(k:TMono H H'):∀{ts:List Tm} {vs:List V},TmsAt H ts vs->TmsAt H' ts vs
 | [],_,h=>h
 |_::_,_,⟨p,r,e,h1,h2⟩=>⟨p,r,e,h1.mono k,h2.mono k⟩
theorem TmsAt.len{H:Hp}:∀{ts:List Tm} {vs:List V},TmsAt H ts vs->vs.length=ts.length
 | [],_,h=>by rw[show _=[] from h];rfl
 |_::_,_,⟨p,r,e,h1,h2⟩=>by rw[e,List.length_cons,List.length_cons,h2.len]
theorem TmsAt.at{H:Hp}:∀{ts:List Tm} {vs:List V},TmsAt H ts vs->∀(i:Nat) (v:V),vs[i]?=some v->∃T p,ts[i]?=some T/\v= .ref p/\TmAt H T p
 | [],_,h,i,v,hv=>by rw[show _=[] from h]at hv;simp at hv
 |T::_,_,⟨p,r,e,h1,h2⟩,0,v,hv=>by rw[e]at hv;cases hv;exact⟨T,p,rfl,rfl,h1⟩
 |_::ts,_,⟨p,r,e,h1,h2⟩,i+1,v,hv=>by rw[e]at hv;simpa using h2.at i v (by simpa using hv)
def LfV(H:Hp)(v:V):Lf->Prop
 | .set x T=>∃p t,v= .ref p/\H p=some (.tup [.str "set",.str x,.ref t])/\TmAt H T t
 | .rd x T=>∃p t,v= .ref p/\H p=some (.tup [.str "read",.str x,.ref t])/\TmAt H T t
 | .wr T U=>∃p t u,v= .ref p/\H p=some (.tup [.str "write",.ref t,.ref u])/\TmAt H T t/\TmAt H U u
 | .cl x f ts=>∃p q vs,v= .ref p/\H p=some (.tup [.str "call",.str x,.str f,.ref q])/\H q=some (.tup vs)/\TmsAt H ts vs
 | .gv T=>∃p t,v= .ref p/\H p=some (.tup [.str "give",.ref t])/\TmAt H T t
theorem LfV.mono{H H':Hp}(k:TMono H H'){v:V}{s:Lf}(h:LfV H v s):LfV H' v s:=by
 cases s with
 |set x T=>obtain⟨p,t,e,h1,h2⟩:=h;exact⟨p,t,e,k _ _ h1,h2.mono k⟩
 |rd x T=>obtain⟨p,t,e,h1,h2⟩:=h;exact⟨p,t,e,k _ _ h1,h2.mono k⟩
 |wr T U=>obtain⟨p,t,u,e,h1,h2,h3⟩:=h;exact⟨p,t,u,e,k _ _ h1,h2.mono k,h3.mono k⟩
 |cl x f ts=>obtain⟨p,q,vs,e,h1,h2,h3⟩:=h;exact⟨p,q,vs,e,k _ _ h1,k _ _ h2,h3.mono k⟩
 |gv T=>obtain⟨p,t,e,h1,h2⟩:=h;exact⟨p,t,e,k _ _ h1,h2.mono k⟩
def BdV(H:Hp):Bd->List V->Prop
 | .nil,vs=>vs=[]
 | .lf l r,vs=>∃v ws,vs=v::ws/\LfV H v l/\BdV H r ws
 | .ite T a b r,vs=>∃p t pa pb as bs ws,vs= .ref p::ws/\H p=some (.tup [.str "if",.ref t,.ref pa,.ref pb])/\TmAt H T t/\H pa=some (.tup as)/\BdV H a as/\H pb=some (.tup bs)/\BdV H b bs/\BdV H r ws
 | .loop T a r,vs=>∃p t pa as ws,vs= .ref p::ws/\H p=some (.tup [.str "while",.ref t,.ref pa])/\TmAt H T t/\H pa=some (.tup as)/\BdV H a as/\BdV H r ws
theorem BdV.mono{H H':Hp}(k:TMono H H'):∀{b:Bd} {vs:List V},BdV H b vs->BdV H' b vs
 | .nil,_,h=>h
 | .lf _ _,_,⟨v,ws,e,h1,h2⟩=>⟨v,ws,e,h1.mono k,h2.mono k⟩
 | .ite _ _ _ _,_,⟨p,t,pa,pb,as,bs,ws,e,h1,h2,h3,h4,h5,h6,h7⟩=>⟨p,t,pa,pb,as,bs,ws,e,k _ _ h1,h2.mono k,k _ _ h3,h4.mono k,k _ _ h5,h6.mono k,h7.mono k⟩
 | .loop _ _ _,_,⟨p,t,pa,as,ws,e,h1,h2,h3,h4,h5⟩=>⟨p,t,pa,as,ws,e,k _ _ h1,h2.mono k,k _ _ h3,h4.mono k,h5.mono k⟩
theorem BdV.len{H:Hp}:∀{b:Bd} {vs:List V},BdV H b vs->vs.length=b.top
 | .nil,_,h=>by rw[show _=[] from h];rfl
 | .lf _ _,_,⟨v,ws,e,h1,h2⟩=>by rw[e,List.length_cons,h2.len];rfl
 | .ite _ _ _ _,_,⟨p,t,pa,pb,as,bs,ws,e,h1,h2,h3,h4,h5,h6,h7⟩=>by rw[e,List.length_cons,h7.len];rfl
 | .loop _ _ _,_,⟨p,t,pa,as,ws,e,h1,h2,h3,h4,h5⟩=>by rw[e,List.length_cons,h5.len];rfl
theorem BdV.app{H:Hp}{s:Bd}{zs:List V}(hs:BdV H s zs):∀{b:Bd} {vs:List V},BdV H b vs->BdV H (b.app s) (vs++zs)
 | .nil,_,h=>by rw[show _=[] from h];exact hs
 | .lf _ _,_,⟨v,ws,e,h1,h2⟩=>⟨v,ws++zs,by rw[e];rfl,h1,hs.app h2⟩
 | .ite _ _ _ _,_,⟨p,t,pa,pb,as,bs,ws,e,h1,h2,h3,h4,h5,h6,h7⟩=>⟨p,t,pa,pb,as,bs,ws++zs,by rw[e];rfl,h1,h2,h3,h4,h5,h6,hs.app h7⟩
 | .loop _ _ _,_,⟨p,t,pa,as,ws,e,h1,h2,h3,h4,h5⟩=>⟨p,t,pa,as,ws++zs,by rw[e];rfl,h1,h2,h3,h4,hs.app h5⟩
structure Df where
 f:Str
 ps:List Str
 body:Bd
def DfV(H:Hp)(v:V)(d:Df):Prop:=∃p pa pb bs,v= .ref p/\H p=some (.tup [.str d.f,.ref pa,.ref pb])/\H pa=some (.tup (d.ps.map V.str))/\H pb=some (.tup bs)/\BdV H d.body bs
theorem DfV.mono{H H':Hp}(k:TMono H H'){v:V}{d:Df}(h:DfV H v d):DfV H' v d:=by
 obtain⟨p,pa,pb,bs,e,h1,h2,h3,h4⟩:=h
 exact⟨p,pa,pb,bs,e,k _ _ h1,k _ _ h2,k _ _ h3,h4.mono k⟩
def DfsV(H:Hp):List Df->List V->Prop
 | [],vs=>vs=[]
 |d::ds,vs=>∃v r,vs=v::r/\DfV H v d/\DfsV H ds r
theorem DfsV.mono{H H':Hp}(k:TMono H H'):∀{ds:List Df} {vs:List V},DfsV H ds vs->DfsV H' ds vs
 | [],_,h=>h
 |_::_,_,⟨p,r,e,h1,h2⟩=>⟨p,r,e,h1.mono k,h2.mono k⟩
theorem DfsV.len{H:Hp}:∀{ds:List Df} {vs:List V},DfsV H ds vs->vs.length=ds.length
 | [],_,h=>by rw[show _=[] from h];rfl
 |_::_,_,⟨p,r,e,h1,h2⟩=>by rw[e,List.length_cons,List.length_cons,h2.len]
theorem DfsV.at{H:Hp}:∀{ds:List Df} {vs:List V},DfsV H ds vs->∀(i:Nat) (v:V),vs[i]?=some v->∃d,ds[i]?=some d/\DfV H v d
 | [],_,h,i,v,hv=>by rw[show _=[] from h]at hv;simp at hv
 |d::_,_,⟨u,r,e,h1,h4⟩,0,v,hv=>by rw[e]at hv;cases hv;exact⟨d,rfl,h1⟩
 |_::ds,_,⟨u,r,e,h1,h4⟩,i+1,v,hv=>by rw[e]at hv;simpa using h4.at i v (by simpa using hv)
noncomputable def findD(P:List Df)(f:Str):Option Df:=P.find? fun d=>decide (d.f=f)
noncomputable def heldOf(ps:List Str)(is:List Int):Tab:=mergeK [] ((ps.map Sum.inr).zip (is.map V.int))
inductive Out where
 |done (a:Int) (L:Tab) (t:Nat)
 |long
 |deep
noncomputable def Lf.turn:Lf->Bool
 | .set _ _=>false
 | .gv _=>false
 |_=>true
inductive Ex(P:List Df)(C:Tab)(m:Int):Nat->Nat->Bd->Tab->Tab->Nat->Out->Prop
 |nil {n h L} {t:Nat}:Ex P C m n 0 .nil h L t (.done 0 L t)
 |gv {n T r h L} {t:Nat}:Ex P C m n 0 (.lf (.gv T) r) h L t (.done (T.ev h) L t)
 |set {n k x T r h L o} {t:Nat} (q:Ex P C m n k r (putK h (.inr x) (.int (T.ev h))) L t o):Ex P C m n (k+1) (.lf (.set x T) r) h L t o
 |longL {n l r h L} {t:Nat} (e:l.turn=true) (g:m<=(t:Int)):Ex P C m n 0 (.lf l r) h L t .long
 |longI {n T a b r h L} {t:Nat} (g:m<=(t:Int)):Ex P C m n 0 (.ite T a b r) h L t .long
 |longW {n T a r h L} {t:Nat} (g:m<=(t:Int)):Ex P C m n 0 (.loop T a r) h L t .long
 |rd {n k x T r h L o} {t:Nat} (g:(t:Int) < m) (q:Ex P C m n k r (putK h (.inr x) (.int (look L (.inl (T.ev h)) (look C (.inl (T.ev h)) 0)))) L (t+1) o):Ex P C m n (k+1) (.lf (.rd x T) r) h L t o
 |wr {n k T U r h L o} {t:Nat} (g:(t:Int) < m) (q:Ex P C m n k r h (putK L (.inl (T.ev h)) (.int (U.ev h))) (t+1) o):Ex P C m n (k+1) (.lf (.wr T U) r) h L t o
 |ite {n k T a b r h L o} {t:Nat} (g:(t:Int) < m) (q:Ex P C m n k ((if T.ev h=0 then b else a).app r) h L (t+1) o):Ex P C m n (k+1) (.ite T a b r) h L t o
 |loop1 {n k T a r h L o} {t:Nat} (g:(t:Int) < m) (e:T.ev h≠0) (q:Ex P C m n k (a.app (.loop T a r)) h L (t+1) o):Ex P C m n (k+1) (.loop T a r) h L t o
 |loop0 {n k T a r h L o} {t:Nat} (g:(t:Int) < m) (e:T.ev h=0) (q:Ex P C m n k r h L (t+1) o):Ex P C m n (k+1) (.loop T a r) h L t o
 |cl {n k1 k x f ts r h L d a L1 t1 o} {t:Nat} (g:(t:Int) < m) (hf:findD P f=some d) (hl:d.ps.length=ts.length) (hk:k1<=60000) (c:Ex P C m n k1 d.body (heldOf d.ps (ts.map (Tm.ev h))) L (t+1) (.done a L1 t1)) (q:Ex P C m (n+1) k r (putK h (.inr x) (.int a)) L1 t1 o):Ex P C m (n+1) (k+1) (.lf (.cl x f ts) r) h L t o
 |clL {n k1 x f ts r h L d} {t:Nat} (g:(t:Int) < m) (hf:findD P f=some d) (hl:d.ps.length=ts.length) (hk:k1<=60000) (c:Ex P C m n k1 d.body (heldOf d.ps (ts.map (Tm.ev h))) L (t+1) .long):Ex P C m (n+1) 0 (.lf (.cl x f ts) r) h L t .long
 |clD {n k1 x f ts r h L d} {t:Nat} (g:(t:Int) < m) (hf:findD P f=some d) (hl:d.ps.length=ts.length) (hk:k1<=60000) (c:Ex P C m n k1 d.body (heldOf d.ps (ts.map (Tm.ev h))) L (t+1) .deep):Ex P C m (n+1) 0 (.lf (.cl x f ts) r) h L t .deep
 |deep {x f ts r h L} {t:Nat} (g:(t:Int) < m):Ex P C m 0 0 (.lf (.cl x f ts) r) h L t .deep
theorem Bd.top_app(s:Bd):∀b:Bd,(b.app s).top=b.top+s.top
 | .nil=>by show s.top=0+s.top;omega
 | .lf _ r=>by show(r.app s).top+1=r.top+1+s.top;rw[Bd.top_app s r];omega
 | .ite _ _ _ r=>by show(r.app s).top+1=r.top+1+s.top;rw[Bd.top_app s r];omega
 | .loop _ _ r=>by show(r.app s).top+1=r.top+1+s.top;rw[Bd.top_app s r];omega
theorem zF(kvs:Tab)(k:Key)(v:V):(putK kvs k v).length<=kvs.length+1:=by
 unfold putK
 split
 ·rw[List.length_map];exact Nat.le_succ _
 ·rw[List.length_append];exact Nat.le_refl _
noncomputable abbrev sNamedF:Stmt:=top 16
noncomputable abbrev sBegun:Stmt:=top 17
noncomputable abbrev sDeeper:Stmt:=top 18
noncomputable abbrev sTIni:Stmt:=inClass (top 19) 0
noncomputable abbrev sTTurn:Stmt:=inClass (top 19) 1
noncomputable abbrev sTNum:Stmt:=inClass (top 19) 2
def spNamedF:Sp:=fun vs H Q _=>∃(a:Addr) (f:Str) (P:List Df) (xs:List V) (d:Df),vs=[.ref a,.str f]/\H a=some (.tup xs)/\DfsV H P xs/\findD P f=some d/\∀v,DfV H v d->Q v H
noncomputable def Flds(cA lA pA:Addr)(m:Int)(t:Nat):List (Str×V):=[("cells",.ref cA),("most",.int m),("left",.ref lA),("turns",.int (t:Int)),("program",.ref pA)]
structure Rn(H:Hp)(C r dx cA lA pA:Addr)(m:Int)(t:Nat)(L Cs:Tab):Prop where
 ins:H r=some (.ins C dx (Flds cA lA pA m t))
 lf:H lA=some (.dK L)
 ce:H cA=some (.dK Cs)
 iL:GT L
 iC:GT Cs
 cl:cA≠lA
structure CK(K:Frag)(C:Addr):Prop where
 cl:Cls K C
 n1:NoAttr K C "cells"
 n2:NoAttr K C "most"
 n3:NoAttr K C "left"
 n4:NoAttr K C "turns"
 n5:NoAttr K C "program"
def spNumIn(C:Addr):Sp:=fun vs H Q _=>∃(r dx cA lA pA:Addr) (m c:Int) (t:Nat) (L Cs:Tab),vs=[.ref r,.int c]/\Rn H C r dx cA lA pA m t L Cs/\Q (.int (look L (.inl c) (look Cs (.inl c) 0))) H
def spTIni(C:Addr):Sp:=fun vs H Q _=>∃(r dx cA:Addr) (m:Int),vs=[.ref r,.ref cA,.int m]/\H r=some (.ins C dx [])/\∀lA,H lA=none->Q .non (upd (upd H lA (.dK [])) r (.ins C dx [("cells",.ref cA),("most",.int m),("left",.ref lA),("turns",.int 0)]))
structure XM(K:Frag)(mg:Str->Option Value)(x:Str)(L:Addr):Prop where
 ex:excIn K L bmVE "ValueError.__new__"=true
 kp:keepIn K (.ref L)=true
 xc:XCls K L
 ty:typeIn K (.ref L)=some (.type "type")
 m:mg x=some (.ref L)
def NX(o:HO):Prop:=∀φ,o≠ .ext φ
def Kp(H H':Hp):Prop:=∀b o,NX o->H b=some o->H' b=some o
theorem Kp.of_same{H H':Hp}(s:Same H H'):Kp H H':=fun b o _ e=>s _ _ e
theorem Kp.trans{H H1 H2:Hp}(a:Kp H H1)(b:Kp H1 H2):Kp H H2:=fun c o n e=>b c o n (a c o n e)
def nextE(E:XK):XK:=fun C d H'=>∀x T T' c,C= .ref c->H' x=some (TxO c d T x)->H' T=some (TbO T)->H' T'=none->E (.ref c) d (upd (upd H' T' (TbO T')) x (TxO c d T' x))
theorem kX{P:Program}{w:World}{K:Frag}{mg:Str->Option Value}{base:Heap}{N:List Str}{qual:Str}{scope:Scope}{f:Addr}{cd:Value}{A:Around}{outer:List Env}{s₀:Shared}{H₀:Hp}{E:XK}:Passes (CX1 P w) (cxOf (CX1 P w) P w K mg base N qual scope f cd A outer s₀ H₀ E) (nextE E):=
 passes1 fun x C d T T' H' hx hT hn h=>h x T T' C rfl hx hT hn
theorem zr{H H':Hp}{x T T' C:Addr}{d:Option Addr}{b:Addr}{o:HO}(e:H' b=some o)(n:NX o)(hx:H' x=some (TxO C d T x))(hn:H' T'=none):upd (upd H' T' (TbO T')) x (TxO C d T' x) b=some o:=by
 have n1:b≠x:=fun z=>by
  rw[z,hx]at e
  injection e with e
  exact n _ e.symm
 rw[jf n1,jf (jl e hn)]
 exact e
def Fl(E:XK)(L:Addr)(R:Hp->Prop):Prop:=∀(_:Unit) H',R H'->E (.ref L) none H'
def spTurn(C L:Addr):Sp:=fun vs H Q E=>∃(r dx cA lA pA:Addr) (m:Int) (t:Nat),vs=[.ref r]/\H r=some (.ins C dx (Flds cA lA pA m t))/\((t:Int) < m->Q .non (upd H r (.ins C dx (Flds cA lA pA m (t+1)))))/\(m<=(t:Int)->Fl E L (Kp H))
def spDeeper(D:Addr):Sp:=fun vs H Q E=>∃d:Int,vs=[.int d]/\(d < 15->Q (.int (d+1)) H)/\(15<=d->Fl E D (Kp H))
theorem Qv{H:Hp}{x T L:Addr}{d:Option Addr}(nx:H x=none)(nT:upd H x (ExO L none x) T=none):Same H (upd (upd (upd H x (ExO L none x)) T (TbO T)) x (TxO L d T x)):=by
 intro b o e
 have n1:b≠x:=jl e nx
 rw[jf n1,jf (fun z=>by rw[<- z,jf n1,e]at nT;cases nT),jf n1]
 exact e
theorem scNamedF:FnScope ["ones","f","one"] ["ones","f"] (defScope sNamedF):=fsc
theorem Yy{f:Addr}{fd:FuncData}(F:Fun K "named" "named" sNamedF f fd):FnOk P w K mg base CX0 1 f fd ["ones","f"] spNamedF:=by
 refine F.ok scNamedF (fun vs H Q E h=>?_) (fun cdv A outer s H vs Q E hr h=>?_)
 ·refine opq fun Gq kq=>?_
  obtain⟨a,f,P,xs,d,rfl,_⟩:=h
  refine kq ?_
  clear kq
  rfl
 refine opq fun Gq kq=>?_
 obtain⟨a,f,P,xs,d,rfl,ha,hD,hf,q⟩:=h
 refine kq ?_
 clear kq
 refine⟨_,(jd (@zJ _ _ _ _ _ _ _ _ PassesOwn.never rfl (@zI _ _ _ _ (pv 0)) (jx (i:=2) scNamedF.nd rfl (Or.inl rfl)) (jj (jy (@jp _ _ _ _ _ _ _ _ jD (@jm _ _ _ _ _ _ _ ju (pv 2) jc (fun _ _=>rfl)) (pv 1) (nomark _)) (jj (jv (pv 2))) jq)) (by intro _;rfl)) (jj (@ps_no _ _))),?_⟩
 try dsimp only[cxOf,Cx.nox,Cx.wish]
 obtain⟨i,hi,hlt⟩:∃i,P[i]?=some d/\d.f=f/\∀j,j < i->∀(e:Df),P[j]?=some e->e.f≠f:=by
  unfold findD at hf
  obtain⟨e1,i,e2,e3,e4⟩:=List.find?_eq_some_iff_getElem.mp hf
  refine⟨i,by rw[List.getElem?_eq_getElem e2,e3],of_decide_eq_true e1,fun j hj e he=>?_⟩
  have:=e4 j hj
  have hj':j < P.length:=by omega
  rw[List.getElem?_eq_getElem hj']at he
  cases he
  simpa using this
 have hil:i < xs.length:=by
  rw[hD.len]
  exact(List.getElem?_eq_some_iff.mp hi).1
 refine seqF fun F1 f1=>forE fun J j=>⟨_,rfl,a,rfl,⟨_,SqT.of ha⟩,j _ _ ?_⟩
 clear j
 refine J4 (K:=K) (xs:=xs) (fun k σ H'=>(∃o2,σ=[some (.ref a),some (.str f),o2])/\H'=H/\k<=i) ⟨⟨_,rfl⟩,rfl,Nat.zero_le _⟩ (fun k σ H' _ h=>by rw[h.2.1];exact SqT.of ha) ?_ (fun σ H' h=>?_)
 ·intro E2 rt k x σ H2 hx fE Gq kq h
  obtain⟨⟨o2,rfl⟩,rfl,hk⟩:=h
  refine kq ?_
  clear kq
  obtain⟨e,he,hv⟩:=hD.at k x hx
  obtain⟨p,pa,pb,bs,rfl,h1,_⟩:=id hv
  show tIfS _ _ _ E2 _ _
  refine ifE fun G1 kT kF=>⟨_,rfl,p,_,_,_,rfl,rfl,SqT.of h1,rfl,_,rfl,rfl,_,rfl,?_⟩
  by_cases ek:k=i
  ·subst ek
   rw[hi]at he
   cases he
   rw[hlt.1,decide_eq_true (rfl:V.str f=V.str f)]
   refine kT _ ?_
   show tRet _ E2 _ _
   unfold tRet
   rw[rt]
   exact⟨_,rfl,q _ hv⟩
  ·have ne:=hlt.2 k (by omega) e he
   rw[decide_eq_false (fun z=>ne (by injection z))]
   exact kF _ (fE _ _ ⟨⟨_,rfl⟩,rfl,by omega⟩)
 ·obtain⟨_,_,hk⟩:=h
  exact absurd hk (by omega)
theorem scBegun:FnScope ["ones","f","args","one"] ["ones","f","args"] (defScope sBegun):=fsc
theorem scDeeper:FnScope ["deep"] ["deep"] (defScope sDeeper):=fsc
theorem Yz{f:Addr}{fd:FuncData}{D:Addr}(F:Fun K "deeper" "deeper" sDeeper f fd){tD:Tok}(mD:mg "DEEPEST"=some (.int 15 tD))(xm:XM K mg "TooDeep" D):FnOk P w K mg base (CX1 P w) 1 f fd ["deep"] (spDeeper D):=by
 refine F.ok1 scDeeper (fun vs H Q E h=>?_) (fun cdv A outer s H vs Q E hr h=>?_)
 ·refine opq fun Gq kq=>?_
  obtain⟨d,rfl,_⟩:=h
  refine kq ?_
  clear kq
  rfl
 refine opq fun Gq kq=>?_
 obtain⟨d,rfl,q,e⟩:=h
 refine kq ?_
 clear kq
 refine⟨_,(jd (jy (@jp _ _ _ _ _ _ _ _ YQ (pv 0) (@kr _ _ (.int 15) _ _ rfl mD ⟨tD,rfl⟩ (by decide)) (nomark _)) (jj (@qX _ _ _ _ _ rfl qi (@KN _ _ _ _ _ xm.ex xm.kp rfl xm.m (by decide)))) jq) (jj (jv (jw jO (pv 0) jc)))),?_⟩
 try dsimp only[cxOf,Cx.nox,Cx.wish]
 refine seqF fun F1 f1=>⟨_,rfl,_,_,rfl,rfl,_,rfl,?_⟩
 by_cases c:(15:Int)<=d
 ·refine ifY (decide_eq_true c) fun x nx=>?_
  exact⟨x,D,none,rfl,je,xm.xc,xm.ty,fun T nT=>e c () _ (Kp.of_same (Qv nx nT))⟩
 ·exact ifX (decide_eq_false c) (f1 _ _ ⟨_,rfl,_,_,rfl,rfl,q (by omega)⟩)
theorem scTIni:FnScope ["self","cells","most"] ["self","cells","most"] (defScope sTIni):=fsc
theorem ok_tini{f:Addr}{fd:FuncData}{C:Addr}(F:Fun K "__init__" "Turns.__init__" sTIni f fd)(ck:CK K C):FnOk P w K mg base CX0 1 f fd ["self","cells","most"] (spTIni C):=by
 refine F.ok scTIni (fun vs H Q E h=>?_) (fun cdv A outer s H vs Q E hr h=>?_)
 ·refine opq fun Gq kq=>?_
  obtain⟨r,dx,cA,m,rfl,_⟩:=h
  refine kq ?_
  clear kq
  rfl
 refine opq fun Gq kq=>?_
 obtain⟨r,dx,cA,m,rfl,hr0,q⟩:=h
 refine kq ?_
 clear kq
 refine⟨_,(jd (@JT _ _ _ _ _ _ _ _ (pv 0) (pv 1) rfl) (jd (@JT _ _ _ _ _ _ _ _ (pv 0) (pv 2) rfl) (jd (@JT _ _ _ _ _ _ _ _ (pv 0) (@J2 _ _) rfl) (jj (@JT _ _ _ _ _ _ _ _ (pv 0) jc rfl))))),?_⟩
 try dsimp only[cxOf,Cx.nox,Cx.wish]
 refine seqF fun F1 f1=>⟨_,rfl,_,rfl,r,C,dx,_,rfl,hr0,ck.cl,ck.n1,by decide,f1 _ _ ?_⟩
 clear f1
 refine seqF fun F1 f1=>⟨_,rfl,_,rfl,r,C,dx,_,rfl,je,ck.cl,ck.n2,(by show 1 < 1000;decide),f1 _ _ ?_⟩
 clear f1
 refine seqF fun F1 f1=>fun lA nl=>⟨_,rfl,r,C,dx,_,rfl,keepN je nl,ck.cl,ck.n3,(by show 2 < 1000;decide),f1 _ _ ?_⟩
 clear f1
 refine⟨_,rfl,r,C,dx,_,rfl,je,ck.cl,ck.n4,(by show 3 < 1000;decide),?_⟩
 have nr:lA≠r:=fun e=>by rw[e,je]at nl;cases nl
 have n0:H lA=none:=by rw[jf nr,jf nr]at nl;exact nl
 have e:∀o1 o2 o3 o4:HO,upd (upd (upd (upd (upd H r o1) r o2) lA (.dK [])) r o3) r o4=upd (upd H lA (.dK [])) r o4:=fun o1 o2 o3 o4=>by
  funext b
  by_cases hb:b=r
  ·rw[hb,je,je]
  ·rw[jf hb,jf hb,jf hb]
   by_cases hl:b=lA
   ·rw[hl,je,je]
   ·rw[jf hl,jf hb,jf hb,jf hl]
 rw[e]
 exact q lA n0
theorem scTTurn:FnScope ["self"] ["self"] (defScope sTTurn):=fsc
theorem ZJ{f:Addr}{fd:FuncData}{C L:Addr}(F:Fun K "take_turn" "Turns.take_turn" sTTurn f fd)(ck:CK K C)(xm:XM K mg "TooLong" L):FnOk P w K mg base (CX1 P w) 1 f fd ["self"] (spTurn C L):=by
 refine F.ok1 scTTurn (fun vs H Q E h=>?_) (fun cdv A outer s H vs Q E hr h=>?_)
 ·refine opq fun Gq kq=>?_
  obtain⟨r,dx,cA,lA,pA,m,t,rfl,_⟩:=h
  refine kq ?_
  clear kq
  rfl
 refine opq fun Gq kq=>?_
 obtain⟨r,dx,cA,lA,pA,m,t,rfl,hr0,q,e⟩:=h
 refine kq ?_
 clear kq
 refine⟨_,(jd (jy (@jp _ _ _ _ _ _ _ _ YQ (@zQ _ _ _ _ _ (pv 0) rfl) (@zQ _ _ _ _ _ (pv 0) rfl) (nomark _)) (jj (@qX _ _ _ _ _ rfl qi (@KN _ _ _ _ _ xm.ex xm.kp rfl xm.m (by decide)))) jq) (jj (@X3 _ _ _ _ _ _ _ _ _ _ (pv 0) jc in_add))),?_⟩
 try dsimp only[cxOf,Cx.nox,Cx.wish]
 refine seqF fun F1 f1=>⟨_,rfl,r,C,dx,_,_,rfl,hr0,ck.cl,ck.n4,rfl,_,rfl,r,C,dx,_,_,rfl,hr0,ck.cl,ck.n2,rfl,_,_,rfl,rfl,_,rfl,?_⟩
 by_cases c:m<=(t:Int)
 ·refine ifY (decide_eq_true c) fun x nx=>?_
  exact⟨x,L,none,rfl,je,xm.xc,xm.ty,fun T nT=>e c () _ (Kp.of_same (Qv nx nT))⟩
 ·exact ifX (decide_eq_false c) (f1 _ _ ⟨_,rfl,r,C,dx,_,_,rfl,hr0,ck.cl,ck.n4,rfl,_,_,rfl,rfl,dx,_,hr0,(by show 5 < 1000;decide),q (by omega)⟩)
theorem scTNum:FnScope ["self","cell"] ["self","cell"] (defScope sTNum):=fsc
theorem ok_tnum{f:Addr}{fd:FuncData}{C:Addr}(F:Fun K "number_in" "Turns.number_in" sTNum f fd)(ck:CK K C):FnOk P w K mg base CX0 1 f fd ["self","cell"] (spNumIn C):=by
 refine F.ok scTNum (fun vs H Q E h=>?_) (fun cdv A outer s H vs Q E hr h=>?_)
 ·refine opq fun Gq kq=>?_
  obtain⟨r,dx,cA,lA,pA,m,c,t,L,Cs,rfl,_⟩:=h
  refine kq ?_
  clear kq
  rfl
 refine opq fun Gq kq=>?_
 obtain⟨r,dx,cA,lA,pA,m,c,t,L,Cs,rfl,hR,q⟩:=h
 refine kq ?_
 clear kq
 refine⟨_,(jj (jv (@z0 _ _ _ _ _ _ _ _ (@YW _ _ _ _ _ _ (@pc_din _ _ _ _ _ (jM hr) (pv 1) (@zQ _ _ _ _ _ (pv 0) rfl)) (by rfl)) (@jX _ _ _ _ _ _ (jM hr) (@zQ _ _ _ _ _ (pv 0) rfl) (pv 1) (fun _ _=>rfl)) (@qW _ _ _ _ _ _ _ _ _ (jM hr) (@zQ _ _ _ _ _ (pv 0) rfl) (pv 1) jc ⟨by rfl,by rfl,by rfl,by rfl⟩)))),?_⟩
 try dsimp only[cxOf,Cx.nox,Cx.wish]
 refine⟨_,rfl,_,rfl,r,C,dx,_,_,rfl,hR.ins,ck.cl,ck.n3,rfl,lA,_,rfl,DGet.k (k:=.inl c) hR.lf,_,rfl,?_⟩
 cases e:valV L (.inl c) with
 |some v=>
  refine ifY rfl ⟨_,rfl,r,C,dx,_,_,rfl,hR.ins,ck.cl,ck.n3,rfl,_,rfl,lA,v,rfl,by rw[<- e];exact DGet.k (k:=.inl c) hR.lf,?_⟩
  rw[Yv hR.iL e (look Cs (.inl c) 0)]
  exact q
 |none=>
  refine ifX rfl ⟨_,rfl,r,C,dx,_,_,rfl,hR.ins,ck.cl,ck.n1,rfl,cA,rfl,.inl ⟨_,.inl hR.ce⟩,_,rfl,_,DGet.k (k:=.inl c) hR.ce,?_⟩
  rw[qY hR.iC]
  rw[Yw e]at q
  exact q
noncomputable abbrev sBehind:Stmt:=top 21
noncomputable abbrev sPIni:Stmt:=inClass (top 22) 0
noncomputable abbrev sPAns:Stmt:=inClass (top 22) 1
noncomputable abbrev sPDo:Stmt:=inClass (top 22) 2
noncomputable abbrev sPCall:Stmt:=inClass (top 22) 3
noncomputable abbrev sPlain:Stmt:=top 23
def But2(r l:Addr)(H H':Hp):Prop:=∀b o,b≠r->b≠l->H b=some o->H' b=some o
theorem But2.refl{r l:Addr}{H:Hp}:But2 r l H H:=fun _ _ _ _ e=>e
theorem But2.trans{r l:Addr}{H H1 H2:Hp}(a:But2 r l H H1)(b:But2 r l H1 H2):But2 r l H H2:=fun c o n1 n2 e=>b c o n1 n2 (a c o n1 n2 e)
theorem But2.of_same{r l:Addr}{H H':Hp}(s:Same H H'):But2 r l H H':=fun b o _ _ e=>s _ _ e
theorem Rn.tm{H H':Hp}{C r dx cA lA pA:Addr}{m:Int}{t:Nat}{L Cs:Tab}(h:Rn H C r dx cA lA pA m t L Cs)(k:But2 r lA H H'):TMono H H':=fun b xs e=>k b _ (jz e h.ins (by intro z;cases z)) (jz e h.lf (by intro z;cases z)) e
theorem Rn.same{H H':Hp}{C r dx cA lA pA:Addr}{m:Int}{t:Nat}{L Cs:Tab}(h:Rn H C r dx cA lA pA m t L Cs)(s:Same H H'):Rn H' C r dx cA lA pA m t L Cs:=⟨s _ _ h.ins,s _ _ h.lf,s _ _ h.ce,h.iL,h.iC,h.cl⟩
theorem Rn.rl{H:Hp}{C r dx cA lA pA:Addr}{m:Int}{t:Nat}{L Cs:Tab}(h:Rn H C r dx cA lA pA m t L Cs):r≠lA/\r≠cA:=⟨jz h.ins h.lf (by intro z;cases z),jz h.ins h.ce (by intro z;cases z)⟩
structure Pr(H:Hp)(pA:Addr)(P:List Df):Prop where
 at':∃xs,H pA=some (.tup xs)/\DfsV H P xs
 few:∀d∈P,d.ps.length<=100/\d.body.top<=1000/\d.body.Ok
theorem Pr.mono{H H':Hp}{pA:Addr}{P:List Df}(h:Pr H pA P)(k:TMono H H'):Pr H' pA P:=⟨let ⟨xs,h1,h2⟩:=h.at';⟨xs,k _ _ h1,h2.mono k⟩,h.few⟩
def Kp2(r l:Addr)(H H':Hp):Prop:=∀b o,b≠r->b≠l->NX o->H b=some o->H' b=some o
theorem Kp2.of_same{r l:Addr}{H H':Hp}(s:Same H H'):Kp2 r l H H':=fun b o _ _ _ e=>s _ _ e
theorem Kp2.trans{r l:Addr}{H H1 H2:Hp}(a:Kp2 r l H H1)(b:Kp2 r l H1 H2):Kp2 r l H H2:=fun c o n1 n2 n e=>b c o n1 n2 n (a c o n1 n2 n e)
def Ends(TL TD:Addr)(E:XK)(o:Out)(R:Hp->Prop):Prop:=(o= .long->Fl E TL R)/\(o= .deep->Fl E TD R)
theorem Ends.mono{TL TD:Addr}{E:XK}{o:Out}{R S:Hp->Prop}(h:Ends TL TD E o R)(k:∀H,S H->R H):Ends TL TD E o S:=⟨fun e d H r=>h.1 e d H (k H r),fun e d H r=>h.2 e d H (k H r)⟩
def spAns(C TL TD:Addr)(j:Nat):Sp:=fun vs H Q E=>∃(n:Nat) (r dx cA lA pA ag:Addr) (m deep:Int) (t k:Nat) (L Cs:Tab) (v:V) (d:Df) (P:List Df) (is:List Int) (o:Out),vs=[.ref r,v,.ref ag,.int deep]/\j=n+1/\Rn H C r dx cA lA pA m t L Cs/\Pr H pA P/\d∈P/\DfV H v d/\H ag=some (.tup (is.map V.int))/\(∀i∈is,InT i)/\d.ps.length=is.length/\
 Ex P Cs m n k d.body (heldOf d.ps is) L t o/\k<=60000/\deep+(n:Int)=15/\L.length<=t/\m<=100000/\(∀a L' t',o= .done a L' t'->∀H',Rn H' C r dx cA lA pA m t' L' Cs->L'.length<=t'->InT a->But2 r lA H H'->Q (.int a) H')/\Ends TL TD E o (Kp2 r lA H)
def spCalled(C TL TD:Addr)(j:Nat):Sp:=fun vs H Q E=>∃(n:Nat) (r dx cA lA pA hA:Addr) (m deep:Int) (t k:Nat) (L Cs h:Tab) (v:V) (x f:Str) (ts:List Tm) (d:Df) (P:List Df) (o:Out),vs=[.ref r,v,.ref hA,.int deep]/\j=n+1/\Rn H C r dx cA lA pA m t L Cs/\Pr H pA P/\LfV H v (.cl x f ts)/\(Lf.cl x f ts).Ok/\H hA=some (.dK h)/\GT h/\findD P f=some d/\d.ps.length=ts.length/\
 Ex P Cs m n k d.body (heldOf d.ps (ts.map (Tm.ev h))) L t o/\k<=60000/\deep+(n:Int)=15/\L.length<=t/\m<=100000/\(∀a L' t',o= .done a L' t'->∀H',Rn H' C r dx cA lA pA m t' L' Cs->L'.length<=t'->InT a->But2 r lA H H'->Q (.int a) H')/\Ends TL TD E o (Kp2 r lA H)
def spPIni(C:Addr):Sp:=fun vs H Q _=>∃(r dx pA cA:Addr) (m:Int),vs=[.ref r,.ref pA,.ref cA,.int m]/\H r=some (.ins C dx [])/\∀lA,H lA=none->Q .non (upd (upd H lA (.dK [])) r (.ins C dx (Flds cA lA pA m 0)))
theorem zd{P:List Df}{f:Str}{d:Df}(h:findD P f=some d):d∈P:=List.mem_of_find?_eq_some h
theorem ZK(h:Tab)(ts:List Tm):(ts.map fun T=>V.int (T.ev h))=(ts.map (Tm.ev h)).map V.int:=by rw[List.map_map];rfl
theorem Fl.next{E:XK}{L r l:Addr}{H:Hp}(h:Fl E L (Kp2 r l H)):Fl (nextE E) L (Kp2 r l H):=fun d H' k x T T' c e hx hT hn=>by
 cases e
 exact h d _ fun b o n1 n2 nx e=>zr (H:=H) (k b o n1 n2 nx e) nx hx hn
theorem Ends.next{E:XK}{TL TD r l:Addr}{H:Hp}{o:Out}(h:Ends TL TD E o (Kp2 r l H)):Ends TL TD (nextE E) o (Kp2 r l H):=⟨fun e=>(h.1 e).next,fun e=>(h.2 e).next⟩
theorem scPIni:FnScope ["self","program","cells","most"] ["self","program","cells","most"] (defScope sPIni):=fsc
theorem ok_pini{f:Addr}{fd:FuncData}{C T fT:Addr}{fdT:FuncData}(F:Fun K "__init__" "PlainRun.__init__" sPIni f fd)(ck:CK K C)(GT:FnOk P w K mg base CX0 1 fT fdT ["self","cells","most"] (spTIni C))(bT:Binds K fdT ["self","cells","most"] [])(mT:mg "Turns"=some (.ref T))(tm:ClsM K T "__init__" fT):FnOk P w K mg base CX0 2 f fd ["self","program","cells","most"] (spPIni C):=by
 refine F.ok scPIni (fun vs H Q E h=>?_) (fun cdv A outer s H vs Q E hr h=>?_)
 ·refine opq fun Gq kq=>?_
  obtain⟨r,dx,pA,cA,m,rfl,_⟩:=h
  refine kq ?_
  clear kq
  rfl
 refine opq fun Gq kq=>?_
 obtain⟨r,dx,pA,cA,m,rfl,hr0,q⟩:=h
 refine kq ?_
 clear kq
 refine⟨_,(jd (jU (@pe_clsm _ _ _ _ _ _ _ _ _ _ _ _ _ _ _ _ _ _ _ _ rfl mT tm GT hr.m bT .nil pass0 (ja (pv 0) (ja (pv 2) (ja (pv 3) jb))) (by decide) (by rfl) (by rfl) (by rfl))) (jj (@JT _ _ _ _ _ _ _ _ (pv 0) (pv 1) rfl))),?_⟩
 try dsimp only[cxOf,Cx.nox,Cx.wish]
 refine seqF fun F1 f1=>⟨_,rfl,_,rfl,_,rfl,r,dx,cA,m,rfl,hr0,fun lA nl=>f1 _ _ ?_⟩
 clear f1
 refine⟨_,rfl,_,rfl,r,C,dx,_,rfl,je,ck.cl,ck.n5,(by show 4 < 1000;decide),?_⟩
 have e:∀(H1:Hp) (o1 o2:HO),upd (upd H1 r o1) r o2=upd H1 r o2:=fun H1 o1 o2=>by
  funext b
  by_cases hb:b=r
  ·rw[hb,je,je]
  ·rw[jf hb,jf hb,jf hb]
 rw[e]
 exact q lA nl
theorem scPCall:FnScope ["self","statement","held","deep","args"] ["self","statement","held","deep"] (defScope sPCall):=fsc
noncomputable def QJ:Scope:=⟨.function,[(".0",.local),("term",.local),("worth",.globalImplicit),("held",.free)],false,false,[]⟩
theorem ZL:(["term","held"]:List Str).Nodup:=by decide+kernel
theorem ZM:CompSc ["self","statement","held","deep","args"] (defScope sPCall) QJ ["term","held"] 1 [2]:=csc
theorem YA{f:Addr}{fd:FuncData}{j:Nat}{C TL TD fW fN fA:Addr}{fdW fdN fdA:FuncData}(F:Fun K "called" "PlainRun.called" sPCall f fd)(ck:CK K C)(GW:FnOk P w K mg base CX0 9 fW fdW ["term","held"] (spWorth 8))(bW:Binds K fdW ["term","held"] [])(kW:keepIn K (.ref fW)=true)(mW:mg "worth"=some (.ref fW))(GN:FnOk P w K mg base CX0 1 fN fdN ["ones","f"] spNamedF)(bN:Binds K fdN ["ones","f"] [])(kN:keepIn K (.ref fN)=true)(mN:mg "named"=some (.ref fN))(GA:FnOk P w K mg base (CX1 P w) (3*j+10) fA fdA ["self","one","args","deep"] (spAns C TL TD j))(bA:Binds K fdA ["self","one","args","deep"] [])(meA:Meth K C "answer_of" fA)(mtu:mg "tuple"=none):FnOk P w K mg base (CX1 P w) (3*j+11) f fd ["self","statement","held","deep"] (spCalled C TL TD j):=by
 refine F.ok1 scPCall (fun vs H Q E h=>?_) (fun cdv A outer s H vs Q E hr h=>?_)
 ·refine opq fun Gq kq=>?_
  obtain⟨n,r,dx,cA,lA,pA,hA,m,deep,t,k,L,Cs,h,v,x,f,ts,d,Pd,o,rfl,_⟩:=h
  refine kq ?_
  clear kq
  rfl
 refine opq fun Gq kq=>?_
 obtain⟨n,r,dx,cA,lA,pA,hA,m,deep,t,k,L,Cs,h,v,x,f,ts,d,Pd,o,rfl,rfl,hR,hP,hs,hok,hh,hi,hf,hl,hx,hk,hd,hz,hm,q,en⟩:=h
 refine kq ?_
 clear kq
 refine⟨_,(jd (jo (i:=4) scPCall.nd rfl (Or.inl rfl) (@jF _ _ _ _ _ _ _ _ _ jL rfl mtu boot_tuple (ja (@zc _ _ _ _ _ _ _ (["term","held"]) (1) ([2]) _ _ _ _ rfl (@zI _ _ _ _ (@jm _ _ _ _ _ _ _ ju (pv 1) jc (fun _ _=>rfl))) ZM (fun _ _ _ _ _=>(jx (i:=0) ZL rfl (Or.inl rfl))) (fun _ _ _ _ _=>(@zw _)) (fun _ _ _ _ _=>(jh GW hr.m rfl mW kW bW .nil pass0 (ja (pv 0) (ja (pv 1) jb)))) (by intro _;rfl)) jb) (by decide) (by decide) (by rfl) (by rfl))) (jj (jv (@qH _ _ _ _ _ _ _ _ _ _ _ _ _ _ _ _ _ _ _ _ (pv 0) ck.cl meA GA hr.m bA .nil kX (ja (jh GN hr.m rfl mN kN bN .nil pass0 (ja (@zQ _ _ _ _ _ (pv 0) rfl) (ja (@jm _ _ _ _ _ _ _ ju (pv 1) jc (fun _ _=>rfl)) jb))) (ja (pv 4) (ja (pv 3) jb))) (by rfl) (by rfl) (by rfl))))),?_⟩
 try dsimp only[cxOf,Cx.nox,Cx.wish]
 have big:=line24
 obtain⟨p,q2,vs,rfl,h1,h2,h3⟩:=hs
 obtain⟨okt,okl⟩:=hok
 have l3:=h3.len
 refine seqF fun F1 f1=>⟨_,rfl,p,_,_,_,rfl,rfl,SqT.of h1,rfl,q2,rfl,⟨_,SqT.of h2⟩,?_⟩
 refine zv (K:=K) (xs:=vs) (by omega) (fun i zs H3=>zs=(ts.take i).map (fun T=>V.int (T.ev h))/\H3=H) ⟨rfl,rfl⟩ (fun i zs H3 z=>?_) (fun i v zs H3 hv z=>?_) (fun zs H3 z l nl=>?_)
 ·obtain⟨rfl,rfl⟩:=z
  exact⟨SqT.of h2,by rw[List.length_map,List.length_take];omega⟩
 ·obtain⟨rfl,rfl⟩:=z
  obtain⟨T,pt,e1,rfl,e2⟩:=h3.at i v hv
  obtain⟨ok1,ys,ok2⟩:=okt T (List.mem_of_getElem? e1)
  refine⟨_,rfl,_,rfl,pt,hA,T,ys,h,rfl,e2,ok1,ok2,hh,hi,?_,rfl⟩
  rw[List.take_add_one,e1,List.map_append]
  rfl
 ·obtain⟨rfl,rfl⟩:=z
  rw[l3,List.take_length,ZK]
  refine⟨l,_,rfl,.inl ⟨SqL.of je,fun ag nag=>f1 _ _ ?_⟩⟩
  clear f1
  have s1:Same H3 (upd (upd H3 l (.lst ((ts.map (Tm.ev h)).map V.int))) ag (.tup ((ts.map (Tm.ev h)).map V.int))):=(jg nl).trans (jg nag)
  have a1:upd (upd H3 l (.lst ((ts.map (Tm.ev h)).map V.int))) ag (.tup ((ts.map (Tm.ev h)).map V.int)) ag=some (.tup ((ts.map (Tm.ev h)).map V.int)):=je
  generalize upd (upd H3 l (.lst ((ts.map (Tm.ev h)).map V.int))) ag (.tup ((ts.map (Tm.ev h)).map V.int))=H4 at s1 a1
  have R4:=hR.same s1
  obtain⟨xs,p1,p2⟩:=(hP.mono (Same.tm s1)).at'
  have inn:∀i∈ts.map (Tm.ev h),InT i:=fun i hi'=>by
   obtain⟨T,hT,rfl⟩:=List.mem_map.mp hi'
   obtain⟨_,ys,ok2⟩:=okt T hT
   exact zD hi ok2
  refine⟨_,rfl,r,dx,_,rfl,R4.ins,rfl,_,rfl,r,C,dx,_,_,rfl,R4.ins,ck.cl,ck.n5,rfl,_,rfl,p,_,_,_,rfl,rfl,SqT.of (s1 _ _ h1),rfl,pA,f,Pd,xs,d,rfl,p1,p2,hf,fun v dv=>?_⟩
  refine⟨_,rfl,_,rfl,n,r,dx,cA,lA,pA,ag,m,deep,t,k,L,Cs,v,d,Pd,ts.map (Tm.ev h),o,rfl,rfl,R4,hP.mono (Same.tm s1),zd hf,dv,a1,inn,by rw[List.length_map];exact hl,hx,hk,hd,hz,hm,fun a L' t' eo H5 R5 l5 i5 k5=>q a L' t' eo H5 R5 l5 i5 ((But2.of_same s1).trans k5),(en.mono fun H5 k5=>(Kp2.of_same s1).trans k5).next⟩
def Asks(H:Hp)(h:Tab)(T:Tm)(p:Addr)(xs:List V):Prop:=
 (∃t pa pb as bs,H p=some (.tup [.str "if",.ref t,.ref pa,.ref pb])/\TmAt H T t/\H pa=some (.tup as)/\H pb=some (.tup bs)/\as.length<=200/\xs=if T.ev h=0 then bs else as)∨
 (∃t pa as,H p=some (.tup [.str "while",.ref t,.ref pa])/\TmAt H T t/\H pa=some (.tup as)/\as.length<=200/\xs=if T.ev h=0 then [] else as++[.ref p])
def spBehind:Sp:=fun vs H Q _=>∃(p hA:Addr) (T:Tm) (h:Tab) (xs:List V),vs=[.ref p,.ref hA]/\Asks H h T p xs/\TOk T/\H hA=some (.dK h)/\GT h/\∀l H',H l=none->H' l=some (.lst xs.reverse)->Same H H'->Q (.ref l) H'
theorem KU{H H1:Hp}{l2 l3:Addr}{o:HO}(s:Same H H1)(n2:H1 l2=none)(n3:upd H1 l2 o l3=none):H l3=none:=by
 cases z:H l3 with
 |none=>rfl
 |some u=>have:=keepN (o:=o) (s _ _ z) n2;rw[n3]at this;cases this
theorem scBehind:FnScope ["statement","held","again"] ["statement","held"] (defScope sBehind):=fsc
theorem YB{f:Addr}{fd:FuncData}{fW:Addr}{fdW:FuncData}(F:Fun K "behind_asking" "behind_asking" sBehind f fd)(GW:FnOk P w K mg base CX0 9 fW fdW ["term","held"] (spWorth 8))(bW:Binds K fdW ["term","held"] [])(kW:keepIn K (.ref fW)=true)(mW:mg "worth"=some (.ref fW))(mli:mg "list"=none)(mre:mg "reversed"=none):FnOk P w K mg base CX0 10 f fd ["statement","held"] spBehind:=by
 refine F.ok scBehind (fun vs H Q E h=>?_) (fun cdv A outer s H vs Q E hr h=>?_)
 ·refine opq fun Gq kq=>?_
  obtain⟨p,hA,T,h,xs,rfl,_⟩:=h
  refine kq ?_
  clear kq
  rfl
 refine opq fun Gq kq=>?_
 obtain⟨p,hA,T,h,xs,rfl,hs,ok,hh,hi,q⟩:=h
 refine kq ?_
 clear kq
 refine⟨_,(jd (jy (@jp _ _ _ _ _ _ _ _ Jq (jh GW hr.m rfl mW kW bW .nil pass0 (ja (@jm _ _ _ _ _ _ _ ju (pv 0) jc (fun _ _=>rfl)) (ja (pv 1) jb))) jc (nomark _)) (jd (jo (i:=2) scBehind.nd rfl (Or.inl rfl) (@z0 _ _ _ _ _ _ _ _ (@jp _ _ _ _ _ _ _ _ jD (@jm _ _ _ _ _ _ _ ju (pv 0) jc (fun _ _=>rfl)) ji (nomark _)) (jH (ja (pv 0) jb)) (jH jb))) (jj (jv (jw qw (pv 2) (@qA _ _ _ _ _ _ _ _ _ rfl rfl mli boot_list rfl mre boot_reversed (@jm _ _ _ _ _ _ _ ju (pv 0) jc (fun _ _=>rfl)) (by decide) (by decide) (by decide) (by decide) (by rfl) (by rfl) (by rfl) (by rfl)))))) jq) (jd (jy (@jp _ _ _ _ _ _ _ _ jD (@jm _ _ _ _ _ _ _ ju (pv 0) jc (fun _ _=>rfl)) ji (nomark _)) (jj (jv (@qA _ _ _ _ _ _ _ _ _ rfl rfl mli boot_list rfl mre boot_reversed (@jm _ _ _ _ _ _ _ ju (pv 0) jc (fun _ _=>rfl)) (by decide) (by decide) (by decide) (by decide) (by rfl) (by rfl) (by rfl) (by rfl)))) jq) (jj (jv (jH jb))))),?_⟩
 try dsimp only[cxOf,Cx.nox,Cx.wish]
 have big:=line24
 obtain⟨ok1,ys,ok2⟩:=ok
 have ne0:∀z:Int,(!decide (V.int z=V.int 0))=!decide (z=0):=fun z=>by
  by_cases e:z=0
  ·rw[e];rfl
  ·rw[decide_eq_false e,decide_eq_false (fun y=>e (by injection y))]
 rcases hs with ⟨t,pa,pb,as,bs,h1,h2,h3,h4,l5,rfl⟩ | ⟨t,pa,as,h1,h2,h3,l5,rfl⟩
 ·refine seqF fun F1 f1=>⟨_,rfl,p,_,_,_,rfl,rfl,SqT.of h1,rfl,_,rfl,t,hA,T,ys,h,rfl,h2,ok1,ok2,hh,hi,rfl,_,rfl,?_⟩
  show if (!decide (V.int (T.ev h)=V.int 0))=true then _ else _
  rw[ne0]
  by_cases e:T.ev h=0
  ·rw[if_pos e]at q
   refine ifX (by rw[decide_eq_true e];rfl) (f1 _ _ ?_)
   exact seqF fun F1 f1=>⟨_,rfl,p,_,_,_,rfl,rfl,SqT.of h1,rfl,rfl,_,rfl,ifY (by decide+kernel) ⟨_,rfl,p,_,_,_,rfl,rfl,SqT.of h1,rfl,pb,_,rfl,SqT.of h4,fun l nl=>q l _ nl je (jg nl)⟩⟩
  ·rw[if_neg e]at q
   refine ifY (by rw[decide_eq_false e];rfl) ?_
   clear f1
   refine seqF fun F1 f1=>⟨_,rfl,p,_,_,_,rfl,rfl,SqT.of h1,rfl,rfl,_,rfl,ifX (by decide+kernel) ⟨Nat.zero_le _,fun l1 n1=>f1 _ _ ?_⟩⟩
   clear f1
   have s1:Same H (upd H l1 (.lst [])):=jg n1
   have e1:upd H l1 (.lst []) l1=some (.lst []):=je
   generalize upd H l1 (.lst [])=H1 at s1 e1
   refine⟨_,rfl,_,rfl,p,_,_,_,rfl,rfl,SqT.of (s1 _ _ h1),rfl,pa,_,rfl,SqT.of (s1 _ _ h3),fun l2 n2=>⟨l1,l2,_,_,rfl,rfl,keepN e1 n2,je,by rw[List.length_reverse];show 0+_<=_;omega,fun l3 n3=>?_⟩⟩
   refine q l3 _ (KU s1 n2 n3) (by rw[je];rfl) ((s1.trans (jg n2)).trans (jg n3))
 ·refine seqF fun F1 f1=>⟨_,rfl,p,_,_,_,rfl,rfl,SqT.of h1,rfl,_,rfl,t,hA,T,ys,h,rfl,h2,ok1,ok2,hh,hi,rfl,_,rfl,?_⟩
  show if (!decide (V.int (T.ev h)=V.int 0))=true then _ else _
  rw[ne0]
  by_cases e:T.ev h=0
  ·rw[if_pos e]at q
   refine ifX (by rw[decide_eq_true e];rfl) (f1 _ _ ?_)
   exact seqF fun F1 f1=>⟨_,rfl,p,_,_,_,rfl,rfl,SqT.of h1,rfl,rfl,_,rfl,ifX (by decide+kernel) (f1 _ _ ⟨Nat.zero_le _,fun l nl=>q l _ nl je (jg nl)⟩)⟩
  ·rw[if_neg e]at q
   refine ifY (by rw[decide_eq_false e];rfl) ?_
   clear f1
   refine seqF fun F1 f1=>⟨_,rfl,p,_,_,_,rfl,rfl,SqT.of h1,rfl,rfl,_,rfl,ifY (by decide+kernel) ⟨_,rfl,sz1,fun l1 n1=>f1 _ _ ?_⟩⟩
   clear f1
   have s1:Same H (upd H l1 (.lst [.ref p])):=jg n1
   have e1:upd H l1 (.lst [.ref p]) l1=some (.lst [.ref p]):=je
   generalize upd H l1 (.lst [.ref p])=H1 at s1 e1
   refine⟨_,rfl,_,rfl,p,_,_,_,rfl,rfl,SqT.of (s1 _ _ h1),rfl,pa,_,rfl,SqT.of (s1 _ _ h3),fun l2 n2=>⟨l1,l2,_,_,rfl,rfl,keepN e1 n2,je,by rw[List.length_reverse];show 1+_<=_;omega,fun l3 n3=>?_⟩⟩
   refine q l3 _ (KU s1 n2 n3) (by rw[je,List.reverse_append];rfl) ((s1.trans (jg n2)).trans (jg n3))
def But4(r l h ta:Addr)(H H':Hp):Prop:=∀b o,b≠r->b≠l->b≠h->b≠ta->H b=some o->H' b=some o
def Kp4(r l h ta:Addr)(H H':Hp):Prop:=∀b o,b≠r->b≠l->b≠h->b≠ta->NX o->H b=some o->H' b=some o
theorem Fl.nextK{E:XK}{L:Addr}{H:Hp}(h:Fl E L (Kp H)):Fl (nextE E) L (Kp H):=fun d H' k x T T' c e hx hT hn=>by
 cases e
 exact h d _ fun b o nx e=>zr (H:=H) (k b o nx e) nx hx hn
theorem Fl.mono{E:XK}{L:Addr}{R S:Hp->Prop}(h:Fl E L R)(k:∀H,S H->R H):Fl E L S:=fun d H s=>h d H (k H s)
noncomputable def Bd.turn:Bd->Bool
 | .nil=>false
 | .lf l _=>l.turn
 | .ite _ _ _ _=>true
 | .loop _ _ _=>true
section
variable {P:List Df}{C:Tab}{m:Int}{n k:Nat}{h L:Tab}{t:Nat}{o:Out}
theorem zj{b:Bd}(x:Ex P C m n k b h L t o)(e:b.turn=true)(g:m<=(t:Int)):o= .long:=by
 cases x<;>first |rfl | (exfalso;omega) |cases e
theorem Y7{x:Str}{T:Tm}{r:Bd}(q:Ex P C m n k (.lf (.set x T) r) h L t o):∃k',k=k'+1/\Ex P C m n k' r (putK h (.inr x) (.int (T.ev h))) L t o:=by
 cases q with
 |set q=>exact⟨_,rfl,q⟩
 |longL e g=>cases e
theorem ex_rd{x:Str}{T:Tm}{r:Bd}(q:Ex P C m n k (.lf (.rd x T) r) h L t o)(g:(t:Int) < m):∃k',k=k'+1/\Ex P C m n k' r (putK h (.inr x) (.int (look L (.inl (T.ev h)) (look C (.inl (T.ev h)) 0)))) L (t+1) o:=by
 cases q with
 |rd _ q=>exact⟨_,rfl,q⟩
 |longL e g=>exfalso;omega
theorem ex_wr{T U:Tm}{r:Bd}(q:Ex P C m n k (.lf (.wr T U) r) h L t o)(g:(t:Int) < m):∃k',k=k'+1/\Ex P C m n k' r h (putK L (.inl (T.ev h)) (.int (U.ev h))) (t+1) o:=by
 cases q with
 |wr _ q=>exact⟨_,rfl,q⟩
 |longL e g=>exfalso;omega
theorem Y8{T:Tm}{a b r:Bd}(q:Ex P C m n k (.ite T a b r) h L t o)(g:(t:Int) < m):∃k',k=k'+1/\Ex P C m n k' ((if T.ev h=0 then b else a).app r) h L (t+1) o:=by
 cases q with
 |ite _ q=>exact⟨_,rfl,q⟩
 |longI g=>exfalso;omega
theorem XI{T:Tm}{a r:Bd}(q:Ex P C m n k (.loop T a r) h L t o)(g:(t:Int) < m):∃k',k=k'+1/\Ex P C m n k' (if T.ev h=0 then r else a.app (.loop T a r)) h L (t+1) o:=by
 cases q with
 |loop1 _ e q=>exact⟨_,rfl,by rw[if_neg e];exact q⟩
 |loop0 _ e q=>exact⟨_,rfl,by rw[if_pos e];exact q⟩
 |longW g=>exfalso;omega
theorem YR{x f:Str}{ts:List Tm}{r:Bd}(q:Ex P C m n k (.lf (.cl x f ts) r) h L t o)(g:(t:Int) < m):(n=0/\o= .deep)∨∃n' k1 d o1,n=n'+1/\findD P f=some d/\d.ps.length=ts.length/\k1<=60000/\Ex P C m n' k1 d.body (heldOf d.ps (ts.map (Tm.ev h))) L (t+1) o1/\
  ((o1= .long/\o= .long)∨(o1= .deep/\o= .deep)∨∃a L1 t1 k',o1= .done a L1 t1/\k=k'+1/\Ex P C m n k' r (putK h (.inr x) (.int a)) L1 t1 o):=by
 cases q with
 |cl _ hf hl hk c q=>exact .inr ⟨_,_,_,_,rfl,hf,hl,hk,c,.inr (.inr ⟨_,_,_,_,rfl,rfl,q⟩)⟩
 |clL _ hf hl hk c=>exact .inr ⟨_,_,_,_,rfl,hf,hl,hk,c,.inl ⟨rfl,rfl⟩⟩
 |clD _ hf hl hk c=>exact .inr ⟨_,_,_,_,rfl,hf,hl,hk,c,.inr (.inl ⟨rfl,rfl⟩)⟩
 |deep g=>exact .inl ⟨rfl,rfl⟩
 |longL e g=>exfalso;omega
end
def spDo(C TL TD:Addr)(j:Nat):Sp:=fun vs H Q E=>∃(r dx cA lA pA hA tA:Addr) (m deep:Int) (t k:Nat) (L Cs h:Tab) (v:V) (b:Bd) (ws:List V) (P:List Df) (o:Out),vs=[.ref r,v,.ref hA,.ref tA,.int deep]/\Rn H C r dx cA lA pA m t L Cs/\Pr H pA P/\BdV H b (v::ws)/\b.Ok/\(∀T z,b≠ .lf (.gv T) z)/\H hA=some (.dK h)/\GT h/\H tA=some (.lst ws.reverse)/\hA≠lA/\hA≠cA/\
 Ex P Cs m j k b h L t o/\deep+(j:Int)=15/\L.length<=t/\m<=100000/\b.top+201*k<=16000000/\h.length+k<=1000000/\
 (∀k' b' ws' h' L' t' H',k' < k->Ex P Cs m j k' b' h' L' t' o->BdV H b' ws'->b'.Ok->Rn H' C r dx cA lA pA m t' L' Cs->L'.length<=t'->H' hA=some (.dK h')->GT h'->H' tA=some (.lst ws'.reverse)->b'.top+201*k'<=16000000->h'.length+k'<=1000000->But4 r lA hA tA H H'->Q .non H')/\Ends TL TD E o (Kp4 r lA hA tA H)
theorem scPDo:FnScope ["self","statement","held","todo","deep","word"] ["self","statement","held","todo","deep"] (defScope sPDo):=fsc
theorem ok_do{f:Addr}{fd:FuncData}{j:Nat}{C TL TD fW fT fI fD fC fB:Addr}{fdW fdT fdI fdD fdC fdB:FuncData}(F:Fun K "do" "PlainRun.do" sPDo f fd)(ck:CK K C)(GW:FnOk P w K mg base CX0 9 fW fdW ["term","held"] (spWorth 8))(bW:Binds K fdW ["term","held"] [])(kW:keepIn K (.ref fW)=true)(mW:mg "worth"=some (.ref fW))(GT:FnOk P w K mg base (CX1 P w) 1 fT fdT ["self"] (spTurn C TL))(bT:Binds K fdT ["self"] [])(meT:Meth K C "take_turn" fT)(GI:FnOk P w K mg base CX0 1 fI fdI ["self","cell"] (spNumIn C))(bI:Binds K fdI ["self","cell"] [])(meI:Meth K C "number_in" fI)(GD:FnOk P w K mg base (CX1 P w) 1 fD fdD ["deep"] (spDeeper TD))(bD:Binds K fdD ["deep"] [])(kD:keepIn K (.ref fD)=true)(mD:mg "deeper"=some (.ref fD))(GC:FnOk P w K mg base (CX1 P w) (3*j+11) fC fdC ["self","statement","held","deep"] (spCalled C TL TD j))(bC:Binds K fdC ["self","statement","held","deep"] [])(meC:Meth K C "called" fC)(GB:FnOk P w K mg base CX0 10 fB fdB ["statement","held"] spBehind)(bB:Binds K fdB ["statement","held"] [])(kB:keepIn K (.ref fB)=true)(mB:mg "behind_asking"=some (.ref fB)):FnOk P w K mg base (CX1 P w) (3*j+12) f fd ["self","statement","held","todo","deep"] (spDo C TL TD j):=by
 refine F.ok1 scPDo (fun vs H Q E h=>?_) (fun cdv A outer s H vs Q E hr h=>?_)
 ·refine opq fun Gq kq=>?_
  obtain⟨r,dx,cA,lA,pA,hA,tA,m,deep,t,k,L,Cs,h,v,b,ws,Pd,o,rfl,_⟩:=h
  refine kq ?_
  clear kq
  rfl
 refine opq fun Gq kq=>?_
 obtain⟨r,dx,cA,lA,pA,hA,tA,m,deep,t,k,L,Cs,h,v,b,ws,Pd,o,rfl,hR,hP,hb,hok,ng,hh,hi,ht,hl,hc,hx,hd,hLt,hm,hz1,hz2,q,en⟩:=h
 refine kq ?_
 clear kq
 refine⟨_,(jd (jo (i:=5) scPDo.nd rfl (Or.inl rfl) (@jm _ _ _ _ _ _ _ ju (pv 1) jc (fun _ _=>rfl))) (jd (jy (@jp _ _ _ _ _ _ _ _ jD (pv 5) ji (nomark _)) (jd (@jY _ _ _ _ _ _ _ _ _ (jM hr) (pv 2) (@jm _ _ _ _ _ _ _ ju (pv 1) jc (fun _ _=>rfl)) (jh GW hr.m rfl mW kW bW .nil pass0 (ja (@jm _ _ _ _ _ _ _ ju (pv 1) jc (fun _ _=>rfl)) (ja (pv 2) jb))) rfl) (jj (@Z7 _ _))) jq) (jd (jU (@Zo _ _ _ _ _ _ _ _ _ _ _ _ _ _ _ _ _ (pv 0) ck.cl meT GT hr.m bT .nil kX (by rfl))) (jj (jy (@jp _ _ _ _ _ _ _ _ jD (pv 5) ji (nomark _)) (jj (@jY _ _ _ _ _ _ _ _ _ (jM hr) (pv 2) (@jm _ _ _ _ _ _ _ ju (pv 1) jc (fun _ _=>rfl)) (@qH _ _ _ _ _ _ _ _ _ _ _ _ _ _ _ _ _ _ _ _ (pv 0) ck.cl meI GI hr.m bI .nil pass0 (ja (jh GW hr.m rfl mW kW bW .nil pass0 (ja (@jm _ _ _ _ _ _ _ ju (pv 1) jc (fun _ _=>rfl)) (ja (pv 2) jb))) jb) (by rfl) (by rfl) (by rfl)) rfl)) (jj (jy (@jp _ _ _ _ _ _ _ _ jD (pv 5) ji (nomark _)) (jj (@jY _ _ _ _ _ _ _ _ _ (jM hr) (@zQ _ _ _ _ _ (pv 0) rfl) (jh GW hr.m rfl mW kW bW .nil pass0 (ja (@jm _ _ _ _ _ _ _ ju (pv 1) jc (fun _ _=>rfl)) (ja (pv 2) jb))) (jh GW hr.m rfl mW kW bW .nil pass0 (ja (@jm _ _ _ _ _ _ _ ju (pv 1) jc (fun _ _=>rfl)) (ja (pv 2) jb))) rfl)) (jj (jy (@jp _ _ _ _ _ _ _ _ jD (pv 5) ji (nomark _)) (jj (@jY _ _ _ _ _ _ _ _ _ (jM hr) (pv 2) (@jm _ _ _ _ _ _ _ ju (pv 1) jc (fun _ _=>rfl)) (@qH _ _ _ _ _ _ _ _ _ _ _ _ _ _ _ _ _ _ _ _ (pv 0) ck.cl meC GC hr.m bC .nil kX (ja (pv 1) (ja (pv 2) (ja (jh GD hr.m rfl mD kD bD .nil kX (ja (pv 4) jb)) jb))) (by rfl) (by rfl) (by rfl)) rfl)) (jj (jU (@ze _ _ _ _ _ _ _ _ _ _ _ _ PySem.F.plainAttrs_list PySem.F.slot_list_extend PySem.F.type_list_extend X6 (pv 3) (ja (jh GB hr.m rfl mB kB bB .nil pass0 (ja (pv 1) (ja (pv 2) jb))) jb) (by rfl) (by rfl) (by rfl) (by rfl) (by rfl))))))))))))),?_⟩
 try dsimp only[cxOf,Cx.nox,Cx.wish]
 have big:=line24
 have rh:hA≠r:=jz hh hR.ins (by intro z;cases z)
 have rt:tA≠r:=jz ht hR.ins (by intro z;cases z)
 have th:tA≠hA:=jz ht hh (by intro z;cases z)
 have tl:tA≠lA:=jz ht hR.lf (by intro z;cases z)
 have put:∀(x:Str) (i:Int) (H2:Hp) (L2':Tab) (t2 k2:Nat) (rest:Bd),k2 < k->Ex Pd Cs m j k2 rest (putK h (.inr x) (.int i)) L2' t2 o->BdV H rest ws->rest.Ok->InT i->Rn H2 C r dx cA lA pA m t2 L2' Cs->L2'.length<=t2->H2 hA=some (.dK h)->H2 tA=some (.lst ws.reverse)->rest.top+201*k2<=16000000->But2 r lA H H2->Q .non (upd H2 hA (.dK (putK h (.inr x) (.int i)))):=by
  intro x i H2 L2' t2 k2 rest kk hx2 hb2 ok2 ii R2 l2 d2 e2 z2 B2
  have:=zF h (.inr x) (.int i)
  refine q k2 rest ws (putK h (.inr x) (.int i)) L2' t2 _ kk hx2 hb2 ok2 ⟨by rw[jf (Ne.symm rh)];exact R2.ins,by rw[jf (Ne.symm hl)];exact R2.lf,by rw[jf (Ne.symm hc)];exact R2.ce,R2.iL,R2.iC,R2.cl⟩ l2 je (hi.put _ ii) (by rw[jf th];exact e2) z2 (by omega) fun b o n1 n2 n3 n4 e=>?_
  rw[jf n3]
  exact B2 b o n1 n2 e
 cases b with
 |nil=>exact absurd hb (by intro z;cases z)
 |ite T a b rest=>
  obtain⟨p,pt,pa,pb,as,bs,ws',ev,h1,h2,h3,h4,h5,h6,h7⟩:=hb
  cases ev
  obtain⟨⟨okT,oka',okb'⟩,oka,okb,okr⟩:=hok
  have z1:rest.top+1+201*k<=16000000:=hz1
  refine seqF fun F1 f1=>⟨_,rfl,p,_,_,_,rfl,rfl,SqT.of h1,rfl,f1 _ _ ?_⟩
  clear f1
  refine seqF fun F1 f1=>⟨_,rfl,rfl,_,rfl,ifX (by decide+kernel) (f1 _ _ ?_)⟩
  clear f1
  refine seqF fun F1 f1=>⟨_,rfl,r,dx,_,rfl,hR.ins,rfl,r,dx,cA,lA,pA,m,t,rfl,hR.ins,fun lt=>f1 _ _ ?_,fun ge=>(((en.1 (zj hx rfl ge)).mono fun H' kk=>fun b o _ _ _ _ nx e=>kk b o nx e)).nextK⟩
  clear f1
  have tm1:TMono H (upd H r (.ins C dx (Flds cA lA pA m (t+1)))):=fun b xs e=>by rw[jf (jz e hR.ins (by intro z;cases z))];exact e
  have R1:Rn (upd H r (.ins C dx (Flds cA lA pA m (t+1)))) C r dx cA lA pA m (t+1) L Cs:=⟨je,by rw[jf hR.rl.1.symm];exact hR.lf,by rw[jf hR.rl.2.symm];exact hR.ce,hR.iL,hR.iC,hR.cl⟩
  have d1:upd H r (.ins C dx (Flds cA lA pA m (t+1))) hA=some (.dK h):=by rw[jf (jz hh hR.ins (by intro z;cases z))];exact hh
  have e1:upd H r (.ins C dx (Flds cA lA pA m (t+1))) tA=some (.lst ws.reverse):=by rw[jf (jz ht hR.ins (by intro z;cases z))];exact ht
  have k1:But2 r lA H (upd H r (.ins C dx (Flds cA lA pA m (t+1)))):=fun b o n1 n2 e=>by rw[jf n1];exact e
  generalize upd H r (.ins C dx (Flds cA lA pA m (t+1)))=H1 at tm1 R1 d1 e1 k1
  have g1:=tm1 _ _ h1
  obtain⟨k',rfl,hx'⟩:=Y8 hx lt
  refine⟨_,rfl,rfl,_,rfl,ifX (by decide+kernel) ?_⟩
  refine⟨_,rfl,rfl,_,rfl,ifX (by decide+kernel) ?_⟩
  refine⟨_,rfl,rfl,_,rfl,ifX (by decide+kernel) ?_⟩
  have la:=h4.len
  have lb:=h6.len
  have lr:=h7.len
  have hsel:BdV H (if T.ev h=0 then b else a) (if T.ev h=0 then bs else as):=by split<;>assumption
  have osel:(if T.ev h=0 then b else a).Ok:=by split<;>assumption
  have tsel:(if T.ev h=0 then b else a).top<=200:=by split<;>assumption
  have lsel:=hsel.len
  refine⟨_,rfl,.inl ⟨rfl,_,SqL.of e1⟩,_,rfl,_,rfl,p,hA,T,h,(if T.ev h=0 then bs else as),rfl,.inl ⟨pt,pa,pb,as,bs,g1,h2.mono tm1,tm1 _ _ h3,tm1 _ _ h5,by omega,rfl⟩,okT,d1,hi,fun l H2 nl hl2 s2=>?_⟩
  generalize (if T.ev h=0 then bs else as)=xs at*
  generalize (if T.ev h=0 then b else a)=sel at*
  have e2:=s2 _ _ e1
  have nlt:l≠tA:=fun z=>by rw[z,e1]at nl;cases nl
  refine⟨tA,l,_,_,rfl,rfl,e2,hl2,by rw[List.length_reverse,List.length_reverse];omega,?_⟩
  have R2:=R1.same s2
  refine q k' (sel.app rest) (xs++ws) h L (t+1) _ (by omega) hx' (BdV.app h7 hsel) (Bd.Ok.app okr osel) ⟨by rw[jf (Ne.symm rt)];exact R2.ins,by rw[jf (Ne.symm tl)];exact R2.lf,by rw[jf (jz R2.ce e2 (by intro z;cases z))];exact R2.ce,R2.iL,R2.iC,R2.cl⟩ (by omega) (by rw[jf (Ne.symm th)];exact s2 _ _ d1) hi (by rw[je,List.reverse_append]) (by rw[Bd.top_app];omega) (by omega) fun b o n1 n2 n3 n4 e=>?_
  rw[jf n4]
  exact s2 _ _ (k1 b o n1 n2 e)
 |loop T a rest=>
  obtain⟨p,pt,pa,as,ws',ev,h1,h2,h3,h4,h7⟩:=id hb
  cases ev
  obtain⟨⟨okT,oka'⟩,oka,okr⟩:=id hok
  have z1:rest.top+1+201*k<=16000000:=hz1
  refine seqF fun F1 f1=>⟨_,rfl,p,_,_,_,rfl,rfl,SqT.of h1,rfl,f1 _ _ ?_⟩
  clear f1
  refine seqF fun F1 f1=>⟨_,rfl,rfl,_,rfl,ifX (by decide+kernel) (f1 _ _ ?_)⟩
  clear f1
  refine seqF fun F1 f1=>⟨_,rfl,r,dx,_,rfl,hR.ins,rfl,r,dx,cA,lA,pA,m,t,rfl,hR.ins,fun lt=>f1 _ _ ?_,fun ge=>(((en.1 (zj hx rfl ge)).mono fun H' kk=>fun b o _ _ _ _ nx e=>kk b o nx e)).nextK⟩
  clear f1
  have tm1:TMono H (upd H r (.ins C dx (Flds cA lA pA m (t+1)))):=fun b xs e=>by rw[jf (jz e hR.ins (by intro z;cases z))];exact e
  have R1:Rn (upd H r (.ins C dx (Flds cA lA pA m (t+1)))) C r dx cA lA pA m (t+1) L Cs:=⟨je,by rw[jf hR.rl.1.symm];exact hR.lf,by rw[jf hR.rl.2.symm];exact hR.ce,hR.iL,hR.iC,hR.cl⟩
  have d1:upd H r (.ins C dx (Flds cA lA pA m (t+1))) hA=some (.dK h):=by rw[jf (jz hh hR.ins (by intro z;cases z))];exact hh
  have e1:upd H r (.ins C dx (Flds cA lA pA m (t+1))) tA=some (.lst ws.reverse):=by rw[jf (jz ht hR.ins (by intro z;cases z))];exact ht
  have k1:But2 r lA H (upd H r (.ins C dx (Flds cA lA pA m (t+1)))):=fun b o n1 n2 e=>by rw[jf n1];exact e
  generalize upd H r (.ins C dx (Flds cA lA pA m (t+1)))=H1 at tm1 R1 d1 e1 k1
  have g1:=tm1 _ _ h1
  obtain⟨k',rfl,hx'⟩:=XI hx lt
  refine⟨_,rfl,rfl,_,rfl,ifX (by decide+kernel) ?_⟩
  refine⟨_,rfl,rfl,_,rfl,ifX (by decide+kernel) ?_⟩
  refine⟨_,rfl,rfl,_,rfl,ifX (by decide+kernel) ?_⟩
  have la:=h4.len
  have lr:=h7.len
  have hsel:BdV H (if T.ev h=0 then rest else a.app (.loop T a rest)) ((if T.ev h=0 then [] else as++[.ref p])++ws):=by
   split
   ·exact h7
   ·rw[List.append_assoc];exact BdV.app hb h4
  have osel:(if T.ev h=0 then rest else a.app (.loop T a rest)).Ok:=by
   split
   ·exact okr
   ·exact Bd.Ok.app hok oka
  have tsel:(if T.ev h=0 then rest else a.app (.loop T a rest)).top<=201+rest.top:=by
   split
   ·omega
   ·rw[Bd.top_app];show a.top+(rest.top+1)<=_;omega
  have lxs:(if T.ev h=0 then ([]:List V) else as++[.ref p]).length<=201:=by
   split
   ·exact Nat.zero_le _
   ·rw[List.length_append,List.length_singleton];omega
  refine⟨_,rfl,.inl ⟨rfl,_,SqL.of e1⟩,_,rfl,_,rfl,p,hA,T,h,(if T.ev h=0 then [] else as++[.ref p]),rfl,.inr ⟨pt,pa,as,g1,h2.mono tm1,tm1 _ _ h3,by omega,rfl⟩,okT,d1,hi,fun l H2 nl hl2 s2=>?_⟩
  generalize (if T.ev h=0 then ([]:List V) else as++[.ref p])=xs at*
  generalize (if T.ev h=0 then rest else a.app (.loop T a rest))=sel at*
  have e2:=s2 _ _ e1
  refine⟨tA,l,_,_,rfl,rfl,e2,hl2,by rw[List.length_reverse,List.length_reverse];omega,?_⟩
  have R2:=R1.same s2
  refine q k' sel (xs++ws) h L (t+1) _ (by omega) hx' hsel osel ⟨by rw[jf (Ne.symm rt)];exact R2.ins,by rw[jf (Ne.symm tl)];exact R2.lf,by rw[jf (jz R2.ce e2 (by intro z;cases z))];exact R2.ce,R2.iL,R2.iC,R2.cl⟩ (by omega) (by rw[jf (Ne.symm th)];exact s2 _ _ d1) hi (by rw[je,List.reverse_append]) (by omega) (by omega) fun b o n1 n2 n3 n4 e=>?_
  rw[jf n4]
  exact s2 _ _ (k1 b o n1 n2 e)
 |lf l rest=>
 obtain⟨v',ws',ev,hs,hb⟩:=hb
 cases ev
 obtain⟨okl,okr⟩:=hok
 have z1:rest.top+1+201*k<=16000000:=hz1
 cases l with
 |gv T=>exact absurd rfl (ng T rest)
 |set x T=>
  obtain⟨p,pt,rfl,h1,h2⟩:=hs
  obtain⟨k',rfl,hx'⟩:=Y7 hx
  obtain⟨ok1,ys,ok2⟩:=okl
  refine seqF fun F1 f1=>⟨_,rfl,p,_,_,_,rfl,rfl,SqT.of h1,rfl,f1 _ _ ?_⟩
  clear f1
  refine seqF fun F1 f1=>⟨_,rfl,rfl,_,rfl,ifY (by decide+kernel) ?_⟩
  clear f1
  refine seqF fun F1 f1=>⟨_,rfl,p,_,_,_,rfl,rfl,SqT.of h1,rfl,_,rfl,pt,hA,T,ys,h,rfl,h2,ok1,ok2,hh,hi,_,rfl,_,rfl,p,_,_,_,rfl,rfl,SqT.of h1,rfl,hA,_,rfl,DPut.k (k:=.inr x) hh (by omega),f1 _ _ ?_⟩
  exact put x _ H L t k' rest (by omega) hx' hb okr (zD hi ok2) hR hLt hh ht (by omega) But2.refl
 |rd x T=>
  obtain⟨p,pt,rfl,h1,h2⟩:=hs
  obtain⟨ok1,ys,ok2⟩:=okl
  refine seqF fun F1 f1=>⟨_,rfl,p,_,_,_,rfl,rfl,SqT.of h1,rfl,f1 _ _ ?_⟩
  clear f1
  refine seqF fun F1 f1=>⟨_,rfl,rfl,_,rfl,ifX (by decide+kernel) (f1 _ _ ?_)⟩
  clear f1
  refine seqF fun F1 f1=>⟨_,rfl,r,dx,_,rfl,hR.ins,rfl,r,dx,cA,lA,pA,m,t,rfl,hR.ins,fun lt=>f1 _ _ ?_,fun ge=>(((en.1 (zj hx rfl ge)).mono fun H' kk=>fun b o _ _ _ _ nx e=>kk b o nx e)).nextK⟩
  clear f1
  have tm1:TMono H (upd H r (.ins C dx (Flds cA lA pA m (t+1)))):=fun b xs e=>by rw[jf (jz e hR.ins (by intro z;cases z))];exact e
  have R1:Rn (upd H r (.ins C dx (Flds cA lA pA m (t+1)))) C r dx cA lA pA m (t+1) L Cs:=⟨je,by rw[jf hR.rl.1.symm];exact hR.lf,by rw[jf hR.rl.2.symm];exact hR.ce,hR.iL,hR.iC,hR.cl⟩
  have d1:upd H r (.ins C dx (Flds cA lA pA m (t+1))) hA=some (.dK h):=by rw[jf (jz hh hR.ins (by intro z;cases z))];exact hh
  have e1:upd H r (.ins C dx (Flds cA lA pA m (t+1))) tA=some (.lst ws.reverse):=by rw[jf (jz ht hR.ins (by intro z;cases z))];exact ht
  have k1:But2 r lA H (upd H r (.ins C dx (Flds cA lA pA m (t+1)))):=fun b o n1 n2 e=>by rw[jf n1];exact e
  generalize upd H r (.ins C dx (Flds cA lA pA m (t+1)))=H1 at tm1 R1 d1 e1 k1
  have g1:=tm1 _ _ h1
  obtain⟨k',rfl,hx'⟩:=ex_rd hx lt
  refine⟨_,rfl,rfl,_,rfl,ifY (by decide+kernel) ?_⟩
  refine⟨_,rfl,r,dx,_,rfl,R1.ins,rfl,_,rfl,p,_,_,_,rfl,rfl,SqT.of g1,rfl,_,rfl,pt,hA,T,ys,h,rfl,h2.mono tm1,ok1,ok2,d1,hi,r,dx,cA,lA,pA,m,_,_,_,_,rfl,R1,?_⟩
  exact⟨_,rfl,_,rfl,p,_,_,_,rfl,rfl,SqT.of g1,rfl,hA,_,rfl,DPut.k (k:=.inr x) d1 (by omega),put x _ H1 L (t+1) k' rest (by omega) hx' hb okr (JH R1.iL (JH R1.iC qM)) R1 (by omega) d1 e1 (by omega) k1⟩
 |wr T U=>
  obtain⟨p,pt,pu,rfl,h1,h2,h3⟩:=hs
  obtain⟨⟨ok1,ys,ok2⟩,ok3,zs,ok4⟩:=okl
  refine seqF fun F1 f1=>⟨_,rfl,p,_,_,_,rfl,rfl,SqT.of h1,rfl,f1 _ _ ?_⟩
  clear f1
  refine seqF fun F1 f1=>⟨_,rfl,rfl,_,rfl,ifX (by decide+kernel) (f1 _ _ ?_)⟩
  clear f1
  refine seqF fun F1 f1=>⟨_,rfl,r,dx,_,rfl,hR.ins,rfl,r,dx,cA,lA,pA,m,t,rfl,hR.ins,fun lt=>f1 _ _ ?_,fun ge=>(((en.1 (zj hx rfl ge)).mono fun H' kk=>fun b o _ _ _ _ nx e=>kk b o nx e)).nextK⟩
  clear f1
  have tm1:TMono H (upd H r (.ins C dx (Flds cA lA pA m (t+1)))):=fun b xs e=>by rw[jf (jz e hR.ins (by intro z;cases z))];exact e
  have R1:Rn (upd H r (.ins C dx (Flds cA lA pA m (t+1)))) C r dx cA lA pA m (t+1) L Cs:=⟨je,by rw[jf hR.rl.1.symm];exact hR.lf,by rw[jf hR.rl.2.symm];exact hR.ce,hR.iL,hR.iC,hR.cl⟩
  have d1:upd H r (.ins C dx (Flds cA lA pA m (t+1))) hA=some (.dK h):=by rw[jf (jz hh hR.ins (by intro z;cases z))];exact hh
  have e1:upd H r (.ins C dx (Flds cA lA pA m (t+1))) tA=some (.lst ws.reverse):=by rw[jf (jz ht hR.ins (by intro z;cases z))];exact ht
  have k1:But2 r lA H (upd H r (.ins C dx (Flds cA lA pA m (t+1)))):=fun b o n1 n2 e=>by rw[jf n1];exact e
  generalize upd H r (.ins C dx (Flds cA lA pA m (t+1)))=H1 at tm1 R1 d1 e1 k1
  have g1:=tm1 _ _ h1
  obtain⟨k',rfl,hx'⟩:=ex_wr hx lt
  refine⟨_,rfl,rfl,_,rfl,ifX (by decide+kernel) ?_⟩
  refine⟨_,rfl,rfl,_,rfl,ifY (by decide+kernel) ?_⟩
  refine⟨_,rfl,p,_,_,_,rfl,rfl,SqT.of g1,rfl,_,rfl,pu,hA,U,zs,h,rfl,h3.mono tm1,ok3,ok4,d1,hi,?_⟩
  refine⟨_,rfl,r,C,dx,_,_,rfl,R1.ins,ck.cl,ck.n3,rfl,_,rfl,p,_,_,_,rfl,rfl,SqT.of g1,rfl,_,rfl,pt,hA,T,ys,h,rfl,h2.mono tm1,ok1,ok2,d1,hi,lA,_,rfl,DPut.k (k:=.inl (T.ev h)) R1.lf (by omega),?_⟩
  have pl:=zF L (.inl (T.ev h)) (.int (U.ev h))
  refine q k' rest _ h _ (t+1) _ (by omega) hx' hb okr ⟨by rw[jf hR.rl.1];exact R1.ins,je,by rw[jf hR.cl];exact R1.ce,R1.iL.put _ (zD hi ok4),R1.iC,R1.cl⟩ (by omega) (by rw[jf hl];exact d1) hi (by rw[jf tl];exact e1) (by omega) (by omega) fun b o n1 n2 n3 n4 e=>?_
  rw[jf n2]
  exact k1 b o n1 n2 e
 |cl x f ts=>
  obtain⟨p,q2,vs,rfl,h1,h2,h3⟩:=id hs
  refine seqF fun F1 f1=>⟨_,rfl,p,_,_,_,rfl,rfl,SqT.of h1,rfl,f1 _ _ ?_⟩
  clear f1
  refine seqF fun F1 f1=>⟨_,rfl,rfl,_,rfl,ifX (by decide+kernel) (f1 _ _ ?_)⟩
  clear f1
  refine seqF fun F1 f1=>⟨_,rfl,r,dx,_,rfl,hR.ins,rfl,r,dx,cA,lA,pA,m,t,rfl,hR.ins,fun lt=>f1 _ _ ?_,fun ge=>(((en.1 (zj hx rfl ge)).mono fun H' kk=>fun b o _ _ _ _ nx e=>kk b o nx e)).nextK⟩
  clear f1
  have tm1:TMono H (upd H r (.ins C dx (Flds cA lA pA m (t+1)))):=fun b xs e=>by rw[jf (jz e hR.ins (by intro z;cases z))];exact e
  have R1:Rn (upd H r (.ins C dx (Flds cA lA pA m (t+1)))) C r dx cA lA pA m (t+1) L Cs:=⟨je,by rw[jf hR.rl.1.symm];exact hR.lf,by rw[jf hR.rl.2.symm];exact hR.ce,hR.iL,hR.iC,hR.cl⟩
  have d1:upd H r (.ins C dx (Flds cA lA pA m (t+1))) hA=some (.dK h):=by rw[jf (jz hh hR.ins (by intro z;cases z))];exact hh
  have e1:upd H r (.ins C dx (Flds cA lA pA m (t+1))) tA=some (.lst ws.reverse):=by rw[jf (jz ht hR.ins (by intro z;cases z))];exact ht
  have k1:But2 r lA H (upd H r (.ins C dx (Flds cA lA pA m (t+1)))):=fun b o n1 n2 e=>by rw[jf n1];exact e
  generalize upd H r (.ins C dx (Flds cA lA pA m (t+1)))=H1 at tm1 R1 d1 e1 k1
  have g1:=tm1 _ _ h1
  refine⟨_,rfl,rfl,_,rfl,ifX (by decide+kernel) ?_⟩
  refine⟨_,rfl,rfl,_,rfl,ifX (by decide+kernel) ?_⟩
  refine⟨_,rfl,rfl,_,rfl,ifY (by decide+kernel) ?_⟩
  have K1:Kp4 r lA hA tA H H1:=fun b o n1 n2 n3 n4 nx e=>k1 b o n1 n2 e
  refine⟨_,rfl,r,dx,_,rfl,R1.ins,rfl,_,rfl,_,rfl,_,rfl,deep,rfl,fun dl=>?_,fun dg=>?_⟩
  ·rcases YR hx lt with ⟨rfl,eo⟩ | ⟨n',kc,d,o1,rfl,hf,hll,hkc,hc1,hend⟩
   ·exfalso;omega
   refine⟨n',r,dx,cA,lA,pA,hA,m,deep+1,t+1,kc,L,Cs,h,_,x,f,ts,d,Pd,o1,rfl,rfl,R1,hP.mono tm1,hs.mono tm1,okl,d1,hi,hf,hll,hc1,hkc,by omega,by omega,hm,fun a L' t' eo H2 R2 l2 i2 k2=>?_,?_⟩
   ·subst eo
    rcases hend with ⟨z,_⟩ | ⟨z,_⟩ | ⟨a',L1,t1,k',e',rfl,hx'⟩
    ·cases z
    ·cases z
    cases e'
    have tm2:=R1.tm k2
    have d2:=k2 _ _ rh hl d1
    exact⟨_,rfl,_,rfl,p,_,_,_,rfl,rfl,SqT.of (tm2 _ _ g1),rfl,hA,_,rfl,DPut.k (k:=.inr x) d2 (by omega),put x a H2 L' t' k' rest (by omega) hx' hb okr i2 R2 l2 d2 (k2 _ _ rt tl e1) (by omega) (k1.trans k2)⟩
   ·refine Ends.next ⟨fun eo=>?_,fun eo=>?_⟩
    ·subst eo
     rcases hend with ⟨_,e'⟩ | ⟨z,_⟩ | ⟨a',L1,t1,k',z,_⟩
     ·exact(en.1 e').mono fun H2 kk=>fun b o n1 n2 n3 n4 nx e=>kk b o n1 n2 nx (K1 b o n1 n2 n3 n4 nx e)
     ·cases z
     ·cases z
    ·subst eo
     rcases hend with ⟨z,_⟩ | ⟨_,e'⟩ | ⟨a',L1,t1,k',z,_⟩
     ·cases z
     ·exact(en.2 e').mono fun H2 kk=>fun b o n1 n2 n3 n4 nx e=>kk b o n1 n2 nx (K1 b o n1 n2 n3 n4 nx e)
     ·cases z
  ·rcases YR hx lt with ⟨rfl,eo⟩ | ⟨n',kc,d,o1,rfl,_⟩
   ·exact((en.2 eo).mono fun H2 kk=>fun b o n1 n2 n3 n4 nx e=>kk b o nx (K1 b o n1 n2 n3 n4 nx e)).nextK
   ·exfalso;omega
theorem JI:∀(ps:List Str) (is:List Int) (acc:Tab),(∀i∈is,InT i)->GT acc->GT (((ps.map Sum.inr).zip (is.map V.int)).foldl (fun(acc:Tab) kv=>putK acc kv.1 kv.2) acc)/\(((ps.map Sum.inr).zip (is.map V.int)).foldl (fun(acc:Tab) kv=>putK acc kv.1 kv.2) acc).length<=acc.length+ps.length
 | [],_,acc,_,h=>⟨by simpa using h,by simp⟩
 |p::ps,[],acc,_,h=>⟨by simpa using h,by simp⟩
 |p::ps,i::is,acc,hi,h=>by
  have q:=JI ps is (putK acc (.inr p) (.int i)) (fun z hz=>hi z (List.mem_cons_of_mem _ hz)) (h.put _ (hi i List.mem_cons_self))
  have l:=zF acc (.inr p) (.int i)
  refine⟨by simpa using q.1,?_⟩
  have:=q.2
  simp only[List.map_cons,List.zip_cons_cons,List.foldl_cons,List.length_cons]
  omega
inductive WI(C r dx cA lA pA hA tA ag:Addr)(m deep:Int)(n:Nat)(o:Out)(Cs:Tab)(v:V)(P:List Df)(H:Hp)(k:Nat)(σ:L2.St)(H':Hp):Prop
 |mk (o6:Option V) (b:Bd) (vs:List V) (h L:Tab) (t:Nat) (e1:σ=[some (.ref r),some v,some (.ref ag),some (.int deep),some (.ref hA),some (.ref tA),o6]) (e2:H' tA=some (.lst vs.reverse)) (e3:BdV H' b vs) (e4:H' hA=some (.dK h)) (e5:GT h) (e6:Rn H' C r dx cA lA pA m t L Cs) (e7:Ex P Cs m n k b h L t o) (e8:L.length<=t) (e9:b.Ok) (e10:b.top+201*k<=16000000) (e11:h.length+k<=1000000) (e12:But2 r lA H H'):WI C r dx cA lA pA hA tA ag m deep n o Cs v P H k σ H'
theorem ex_gv{P:List Df}{C:Tab}{m:Int}{n k:Nat}{h L:Tab}{t:Nat}{o:Out}{T:Tm}{r:Bd}(q:Ex P C m n k (.lf (.gv T) r) h L t o):o= .done (T.ev h) L t:=by
 cases q with
 |gv=>rfl
 |longL e g=>cases e
theorem Y9{P:List Df}{C:Tab}{m:Int}{n k:Nat}{h L:Tab}{t:Nat}{o:Out}(q:Ex P C m n k .nil h L t o):o= .done 0 L t:=by
 cases q
 rfl
theorem bd_head{H:Hp}{b:Bd}{v:V}{ws:List V}(hb:BdV H b (v::ws))(ng:∀T z,b≠ .lf (.gv T) z):∃pp w' u rest',v= .ref pp/\H pp=some (.tup (.str w'::u::rest'))/\decide (V.str w'=V.str "give")=false:=by
 cases b with
 |nil=>exact absurd hb (by intro z;cases z)
 |ite T a b rest=>obtain⟨p,pt,pa,pb,as,bs,ws',ev,h1,_⟩:=hb;cases ev;exact⟨p,_,_,_,rfl,h1,by decide+kernel⟩
 |loop T a rest=>obtain⟨p,pt,pa,as,ws',ev,h1,_⟩:=hb;cases ev;exact⟨p,_,_,_,rfl,h1,by decide+kernel⟩
 |lf l rest=>
  obtain⟨v',ws',ev,hs,_⟩:=hb
  cases ev
  cases l with
  |gv T=>exact absurd rfl (ng T rest)
  |set x T=>obtain⟨p,pt,rfl,h1,_⟩:=hs;exact⟨p,_,_,_,rfl,h1,by decide+kernel⟩
  |rd x T=>obtain⟨p,pt,rfl,h1,_⟩:=hs;exact⟨p,_,_,_,rfl,h1,by decide+kernel⟩
  |wr T U=>obtain⟨p,pt,pu,rfl,h1,_⟩:=hs;exact⟨p,_,_,_,rfl,h1,by decide+kernel⟩
  |cl x f ts=>obtain⟨p,pt,pu,rfl,h1,_⟩:=hs;exact⟨p,_,_,_,rfl,h1,by decide+kernel⟩
theorem Ends.next4{E:XK}{TL TD r l h ta:Addr}{H:Hp}{o:Out}(x:Ends TL TD E o (Kp4 r l h ta H)):Ends TL TD (nextE E) o (Kp4 r l h ta H):=by
 have one:∀L,Fl E L (Kp4 r l h ta H)->Fl (nextE E) L (Kp4 r l h ta H):=fun L z d H' k x T T' c e hx hT hn=>by
  cases e
  exact z d _ fun b o n1 n2 n3 n4 nx e=>zr (H:=H) (k b o n1 n2 n3 n4 nx e) nx hx hn
 exact⟨fun e=>one _ (x.1 e),fun e=>one _ (x.2 e)⟩
theorem scPAns:FnScope ["self","one","args","deep","held","todo","statement"] ["self","one","args","deep"] (defScope sPAns):=fsc
theorem ok_ans{f:Addr}{fd:FuncData}{j:Nat}{C TL TD fW fO:Addr}{fdW fdO:FuncData}(F:Fun K "answer_of" "PlainRun.answer_of" sPAns f fd)(ck:CK K C)(GW:FnOk P w K mg base CX0 9 fW fdW ["term","held"] (spWorth 8))(bW:Binds K fdW ["term","held"] [])(kW:keepIn K (.ref fW)=true)(mW:mg "worth"=some (.ref fW))(GO:FnOk P w K mg base (CX1 P w) (3*j+12) fO fdO ["self","statement","held","todo","deep"] (spDo C TL TD j))(bO:Binds K fdO ["self","statement","held","todo","deep"] [])(meO:Meth K C "do" fO)(mli:mg "list"=none)(mre:mg "reversed"=none)(mdi:mg "dict"=none)(mzi:mg "zip"=none):FnOk P w K mg base (CX1 P w) (3*j+13) f fd ["self","one","args","deep"] (spAns C TL TD (j+1)):=by
 refine F.ok1 scPAns (fun vs H Q E h=>?_) (fun cdv A outer s H vs Q E hr h=>?_)
 ·refine opq fun Gq kq=>?_
  obtain⟨n,r,dx,cA,lA,pA,ag,m,deep,t,k,L,Cs,v,d,Pd,is,o,rfl,_⟩:=h
  refine kq ?_
  clear kq
  rfl
 refine opq fun Gq kq=>?_
 obtain⟨n,r,dx,cA,lA,pA,ag,m,deep,t,k,L,Cs,v,d,Pd,is,o,rfl,hj,hR,hP,hmem,hv,ha,his,hl,hx,hk,hd,hLt,hm,q,en⟩:=h
 refine kq ?_
 clear kq
 refine⟨_,(jd (jo (i:=4) scPAns.nd rfl (Or.inl rfl) (@XH _ _ _ _ _ _ _ _ rfl mdi rfl mzi rfl (ja (@jm _ _ _ _ _ _ _ ju (pv 1) jc (fun _ _=>rfl)) (ja (pv 2) jb)) (by rfl) (by rfl) (by rfl) (by rfl))) (jd (jo (i:=5) scPAns.nd rfl (Or.inl rfl) (@qA _ _ _ _ _ _ _ _ _ rfl rfl mli boot_list rfl mre boot_reversed (@jm _ _ _ _ _ _ _ ju (pv 1) jc (fun _ _=>rfl)) (by decide) (by decide) (by decide) (by decide) (by rfl) (by rfl) (by rfl) (by rfl))) (jd (@Qk _ _ _ _ _ _ PassesOwn.leaving (@Zl _ _ _ (pv 5) (fun _=>rfl)) (jd (jo (i:=6) scPAns.nd rfl (Or.inl rfl) (@pe_bm0 _ _ _ _ _ _ _ _ _ PySem.F.plainAttrs_list PySem.F.slot_list_pop PySem.F.type_list_pop mt_pop (pv 5) (by rfl) (by rfl))) (jd (jy (@jp _ _ _ _ _ _ _ _ jD (@jm _ _ _ _ _ _ _ ju (pv 6) jc (fun _ _=>rfl)) ji (nomark _)) (jj (jv (jh GW hr.m rfl mW kW bW .nil pass0 (ja (@jm _ _ _ _ _ _ _ ju (pv 6) jc (fun _ _=>rfl)) (ja (pv 4) jb))))) jq) (jj (jU (@qH _ _ _ _ _ _ _ _ _ _ _ _ _ _ _ _ _ _ _ _ (pv 0) ck.cl meO GO hr.m bO .nil kX (ja (pv 6) (ja (pv 4) (ja (pv 5) (ja (pv 3) jb)))) (by rfl) (by rfl) (by rfl))))))) (jj (jv jc))))),?_⟩
 try dsimp only[cxOf,Cx.nox,Cx.wish]
 have big:=line24
 obtain rfl:n=j:=by omega
 obtain⟨p,pa,pb,bs,rfl,h1,h2,h3,h4⟩:=id hv
 obtain⟨fw1,fw2,fw3⟩:=hP.few d hmem
 have lb:=h4.len
 have hk1:GT (heldOf d.ps is):=(JI d.ps is [] his GT.nil).1
 have hk2:(heldOf d.ps is).length<=0+d.ps.length:=(JI d.ps is [] his GT.nil).2
 refine seqF fun F1 f1=>⟨_,rfl,p,_,_,_,rfl,rfl,SqT.of h1,rfl,_,rfl,pa,ag,d.ps.map Sum.inr,is.map V.int,rfl,SqT.of (by rw[List.map_map];exact h2),SqT.of ha,by rw[List.length_map,List.length_map];exact hl,fun hA nh=>f1 _ _ ?_⟩
 clear f1
 have s1:Same H (upd H hA (.dK (heldOf d.ps is))):=jg nh
 have e1:upd H hA (.dK (heldOf d.ps is)) hA=some (.dK (heldOf d.ps is)):=je
 show tSeq _ _ _ _ (upd H hA (.dK (heldOf d.ps is)))
 generalize upd H hA (.dK (heldOf d.ps is))=H1 at s1 e1
 refine seqF fun F1 f1=>⟨_,rfl,p,_,_,_,rfl,rfl,SqT.of (s1 _ _ h1),rfl,pb,_,rfl,SqT.of (s1 _ _ h3),fun tA nt=>f1 _ _ ?_⟩
 clear f1
 have s2:Same H1 (upd H1 tA (.lst bs.reverse)):=jg nt
 have e2:upd H1 tA (.lst bs.reverse) tA=some (.lst bs.reverse):=je
 generalize upd H1 tA (.lst bs.reverse)=H2 at s2 e2
 have S2:=s1.trans s2
 have nh2:hA≠lA:=Ne.symm (jl hR.lf nh)
 have nh3:hA≠cA:=Ne.symm (jl hR.ce nh)
 have nt2:tA≠lA:=Ne.symm (jl (s1 _ _ hR.lf) nt)
 have nt3:tA≠r:=Ne.symm (jl (s1 _ _ hR.ins) nt)
 have nth:tA≠hA:=Ne.symm (jl e1 nt)
 have ntc:cA≠tA:=jl (s1 _ _ hR.ce) nt
 have fresh:∀b o,H b=some o->b≠hA/\b≠tA:=fun b o e=>⟨jl e nh,jl (s1 _ _ e) nt⟩
 refine seqF fun F1 f1=>?_
 refine whileE (WI C r dx cA lA pA hA tA ag m deep n o Cs (.ref p) Pd H) k ⟨none,d.body,bs,heldOf d.ps is,L,t,rfl,e2,h4.mono (Same.tm S2),s2 _ _ e1,hk1,hR.same S2,hx,hLt,fw3,by omega,by omega,But2.of_same S2⟩ ?_
 intro kk σ H3 E' rt fE F kT kF Gq kq hW
 obtain⟨o6,b,vs,h,L1,t1,rfl,w2,w3,w4,w5,w6,w7,w8,w9,w10,w11,w12⟩:=hW
 have tmH:=hR.tm w12
 refine kq ⟨_,rfl,!vs.reverse.isEmpty,.inl ⟨vs.reverse,SqL.of w2,rfl⟩,?_⟩
 clear kq
 cases vs with
 |nil=>
  have eb:b= .nil:=by
   have:=w3.len
   cases b with
   |nil=>rfl
   |lf l r=>exact absurd this (by show ¬0=_+1;omega)
   |ite T a b r=>exact absurd this (by show ¬0=_+1;omega)
   |loop T a r=>exact absurd this (by show ¬0=_+1;omega)
  subst eb
  refine kF _ (f1 _ _ ?_)
  exact q _ _ _ (Y9 w7) _ w6 w8 qM w12
 |cons v rs=>
  have ne:(!(v::rs).reverse.isEmpty)=true:=by simp
  rw[ne]
  refine kT _ ?_
  clear kT kF f1
  rw[List.reverse_cons]at w2
  refine seqF fun F1 f1=>⟨_,rfl,.inl ⟨rfl,_,SqL.of w2⟩,tA,_,v,rfl,rfl,w2,by simp,f1 _ _ ?_⟩
  clear f1
  rw[List.dropLast_concat]
  have k4:But tA H3 (upd H3 tA (.lst rs.reverse)):=fun b o nb e=>by rw[jf nb];exact e
  have t4:upd H3 tA (.lst rs.reverse) tA=some (.lst rs.reverse):=je
  have m4:TMono H3 (upd H3 tA (.lst rs.reverse)):=fun b xs e=>k4 _ _ (jz e w2 (by intro z;cases z)) e
  generalize upd H3 tA (.lst rs.reverse)=H4 at k4 t4 m4
  have R4:Rn H4 C r dx cA lA pA m t1 L1 Cs:=⟨k4 _ _ nt3.symm w6.ins,k4 _ _ nt2.symm w6.lf,k4 _ _ ntc w6.ce,w6.iL,w6.iC,w6.cl⟩
  have d4:=k4 _ _ (Ne.symm nth) w4
  have K4:But2 r lA H H4:=fun b o n1 n2 e=>k4 _ _ (fresh b o e).2 (w12 b o n1 n2 e)
  have tm4:TMono H H4:=hR.tm K4
  have sv4:=w3.mono m4
  by_cases hg:∃T z,b= .lf (.gv T) z
  ·obtain⟨T,z,rfl⟩:=hg
   obtain⟨v',ws',ev,⟨pp,pt,rfl,g1,g2⟩,_⟩:=sv4
   cases ev
   obtain⟨⟨ok1,ys,ok2⟩,_⟩:=w9
   refine seqF fun F1 f1=>⟨_,rfl,pp,_,_,_,rfl,rfl,SqT.of g1,rfl,rfl,_,rfl,ifY (by decide+kernel) ?_⟩
   show tRet _ _ _ _
   unfold tRet
   show tCall _ _ _ _ _ _ E'.rt
   rw[rt]
   exact⟨_,rfl,pp,_,_,_,rfl,rfl,SqT.of g1,rfl,_,rfl,pt,hA,T,ys,h,rfl,g2,ok1,ok2,d4,w5,q _ _ _ (ex_gv w7) _ R4 w8 (zD w5 ok2) K4⟩
  ·have hg':∀T z,b≠ .lf (.gv T) z:=fun T z e=>hg ⟨T,z,e⟩
   obtain⟨pp,w',u,rest',rfl,g1,gn⟩:=bd_head sv4 hg'
   refine seqF fun F1 f1=>⟨_,rfl,pp,_,_,_,rfl,rfl,SqT.of g1,j6 (j:=0) rfl,rfl,_,rfl,ifX gn (f1 _ _ ?_)⟩
   clear f1
   refine⟨_,rfl,r,dx,_,rfl,R4.ins,rfl,_,rfl,_,rfl,_,rfl,_,rfl,r,dx,cA,lA,pA,hA,tA,m,deep,t1,kk,L1,Cs,h,_,b,rs,Pd,o,rfl,R4,hP.mono tm4,sv4,w9,hg',d4,w5,t4,nh2,nh3,w7,hd,w8,hm,w10,w11,fun k' b' ws' h' L' t' H5 lk x5 v5 ok5 R5 l5 d5 g5 t5 z5 y5 k5=>?_,?_⟩
   ·have tm5:TMono H4 H5:=fun b xs e=>k5 b _ (jz e R4.ins (by intro z;cases z)) (jz e R4.lf (by intro z;cases z)) (jz e d4 (by intro z;cases z)) (jz e t4 (by intro z;cases z)) e
    exact fE k' _ _ lk ⟨_,b',ws',h',L',t',rfl,t5,v5.mono tm5,d5,g5,R5,x5,l5,ok5,z5,y5,fun b o n1 n2 e=>k5 b o n1 n2 (fresh b o e).1 (fresh b o e).2 (K4 b o n1 n2 e)⟩
   ·exact Ends.next4 (en.mono fun H' kk=>fun b o n1 n2 nx e=>kk b o n1 n2 (fresh b o e).1 (fresh b o e).2 nx (K4 b o n1 n2 e))
theorem no_ans{f:Addr}{fd:FuncData}{k:Nat}{C TL TD:Addr}:FnOk P w K mg base (CX1 P w) k f fd ["self","one","args","deep"] (spAns C TL TD 0):=by
 have no:∀vs H Q E,¬spAns C TL TD 0 vs H Q E:=fun vs H Q E h=>by
  obtain⟨n,r,dx,cA,lA,pA,ag,m,deep,t,k,L,Cs,v,d,Pd,is,o,_,hj,_⟩:=h
  omega
 exact⟨fun vs H Q E h=>absurd h (no vs H Q E),fun A outer s H args us vs Q E _ _ _ _ h=>absurd h (no vs H Q E)⟩
theorem anss{C TL TD fA fC fO fW fN fT fI fD fB:Addr}{fdA fdC fdO fdW fdN fdT fdI fdD fdB:FuncData}(ck:CK K C)(FA:Fun K "answer_of" "PlainRun.answer_of" sPAns fA fdA)(bA:Binds K fdA ["self","one","args","deep"] [])(meA:Meth K C "answer_of" fA)(FC:Fun K "called" "PlainRun.called" sPCall fC fdC)(bC:Binds K fdC ["self","statement","held","deep"] [])(meC:Meth K C "called" fC)(FO:Fun K "do" "PlainRun.do" sPDo fO fdO)(bO:Binds K fdO ["self","statement","held","todo","deep"] [])(meO:Meth K C "do" fO)(GW:FnOk P w K mg base CX0 9 fW fdW ["term","held"] (spWorth 8))(bW:Binds K fdW ["term","held"] [])(kW:keepIn K (.ref fW)=true)(mW:mg "worth"=some (.ref fW))(GN:FnOk P w K mg base CX0 1 fN fdN ["ones","f"] spNamedF)(bN:Binds K fdN ["ones","f"] [])(kN:keepIn K (.ref fN)=true)(mN:mg "named"=some (.ref fN))(GT:FnOk P w K mg base (CX1 P w) 1 fT fdT ["self"] (spTurn C TL))(bT:Binds K fdT ["self"] [])(meT:Meth K C "take_turn" fT)(GI:FnOk P w K mg base CX0 1 fI fdI ["self","cell"] (spNumIn C))(bI:Binds K fdI ["self","cell"] [])(meI:Meth K C "number_in" fI)(GD:FnOk P w K mg base (CX1 P w) 1 fD fdD ["deep"] (spDeeper TD))(bD:Binds K fdD ["deep"] [])(kD:keepIn K (.ref fD)=true)(mD:mg "deeper"=some (.ref fD))(GB:FnOk P w K mg base CX0 10 fB fdB ["statement","held"] spBehind)(bB:Binds K fdB ["statement","held"] [])(kB:keepIn K (.ref fB)=true)(mB:mg "behind_asking"=some (.ref fB))(mtu:mg "tuple"=none)(mli:mg "list"=none)(mre:mg "reversed"=none)(mdi:mg "dict"=none)(mzi:mg "zip"=none):
  ∀n:Nat,FnOk P w K mg base (CX1 P w) (3*n+10) fA fdA ["self","one","args","deep"] (spAns C TL TD n)
 |0=>no_ans
 |n+1=>ok_ans FA ck GW bW kW mW (ok_do FO ck GW bW kW mW GT bT meT GI bI meI GD bD kD mD (YA FC ck GW bW kW mW GN bN kN mN (anss ck FA bA meA FC bC meC FO bO meO GW bW kW mW GN bN kN mN GT bT meT GI bI meI GD bD kD mD GB bB kB mB mtu mli mre mdi mzi n) bA meA mtu) bC meC GB bB kB mB) bO meO mli mre mdi mzi
theorem scPlain:FnScope ["program","f","args","cells","most","one","run","answer"] ["program","f","args","cells","most"] (defScope sPlain):=fsc
noncomputable abbrev sSpot:Stmt:=top 30
noncomputable abbrev sCells:Stmt:=top 40
def spSpot:Sp:=fun vs H Q _=>∃(p g:Addr) (ys:List Str),vs=[.ref p,.ref g]/\BoxAt H p/\H g=some (.lst (ys.map V.str))/\1<=ys.length/\ys.length<=20/\
 ∀(r:Addr) (T:Tm) (H':Hp),TmAt H' T r->T.depth<=1->T.Good ys->BoxAt H' p->But p H H'->Q (.ref r) H'
def spCells:Sp:=fun vs H Q _=>∃p:Addr,vs=[.ref p]/\BoxAt H p/\∀(l:Addr) (C:Tab) (H':Hp),H l=none->H' l=some (.dK C)->GT C->C.length<=13->BoxAt H' p->But p H H'->Q (.ref l) H'
inductive CL(p l:Addr)(H:Hp)(i:Nat)(σ:L2.St)(H':Hp):Prop
 |mk (o2 o3:Option V) (C:Tab) (e0:σ=[some (.ref p),some (.ref l),o2,o3]) (e1:H' l=some (.dK C)) (e2:GT C) (e3:C.length<=i) (e4:BoxAt H' p) (e5:But p H H'):CL p l H i σ H'
theorem scSpot:FnScope ["_law_box_here","_law_names_here","_law_kind"] ["_law_box_here","_law_names_here"] (defScope sSpot):=fsc
theorem ok_spot{f:Addr}{fd:FuncData}{fT fM:Addr}{fdT fdM:FuncData}(F:Fun K "_law_spot" "_law_spot" sSpot f fd)(GT:FnOk P w K mg base CX0 1 fT fdT ["_law_box_here","_law_wide"] spTake)(bT:Binds K fdT ["_law_box_here","_law_wide"] [])(kT:keepIn K (.ref fT)=true)(mT:mg "_law_take"=some (.ref fT))(GM:FnOk P w K mg base CX0 4 fM fdM ["_law_box_here","_law_names_here","_law_deep"] (spTerm 2))(bM:Binds K fdM ["_law_box_here","_law_names_here","_law_deep"] [])(kM:keepIn K (.ref fM)=true)(mM:mg "_law_term"=some (.ref fM)):FnOk P w K mg base CX0 5 f fd ["_law_box_here","_law_names_here"] spSpot:=by
 refine F.ok scSpot (fun vs H Q E h=>?_) (fun cdv A outer s H vs Q E hr h=>?_)
 ·refine opq fun Gq kq=>?_
  obtain⟨p,g,ys,rfl,_⟩:=h
  refine kq ?_
  clear kq
  rfl
 refine opq fun Gq kq=>?_
 obtain⟨p,g,ys,rfl,B,hg,hy1,hy2,q⟩:=h
 refine kq ?_
 clear kq
 refine⟨_,(jd (jo (i:=2) scSpot.nd rfl (Or.inl rfl) (jh GT hr.m rfl mT kT bT .nil pass0 (ja (pv 0) (ja jc jb)))) (jd (jy (@jp _ _ _ _ _ _ _ _ JK (pv 2) jc (nomark _)) (jj (jv (jh GM hr.m rfl mM kM bM .nil pass0 (ja (pv 0) (ja (pv 1) (ja jc jb)))))) jq) (jd (jy (@jp _ _ _ _ _ _ _ _ jD (pv 2) jc (nomark _)) (jj (jv (jk (ja ji (ja (jw zf (jw zf (jw Je jc jc) jc) (jh GT hr.m rfl mT kT bT .nil pass0 (ja (pv 0) (ja jc jb)))) jb))))) jq) (jj (jv (jk (ja ji (ja (jh GT hr.m rfl mT kT bT .nil pass0 (ja (pv 0) (ja jc jb))) jb)))))))),?_⟩
 try dsimp only[cxOf,Cx.nox,Cx.wish]
 have t18:=ten18
 have hgp:g≠p:=zZ B hg
 refine seqF fun F1 f1=>⟨_,rfl,p,8,rfl,B,by decide,by decide,fun kd H1 k0 k1 B1 e1=>f1 _ _ ?_⟩
 clear f1
 have hg1:H1 g=some (.lst (ys.map V.str)):=by rw[e1 g hgp];exact hg
 have K1:But p H H1:=But.of_eq e1
 have num:∀(d2:Int) (H2:Hp) (r:Addr),0<=d2->d2 < 1000000000000000000->BoxAt H2 p->(∀b,b≠p->H2 b=H1 b)->H2 r=none->Q (.ref r) (upd H2 r (.tup [.str "num",.int d2])):=fun d2 H2 r d0 d1 B2 e2 nr=>
  q r (.num d2) _ je (Nat.zero_le _) ⟨d0,d1⟩ (B2.upd_new nr) ((K1.trans (But.of_eq e2)).upd_new nr)
 refine seqF fun F1 f1=>⟨_,rfl,_,_,rfl,rfl,_,rfl,?_⟩
 by_cases c:kd < (2:Int)
 ·refine ifY (decide_eq_true c) ⟨_,rfl,_,rfl,p,g,1,ys,rfl,B1,hg1,hy1,hy2,by decide,by decide,fun r T H2 t2 dp gd B2 k2=>q r T H2 t2 (by omega) gd B2 (K1.trans k2)⟩
 refine ifX (decide_eq_false c) (f1 _ _ ?_)
 clear f1
 refine seqF fun F1 f1=>⟨_,rfl,rfl,_,rfl,?_⟩
 by_cases c2:kd=2
 ·rw[c2]
  refine ifY (by decide+kernel) ⟨_,_,rfl,rfl,⟨by decide,by decide,by decide⟩,_,_,rfl,rfl,_,rfl,p,4,rfl,B1,by decide,by decide,fun d2 H2 d0 d1 B2 e2=>⟨_,_,rfl,rfl,sz2,fun r nr=>?_⟩⟩
  rw[t18]
  exact num _ H2 r (by omega) (by omega) B2 e2 nr
 ·refine ifX (decide_eq_false (fun z=>c2 (by injection z))) (f1 _ _ ?_)
  exact⟨_,rfl,p,12,rfl,B1,by decide,by decide,fun d2 H2 d0 d1 B2 e2=>⟨sz2,fun r nr=>num d2 H2 r d0 (by omega) B2 e2 nr⟩⟩
theorem scCells:FnScope ["_law_box_here","_law_cells_here","_law_k","_law_cell"] ["_law_box_here"] (defScope sCells):=fsc
theorem ZN{f:Addr}{fd:FuncData}{fT fU:Addr}{fdT fdU:FuncData}(F:Fun K "_law_cells" "_law_cells" sCells f fd)(GT:FnOk P w K mg base CX0 1 fT fdT ["_law_box_here","_law_wide"] spTake)(bT:Binds K fdT ["_law_box_here","_law_wide"] [])(kT:keepIn K (.ref fT)=true)(mT:mg "_law_take"=some (.ref fT))(GU:FnOk P w K mg base CX0 2 fU fdU ["_law_box_here"] spNum)(bU:Binds K fdU ["_law_box_here"] [])(kU:keepIn K (.ref fU)=true)(mU:mg "_law_number"=some (.ref fU))(mr:mg "range"=none):FnOk P w K mg base CX0 3 f fd ["_law_box_here"] spCells:=by
 refine F.ok scCells (fun vs H Q E h=>?_) (fun cdv A outer s H vs Q E hr h=>?_)
 ·refine opq fun Gq kq=>?_
  obtain⟨p,rfl,_⟩:=h
  refine kq ?_
  clear kq
  rfl
 refine opq fun Gq kq=>?_
 obtain⟨p,rfl,B,q⟩:=h
 refine kq ?_
 clear kq
 refine⟨_,(jd (jo (i:=1) scCells.nd rfl (Or.inl rfl) (@J2 _ _)) (jd (@zJ _ _ _ _ _ _ _ _ PassesOwn.never rfl (@kQ _ _ _ _ _ _ rfl mr (ja (jh GT hr.m rfl mT kT bT .nil pass0 (ja (pv 0) (ja jc jb))) jb) (by rfl)) (jx (i:=2) scCells.nd rfl (Or.inl rfl)) (jd (jo (i:=3) scCells.nd rfl (Or.inl rfl) (jh GT hr.m rfl mT kT bT .nil pass0 (ja (pv 0) (ja jc jb)))) (jd (jy (@jp _ _ _ _ _ _ _ _ jD (jh GT hr.m rfl mT kT bT .nil pass0 (ja (pv 0) (ja jc jb))) jc (nomark _)) (jj (jo (i:=3) scCells.nd rfl (Or.inl rfl) (jw zf (jw zf (jw Je jc jc) jc) (jh GT hr.m rfl mT kT bT .nil pass0 (ja (pv 0) (ja jc jb)))))) jq) (jj (@jY _ _ _ _ _ _ _ _ _ (jM hr) (pv 1) (pv 3) (jh GU hr.m rfl mU kU bU .nil pass0 (ja (pv 0) jb)) rfl)))) (by intro _;rfl)) (jj (jv (pv 1))))),?_⟩
 try dsimp only[cxOf,Cx.nox,Cx.wish]
 have big:=line24
 have t18:=ten18
 refine seqF fun F1 f1=>fun l nl=>f1 _ _ ?_
 clear f1
 have s1:Same H (upd H l (.dK [])):=jg nl
 have e1:upd H l (.dK []) l=some (.dK []):=je
 generalize upd H l (.dK [])=H1 at s1 e1
 have lp:l≠p:=B.ne nl
 have B1:=B.same s1
 refine seqF fun F1 f1=>forE fun J j=>⟨_,rfl,p,14,rfl,B1,by decide,by decide,fun d H2 d0 d1 B2 e2=>⟨_,rfl,by omega,by omega,j _ _ ?_⟩⟩
 clear j
 refine zS (lo:=0) (CL p l H) ⟨none,none,[],rfl,by rw[e2 l lp];exact e1,K12.GT.nil,Nat.le_refl _,B2,(But.of_same s1).trans (But.of_eq e2)⟩ ?_ (fun σ H' h=>f1 _ _ ?_)
 ·clear f1
  intro E0 _ i σ H3 hi fE Gq kq h
  obtain⟨o2,o3,C,rfl,hl,gC,lC,B3,k3⟩:=h
  refine kq ?_
  clear kq
  show tSeq (tAsg _ _) _ E0 _ _
  refine seqF fun F1 f1=>⟨_,rfl,p,14,rfl,B3,by decide,by decide,fun c4 H4 d40 d41 B4 e4=>f1 _ _ ?_⟩
  clear f1
  refine seqF fun F1 f1=>?_
  have cont:∀(cc:Int) (HH:Hp),BoxAt HH p->(∀b,b≠p->HH b=H3 b)->F1 [some (.ref p),some (.ref l),some (.int (0+(i:Int))),some (.int cc)] HH:=fun cc HH BH eH=>f1 _ _ (by
   refine⟨_,rfl,p,rfl,BH,fun m H7 m0 m1 B7 e7=>?_⟩
   have h7:H7 l=some (.dK C):=by rw[e7 l lp,eH l lp];exact hl
   have pl:=zF C (.inl cc) (.int m)
   exact⟨_,rfl,_,rfl,l,_,rfl,DPut.k (k:=.inl cc) h7 (by omega),fE _ _ ⟨_,_,_,rfl,je,gC.put _ ⟨m0,m1⟩,by omega,B7.eq (jf (Ne.symm lp)),(k3.trans ((But.of_eq eH).trans (But.of_eq e7))).upd_own nl⟩⟩)
  refine ifE fun G1 kT kF=>⟨_,rfl,p,8,rfl,B4,by decide,by decide,fun d5 H5 d50 d51 B5 e5=>⟨rfl,_,rfl,?_⟩⟩
  by_cases h3:d5=0
  ·rw[h3,decide_eq_true (rfl:V.int 0=V.int 0)]
   refine kT _ ⟨_,_,rfl,rfl,⟨by decide,by decide,by decide⟩,_,_,rfl,rfl,_,rfl,p,4,rfl,B5,by decide,by decide,fun d6 H6 d60 d61 B6 e6=>⟨_,_,rfl,rfl,cont _ H6 B6 fun b nb=>(e6 b nb).trans ((e5 b nb).trans (e4 b nb))⟩⟩
  ·rw[decide_eq_false (fun z=>h3 (by injection z))]
   exact kF _ (cont _ H5 B5 fun b nb=>(e5 b nb).trans (e4 b nb))
 ·obtain⟨o2,o3,C,rfl,hl,gC,lC,B3,k3⟩:=h
  exact⟨_,rfl,q l C H' nl hl gC (by omega) B3 k3⟩
noncomputable abbrev sLW:Stmt:=top 41
def spLW(n:Nat):Sp:=fun vs H Q _=>∃(a d:Addr) (T:Tm) (ys:List Str) (kvs:Tab),vs=[.ref a,.ref d]/\TmAt H T a/\T.depth < n/\T.Good ys/\H d=some (.dK kvs)/\GT kvs/\∀H',Same H H'->Q (.int (T.ev kvs)) H'
theorem scLW:FnScope ["_law_term_here","_law_held","_law_one","_law_other"] ["_law_term_here","_law_held"] (defScope sLW):=fsc
theorem ok_lw{f:Addr}{fd:FuncData}(F:Fun K "_law_worth" "_law_worth" sLW f fd){n:Nat}(G:FnOk P w K mg base CX0 (n+1) f fd ["_law_term_here","_law_held"] (spLW n))(bF:Binds K fd ["_law_term_here","_law_held"] [])(kF:keepIn K (.ref f)=true)(mF:mg "_law_worth"=some (.ref f))(mi:mg "int"=none)(mm:mg "max"=none):FnOk P w K mg base CX0 (n+2) f fd ["_law_term_here","_law_held"] (spLW (n+1)):=by
 refine F.ok scLW (fun vs H Q E h=>?_) (fun cdv A outer s H vs Q E hr h=>?_)
 ·refine opq fun Gq kq=>?_
  obtain⟨a,d,T,ys,kvs,rfl,_⟩:=h
  refine kq ?_
  clear kq
  rfl
 refine opq fun Gq kq=>?_
 obtain⟨a,d,T,ys,kvs,rfl,ta,dp,gd,hd,gk,q⟩:=h
 refine kq ?_
 clear kq
 refine⟨_,(jd (jy (@jp _ _ _ _ _ _ _ _ jD (@jm _ _ _ _ _ _ _ ju (pv 0) jc (fun _ _=>rfl)) ji (nomark _)) (jj (jv (@jm _ _ _ _ _ _ _ ju (pv 0) jc (fun _ _=>rfl)))) jq) (jd (jy (@jp _ _ _ _ _ _ _ _ jD (@jm _ _ _ _ _ _ _ ju (pv 0) jc (fun _ _=>rfl)) ji (nomark _)) (jj (jv (@qW _ _ _ _ _ _ _ _ _ (jM hr) (pv 1) (@jm _ _ _ _ _ _ _ ju (pv 0) jc (fun _ _=>rfl)) jc ⟨by rfl,by rfl,by rfl,by rfl⟩))) jq) (jd (jo (i:=2) scLW.nd rfl (Or.inl rfl) (jh G hr rfl mF kF bF .nil pass0 (ja (@jm _ _ _ _ _ _ _ ju (pv 0) jc (fun _ _=>rfl)) (ja (pv 1) jb)))) (jd (jo (i:=3) scLW.nd rfl (Or.inl rfl) (jh G hr rfl mF kF bF .nil pass0 (ja (@jm _ _ _ _ _ _ _ ju (pv 0) jc (fun _ _=>rfl)) (ja (pv 1) jb)))) (jd (jy (@jp _ _ _ _ _ _ _ _ jD (@jm _ _ _ _ _ _ _ ju (pv 0) jc (fun _ _=>rfl)) ji (nomark _)) (jj (jv (@jm _ _ _ _ _ _ _ jr (jH (ja (jw qU (pv 2) (@jG _ _ _ _ _ _ _ _ _ (X2 rfl) rfl mm boot_max (ja jc (ja (pv 3) jb)) (by decide) (by decide) (by rfl) (by rfl))) (ja jc jb))) (@jF _ _ _ _ _ _ _ _ _ jV rfl mi boot_int (ja (@j5 _ _ _ _ _ _ _ _ jD (pv 3) jc (nomark _)) jb) (by decide) (by decide) (by rfl) (by rfl)) (fun _ _=>rfl)))) jq) (jd (jy (@jp _ _ _ _ _ _ _ _ jD (@jm _ _ _ _ _ _ _ ju (pv 0) jc (fun _ _=>rfl)) ji (nomark _)) (jj (jv (@jF _ _ _ _ _ _ _ _ _ jV rfl mi boot_int (ja (@j5 _ _ _ _ _ _ _ _ JK (pv 2) (pv 3) (nomark _)) jb) (by decide) (by decide) (by rfl) (by rfl)))) jq) (jd (jy (@jp _ _ _ _ _ _ _ _ jD (@jm _ _ _ _ _ _ _ ju (pv 0) jc (fun _ _=>rfl)) ji (nomark _)) (jj (jv (@jF _ _ _ _ _ _ _ _ _ jV rfl mi boot_int (ja (@j5 _ _ _ _ _ _ _ _ jD (pv 2) (pv 3) (nomark _)) jb) (by decide) (by decide) (by rfl) (by rfl)))) jq) (jj (jv (jw kH (@jm _ _ _ _ _ _ _ jr (jH (ja (jw jO (pv 2) (pv 3)) (ja (jw zf (pv 2) (pv 3)) (ja (jw kG (pv 2) (pv 3)) jb)))) (@ze _ _ _ _ _ _ _ _ _ _ _ _ PySem.F.plainAttrs_str PySem.F.slot_str_index PySem.F.type_str_index Zw ji (ja (@jm _ _ _ _ _ _ _ ju (pv 0) jc (fun _ _=>rfl)) jb) (by rfl) (by rfl) (by rfl) (by rfl) (by rfl)) (fun _ _=>rfl)) (jw Je jc jc))))))))))),?_⟩
 try dsimp only[cxOf,Cx.nox,Cx.wish]
 cases T with
 |num m=>
  have ha:H a=some (.tup [.str "num",.int m]):=ta
  exact seqF fun F1 f1=>⟨_,rfl,a,_,_,_,rfl,rfl,SqT.of ha,rfl,rfl,_,rfl,ifY (by decide+kernel) ⟨_,rfl,a,_,_,_,rfl,rfl,SqT.of ha,rfl,q H (Same.refl H)⟩⟩
 |var x=>
  have ha:H a=some (.tup [.str "var",.str x]):=ta
  refine seqF fun F1 f1=>⟨_,rfl,a,_,_,_,rfl,rfl,SqT.of ha,rfl,rfl,_,rfl,ifX (by decide+kernel) (f1 _ _ ?_)⟩
  refine seqF fun F1 f1=>⟨_,rfl,a,_,_,_,rfl,rfl,SqT.of ha,rfl,rfl,_,rfl,ifY (by decide+kernel) ⟨_,rfl,d,rfl,.inl ⟨kvs,.inl hd⟩,_,rfl,a,_,_,_,rfl,rfl,SqT.of ha,rfl,_,DGet.k (k:=Sum.inr x) hd,?_⟩⟩
  rw[qY gk]
  exact q H (Same.refl H)
 |op i t1 t2=>
  obtain⟨p1,p2,ha,h1,h2⟩:=ta
  have dp':max t1.depth t2.depth+1 < n+1:=dp
  refine seqF fun F1 f1=>⟨_,rfl,a,_,_,_,rfl,rfl,SqT.of ha,rfl,rfl,_,rfl,ifX (by decide+kernel) (f1 _ _ ?_)⟩
  clear f1
  refine seqF fun F1 f1=>⟨_,rfl,a,_,_,_,rfl,rfl,SqT.of ha,rfl,rfl,_,rfl,ifX (by decide+kernel) (f1 _ _ ?_)⟩
  clear f1
  refine seqF fun F1 f1=>⟨_,rfl,a,_,_,_,rfl,rfl,SqT.of ha,rfl,_,rfl,p1,d,t1,ys,kvs,rfl,h1,by omega,gd.2.1,hd,gk,fun H1 s1=>f1 _ _ ?_⟩
  clear f1
  refine seqF fun F1 f1=>⟨_,rfl,a,_,_,_,rfl,rfl,SqT.of (s1 _ _ ha),rfl,_,rfl,p2,d,t2,ys,kvs,rfl,h2.same s1,by omega,gd.2.2,s1 _ _ hd,gk,fun H2 s2=>f1 _ _ ?_⟩
  clear f1
  have s12:Same H H2:=s1.trans s2
  replace ha:=s12 _ _ ha
  have qq:∀H',Same H2 H'->Q (.int (jn i (t1.ev kvs) (t2.ev kvs))) H':=fun H' s=>q H' (s12.trans s)
  obtain⟨hx0,hx1⟩:=zD gk gd.2.1
  obtain⟨hy0,hy1⟩:=zD gk gd.2.2
  have hi:=gd.1
  generalize t1.ev kvs=x at*
  generalize t2.ev kvs=y at*
  rcases(by omega:i=0∨i=1∨i=2∨i=3∨i=4∨i=5) with rfl |rfl |rfl |rfl |rfl |rfl
  ·refine seqF fun F1 f1=>⟨_,rfl,a,_,_,_,rfl,rfl,SqT.of ha,rfl,rfl,_,rfl,ifX (by decide+kernel) (f1 _ _ ?_)⟩
   clear f1
   refine seqF fun F1 f1=>⟨_,rfl,a,_,_,_,rfl,rfl,SqT.of ha,rfl,rfl,_,rfl,ifX (by decide+kernel) (f1 _ _ ?_)⟩
   clear f1
   refine seqF fun F1 f1=>⟨_,rfl,a,_,_,_,rfl,rfl,SqT.of ha,rfl,rfl,_,rfl,ifX (by decide+kernel) (f1 _ _ ?_)⟩
   clear f1
   refine⟨_,rfl,_,rfl,_,_,rfl,rfl,_,rfl,_,rfl,_,_,rfl,rfl,_,rfl,_,rfl,_,_,rfl,rfl,.inl ⟨by omega,by omega⟩,sz3,fun l nl=>?_⟩
   have ha':=keepN (o:=.lst [.int (x+y),.int (x - y),.int (x*y)]) ha nl
   refine⟨rfl,_,rfl,a,_,_,_,rfl,rfl,SqT.of ha',rfl,_,_,0,[],rfl,rfl,(by decide+kernel),l,_,_,_,rfl,rfl,SqL.of je,rfl,_,_,rfl,rfl,⟨by decide,by decide,by decide⟩,_,_,rfl,rfl,(by show(0:Int) < (10:Int) ^ (18:Int).toNat;decide),?_⟩
   rw[ten18]
   exact qq _ (jg nl)
  ·refine seqF fun F1 f1=>⟨_,rfl,a,_,_,_,rfl,rfl,SqT.of ha,rfl,rfl,_,rfl,ifX (by decide+kernel) (f1 _ _ ?_)⟩
   clear f1
   refine seqF fun F1 f1=>⟨_,rfl,a,_,_,_,rfl,rfl,SqT.of ha,rfl,rfl,_,rfl,ifX (by decide+kernel) (f1 _ _ ?_)⟩
   clear f1
   refine seqF fun F1 f1=>⟨_,rfl,a,_,_,_,rfl,rfl,SqT.of ha,rfl,rfl,_,rfl,ifX (by decide+kernel) (f1 _ _ ?_)⟩
   clear f1
   refine⟨_,rfl,_,rfl,_,_,rfl,rfl,_,rfl,_,rfl,_,_,rfl,rfl,_,rfl,_,rfl,_,_,rfl,rfl,.inl ⟨by omega,by omega⟩,sz3,fun l nl=>?_⟩
   have ha':=keepN (o:=.lst [.int (x+y),.int (x - y),.int (x*y)]) ha nl
   refine⟨rfl,_,rfl,a,_,_,_,rfl,rfl,SqT.of ha',rfl,_,_,1,[],rfl,rfl,(by decide+kernel),l,_,_,_,rfl,rfl,SqL.of je,rfl,_,_,rfl,rfl,⟨by decide,by decide,by decide⟩,_,_,rfl,rfl,(by show(0:Int) < (10:Int) ^ (18:Int).toNat;decide),?_⟩
   rw[ten18]
   exact qq _ (jg nl)
  ·refine seqF fun F1 f1=>⟨_,rfl,a,_,_,_,rfl,rfl,SqT.of ha,rfl,rfl,_,rfl,ifX (by decide+kernel) (f1 _ _ ?_)⟩
   clear f1
   refine seqF fun F1 f1=>⟨_,rfl,a,_,_,_,rfl,rfl,SqT.of ha,rfl,rfl,_,rfl,ifX (by decide+kernel) (f1 _ _ ?_)⟩
   clear f1
   refine seqF fun F1 f1=>⟨_,rfl,a,_,_,_,rfl,rfl,SqT.of ha,rfl,rfl,_,rfl,ifX (by decide+kernel) (f1 _ _ ?_)⟩
   clear f1
   refine⟨_,rfl,_,rfl,_,_,rfl,rfl,_,rfl,_,rfl,_,_,rfl,rfl,_,rfl,_,rfl,_,_,rfl,rfl,.inl ⟨by omega,by omega⟩,sz3,fun l nl=>?_⟩
   have ha':=keepN (o:=.lst [.int (x+y),.int (x - y),.int (x*y)]) ha nl
   refine⟨rfl,_,rfl,a,_,_,_,rfl,rfl,SqT.of ha',rfl,_,_,2,[],rfl,rfl,(by decide+kernel),l,_,_,_,rfl,rfl,SqL.of je,rfl,_,_,rfl,rfl,⟨by decide,by decide,by decide⟩,_,_,rfl,rfl,(by show(0:Int) < (10:Int) ^ (18:Int).toNat;decide),?_⟩
   rw[ten18]
   exact qq _ (jg nl)
  ·refine seqF fun F1 f1=>⟨_,rfl,a,_,_,_,rfl,rfl,SqT.of ha,rfl,rfl,_,rfl,ifY (by decide+kernel) ?_⟩
   refine⟨_,rfl,_,rfl,_,_,rfl,_,_,rfl,rfl,⟨by split<;>omega,by split<;>omega⟩,sz2,fun l nl=>?_⟩
   have q':=qq _ (jg (o:=.lst [.int (x / (if (y:Int) > 1 then y else 1)),.int 0]) nl)
   have q2:Q (.int (if y=0 then 0 else x / y)) (upd H2 l (.lst [.int (x / (if (y:Int) > 1 then y else 1)),.int 0])):=q'
   refine⟨_,rfl,rfl,.inr ⟨_,rfl,l,_,_,_,rfl,rfl,SqL.of je,(?_:atI _ _=some (.int (if y=0 then 0 else x / y))),q2⟩⟩
   by_cases e:y=0
   ·rw[e];rfl
   ·rw[if_neg e,decide_eq_false (fun z=>e (by injection z))]
    show some (V.int (x / (if (y:Int) > 1 then y else 1)))=_
    by_cases g:(y:Int) > 1
    ·rw[if_pos g]
    ·rw[if_neg g,show y=1 by omega]
  ·refine seqF fun F1 f1=>⟨_,rfl,a,_,_,_,rfl,rfl,SqT.of ha,rfl,rfl,_,rfl,ifX (by decide+kernel) (f1 _ _ ?_)⟩
   clear f1
   refine seqF fun F1 f1=>⟨_,rfl,a,_,_,_,rfl,rfl,SqT.of ha,rfl,rfl,_,rfl,ifY (by decide+kernel) ?_⟩
   have q':Q (.int (if x < y then 1 else 0)) H2:=qq _ (Same.refl H2)
   refine⟨_,rfl,_,rfl,_,_,rfl,rfl,.inr ⟨_,rfl,?_⟩⟩
   by_cases e:x < y
   ·rw[if_pos e]at q';rw[decide_eq_true e];exact q'
   ·rw[if_neg e]at q';rw[decide_eq_false e];exact q'
  ·refine seqF fun F1 f1=>⟨_,rfl,a,_,_,_,rfl,rfl,SqT.of ha,rfl,rfl,_,rfl,ifX (by decide+kernel) (f1 _ _ ?_)⟩
   clear f1
   refine seqF fun F1 f1=>⟨_,rfl,a,_,_,_,rfl,rfl,SqT.of ha,rfl,rfl,_,rfl,ifX (by decide+kernel) (f1 _ _ ?_)⟩
   clear f1
   refine seqF fun F1 f1=>⟨_,rfl,a,_,_,_,rfl,rfl,SqT.of ha,rfl,rfl,_,rfl,ifY (by decide+kernel) ?_⟩
   have q':Q (.int (if x=y then 1 else 0)) H2:=qq _ (Same.refl H2)
   refine⟨_,rfl,_,rfl,rfl,.inr ⟨_,rfl,?_⟩⟩
   by_cases e:x=y
   ·rw[if_pos e]at q';rw[decide_eq_true (by rw[e])];exact q'
   ·rw[if_neg e]at q';rw[decide_eq_false (fun z=>e (by injection z))];exact q'
theorem no_lw{f:Addr}{fd:FuncData}:FnOk P w K mg base CX0 1 f fd ["_law_term_here","_law_held"] (spLW 0):=by
 have no:∀vs H Q E,¬spLW 0 vs H Q E:=fun vs H Q E h=>by
  obtain⟨a,d,T,ys,kvs,_,_,h1,_⟩:=h
  exact absurd h1 (Nat.not_lt_zero _)
 exact⟨fun vs H Q E h=>absurd h (no vs H Q E),fun A outer s H args us vs Q E _ _ _ _ h=>absurd h (no vs H Q E)⟩
theorem lws{f:Addr}{fd:FuncData}(F:Fun K "_law_worth" "_law_worth" sLW f fd)(bF:Binds K fd ["_law_term_here","_law_held"] [])(mF:mg "_law_worth"=some (.ref f))(mi:mg "int"=none)(mm:mg "max"=none):
  ∀n:Nat,FnOk P w K mg base CX0 (n+1) f fd ["_law_term_here","_law_held"] (spLW n)
 |0=>no_lw
 |n+1=>ok_lw F (lws F bF mF mi mm n) bF F.kp mF mi mm
noncomputable abbrev sStm:Stmt:=top 31
noncomputable abbrev sBody:Stmt:=top 32
theorem But.two{p q:Addr}{H H':Hp}(a:But p H H'):But2 p q H H':=fun c o n _ h=>a c o n h
theorem But2.at{p q:Addr}{H:Hp}{o:HO}:But2 p q H (upd H q o):=fun b u _ m e=>by rw[jf m];exact e
def SpAt(H:Hp)(q:Addr):Prop:=∃k:Int,H q=some (.lst [.int k])
theorem SpAt.new{H:Hp}{q r:Addr}{o:HO}(h:SpAt H q)(n:H r=none):SpAt (upd H r o) q:=let ⟨k,e⟩:=h;⟨k,keepN e n⟩
theorem SpAt.ne{H:Hp}{p q:Addr}(h:SpAt H q)(B:BoxAt H p):q≠p:=by
 obtain⟨k,e⟩:=h
 refine opq fun Gq kq=>?_
 obtain⟨a,b,_,_,_,hp⟩:=B.ob
 refine kq ?_
 clear kq
 exact jz e hp (by intro z;cases z)
theorem SpAt.but{H H':Hp}{p q:Addr}(h:SpAt H q)(B:BoxAt H p)(k:But p H H'):SpAt H' q:=by
 have n:=h.ne B
 obtain⟨z,e⟩:=h
 exact⟨z,k _ _ n e⟩
theorem But2.tm{p q:Addr}{H H':Hp}(k:But2 p q H H')(B:BoxAt H p)(s:SpAt H q):TMono H H':=fun b xs e=>by
 refine opq fun Gq kq=>?_
 obtain⟨a,c,_,_,_,hp⟩:=B.ob
 refine kq ?_
 clear kq
 obtain⟨z,hs⟩:=s
 exact k b _ (jz e hp (by intro w;cases w)) (jz e hs (by intro w;cases w)) e
noncomputable def spK(H:Hp)(q:Addr):Int:=match H q with
 |some (.lst [.int k])=>k
 |_=>0
theorem Jf{H:Hp}{q:Addr}{k:Int}(e:H q=some (.lst [.int k])):spK H q=k:=by unfold spK;rw[e]
theorem QU{H H':Hp}{q:Addr}(s:SpAt H q)(k:∀o,H q=some o->H' q=some o):spK H' q=spK H q:=by
 obtain⟨z,e⟩:=s
 rw[Jf e,Jf (k _ e)]
theorem j7{H H':Hp}{p q:Addr}(B:BoxAt H p)(s:SpAt H q)(k:But p H H'):spK H' q=spK H q:=QU s fun o e=>k _ _ (s.ne B) e
theorem j4{H H':Hp}{q:Addr}(s:SpAt H q)(k:Same H H'):spK H' q=spK H q:=QU s fun o e=>k _ _ e
def HdV(H:Hp)(c:Str×List Str)(v:V):Prop:=∃p t,v= .ref p/\H p=some (.tup [.str c.1,.ref t])/\H t=some (.tup (c.2.map V.str))
def HdsV(H:Hp):List (Str×List Str)->List V->Prop
 | [],vs=>vs=[]
 |c::cs,vs=>∃v r,vs=v::r/\HdV H c v/\HdsV H cs r
theorem HdsV.mono{H H':Hp}(k:TMono H H'):∀{cs:List (Str×List Str)} {vs:List V},HdsV H cs vs->HdsV H' cs vs
 | [],_,h=>h
 |_::_,_,⟨v,r,e,⟨p,t,e1,h1,h2⟩,h4⟩=>⟨v,r,e,⟨p,t,e1,k _ _ h1,k _ _ h2⟩,HdsV.mono k h4⟩
theorem HdsV.snoc{H:Hp}{c:Str×List Str}{v:V}(hv:HdV H c v):∀{cs:List (Str×List Str)} {vs:List V},HdsV H cs vs->HdsV H (cs++[c]) (vs++[v])
 | [],_,h=>by have e:_=[]:=h;rw[e];exact⟨v,[],rfl,hv,rfl⟩
 |_::_,_,⟨u,r,e,h1,h4⟩=>⟨u,r++[v],by rw[e];rfl,h1,HdsV.snoc hv h4⟩
theorem HdsV.len{H:Hp}:∀{cs:List (Str×List Str)} {vs:List V},HdsV H cs vs->vs.length=cs.length
 | [],_,h=>by have e:_=[]:=h;rw[e];rfl
 |_::_,_,⟨u,r,e,h1,h4⟩=>by rw[e,List.length_cons,List.length_cons,HdsV.len h4]
theorem HdsV.at{H:Hp}:∀{cs:List (Str×List Str)} {vs:List V},HdsV H cs vs->∀(i:Nat) (v:V),vs[i]?=some v->∃c,cs[i]?=some c/\HdV H c v
 | [],_,h,i,v,hv=>by have e:_=[]:=h;rw[e]at hv;simp at hv
 |c::_,_,⟨u,r,e,h1,h4⟩,0,v,hv=>by rw[e]at hv;cases hv;exact⟨c,rfl,h1⟩
 |_::cs,_,⟨u,r,e,h1,h4⟩,i+1,v,hv=>by rw[e]at hv;simpa using HdsV.at h4 i v (by simpa using hv)
theorem ref_at{H:Hp}{cs:List (Str×List Str)}{vs:List V}(h:HdsV H cs vs){k:Int}(h0:0<=k)(h1:k < (vs.length:Int)):∃v c,atI vs k=some v/\c∈cs/\HdV H c v:=by
 have hk:k.toNat < vs.length:=by omega
 have ek:k=((k.toNat:Nat):Int):=by omega
 have e1:vs[k.toNat]?=some vs[k.toNat]:=List.getElem?_eq_getElem hk
 have e:atI vs ((k.toNat:Nat):Int)=some vs[k.toNat]:=j6 e1
 rw[<- ek]at e
 obtain⟨c,hc,hv⟩:=h.at _ _ e1
 exact⟨_,c,e,List.mem_of_getElem? hc,hv⟩
noncomputable def Bd.dep:Bd->Nat
 | .nil=>0
 | .lf _ r=>r.dep
 | .ite _ a b r=>max (max a.dep b.dep+1) r.dep
 | .loop _ a r=>max (a.dep+1) r.dep
theorem qN(s:Bd):∀b:Bd,(b.app s).dep=max b.dep s.dep
 | .nil=>by show s.dep=max 0 s.dep;omega
 | .lf _ r=>qN s r
 | .ite _ a b r=>by show max (max a.dep b.dep+1) (r.app s).dep=max (max (max a.dep b.dep+1) r.dep) s.dep;rw[qN s r];omega
 | .loop _ a r=>by show max (a.dep+1) (r.app s).dep=max (max (a.dep+1) r.dep) s.dep;rw[qN s r];omega
theorem zn(s:Bd):∀b:Bd,(b.app s).size=b.size+s.size
 | .nil=>by show s.size=0+s.size;omega
 | .lf _ r=>by show(r.app s).size+1=r.size+1+s.size;rw[zn s r];omega
 | .ite _ a b r=>by show a.size+b.size+(r.app s).size+1=a.size+b.size+r.size+1+s.size;rw[zn s r];omega
 | .loop _ a r=>by show a.size+(r.app s).size+1=a.size+r.size+1+s.size;rw[zn s r];omega
def Lf.cs(R:Str->Nat->Prop):Lf->Prop
 | .cl _ f ts=>R f ts.length
 |_=>True
def Bd.cs(R:Str->Nat->Prop):Bd->Prop
 | .nil=>True
 | .lf l r=>l.cs R/\r.cs R
 | .ite _ a b r=>a.cs R/\b.cs R/\r.cs R
 | .loop _ a r=>a.cs R/\r.cs R
theorem qx{R:Str->Nat->Prop}{s:Bd}(hs:s.cs R):∀{b:Bd},b.cs R->(b.app s).cs R
 | .nil,_=>hs
 | .lf _ _,h=>⟨h.1,qx hs h.2⟩
 | .ite _ _ _ _,h=>⟨h.1,h.2.1,qx hs h.2.2⟩
 | .loop _ _ _,h=>⟨h.1,qx hs h.2⟩
theorem zV{R S:Str->Nat->Prop}(k:∀f n,R f n->S f n):∀{b:Bd},b.cs R->b.cs S
 | .nil,_=>trivial
 | .lf l _,h=>⟨(by cases l<;>first |trivial |exact k _ _ h.1),zV k h.2⟩
 | .ite _ _ _ _,h=>⟨zV k h.1,zV k h.2.1,zV k h.2.2⟩
 | .loop _ _ _,h=>⟨zV k h.1,zV k h.2⟩
def Bd.sm(S:Nat):Bd->Prop
 | .nil=>True
 | .lf _ r=>r.sm S
 | .ite _ a b r=>a.sm S/\b.sm S/\r.sm S
 | .loop _ a r=>a.size<=S/\a.sm S/\r.sm S
theorem JN{S:Nat}:∀{b:Bd},b.size<=S->b.sm S
 | .nil,_=>trivial
 | .lf _ r,h=>by have h':r.size+1<=S:=h;exact JN (b:=r) (by omega)
 | .ite _ a b r,h=>by have h':a.size+b.size+r.size+1<=S:=h;exact⟨JN (by omega),JN (by omega),JN (by omega)⟩
 | .loop _ a r,h=>by have h':a.size+r.size+1<=S:=h;exact⟨by omega,JN (by omega),JN (by omega)⟩
theorem Jg{S:Nat}{s:Bd}(hs:s.sm S):∀{b:Bd},b.sm S->(b.app s).sm S
 | .nil,_=>hs
 | .lf _ r,h=>Jg hs (b:=r) h
 | .ite _ _ _ _,h=>⟨h.1,h.2.1,Jg hs h.2.2⟩
 | .loop _ _ _,h=>⟨h.1,h.2.1,Jg hs h.2.2⟩
def Rh(hs:List (Str×List Str))(f:Str)(n:Nat):Prop:=∃c∈hs,c.1=f/\c.2.length=n
def Bd.fit(R:Str->Nat->Prop)(d:Nat)(b:Bd):Prop:=b.Ok/\b.dep<=d/\b.cs R
section
variable {R:Str->Nat->Prop}{d:Nat}
theorem XJ:Bd.fit R d .nil:=⟨trivial,Nat.zero_le _,trivial⟩
theorem fit_lf{l:Lf}(h:l.Ok)(c:l.cs R):Bd.fit R d (.lf l .nil):=⟨⟨h,trivial⟩,Nat.zero_le _,c,trivial⟩
theorem XL{a b:Bd}(h:a.fit R d)(k:b.fit R d):(a.app b).fit R d:=⟨Bd.Ok.app k.1 h.1,by rw[qN];have:=h.2.1;have:=k.2.1;omega,qx k.2.2 h.2.2⟩
theorem fit_ite{T:Tm}{a b:Bd}(hT:TOk T)(ta:a.top<=200)(tb:b.top<=200)(h:a.fit R d)(k:b.fit R d):Bd.fit R (d+1) (.ite T a b .nil):=⟨⟨⟨hT,ta,tb⟩,h.1,k.1,trivial⟩,by show max (max a.dep b.dep+1) 0<=d+1;have:=h.2.1;have:=k.2.1;omega,h.2.2,k.2.2,trivial⟩
theorem ZO{T:Tm}{a:Bd}(hT:TOk T)(ta:a.top<=200)(h:a.fit R d):Bd.fit R (d+1) (.loop T a .nil):=⟨⟨⟨hT,ta⟩,h.1,trivial⟩,by show max (a.dep+1) 0<=d+1;have:=h.2.1;omega,h.2.2,trivial⟩
end
theorem Za{H:Hp}:∀{ts:List (Addr×Tm)},(∀c∈ts,TmAt H c.2 c.1)->TmsAt H (ts.map fun c=>c.2) (ts.map fun c=>V.ref c.1)
 | [],_=>rfl
 |c::ts,h=>⟨c.1,_,rfl,h c List.mem_cons_self,Za fun d hd=>h d (List.mem_cons_of_mem _ hd)⟩
structure Gen(H:Hp)(p g h sp:Addr)(ys:List Str)(hs:List (Str×List Str)):Prop where
 B:BoxAt H p
 g:H g=some (.lst (ys.map V.str))
 y1:1<=ys.length
 y2:ys.length<=20
 h:∃hv,H h=some (.lst hv)/\HdsV H hs hv
 h1:1<=hs.length
 h2:hs.length<=20
 h3:∀c∈hs,c.2.length<=6
 s:SpAt H sp
theorem Gen.gsp{H:Hp}{p g h sp:Addr}{ys:List Str}{hs:List (Str×List Str)}(G:Gen H p g h sp ys hs):g≠sp:=by
 obtain⟨k,e⟩:=G.s
 refine jz G.g e fun z=>?_
 injection z with z
 have hy:=G.y1
 match ys,hy,z with
 |a::r,_,z=>injection z with z1 _;cases z1
theorem Gen.hsp{H:Hp}{p g h sp:Addr}{ys:List Str}{hs:List (Str×List Str)}(G:Gen H p g h sp ys hs):h≠sp/\h≠p:=by
 obtain⟨k,e⟩:=G.s
 obtain⟨hv,e1,e2⟩:=G.h
 refine opq fun Gq kq=>?_
 obtain⟨a,b,_,_,_,hp⟩:=G.B.ob
 refine kq ?_
 clear kq
 have hl:=G.h1
 have:∃q r,hv= .ref q::r:=by
  match hs,hl,e2 with
  |c::cs,_,⟨v,r,e,⟨q,t,e3,_⟩,_⟩=>exact⟨q,r,by rw[e,e3]⟩
 obtain⟨q,r,rfl⟩:=this
 refine⟨jz e1 e fun z=>?_,jz e1 hp fun z=>?_⟩
 ·injection z with z
  injection z with z1 _
  cases z1
 ·injection z with z
  injection z with z1 _
  cases z1
theorem Gen.but2{H H':Hp}{p g h sp:Addr}{ys:List Str}{hs:List (Str×List Str)}(G:Gen H p g h sp ys hs)(B:BoxAt H' p)(s:SpAt H' sp)(k:But2 p sp H H'):Gen H' p g h sp ys hs:=by
 obtain⟨hv,e1,e2⟩:=G.h
 exact⟨B,k _ _ (zZ G.B G.g) G.gsp G.g,G.y1,G.y2,⟨hv,k _ _ G.hsp.2 G.hsp.1 e1,e2.mono (k.tm G.B G.s)⟩,G.h1,G.h2,G.h3,s⟩
theorem Gen.but{H H':Hp}{p g h sp:Addr}{ys:List Str}{hs:List (Str×List Str)}(G:Gen H p g h sp ys hs)(B:BoxAt H' p)(k:But p H H'):Gen H' p g h sp ys hs:=G.but2 B (G.s.but G.B k) k.two
def spStm(n:Nat):Sp:=fun vs H Q _=>∃(p g h sp:Addr) (d:Nat) (ys:List Str) (hs:List (Str×List Str)),vs=[.ref p,.ref g,.ref h,.ref sp,.int (d:Int)]/\Gen H p g h sp ys hs/\d < n/\0 < spK H sp/\
 ∀(r:Addr) (b:Bd) (H':Hp),BdV H' b [.ref r]->(b.size:Int)+spK H' sp<=spK H sp->0<=spK H' sp->b.fit (Rh hs) d->BoxAt H' p->SpAt H' sp->But2 p sp H H'->Q (.ref r) H'
def spBody(n:Nat):Sp:=fun vs H Q _=>∃(p g h sp:Addr) (d:Nat) (ys:List Str) (hs:List (Str×List Str)),vs=[.ref p,.ref g,.ref h,.ref sp,.int (d:Int)]/\Gen H p g h sp ys hs/\d < n/\0<=spK H sp/\
 ∀(r:Addr) (b:Bd) (bs:List V) (H':Hp),H' r=some (.tup bs)->BdV H' b bs->bs.length<=5->(b.size:Int)+spK H' sp<=spK H sp->0<=spK H' sp->b.fit (Rh hs) d->BoxAt H' p->SpAt H' sp->But2 p sp H H'->Q (.ref r) H'
theorem scStm:FnScope ["_law_box_here","_law_names_here","_law_heads","_law_spare","_law_deep","_law_kind","_law_x","_law_f","_law_params","_law_body_here"] ["_law_box_here","_law_names_here","_law_heads","_law_spare","_law_deep"] (defScope sStm):=fsc
noncomputable def YC:Scope:=⟨.function,[(".0",.local),("_law_one",.local),("_law_term",.globalImplicit),("_law_box_here",.free),("_law_names_here",.free)],false,false,[]⟩
theorem nd_stm:(["_law_one","_law_box_here","_law_names_here"]:List Str).Nodup:=by decide+kernel
theorem cs_stm:CompSc ["_law_box_here","_law_names_here","_law_heads","_law_spare","_law_deep","_law_kind","_law_x","_law_f","_law_params","_law_body_here"] (defScope sStm) YC ["_law_one","_law_box_here","_law_names_here"] 1 [0,1]:=csc
def RH(p g h sp:Addr)(d:Nat)(kd:Int)(y:Str)(H3:Hp)(σ':L2.St)(H':Hp):Prop:=σ'=[some (.ref p),some (.ref g),some (.ref h),some (.ref sp),some (.int (d:Int)),some (.int kd),some (.str y),none,none,none]/\H'=H3
theorem ok_stm{f:Addr}{fd:FuncData}(F:Fun K "_law_statement" "_law_statement" sStm f fd)(GT:FnOk P w K mg base CX0 1 fT fdT ["_law_box_here","_law_wide"] spTake)(bT:Binds K fdT ["_law_box_here","_law_wide"] [])(kT:keepIn K (.ref fT)=true)(mT:mg "_law_take"=some (.ref fT))(GM:FnOk P w K mg base CX0 6 fM fdM ["_law_box_here","_law_names_here","_law_deep"] (spTerm 4))(bM:Binds K fdM ["_law_box_here","_law_names_here","_law_deep"] [])(kM:keepIn K (.ref fM)=true)(mM:mg "_law_term"=some (.ref fM))(GP:FnOk P w K mg base CX0 5 fP fdP ["_law_box_here","_law_names_here"] spSpot)(bP:Binds K fdP ["_law_box_here","_law_names_here"] [])(kP:keepIn K (.ref fP)=true)(mP:mg "_law_spot"=some (.ref fP)){L n:Nat}(GB:FnOk P w K mg base CX0 (L+9) fB fdB ["_law_box_here","_law_names_here","_law_heads","_law_spare","_law_deep"] (spBody n))(bB:Binds K fdB ["_law_box_here","_law_names_here","_law_heads","_law_spare","_law_deep"] [])(kB:keepIn K (.ref fB)=true)(mB:mg "_law_body"=some (.ref fB))(ml:mg "len"=none)(mtu:mg "tuple"=none):FnOk P w K mg base CX0 (L+10) f fd ["_law_box_here","_law_names_here","_law_heads","_law_spare","_law_deep"] (spStm (n+1)):=by
 refine F.ok scStm (fun vs H Q E h=>?_) (fun cdv A outer s H vs Q E hr h=>?_)
 ·refine opq fun Gq kq=>?_
  obtain⟨p,g,h,sp,d,ys,hs,rfl,_⟩:=h
  refine kq ?_
  clear kq
  rfl
 refine opq fun Gq kq=>?_
 obtain⟨p,g,h,sp,d,ys,hs,rfl,G0,hd,hk0,q⟩:=h
 refine kq ?_
 clear kq
 refine⟨_,(jd (jo (i:=5) scStm.nd rfl (Or.inl rfl) (jh GT hr.m rfl mT kT bT .nil pass0 (ja (pv 0) (ja jc jb)))) (jd (jo (i:=6) scStm.nd rfl (Or.inl rfl) (@jm _ _ _ _ _ _ _ jr (pv 1) (jh GT hr.m rfl mT kT bT .nil pass0 (ja (pv 0) (ja (@jG _ _ _ _ _ _ _ _ _ jJ rfl ml PySem.boot_len (ja (pv 1) jb) (by decide) (by decide) (by rfl) (by rfl)) jb))) (fun _ _=>rfl))) (jd (@kE _ _ _ _ _ _ (jw zf (@jm _ _ _ _ _ _ _ jr (pv 3) jc (fun _ _=>rfl)) jc) (@qv _ _ _ _ _ _ _ (pv 3) jc zB (by intro _;rfl)) (by rfl) (by rfl) (by rfl)) (jd (jy (@jp _ _ _ _ _ _ _ _ JK (pv 5) jc (nomark _)) (jj (jv (jk (ja ji (ja (pv 6) (ja (jh GP hr.m rfl mP kP bP .nil pass0 (ja (pv 0) (ja (pv 1) jb))) jb)))))) jq) (jd (jy (@PW.pt _ _ _ (@Jp _ _ _ _ _ _ _ (@jp _ _ _ _ _ _ _ _ jD (pv 5) jc (nomark _)) (@qu _ _ _ _ (@jp _ _ _ _ _ _ _ _ jD (pv 5) jc (nomark _))))) (jj (jv (jk (ja ji (ja (jh GP hr.m rfl mP kP bP .nil pass0 (ja (pv 0) (ja (pv 1) jb))) (ja (jh GM hr.m rfl mM kM bM .nil pass0 (ja (pv 0) (ja (pv 1) (ja jc jb)))) jb)))))) jq) (jd (jy (@PW.pt _ _ _ (@Jp _ _ _ _ _ _ _ (@jp _ _ _ _ _ _ _ _ jD (pv 5) jc (nomark _)) (@qu _ _ _ _ (@jp _ _ _ _ _ _ _ _ jD (pv 5) jc (nomark _))))) (jd (@kE _ _ _ _ _ _ (@jm _ _ _ _ _ _ _ jr (pv 2) (jh GT hr.m rfl mT kT bT .nil pass0 (ja (pv 0) (ja (@jG _ _ _ _ _ _ _ _ _ jJ rfl ml PySem.boot_len (ja (pv 2) jb) (by decide) (by decide) (by rfl) (by rfl)) jb))) (fun _ _=>rfl)) (@zX _ _ _ _ _ 2 rfl (jE (jx (i:=7) scStm.nd rfl (Or.inl rfl)) (jE (jx (i:=8) scStm.nd rfl (Or.inl rfl)) zi)) (by rfl) (by rfl)) (by rfl) (by rfl) (by rfl)) (jj (jv (jk (ja ji (ja (pv 6) (ja (pv 7) (ja (@jF _ _ _ _ _ _ _ _ _ jL rfl mtu boot_tuple (ja (@zc _ _ _ _ _ _ _ (["_law_one","_law_box_here","_law_names_here"]) (1) ([0,1]) _ _ _ _ rfl (@zI _ _ _ _ (pv 8)) cs_stm (fun _ _ _ _ _=>(jx (i:=0) nd_stm rfl (Or.inl rfl))) (fun _ _ _ _ _=>(@zw _)) (fun _ _ _ _ _=>(jh GM hr.m rfl mM kM bM .nil pass0 (ja (pv 1) (ja (pv 2) (ja jc jb))))) (by intro _;rfl)) jb) (by decide) (by decide) (by rfl) (by rfl)) jb)))))))) jq) (jd (jW (jy (@PW.pt _ _ _ (@Jd _ _ _ _ _ _ _ (@jp _ _ _ _ _ _ _ _ jD (pv 5) jc (nomark _)) (@qg _ _ _ _ (@jp _ _ _ _ _ _ _ _ qC (pv 4) jc (nomark _))))) (jd (jo (i:=9) scStm.nd rfl (Or.inl rfl) (jh GB hr rfl mB kB bB .nil pass0 (ja (pv 0) (ja (pv 1) (ja (pv 2) (ja (pv 3) (ja (jw zf (pv 4) jc) jb))))))) (jj (jv (jk (ja ji (ja (jh GM hr.m rfl mM kM bM .nil pass0 (ja (pv 0) (ja (pv 1) (ja jc jb)))) (ja (pv 9) (ja (jh GB hr rfl mB kB bB .nil pass0 (ja (pv 0) (ja (pv 1) (ja (pv 2) (ja (pv 3) (ja (jw zf (pv 4) jc) jb)))))) jb)))))))) jq)) (jd (jW (jy (@PW.pt _ _ _ (@Jd _ _ _ _ _ _ _ (@jp _ _ _ _ _ _ _ _ jD (pv 5) jc (nomark _)) (@qg _ _ _ _ (@jp _ _ _ _ _ _ _ _ qC (pv 4) jc (nomark _))))) (jj (jv (jk (ja ji (ja (jh GM hr.m rfl mM kM bM .nil pass0 (ja (pv 0) (ja (pv 1) (ja jc jb)))) (ja (jh GB hr rfl mB kB bB .nil pass0 (ja (pv 0) (ja (pv 1) (ja (pv 2) (ja (pv 3) (ja (jw zf (pv 4) jc) jb)))))) jb)))))) jq)) (jd (jy (@jp _ _ _ _ _ _ _ _ jD (pv 5) jc (nomark _)) (jj (jv (jk (ja ji (ja (jh GM hr.m rfl mM kM bM .nil pass0 (ja (pv 0) (ja (pv 1) (ja jc jb)))) jb))))) jq) (jj (jv (jk (ja ji (ja (pv 6) (ja (jh GM hr.m rfl mM kM bM .nil pass0 (ja (pv 0) (ja (pv 1) (ja jc jb)))) jb))))))))))))))),?_⟩
 try dsimp only[cxOf,Cx.nox,Cx.wish]
 have big:=line24
 have B:=G0.B
 have hgp:g≠p:=zZ B G0.g
 refine seqF fun F1 f1=>⟨_,rfl,p,10,rfl,B,by decide,by decide,fun kd H1 k0 k1 B1 e1=>f1 _ _ ?_⟩
 clear f1
 have G1:=G0.but B1 (But.of_eq e1)
 have y1:=G0.y1
 have y2:=G0.y2
 refine seqF fun F1 f1=>⟨_,rfl,_,rfl,_,rfl,g,_,rfl,.inl (SqL.of G1.g),p,_,rfl,B1,by rw[List.length_map];omega,by rw[List.length_map];omega,fun d2 H2 d20 d21 B2 e2=>?_⟩
 rw[List.length_map]at d21
 have G2:=G1.but B2 (But.of_eq e2)
 obtain⟨y,hy,hat⟩:=JW (ys:=ys) d20 d21
 refine⟨g,_,_,_,rfl,rfl,SqL.of G2.g,hat,f1 _ _ ?_⟩
 clear f1
 obtain⟨k,hk⟩:=G2.s
 have ek:spK H sp=k:=((j7 B1 G1.s (But.of_eq e2)).trans (j7 B G0.s (But.of_eq e1))).symm.trans (Jf hk)
 refine seqF fun F1 f1=>⟨_,rfl,sp,_,_,_,rfl,rfl,SqL.of hk,rfl,_,_,rfl,rfl,_,rfl,sp,_,_,0,rfl,rfl,hk,rfl,f1 _ _ ?_⟩
 clear f1
 have spp:=G2.s.ne B2
 have B3:BoxAt (upd H2 sp (.lst ([.int k].set 0 (.int (k - 1))))) p:=B2.eq (jf (Ne.symm spp))
 have s3:SpAt (upd H2 sp (.lst ([.int k].set 0 (.int (k - 1))))) sp:=⟨k - 1,je⟩
 have K3:But2 p sp H (upd H2 sp (.lst ([.int k].set 0 (.int (k - 1))))):=((But.of_eq e1).trans (But.of_eq e2)).two.trans But2.at
 have G3:=G0.but2 B3 s3 K3
 have e3:spK (upd H2 sp (.lst ([.int k].set 0 (.int (k - 1))))) sp=k - 1:=Jf je
 generalize upd H2 sp (.lst ([.int k].set 0 (.int (k - 1))))=H3 at B3 s3 K3 G3 e3
 have lfq:∀(l:Lf) (zs:List V) (H4:Hp) (r:Addr),LfV (upd H4 r (.tup zs)) (.ref r) l->l.Ok->l.cs (Rh hs)->Gen H4 p g h sp ys hs->But2 p sp H H4->spK H4 sp=k - 1->H4 r=none->Q (.ref r) (upd H4 r (.tup zs)):=fun l zs H4 r hl ok cs G4 K4 e4 nr=>
  q r (.lf l .nil) _ ⟨.ref r,[],rfl,hl,rfl⟩ (by rw[j4 G4.s (jg nr)];show((0+1:Nat):Int)+_<=_;omega) (by rw[j4 G4.s (jg nr)];omega) (fit_lf ok cs) (G4.B.upd_new nr) (G4.s.new nr) (K4.trans (But2.of_same (jg nr)))
 refine seqF fun F1 f1=>ifG fun G' g'=>⟨_,rfl,_,_,rfl,rfl,_,rfl,g' _ _ ?_⟩
 clear g'
 refine ite2 (fun c=>?_) (fun c=>f1 _ _ ?_)
 ·refine⟨_,rfl,_,rfl,_,rfl,p,g,ys,rfl,G3.B,G3.g,y1,y2,fun r T H4 hT dT gT B4 k4=>⟨sz3,fun t nt=>?_⟩⟩
  exact lfq (.rd y T) _ H4 t ⟨t,r,rfl,je,hT.new nt⟩ ⟨by omega,ys,gT⟩ trivial (G3.but B4 k4) (K3.trans k4.two) ((j7 G3.B G3.s k4).trans e3) nt
 have wr:∀(r:Addr) (T0:Tm) (H4:Hp),TmAt H4 T0 r->TOk T0->BoxAt H4 p->But p H3 H4->tCall (spTerm 4) [] E0 (tCons (tVar 0) (tCons (tVar 1) (tCons (tC (.int 2)) tNil))) [some (.ref p),some (.ref g),some (.ref h),some (.ref sp),some (.int (d:Int)),some (.int kd),some (.str y),none,none,none] H4 (fun v H5=>3<=sizeLine/\∀t,H5 t=none->Q (.ref t) (upd H5 t (.tup [.str "write",.ref r,v]))):=fun r T0 H4 hT0 oT0 B4 k4=>by
  refine⟨_,rfl,_,rfl,p,g,2,ys,rfl,B4,(G3.but B4 k4).g,y1,y2,by decide,by decide,fun r2 T H5 hT dT gT B5 k5=>⟨(by decide),fun t nt=>?_⟩⟩
  exact lfq (.wr T0 T) _ H5 t ⟨t,r,r2,rfl,je,(hT0.but B4 k5).new nt,hT.new nt⟩ ⟨oT0,by omega,ys,gT⟩ trivial (G3.but B5 (k4.trans k5)) (K3.trans (k4.trans k5).two) ((j7 G3.B G3.s (k4.trans k5)).trans e3) nt
 refine seqF fun F1 f1=>ifG fun G' g'=>?_
 have yes:G' true H3:=g' _ _ (iteT ⟨_,rfl,_,rfl,p,g,ys,rfl,G3.B,G3.g,y1,y2,fun r T0 H4 hT0 dT0 gT0 B4 k4=>wr r T0 H4 hT0 ⟨by omega,ys,gT0⟩ B4 k4⟩)
 refine⟨_,rfl,rfl,_,rfl,ite2 (fun c=>yes) (fun c=>⟨_,rfl,rfl,_,rfl,boolC yes fun c2=>g' _ _ (ifX c2 (f1 _ _ ?_))⟩)⟩
 clear yes g' f1
 obtain⟨hv,hh,hH⟩:=G3.h
 have hl:=hH.len
 have h1:=G0.h1
 have h2:=G0.h2
 have cal:∀(f':Str) (ps:List Str) (t:Addr) (H4:Hp),Gen H4 p g h sp ys hs->But2 p sp H H4->spK H4 sp=k - 1->H4 t=some (.tup (ps.map V.str))->ps.length<=6->Rh hs f' ps.length->
   CompR (Itt K t) 1 [some (.ref p),some (.ref g)] (gName 0) tAll (tCall (spTerm 4) [] E0 (tCons (tVar 1) (tCons (tVar 2) (tCons (tC (.int 1)) tNil)))) (fun zs H5=>∀l,H5 l=none->∃p' ys',[V.ref l]=[.ref p']/\((SqL K (upd H5 l (.lst zs)) p' ys'/\∀l2,upd H5 l (.lst zs) l2=none->4<=sizeLine/\∀r,upd (upd H5 l (.lst zs)) l2 (.tup ys') r=none->Q (.ref r) (upd (upd (upd H5 l (.lst zs)) l2 (.tup ys')) r (.tup [.str "call",.str y,.str f',.ref l2])))∨(SqT K (upd H5 l (.lst zs)) p' ys'/\4<=sizeLine/\∀r,upd H5 l (.lst zs) r=none->Q (.ref r) (upd (upd H5 l (.lst zs)) r (.tup [.str "call",.str y,.str f',.ref p']))))) H4:=fun f' ps t H4 G4 K4 e4 ht hpl hR=>by
  refine zv (K:=K) (xs:=ps.map V.str) (by rw[List.length_map];omega) (fun i zs H5=>∃ts:List (Addr×Tm),zs=ts.map (fun c=>V.ref c.1)/\ts.length=i/\(∀c∈ts,TmAt H5 c.2 c.1/\TOk c.2)/\BoxAt H5 p/\But p H4 H5) ⟨[],rfl,rfl,(fun _ h=>absurd h List.not_mem_nil),G4.B,But.refl⟩ (fun i zs H5 h5=>?_) ?_ ?_
  ·obtain⟨ts,rfl,e5,_,_,k5⟩:=h5
   exact⟨SqT.of (k5.tm G4.B _ _ ht),by rw[List.length_map,e5];exact Nat.le_refl _⟩
  ·intro i x zs H5 hx hq'
   refine opq fun Gq kq=>?_
   obtain⟨ts,rfl,e5,h5,B5,k5⟩:=hq'
   refine kq ?_
   clear kq
   refine⟨_,rfl,_,rfl,p,g,1,ys,rfl,B5,(G4.but B5 k5).g,y1,y2,by decide,by decide,fun r2 T H6 hT dT gT B6 k6=>⟨ts++[(r2,T)],by rw[List.map_append];rfl,by rw[List.length_append,e5];rfl,fun c hc=>?_,B6,k5.trans k6⟩⟩
   rcases List.mem_append.mp hc with hc |hc
   ·exact⟨(h5 c hc).1.but B5 k6,(h5 c hc).2⟩
   ·rw[List.mem_singleton.mp hc]
    exact⟨hT,(by show T.depth < 8;omega),ys,gT⟩
  ·rintro zs H5 ⟨ts,rfl,e5,h5,B5,k5⟩ l nl
   refine⟨l,_,rfl,.inl ⟨SqL.of je,fun l2 nl2=>⟨(by decide),fun r nr=>?_⟩⟩⟩
   have G5:=G4.but B5 k5
   have s6:Same H5 (upd (upd H5 l (.lst (ts.map fun c=>V.ref c.1))) l2 (.tup (ts.map fun c=>V.ref c.1))):=(jg nl).trans (jg nl2)
   rw[List.length_map]at e5
   exact lfq (.cl y f' (ts.map fun c=>c.2)) _ _ r ⟨r,l2,_,rfl,je,keepN je nr,Za fun c hc=>((h5 c hc).1.same s6).new nr⟩ ⟨fun T hT=>by obtain⟨c,hc,rfl⟩:=List.mem_map.mp hT;exact(h5 c hc).2,by rw[List.length_map];omega⟩ (by show Rh hs f' (ts.map fun c=>c.2).length;rw[List.length_map,e5];exact hR) (G5.but2 ((G5.B.upd_new nl).upd_new nl2) ((G5.s.new nl).new nl2) (But2.of_same s6)) ((K4.trans k5.two).trans (But2.of_same s6)) ((j4 G5.s s6).trans ((j7 G4.B G4.s k5).trans e4)) nr
 refine seqF fun F1 f1=>ifG fun G' g'=>?_
 have yes:G' true H3:=by
  refine g' _ _ (iteT ?_)
  clear f1 g'
  refine seqF fun F2 f2=>⟨_,rfl,_,rfl,_,rfl,h,_,rfl,.inl (SqL.of hh),p,_,rfl,G3.B,by omega,by omega,fun d4 H4 d40 d41 B4 e4=>?_⟩
  have G4:=G3.but B4 (But.of_eq e4)
  have k4:But p H3 H4:=But.of_eq e4
  have hH4:=hH.mono (k4.tm G3.B)
  refine opq fun Gq kq=>?_
  obtain⟨v,c0,hva,hc0,p4,t4,rfl,z1,z2⟩:=ref_at hH4 d40 d41
  refine kq ?_
  clear kq
  refine⟨h,_,_,_,rfl,rfl,SqL.of (k4 _ _ G3.hsp.2 hh),hva,p4,_,rfl,SqT.of z1,rfl,_,_,rfl,_,_,rfl,rfl,f2 _ _ ?_⟩
  clear f2
  refine⟨_,rfl,_,rfl,_,rfl,t4,rfl,⟨_,SqT.of z2⟩,?_⟩
  exact cal c0.1 c0.2 t4 H4 G4 (K3.trans k4.two) ((j7 G3.B G3.s k4).trans e3) z2 (G0.h3 c0 hc0) ⟨c0,hc0,rfl,rfl⟩
 refine⟨_,rfl,rfl,_,rfl,ite2 (fun c=>yes) (fun c=>⟨_,rfl,rfl,_,rfl,boolC yes fun c2=>g' _ _ (ifX c2 (f1 _ _ ?_))⟩)⟩
 clear yes g' f1
 have low:∀(c:(0:Int) < (d:Int)),∃d':Nat,d=d'+1:=fun c=>⟨d - 1,by omega⟩
 refine seqF fun F1 f1=>midE (RH p g h sp d kd y H3) (fun E6 eR f6=>?_) fun σ' H' z=>?_
 ·clear f1
  refine ifG fun G' g'=>⟨_,rfl,rfl,_,rfl,?_⟩
  refine ite2 (fun c=>?_) (fun c=>g' _ _ (iteF (f6 _ _ ⟨rfl,rfl⟩)))
  refine⟨_,rfl,_,_,rfl,rfl,_,rfl,g' _ _ ?_⟩
  clear g'
  refine ite2 (fun c2=>?_) (fun c2=>f6 _ _ ⟨rfl,rfl⟩)
  clear f6
  obtain⟨d',rfl⟩:=low (of_decide_eq_true c2)
  have ed:(((d'+1:Nat):Int) - 1)=((d':Nat):Int):=by omega
  refine⟨_,rfl,_,rfl,_,rfl,_,rfl,_,rfl,_,_,rfl,rfl,p,g,h,sp,d',ys,hs,(by show [V.ref p,V.ref g,V.ref h,V.ref sp,V.int (((d'+1:Nat):Int) - 1)]=_;rw[ed]),G3,by omega,by omega,fun r b bs H4 hr4 hb4 hbl hsz hs0 hdp B4 s4 k4=>?_⟩
  have G4:=G3.but2 B4 s4 k4
  refine⟨_,rfl,_,rfl,p,g,2,ys,rfl,G4.B,G4.g,y1,y2,by decide,by decide,fun r2 T H5 hT dT gT B5 k5=>?_⟩
  have G5:=G4.but B5 k5
  refine⟨_,rfl,_,rfl,_,rfl,_,rfl,_,rfl,_,rfl,_,_,rfl,rfl,p,g,h,sp,d',ys,hs,(by show [V.ref p,V.ref g,V.ref h,V.ref sp,V.int (((d'+1:Nat):Int) - 1)]=_;rw[ed]),G5,by omega,(by rw[j7 G4.B G4.s k5];exact hs0),fun r3 b3 bs3 H6 hr6 hb6 hbl6 hsz6 hs6 hdp6 B6 s6 k6=>⟨sz4,fun t nt=>?_⟩⟩
  have G6:=G5.but2 B6 s6 k6
  have tm:TMono H4 H6:=fun b' xs e=>k6.tm G5.B G5.s _ _ (k5.tm G4.B _ _ e)
  have tmn:TMono H6 (upd H6 t (.tup [.str "if",.ref r2,.ref r,.ref r3])):=Same.tm (jg nt)
  rw[eR]
  refine q t (.ite T b b3 .nil) _ ⟨t,r2,r,r3,bs,bs3,[],rfl,je,(hT.mono (k6.tm G5.B G5.s)).mono tmn,tmn _ _ (tm _ _ hr4),(hb4.mono tm).mono tmn,tmn _ _ hr6,hb6.mono tmn,rfl⟩ (by have x1:=j7 G4.B G4.s k5;rw[j4 G6.s (jg nt)];show((b.size+b3.size+0+1:Nat):Int)+_<=_;omega) (by rw[j4 G6.s (jg nt)];exact hs6) (fit_ite ⟨by omega,ys,gT⟩ (by rw[<- hb4.len];omega) (by rw[<- hb6.len];omega) hdp hdp6) (G6.B.upd_new nt) (G6.s.new nt) (((K3.trans k4).trans (k5.two.trans k6)).trans (But2.of_same (jg nt)))
 obtain⟨rfl,e⟩:=z
 rw[e]
 refine f1 _ _ ?_
 clear f1
 refine seqF fun F1 f1=>midE (RH p g h sp d kd y H3) (fun E6 eR f6=>?_) fun σ' H' z=>?_
 ·clear f1
  refine ifG fun G' g'=>⟨_,rfl,rfl,_,rfl,?_⟩
  refine ite2 (fun c=>?_) (fun c=>g' _ _ (iteF (f6 _ _ ⟨rfl,rfl⟩)))
  refine⟨_,rfl,_,_,rfl,rfl,_,rfl,g' _ _ ?_⟩
  clear g'
  refine ite2 (fun c2=>?_) (fun c2=>f6 _ _ ⟨rfl,rfl⟩)
  clear f6
  obtain⟨d',rfl⟩:=low (of_decide_eq_true c2)
  have ed:(((d'+1:Nat):Int) - 1)=((d':Nat):Int):=by omega
  refine⟨_,rfl,_,rfl,p,g,2,ys,rfl,G3.B,G3.g,y1,y2,by decide,by decide,fun r2 T H5 hT dT gT B5 k5=>?_⟩
  have G5:=G3.but B5 k5
  refine⟨_,rfl,_,rfl,_,rfl,_,rfl,_,rfl,_,_,rfl,rfl,p,g,h,sp,d',ys,hs,(by show [V.ref p,V.ref g,V.ref h,V.ref sp,V.int (((d'+1:Nat):Int) - 1)]=_;rw[ed]),G5,by omega,(by rw[j7 G3.B G3.s k5];omega),fun r3 b3 bs3 H6 hr6 hb6 hbl6 hsz6 hs6 hdp6 B6 s6 k6=>⟨sz3,fun t nt=>?_⟩⟩
  have G6:=G5.but2 B6 s6 k6
  have tmn:TMono H6 (upd H6 t (.tup [.str "while",.ref r2,.ref r3])):=Same.tm (jg nt)
  rw[eR]
  refine q t (.loop T b3 .nil) _ ⟨t,r2,r3,bs3,[],rfl,je,(hT.mono (k6.tm G5.B G5.s)).mono tmn,tmn _ _ hr6,hb6.mono tmn,rfl⟩ (by have x1:=j7 G3.B G3.s k5;rw[j4 G6.s (jg nt)];show((b3.size+0+1:Nat):Int)+_<=_;omega) (by rw[j4 G6.s (jg nt)];exact hs6) (ZO ⟨by omega,ys,gT⟩ (by rw[<- hb6.len];omega) hdp6) (G6.B.upd_new nt) (G6.s.new nt) ((K3.trans (k5.two.trans k6)).trans (But2.of_same (jg nt)))
 obtain⟨rfl,e⟩:=z
 rw[e]
 refine f1 _ _ ?_
 clear f1
 refine seqF fun F1 f1=>ifG fun G' g'=>⟨_,rfl,rfl,_,rfl,g' _ _ ?_⟩
 clear g'
 refine ite2 (fun c=>?_) (fun c=>f1 _ _ ?_)
 ·refine⟨_,rfl,_,rfl,p,g,2,ys,rfl,G3.B,G3.g,y1,y2,by decide,by decide,fun r2 T H5 hT dT gT B5 k5=>⟨sz2,fun t nt=>?_⟩⟩
  exact lfq (.gv T) _ H5 t ⟨t,r2,rfl,je,hT.new nt⟩ ⟨by omega,ys,gT⟩ trivial (G3.but B5 k5) (K3.trans k5.two) ((j7 G3.B G3.s k5).trans e3) nt
 ·refine⟨_,rfl,_,rfl,_,rfl,p,g,3,ys,rfl,G3.B,G3.g,y1,y2,by decide,by decide,fun r2 T H5 hT dT gT B5 k5=>⟨sz3,fun t nt=>?_⟩⟩
  exact lfq (.set y T) _ H5 t ⟨t,r2,rfl,je,hT.new nt⟩ ⟨by omega,ys,gT⟩ trivial (G3.but B5 k5) (K3.trans k5.two) ((j7 G3.B G3.s k5).trans e3) nt
theorem scBody:FnScope ["_law_box_here","_law_names_here","_law_heads","_law_spare","_law_deep","_law_body_here","_law_k"] ["_law_box_here","_law_names_here","_law_heads","_law_spare","_law_deep"] (defScope sBody):=fsc
theorem XQ{f:Addr}{fd:FuncData}(F:Fun K "_law_body" "_law_body" sBody f fd)(GT:FnOk P w K mg base CX0 1 fT fdT ["_law_box_here","_law_wide"] spTake)(bT:Binds K fdT ["_law_box_here","_law_wide"] [])(kT:keepIn K (.ref fT)=true)(mT:mg "_law_take"=some (.ref fT)){L n:Nat}(GS:FnOk P w K mg base CX0 (L+8) fS fdS ["_law_box_here","_law_names_here","_law_heads","_law_spare","_law_deep"] (spStm n))(bS:Binds K fdS ["_law_box_here","_law_names_here","_law_heads","_law_spare","_law_deep"] [])(kS:keepIn K (.ref fS)=true)(mS:mg "_law_statement"=some (.ref fS))(mr:mg "range"=none)(mtu:mg "tuple"=none):FnOk P w K mg base CX0 (L+9) f fd ["_law_box_here","_law_names_here","_law_heads","_law_spare","_law_deep"] (spBody n):=by
 refine F.ok scBody (fun vs H Q E h=>?_) (fun cdv A outer s H vs Q E hr h=>?_)
 ·refine opq fun Gq kq=>?_
  obtain⟨p,g,h,sp,d,ys,hs,rfl,_⟩:=h
  refine kq ?_
  clear kq
  rfl
 refine opq fun Gq kq=>?_
 obtain⟨p,g,h,sp,d,ys,hs,rfl,G0,hd,hk0,q⟩:=h
 refine kq ?_
 clear kq
 refine⟨_,(jd (jo (i:=5) scBody.nd rfl (Or.inl rfl) (jH jb)) (jd (@zJ _ _ _ _ _ _ _ _ PassesOwn.never rfl (@kQ _ _ _ _ _ _ rfl mr (ja (jh GT hr.m rfl mT kT bT .nil pass0 (ja (pv 0) (ja jc jb))) jb) (by rfl)) (jx (i:=6) scBody.nd rfl (Or.inl rfl)) (jj (jy (@jp _ _ _ _ _ _ _ _ qC (@jm _ _ _ _ _ _ _ jr (pv 3) jc (fun _ _=>rfl)) jc (nomark _)) (jj (jU (@ze _ _ _ _ _ _ _ _ _ _ _ _ PySem.F.plainAttrs_list PySem.F.slot_list_append PySem.F.type_list_append jT (pv 5) (ja (jh GS hr rfl mS kS bS .nil pass0 (ja (pv 0) (ja (pv 1) (ja (pv 2) (ja (pv 3) (ja (pv 4) jb)))))) jb) (by rfl) (by rfl) (by rfl) (by rfl) (by rfl)))) jq)) (by intro _;rfl)) (jj (jv (@jF _ _ _ _ _ _ _ _ _ jL rfl mtu boot_tuple (ja (pv 5) jb) (by decide) (by decide) (by rfl) (by rfl)))))),?_⟩
 try dsimp only[cxOf,Cx.nox,Cx.wish]
 have big:=line24
 refine⟨Nat.zero_le _,fun l nl=>?_⟩
 have s0:Same H (upd H l (.lst [])):=jg nl
 have G1:Gen (upd H l (.lst [])) p g h sp ys hs:=G0.but2 (G0.B.upd_new nl) (G0.s.new nl) (But2.of_same s0)
 have l1:upd H l (.lst []) l=some (.lst []):=je
 have lp:l≠p:=G0.B.ne nl
 have lsp:l≠sp:=fun e=>by obtain⟨k,z⟩:=G0.s;rw[<- e,nl]at z;cases z
 have k1:But2 p sp H (upd H l (.lst [])):=But2.of_same s0
 have ek1:spK (upd H l (.lst [])) sp=spK H sp:=j4 G0.s s0
 generalize upd H l (.lst [])=H1 at G1 l1 k1 ek1
 refine⟨_,rfl,p,6,rfl,G1.B,by decide,by decide,fun m H2 m0 m1 B2 e2=>⟨_,rfl,by omega,by omega,?_⟩⟩
 have G2:=G1.but B2 (But.of_eq e2)
 refine Jj (lo:=0) (fun i σ H'=>∃(o6:Option V) (vs:List V) (b:Bd),σ=[some (.ref p),some (.ref g),some (.ref h),some (.ref sp),some (.int (d:Int)),some (.ref l),o6]/\H' l=some (.lst vs)/\BdV H' b vs/\((b.size:Int)+spK H' sp<=spK H sp/\0<=spK H' sp)/\b.fit (Rh hs) d/\vs.length<=i/\BoxAt H' p/\SpAt H' sp/\But2 p sp H H')
  ⟨none,[],.nil,rfl,by rw[e2 l lp];exact l1,rfl,(by rw[j7 G1.B G1.s (But.of_eq e2),ek1];exact⟨by show((0:Nat):Int)+_<=_;omega,hk0⟩),XJ,Nat.zero_le _,B2,G2.s,k1.trans (But.of_eq e2).two⟩ ?_ ?_
 ·intro i σ H3 hi hq'
  refine opq fun Gq kq=>?_
  obtain⟨o6,vs,b,rfl,hl3,hb3,hz3,hd3,hvl,B3,s3,k3⟩:=hq'
  refine kq ?_
  clear kq
  have G3:=G0.but2 B3 s3 k3
  obtain⟨kk,hkk⟩:=id s3
  refine⟨_,rfl,sp,_,_,_,rfl,rfl,SqL.of hkk,rfl,_,_,rfl,rfl,_,rfl,?_⟩
  refine ite2 (fun c=>?_) (fun c=>?_)
  ·refine⟨_,rfl,.inl ⟨rfl,_,SqL.of hl3⟩,_,rfl,_,rfl,_,rfl,_,rfl,_,rfl,p,g,h,sp,d,ys,hs,rfl,G3,hd,(by rw[Jf hkk];exact of_decide_eq_true c),fun r b4 H4 hb4 hz4 hz5 hd4 B4 s4 k4=>?_⟩
   have hl4:H4 l=some (.lst vs):=k4 _ _ lp lsp hl3
   refine⟨l,_,_,rfl,rfl,hl4,by omega,?_⟩
   have tm:TMono H4 (upd H4 l (.lst (vs++[.ref r]))):=fun b' xs e=>by rw[jf (jz e hl4 (by intro z;cases z))];exact e
   have tm34:TMono H3 H4:=k4.tm B3 s3
   refine⟨_,_,b.app b4,rfl,je,(hb4.mono tm).app ((hb3.mono tm34).mono tm),?_,XL hd3 hd4,by rw[List.length_append];show vs.length+1<=i+1;omega,B4.eq (jf (Ne.symm lp)),?_,fun b' o n1 n2 e=>?_⟩
   ·rw[zn,QU s4 fun o e=>by rw[jf (Ne.symm lsp)];exact e]
    obtain⟨z1,z2⟩:=hz3
    exact⟨by omega,hz5⟩
   ·obtain⟨z,hz⟩:=s4
    exact⟨z,by rw[jf (Ne.symm lsp)];exact hz⟩
   ·rw[jf (jl e nl)]
    exact k4 _ _ n1 n2 (k3 _ _ n1 n2 e)
  ·exact⟨_,vs,b,rfl,hl3,hb3,hz3,hd3,by omega,B3,s3,k3⟩
 ·intro σ H3 hq'
  refine opq fun Gq kq=>?_
  obtain⟨o6,vs,b,rfl,hl3,hb3,hz3,hd3,hvl,B3,s3,k3⟩:=hq'
  refine kq ?_
  clear kq
  refine⟨_,rfl,l,vs,rfl,.inl ⟨SqL.of hl3,fun t nt=>?_⟩⟩
  have hm:(m).toNat<=5:=by omega
  refine q t b vs _ je (hb3.mono (Same.tm (jg nt))) (by omega) (by rw[j4 s3 (jg nt)];exact hz3.1) (by rw[j4 s3 (jg nt)];exact hz3.2) hd3 (B3.upd_new nt) (s3.new nt) (k3.trans (But2.of_same (jg nt)))
theorem Zb{f:Addr}{fd:FuncData}:FnOk P w K mg base CX0 8 f fd ["_law_box_here","_law_names_here","_law_heads","_law_spare","_law_deep"] (spStm 0):=by
 have no:∀vs H Q E,¬spStm 0 vs H Q E:=fun vs H Q E h=>by
  refine opq fun Gq kq=>?_
  obtain⟨p,g,h,sp,d,ys,hs,_,_,h0,_⟩:=h
  refine kq ?_
  clear kq
  exact absurd h0 (Nat.not_lt_zero _)
 exact⟨fun vs H Q E h=>absurd h (no vs H Q E),fun A outer s H args us vs Q E _ _ _ _ h=>absurd h (no vs H Q E)⟩
theorem stms{f fT fM fP fB:Addr}{fd fdT fdM fdP fdB:FuncData}(F:Fun K "_law_statement" "_law_statement" sStm f fd)(FB:Fun K "_law_body" "_law_body" sBody fB fdB)(GT:FnOk P w K mg base CX0 1 fT fdT ["_law_box_here","_law_wide"] spTake)(bT:Binds K fdT ["_law_box_here","_law_wide"] [])(kT:keepIn K (.ref fT)=true)(mT:mg "_law_take"=some (.ref fT))(GM:FnOk P w K mg base CX0 6 fM fdM ["_law_box_here","_law_names_here","_law_deep"] (spTerm 4))(bM:Binds K fdM ["_law_box_here","_law_names_here","_law_deep"] [])(kM:keepIn K (.ref fM)=true)(mM:mg "_law_term"=some (.ref fM))(GP:FnOk P w K mg base CX0 5 fP fdP ["_law_box_here","_law_names_here"] spSpot)(bP:Binds K fdP ["_law_box_here","_law_names_here"] [])(kP:keepIn K (.ref fP)=true)(mP:mg "_law_spot"=some (.ref fP))(bS:Binds K fd ["_law_box_here","_law_names_here","_law_heads","_law_spare","_law_deep"] [])(mS:mg "_law_statement"=some (.ref f))(bB:Binds K fdB ["_law_box_here","_law_names_here","_law_heads","_law_spare","_law_deep"] [])(mB:mg "_law_body"=some (.ref fB))(ml:mg "len"=none)(mtu:mg "tuple"=none)(mr:mg "range"=none):
  ∀n:Nat,FnOk P w K mg base CX0 (n+n+8) f fd ["_law_box_here","_law_names_here","_law_heads","_law_spare","_law_deep"] (spStm n)/\FnOk P w K mg base CX0 (n+n+9) fB fdB ["_law_box_here","_law_names_here","_law_heads","_law_spare","_law_deep"] (spBody n)
 |0=>⟨Zb,XQ (L:=0) FB GT bT kT mT Zb bS F.kp mS mr mtu⟩
 |n+1=>by
  have ih:=stms F FB GT bT kT mT GM bM kM mM GP bP kP mP bS mS bB mB ml mtu mr n
  have e1:n+n+10=n+1+(n+1)+8:=by omega
  have e2:n+n+2+9=n+1+(n+1)+9:=by omega
  have h1:=ok_stm (L:=n+n) F GT bT kT mT GM bM kM mM GP bP kP mP ih.2 bB FB.kp mB ml mtu
  have h2:=XQ (L:=n+n+2) FB GT bT kT mT h1 bS F.kp mS mr mtu
  rw[<- e1,<- e2]
  exact⟨h1,h2⟩
theorem cutN{xs:List V}{k:Nat}(h:k<=xs.length):cutV xs none (some (k:Int))=xs.take k:=by
 unfold cutV
 rw[HT.sIx_nat,HT.sIx_none]
 have e2:min k xs.length=k:=by omega
 rw[e2]
 simp
noncomputable abbrev sAny:Stmt:=top 33
theorem deep_at{d:Int}(h0:0<=d)(h1:d < 4):∃dp:Nat,atI [V.int 3,.int 3,.int 3,.int 5] d=some (.int (dp:Int))/\dp < 6:=by
 rcases(by omega:d=0∨d=1∨d=2∨d=3) with rfl |rfl |rfl |rfl
 ·exact⟨3,rfl,by decide⟩
 ·exact⟨3,rfl,by decide⟩
 ·exact⟨3,rfl,by decide⟩
 ·exact⟨5,rfl,by decide⟩
theorem ZP{ys:List Str}{k:Int}(hl:ys.length=20)(h0:14<=k)(h1:k<=20):1<=(cutS ys (some 8) (some k)).length/\(cutS ys (some 8) (some k)).length<=20:=by
 refine⟨?_,by have:=qd ys (some 8) (some k);omega⟩
 have e8:(8:Int)=((8:Nat):Int):=rfl
 have ek:k=((k.toNat:Nat):Int):=by omega
 unfold cutS
 rw[e8,ek,HT.sIx_nat,HT.sIx_nat,List.length_take,List.length_drop]
 omega
theorem cutS_to{ss:List Str}{k:Int}(h0:0<=k):(cutS ss none (some k)).length<=k.toNat:=by
 have ek:k=((k.toNat:Nat):Int):=by omega
 unfold cutS
 rw[ek,HT.sIx_nat,HT.sIx_none,List.length_take]
 omega
theorem seqO{t u:TS}{D:L2.Ends}{σ:L2.St}{H:Hp}(h:∀E:L2.Ends,(∀σ' H',u D σ' H'->E.nx σ' H')->t E σ H):tSeq t u D σ H:=h { D with nx:=u D } fun _ _ h=>h
def HdsOk(hs:List (Str×List Str)):Prop:=∀c∈hs,c.1.length<=20/\c.2.length<=6
def DfOk(hs:List (Str×List Str))(rm:Int)(d:Df):Prop:=d.body.cs (Rh hs)/\d.ps.length<=6/\d.body.top<=15/\d.body.Ok/\d.body.dep<=5/\(d.body.size:Int)<=rm
def DfsOk(hs:List (Str×List Str))(rm:Int)(ds:List Df):Prop:=∀d∈ds,DfOk hs rm d
noncomputable def hdOf(d:Df):Str×List Str:=(d.f,d.ps)
theorem DfsV.snoc{H:Hp}{c:Df}{v:V}(hv:DfV H v c):∀{cs:List Df} {vs:List V},DfsV H cs vs->DfsV H (cs++[c]) (vs++[v])
 | [],_,h=>by have e:_=[]:=h;rw[e];exact⟨v,[],rfl,hv,rfl⟩
 |_::_,_,⟨u,r,e,h1,h4⟩=>⟨u,r++[v],by rw[e];rfl,h1,DfsV.snoc hv h4⟩
theorem zO{α:Type}{P:α->Prop}{xs:List α}{x:α}(h:∀c∈xs,P c)(hx:P x):∀c∈xs++[x],P c:=fun c hc=>by
 rcases List.mem_append.mp hc with h1 |h1
 ·exact h c h1
 ·rw[List.mem_singleton.mp h1];exact hx
def spAny:Sp:=fun vs H Q _=>∃(p:Addr) (T rm:Int),vs=[.ref p,.int T,.int rm]/\BoxAt H p/\1<=T/\T<=8/\0<=rm/\rm<=100/\
 ∀(r:Addr) (ds:List Df) (xs:List V) (H':Hp),H' r=some (.tup xs)->DfsV H' ds xs->(ds.length:Int)=T->DfsOk (ds.map hdOf) rm ds->((ds.map hdOf).map Prod.fst).Nodup->HdsOk (ds.map hdOf)->BoxAt H' p->But p H H'->Q (.ref r) H'
theorem scAny:FnScope ["_law_box_here","_law_total","_law_room","_law_words","_law_most","_law_heads","_law_k","_law_turn_here","_law_row","_law_some","_law_deep","_law_defs","_law_f","_law_params","_law_spare","_law_body_here"] ["_law_box_here","_law_total","_law_room"] (defScope sAny):=fsc
inductive AJ(p wl:Addr)(T rm:Int)(H:Hp)(σ':L2.St)(H':Hp):Prop
 |mk (ys':List Str) (e0:σ'=[some (.ref p),some (.int T),some (.int rm),some (.ref wl),none,none,none,none,none,none,none,none,none,none,none,none]) (e1:H' wl=some (.lst (ys'.map V.str))) (e2:ys'.length=20) (e3:(∀y∈ys',y.length<=20)) (e3b:(ys'.take 8).Nodup) (e4:BoxAt H' p) (e5:But p H H'):AJ p wl T rm H σ' H'
inductive AI(p wl hl:Addr)(T rm m:Int)(ys:List Str)(H:Hp)(i:Nat)(σ:L2.St)(H':Hp):Prop
 |mk (o6 o7 o8:Option V) (hs:List (Str×List Str)) (hv:List V) (e0:σ=[some (.ref p),some (.int T),some (.int rm),some (.ref wl),some (.int m),some (.ref hl),o6,o7,o8,none,none,none,none,none,none,none]) (e1:H' hl=some (.lst hv)) (e2:HdsV H' hs hv) (e3:hs.length=i) (e4:HdsOk hs) (e4b:hs.map Prod.fst=ys.take i) (e5:H' wl=some (.lst (ys.map V.str))) (e6:BoxAt H' p) (e7:But p H H'):AI p wl hl T rm m ys H i σ H'
inductive AK(p wl hl sm dl:Addr)(T rm m:Int)(dp:Nat)(zs:List Str)(hs:List (Str×List Str))(hv:List V)(H:Hp)(i:Nat)(σ:L2.St)(H':Hp):Prop
 |mk (o6 o7 o8 o12 o13 o14 o15:Option V) (ds:List Df) (dv:List V) (e0:σ=[some (.ref p),some (.int T),some (.int rm),some (.ref wl),some (.int m),some (.ref hl),o6,o7,o8,some (.ref sm),some (.int (dp:Int)),some (.ref dl),o12,o13,o14,o15]) (e1:H' dl=some (.lst dv)) (e2:DfsV H' ds dv) (e3:ds.length=i) (e4:DfsOk hs rm ds) (e4b:ds.map hdOf=hs.take i) (e5:H' hl=some (.lst hv)) (e6:HdsV H' hs hv) (e7:H' sm=some (.lst (zs.map V.str))) (e8:BoxAt H' p) (e9:But p H H'):AK p wl hl sm dl T rm m dp zs hs hv H i σ H'
inductive AL(hs:List (Str×List Str))(zs:List Str)(p wl hl sm dl t0 sp:Addr)(T rm m:Int)(dp:Nat)(o7 o8:Option V)(c:Str×List Str)(H9:Hp)(j:Nat)(σ:L2.St)(H':Hp):Prop
 |mk (o6':Option V) (bb:Addr) (Bb:Bd) (bs:List V) (e0:σ=[some (.ref p),some (.int T),some (.int rm),some (.ref wl),some (.int m),some (.ref hl),o6',o7,o8,some (.ref sm),some (.int (dp:Int)),some (.ref dl),some (.str c.1),some (.ref t0),some (.ref sp),some (.ref bb)]) (e1:H' bb=some (.tup bs)) (e2:BdV H' Bb bs) (e3:(Bb.size:Int)+spK H' sp<=rm/\0<=spK H' sp) (e4:Bb.fit (Rh hs) dp) (e5:BoxAt H' p) (e6:SpAt H' sp) (e7:But2 p sp H9 H') (e8:bs.length<=5*j):AL hs zs p wl hl sm dl t0 sp T rm m dp o7 o8 c H9 j σ H'
theorem ok_any{f:Addr}{fd:FuncData}(F:Fun K "_law_any" "_law_any" sAny f fd)(GT:FnOk P w K mg base CX0 1 fT fdT ["_law_box_here","_law_wide"] spTake)(bT:Binds K fdT ["_law_box_here","_law_wide"] [])(kT:keepIn K (.ref fT)=true)(mT:mg "_law_take"=some (.ref fT))(GA:FnOk P w K mg base CX0 2 fA fdA ["_law_box_here","_law_total"] spNames)(bA:Binds K fdA ["_law_box_here","_law_total"] [])(kA:keepIn K (.ref fA)=true)(mA:mg "_law_names"=some (.ref fA))(GB:FnOk P w K mg base CX0 21 fB fdB ["_law_box_here","_law_names_here","_law_heads","_law_spare","_law_deep"] (spBody 6))(bB:Binds K fdB ["_law_box_here","_law_names_here","_law_heads","_law_spare","_law_deep"] [])(kB:keepIn K (.ref fB)=true)(mB:mg "_law_body"=some (.ref fB))(ml:mg "len"=none)(mr:mg "range"=none)(mtu:mg "tuple"=none)(mi:mg "int"=none):FnOk P w K mg base CX0 22 f fd ["_law_box_here","_law_total","_law_room"] spAny:=by
 refine F.ok scAny (fun vs H Q E h=>?_) (fun cdv A outer s H vs Q E hr h=>?_)
 ·refine opq fun Gq kq=>?_
  obtain⟨p,T,rm,rfl,_⟩:=h
  refine kq ?_
  clear kq
  rfl
 refine opq fun Gq kq=>?_
 obtain⟨p,T,rm,rfl,B,hT1,hT2,hR1,hR2,q⟩:=h
 refine kq ?_
 clear kq
 refine⟨_,(jd (jo (i:=3) scAny.nd rfl (Or.inl rfl) (jh GA hr.m rfl mA kA bA .nil pass0 (ja (pv 0) (ja jc jb)))) (jd (jW (jy (@jp _ _ _ _ _ _ _ _ jD (jh GT hr.m rfl mT kT bT .nil pass0 (ja (pv 0) (ja jc jb))) jc (nomark _)) (jj (@kE _ _ _ _ _ _ (@jR _ _ _ _ _ _ _ _ _ _ kt (pv 3) (@zb _) (@jN _ _ _ jc)) (@ZC _ _ _ _ _ _ _ _ _ (pv 3) jc jc (by intro _;rfl)) (by rfl) (by rfl) (by rfl))) jq)) (jd (jo (i:=4) scAny.nd rfl (Or.inl rfl) (@jm _ _ _ _ _ _ _ jr (jH (ja jc (ja jc jb))) (@jF _ _ _ _ _ _ _ _ _ jV rfl mi boot_int (ja (@j5 _ _ _ _ _ _ _ _ jD (jh GT hr.m rfl mT kT bT .nil pass0 (ja (pv 0) (ja jc jb))) jc (nomark _)) jb) (by decide) (by decide) (by rfl) (by rfl)) (fun _ _=>rfl))) (jd (jo (i:=5) scAny.nd rfl (Or.inl rfl) (jH jb)) (jd (@zJ _ _ _ _ _ _ _ _ PassesOwn.never rfl (@kQ _ _ _ _ _ _ rfl mr (ja (pv 1) jb) (by rfl)) (jx (i:=6) scAny.nd rfl (Or.inl rfl)) (jd (jo (i:=7) scAny.nd rfl (Or.inl rfl) (jw jO jc (jh GT hr.m rfl mT kT bT .nil pass0 (ja (pv 0) (ja jc jb))))) (jd (jo (i:=8) scAny.nd rfl (Or.inl rfl) (jw qw (@jR _ _ _ _ _ _ _ _ _ _ kt (pv 3) (@jN _ _ _ (pv 7)) (@jN _ _ _ jc)) (@jR _ _ _ _ _ _ _ _ _ _ kt (pv 3) (@jN _ _ _ jc) (@jN _ _ _ (pv 7))))) (jj (jU (@ze _ _ _ _ _ _ _ _ _ _ _ _ PySem.F.plainAttrs_list PySem.F.slot_list_append PySem.F.type_list_append jT (pv 5) (ja (jk (ja (@jm _ _ _ _ _ _ _ jr (pv 3) (pv 6) (fun _ _=>rfl)) (ja (@jF _ _ _ _ _ _ _ _ _ jL rfl mtu boot_tuple (ja (@jR _ _ _ _ _ _ _ _ _ _ kt (pv 8) (@zb _) (@jN _ _ _ (jh GT hr.m rfl mT kT bT .nil pass0 (ja (pv 0) (ja (pv 4) jb))))) jb) (by decide) (by decide) (by rfl) (by rfl)) jb))) jb) (by rfl) (by rfl) (by rfl) (by rfl) (by rfl)))))) (by intro _;rfl)) (jd (jo (i:=9) scAny.nd rfl (Or.inl rfl) (@jR _ _ _ _ _ _ _ _ _ _ kt (pv 3) (@jN _ _ _ jc) (@jN _ _ _ (jw jO jc (jh GT hr.m rfl mT kT bT .nil pass0 (ja (pv 0) (ja jc jb))))))) (jd (jo (i:=10) scAny.nd rfl (Or.inl rfl) (@jm _ _ _ _ _ _ _ jr (jH (ja jc (ja jc (ja jc (ja jc jb))))) (jh GT hr.m rfl mT kT bT .nil pass0 (ja (pv 0) (ja jc jb))) (fun _ _=>rfl))) (jd (jo (i:=11) scAny.nd rfl (Or.inl rfl) (jH jb)) (jd (@zJ _ _ _ _ _ _ _ _ PassesOwn.never rfl (@JC _ _ _ _ (pv 5)) (@zX _ _ _ _ _ 2 rfl (jE (jx (i:=12) scAny.nd rfl (Or.inl rfl)) (jE (jx (i:=13) scAny.nd rfl (Or.inl rfl)) zi)) (by rfl) (by rfl)) (jd (jo (i:=14) scAny.nd rfl (Or.inl rfl) (jH (ja (pv 2) jb))) (jd (jo (i:=15) scAny.nd rfl (Or.inl rfl) (jk jb)) (jd (@zJ _ _ _ _ _ _ _ _ PassesOwn.never rfl (@kQ _ _ _ _ _ _ rfl mr (ja jc jb) (by rfl)) (jx (i:=6) scAny.nd rfl (Or.inl rfl)) (jj (jo (i:=15) scAny.nd rfl (Or.inl rfl) (jw zq (pv 15) (jh GB hr rfl mB kB bB .nil pass0 (ja (pv 0) (ja (pv 9) (ja (pv 5) (ja (pv 14) (ja (pv 10) jb))))))))) (by intro _;rfl)) (jj (jU (@ze _ _ _ _ _ _ _ _ _ _ _ _ PySem.F.plainAttrs_list PySem.F.slot_list_append PySem.F.type_list_append jT (pv 11) (ja (jk (ja (pv 12) (ja (pv 13) (ja (pv 15) jb)))) jb) (by rfl) (by rfl) (by rfl) (by rfl) (by rfl))))))) (by intro _;rfl)) (jj (jv (@jF _ _ _ _ _ _ _ _ _ jL rfl mtu boot_tuple (ja (pv 11) jb) (by decide) (by decide) (by rfl) (by rfl))))))))))))),?_⟩
 try dsimp only[cxOf,Cx.nox,Cx.wish]
 have big:=line24
 refine seqO fun E1 m1=>?_
 refine⟨_,rfl,p,20,rfl,B,by decide,by decide,fun wl ys H1 nwl hw1 hyl hys nd B1 k1=>?_⟩
 refine m1 _ _ ?_
 refine seqO fun E2 m2=>?_
 have wp:wl≠p:=B.ne nwl
 refine midE (AJ p wl T rm H) (fun E0 _ fm=>?_) fun σ' H2 hq'=>?_
 ·clear m2
  refine ifG fun G' g'=>⟨_,rfl,p,2,rfl,B1,by decide,by decide,fun d1 H2 d10 d11 B2 e2=>?_⟩
  have hw2:H2 wl=some (.lst (ys.map V.str)):=by rw[e2 wl wp];exact hw1
  have k2:=k1.trans (But.of_eq e2)
  refine⟨rfl,_,rfl,g' _ _ ?_⟩
  clear g'
  refine ite2 (fun c=>?_) (fun c=>fm _ _ ⟨ys,rfl,hw2,by omega,hys,nd.1.sublist (List.take_sublist _ _),B2,k2⟩)
  refine⟨_,rfl,_,rfl,wl,_,rfl,SqL.of hw2,fun sl nsl=>?_⟩
  have hwn:wl≠sl:=fun e=>by rw[<- e,hw2]at nsl;cases nsl
  have hp2:=B2.ne nsl
  refine⟨_,rfl,wl,sl,_,_,_,_,rfl,rfl,rfl,rfl,keepN hw2 nsl,je,hwn,by decide,by decide,by rw[List.length_map];omega,?_,?_⟩
  ·have:=zo (ys.map V.str) none (some 2)
   rw[List.length_map]at this ⊢
   omega
  have e2:cutV (ys.map V.str) none (some 2)=(ys.take 2).map V.str:=by
   rw[show(2:Int)=((2:Nat):Int) from rfl,cutN (by rw[List.length_map];omega),List.map_take]
  have nd8:((ys.take 8++ys.take 2++ys.drop 10).take 8).Nodup:=by
   rw[List.append_assoc,List.take_append_of_le_length (by rw[List.length_take];omega),List.take_take]
   exact nd.1.sublist (List.take_sublist _ _)
  refine fm _ _ ⟨ys.take 8++ys.take 2++ys.drop 10,rfl,?_,?_,?_,nd8,(B2.upd_new nsl).eq (jf (Ne.symm wp)),?_⟩
  ·rw[je,e2,List.map_append,List.map_append,List.map_take,List.map_drop,List.map_take]
   rfl
  ·rw[List.length_append,List.length_append,List.length_take,List.length_take,List.length_drop]
   omega
  ·intro y hy
   rcases List.mem_append.mp hy with h |h
   ·rcases List.mem_append.mp h with h |h
    ·exact hys y (List.mem_of_mem_take h)
    ·exact hys y (List.mem_of_mem_take h)
   ·exact hys y (List.mem_of_mem_drop h)
  ·exact(k2.upd_new nsl).upd_own nwl
 obtain⟨ys,rfl,hw2,hyl,hys,nd8,B2,k2⟩:=hq'
 refine m2 _ _ ?_
 clear m1 m2
 refine seqO fun E3 m3=>?_
 refine⟨sz2,fun l1 nl1=>?_⟩
 refine⟨_,rfl,p,3,rfl,B2.upd_new nl1,by decide,by decide,fun d2 H3 d20 d21 B3 e3=>?_⟩
 have k3:But p H2 H3:=((But.refl).upd_new nl1).trans (But.of_eq e3)
 have l1p:=B2.ne nl1
 have hl1:H3 l1=some (.lst [.int 4,.int 7]):=by rw[e3 l1 l1p];exact je
 refine⟨rfl,.inr ⟨_,rfl,?_⟩⟩
 have hat:∀c:Bool,∃m:Int,atI [V.int 4,V.int 7] (if c then 1 else 0)=some (.int m)/\4<=m/\m<=7:=fun c=>by
  cases c
  ·exact⟨4,rfl,by decide,by decide⟩
  ·exact⟨7,rfl,by decide,by decide⟩
 obtain⟨m,hm,m4,m7⟩:=hat _
 refine⟨l1,_,_,_,rfl,rfl,SqL.of hl1,hm,?_⟩
 refine m3 _ _ ?_
 refine seqO fun E4 m4=>?_
 have hw3:H3 wl=some (.lst (ys.map V.str)):=k3 _ _ wp hw2
 have k3':=k2.trans k3
 refine⟨Nat.zero_le _,fun hl nhl=>?_⟩
 refine m4 _ _ ?_
 refine seqO fun E5 m5=>?_
 have hlp:=B3.ne nhl
 have nhl0:H hl=none:=by
  cases z:H hl with
  |none=>rfl
  |some o=>have:=k3' _ _ hlp z;rw[nhl]at this;cases this
 have wh:wl≠hl:=fun e=>by rw[<- e,hw3]at nhl;cases nhl
 refine forE fun J j=>⟨_,rfl,T,rfl,by omega,by omega,j _ _ ?_⟩
 clear j
 refine zS (lo:=0) (AI p wl hl T rm m ys H)
  ⟨none,none,none,[],[],rfl,je,rfl,rfl,(fun c hc=>nomatch hc),rfl,keepN hw3 nhl,B3.upd_new nhl,k3'.upd_own nhl0⟩ ?_ ?_
 ·intro D' _ i σ H4 hi fin Gq kq hq'
  obtain⟨o6,o7,o8,hs,hv,rfl,hh4,hd4,hsl,hok,hnm,hw4,B4,k4⟩:=hq'
  refine kq ?_
  clear kq m5 m3 m4
  show tSeq (tAsg _ _) _ D' _ _
  refine seqO fun F1 f1=>?_
  refine⟨_,rfl,p,6,rfl,B4,by decide,by decide,fun d5 H5 d50 d51 B5 e5=>?_⟩
  have k5:But p H4 H5:=But.of_eq e5
  have hw5:=k5 _ _ wp hw4
  have hh5:=k5 _ _ hlp hh4
  have hd5:=hd4.mono (k5.tm B4)
  refine⟨_,_,rfl,rfl,?_⟩
  refine f1 _ _ ?_
  show tSeq (tAsg _ _) _ D' _ _
  refine seqO fun F2 f2=>?_
  refine⟨_,rfl,_,rfl,_,rfl,_,rfl,wl,_,rfl,SqL.of hw5,fun s1 ns1=>?_⟩
  refine⟨_,rfl,_,rfl,_,rfl,_,rfl,wl,_,rfl,SqL.of (keepN hw5 ns1),fun s2 ns2=>?_⟩
  have L1:=qd ys (some (8+d5)) (some 14)
  have L2':=qd ys (some 8) (some (8+d5))
  have L3:=zo (ys.map V.str) (some (8+d5)) (some 14)
  have L4:=zo (ys.map V.str) (some 8) (some (8+d5))
  rw[List.length_map]at L3 L4
  refine⟨s1,s2,_,_,rfl,rfl,keepN je ns2,je,by omega,fun rl nrl=>?_⟩
  refine f2 _ _ ?_
  have er:cutV (ys.map V.str) (some (8+d5)) (some 14)++cutV (ys.map V.str) (some 8) (some (8+d5))=(cutS ys (some (8+d5)) (some 14)++cutS ys (some 8) (some (8+d5))).map V.str:=by
   rw[zC,zC,List.map_append]
  have s6:Same H5 (upd (upd (upd H5 s1 (.lst (cutV (ys.map V.str) (some (8+d5)) (some 14)))) s2 (.lst (cutV (ys.map V.str) (some 8) (some (8+d5))))) rl (.lst (cutV (ys.map V.str) (some (8+d5)) (some 14)++cutV (ys.map V.str) (some 8) (some (8+d5))))):=((jg ns1).trans (jg ns2)).trans (jg nrl)
  have r6:upd (upd (upd H5 s1 (.lst (cutV (ys.map V.str) (some (8+d5)) (some 14)))) s2 (.lst (cutV (ys.map V.str) (some 8) (some (8+d5))))) rl (.lst (cutV (ys.map V.str) (some (8+d5)) (some 14)++cutV (ys.map V.str) (some 8) (some (8+d5)))) rl=some (.lst ((cutS ys (some (8+d5)) (some 14)++cutS ys (some 8) (some (8+d5))).map V.str)):=by rw[je,er]
  have B6:BoxAt (upd (upd (upd H5 s1 (.lst (cutV (ys.map V.str) (some (8+d5)) (some 14)))) s2 (.lst (cutV (ys.map V.str) (some 8) (some (8+d5))))) rl (.lst (cutV (ys.map V.str) (some (8+d5)) (some 14)++cutV (ys.map V.str) (some 8) (some (8+d5))))) p:=((B5.upd_new ns1).upd_new ns2).upd_new nrl
  generalize upd (upd (upd H5 s1 (.lst (cutV (ys.map V.str) (some (8+d5)) (some 14)))) s2 (.lst (cutV (ys.map V.str) (some 8) (some (8+d5))))) rl (.lst (cutV (ys.map V.str) (some (8+d5)) (some 14)++cutV (ys.map V.str) (some 8) (some (8+d5))))=H6 at s6 r6 B6
  have LR:(cutS ys (some (8+d5)) (some 14)++cutS ys (some 8) (some (8+d5))).length<=40:=by rw[List.length_append];omega
  generalize cutS ys (some (8+d5)) (some 14)++cutS ys (some 8) (some (8+d5))=row at r6 LR
  have hw6:=s6 _ _ hw5
  have hh6:=s6 _ _ hh5
  have ei:(0:Int)+(i:Int)=(i:Int):=Int.zero_add _
  rw[ei]
  obtain⟨y,hy,hat,hyi⟩:∃y,y∈ys/\atI (ys.map V.str) (i:Int)=some (.str y)/\ys[i]?=some y:=by
   have hil:i < ys.length:=by omega
   exact⟨ys[i],List.getElem_mem hil,j6 (by rw[List.getElem?_map,List.getElem?_eq_getElem hil];rfl),List.getElem?_eq_getElem hil⟩
  have rp:rl≠p:=zZ B6 r6
  refine⟨_,rfl,.inl ⟨rfl,_,SqL.of hh6⟩,_,rfl,_,rfl,wl,_,_,_,rfl,rfl,SqL.of hw6,hat,_,rfl,_,rfl,_,rfl,p,m,rfl,B6,by omega,by omega,fun d7 H7 d70 d71 B7 e7=>?_⟩
  have k7:But p H6 H7:=But.of_eq e7
  refine⟨_,rfl,rl,_,rfl,SqL.of (k7 _ _ rp r6),fun s3 ns3=>?_⟩
  refine⟨s3,_,rfl,.inl ⟨SqL.of je,fun t nt=>⟨sz2,fun r nr=>?_⟩⟩⟩
  rw[zC]at nt nr ⊢
  have L8:=cutS_to (ss:=row) d70
  generalize cutS row none (some d7)=ps at*
  have s8:Same H7 (upd (upd (upd H7 s3 (.lst (ps.map V.str))) t (.tup (ps.map V.str))) r (.tup [.str y,.ref t])):=((jg ns3).trans (jg nt)).trans (jg nr)
  have t8:upd (upd (upd H7 s3 (.lst (ps.map V.str))) t (.tup (ps.map V.str))) r (.tup [.str y,.ref t]) t=some (.tup (ps.map V.str)):=keepN je nr
  have r8:upd (upd (upd H7 s3 (.lst (ps.map V.str))) t (.tup (ps.map V.str))) r (.tup [.str y,.ref t]) r=some (.tup [.str y,.ref t]):=je
  have B8:BoxAt (upd (upd (upd H7 s3 (.lst (ps.map V.str))) t (.tup (ps.map V.str))) r (.tup [.str y,.ref t])) p:=((B7.upd_new ns3).upd_new nt).upd_new nr
  generalize upd (upd (upd H7 s3 (.lst (ps.map V.str))) t (.tup (ps.map V.str))) r (.tup [.str y,.ref t])=H8 at s8 t8 r8 B8
  have hh8:=s8 _ _ (k7 _ _ hlp hh6)
  have hw8:=s8 _ _ (k7 _ _ wp hw6)
  have hdl:=hd4.len
  refine⟨hl,_,_,rfl,rfl,hh8,by omega,?_⟩
  have tm:TMono H8 (upd H8 hl (.lst (hv++[.ref r]))):=fun b xs e=>by rw[jf (jz e hh8 (by intro z;cases z))];exact e
  have hd8:=((hd5.mono (Same.tm s6)).mono (k7.tm B6)).mono (Same.tm s8)
  refine fin _ _ ⟨_,_,_,hs++[(y,ps)],_,rfl,je,(hd8.mono tm).snoc ⟨r,t,rfl,tm _ _ r8,tm _ _ t8⟩,by rw[List.length_append,hsl];rfl,zO hok ⟨hys y hy,by show ps.length<=6;omega⟩,by rw[List.map_append,hnm,List.take_succ,hyi];rfl,by rw[jf wh];exact hw8,B8.eq (jf (Ne.symm hlp)),?_⟩
  refine But.upd_own (fun b o n e=>?_) nhl0
  exact s8 _ _ (k7 _ _ n (s6 _ _ (k5 _ _ n (k4 _ _ n e))))
 intro σ H4 hq'
 refine opq fun Gq kq=>?_
 obtain⟨o6,o7,o8,hs,hv,rfl,hh4,hd4,hsl,hok,hnm,hw4,B4,k4⟩:=hq'
 refine kq ?_
 clear kq
 refine m5 _ _ ?_
 refine seqO fun E6 m6=>?_
 refine⟨_,rfl,_,rfl,_,rfl,p,7,rfl,B4,by decide,by decide,fun d5 H5 d50 d51 B5 e5=>?_⟩
 have k5:But p H4 H5:=But.of_eq e5
 have hw5:=k5 _ _ wp hw4
 have hh5:=k5 _ _ hlp hh4
 have hd5:=hd4.mono (k5.tm B4)
 refine⟨_,_,rfl,rfl,_,rfl,wl,_,rfl,SqL.of hw5,fun sm nsm=>?_⟩
 refine m6 _ _ ?_
 refine seqO fun E7 m7=>?_
 obtain⟨z1,z2⟩:=ZP (ys:=ys) (k:=14+d5) hyl (by omega) (by omega)
 have m6:upd H5 sm (.lst (cutV (ys.map V.str) (some 8) (some (14+d5)))) sm=some (.lst ((cutS ys (some 8) (some (14+d5))).map V.str)):=by rw[je,zC]
 have k6:But p H (upd H5 sm (.lst (cutV (ys.map V.str) (some 8) (some (14+d5))))):=(k4.trans k5).upd_new nsm
 have hh6:=keepN (o:=.lst (cutV (ys.map V.str) (some 8) (some (14+d5)))) hh5 nsm
 have hd6:=hd5.mono (Same.tm (jg (o:=.lst (cutV (ys.map V.str) (some 8) (some (14+d5)))) nsm))
 have B6:=B5.upd_new (o:=.lst (cutV (ys.map V.str) (some 8) (some (14+d5)))) nsm
 generalize upd H5 sm (.lst (cutV (ys.map V.str) (some 8) (some (14+d5))))=H6 at m6 k6 hh6 hd6 B6
 generalize cutS ys (some 8) (some (14+d5))=zs at m6 z1 z2
 have smp:=zZ B6 m6
 refine⟨sz4,fun l2 nl2=>?_⟩
 refine⟨_,rfl,p,4,rfl,B6.upd_new nl2,by decide,by decide,fun d7 H7 d70 d71 B7 e7=>?_⟩
 have k7:But p H6 H7:=((But.refl).upd_new nl2).trans (But.of_eq e7)
 have l2p:=B6.ne nl2
 have hl2:H7 l2=some (.lst [.int 3,.int 3,.int 3,.int 5]):=by rw[e7 l2 l2p];exact je
 refine opq fun Gq kq=>?_
 obtain⟨dp,hdp,dp6⟩:=deep_at d70 d71
 refine kq ?_
 clear kq
 refine⟨l2,_,_,_,rfl,rfl,SqL.of hl2,hdp,?_⟩
 refine m7 _ _ ?_
 refine seqO fun E8 m8=>?_
 have m7:=k7 _ _ smp m6
 have hh7:=k7 _ _ hlp hh6
 have hd7:=hd6.mono (k7.tm B6)
 have k7':=k6.trans k7
 refine⟨Nat.zero_le _,fun dl ndl=>?_⟩
 refine m8 _ _ ?_
 refine seqO fun E9 m9=>?_
 have dlp:=B7.ne ndl
 have ndl0:H dl=none:=by
  cases z:H dl with
  |none=>rfl
  |some o=>have:=k7' _ _ dlp z;rw[ndl]at this;cases this
 have hhdl:hl≠dl:=fun e=>by rw[<- e,hh7]at ndl;cases ndl
 have smdl:sm≠dl:=fun e=>by rw[<- e,m7]at ndl;cases ndl
 have hvl:=hd4.len
 refine forE fun J j=>⟨_,rfl,hl,rfl,⟨_,SqL.of (keepN hh7 ndl)⟩,j _ _ ?_⟩
 clear j
 refine Yp (K:=K) (a:=hl) (xs:=hv) (AK p wl hl sm dl T rm m dp zs hs hv H)
  ⟨_,_,_,_,_,_,_,[],[],rfl,je,rfl,rfl,(fun c hc=>nomatch hc),rfl,keepN hh7 ndl,hd7.mono (Same.tm (jg ndl)),keepN m7 ndl,B7.upd_new ndl,k7'.upd_own ndl0⟩ ?_ ?_ ?_
 ·intro i σ H8 _ hq'
  refine opq fun Gq kq=>?_
  obtain⟨o6,o7,o8,o12,o13,o14,o15,ds,dv,rfl,hdl,hD,hdl',hok',hds,hh,hd,hm8,B8,k8⟩:=hq'
  refine kq ?_
  clear kq
  exact SqL.of hh
 ·intro D' _ i v σ H8 hx fin Gq kq hq'
  obtain⟨o6,o7,o8,o12,o13,o14,o15,ds,dv,rfl,hdl,hD,hdl',hok',hds,hh,hd,hm8,B8,k8⟩:=hq'
  have hil:i < hv.length:=(List.getElem?_eq_some_iff.mp hx).1
  obtain⟨c,hc,q0,t0,rfl,w1,w2⟩:=hd.at i v hx
  refine kq ?_
  clear kq m9
  have hcm:=List.mem_of_getElem? hc
  have hcok:=hok c hcm
  refine tgE fun F6 f6=>⟨q0,_,rfl,SqT.of w1,rfl,_,_,rfl,_,_,rfl,rfl,f6 _ _ ?_⟩
  clear f6
  show tSeq (tAsg _ _) _ D' _ _
  refine seqO fun F1 f1=>?_
  refine⟨_,rfl,sz1,fun sp nsp=>?_⟩
  refine f1 _ _ ?_
  show tSeq (tAsg _ _) _ D' _ _
  refine seqO fun F2 f2=>?_
  refine⟨sz0,fun b0 nb0=>?_⟩
  refine f2 _ _ ?_
  show tSeq (tFor _ _ _) _ D' _ _
  refine seqO fun F3 f3=>?_
  have s9:Same H8 (upd (upd H8 sp (.lst [.int rm])) b0 (.tup [])):=(jg nsp).trans (jg nb0)
  have sp9:SpAt (upd (upd H8 sp (.lst [.int rm])) b0 (.tup [])) sp:=⟨rm,keepN je nb0⟩
  have b9:upd (upd H8 sp (.lst [.int rm])) b0 (.tup []) b0=some (.tup []):=je
  have B9:BoxAt (upd (upd H8 sp (.lst [.int rm])) b0 (.tup [])) p:=(B8.upd_new nsp).upd_new nb0
  have e9:spK (upd (upd H8 sp (.lst [.int rm])) b0 (.tup [])) sp=rm:=Jf (keepN je nb0)
  generalize upd (upd H8 sp (.lst [.int rm])) b0 (.tup [])=H9 at s9 sp9 b9 B9 e9
  have nsp0:H sp=none:=by
   cases z:H sp with
   |none=>rfl
   |some o=>have:=k8 _ _ (B8.ne nsp) z;rw[nsp]at this;cases this
  have dsp:dl≠sp:=fun e=>by rw[<- e,hdl]at nsp;cases nsp
  have G9:Gen H9 p sm hl sp zs hs:=⟨B9,s9 _ _ hm8,z1,z2,⟨hv,s9 _ _ hh,hd.mono (Same.tm s9)⟩,by omega,by omega,fun c hc=>(hok c hc).2,sp9⟩
  refine forE fun J j=>⟨_,rfl,by decide,by decide,j _ _ ?_⟩
  clear j
  refine zS (lo:=0) (AL hs zs p wl hl sm dl t0 sp T rm m dp o7 o8 c H9)
   ⟨_,b0,.nil,[],rfl,b9,rfl,(by rw[e9];exact⟨by show((0:Nat):Int)+_<=_;omega,hR1⟩),XJ,B9,sp9,But2.refl,Nat.le_refl _⟩ ?_ ?_
  ·intro D'' _ j σ H10 hj fin2 Gq kq hq'
   obtain⟨o6',bb,Bb,bs,rfl,hbb,hBb,hsz,hdep,B10,sp10,k10,lbs⟩:=hq'
   refine kq ?_
   clear kq f1 f2 f3
   have G10:=G9.but2 B10 sp10 k10
   refine⟨_,rfl,_,rfl,_,rfl,_,rfl,_,rfl,_,rfl,p,sm,hl,sp,dp,zs,hs,rfl,G10,dp6,hsz.2,fun r b bs' H11 hr11 hb11 hbl11 hsz11 hsz12 hdp11 B11 s11 k11=>?_⟩
   have tm:=k11.tm B10 sp10
   have lb:=hBb.len
   have lb':=hb11.len
   obtain⟨hsa,hsb⟩:=hsz
   refine⟨bb,r,_,_,rfl,rfl,tm _ _ hbb,hr11,by omega,fun r2 H12 hr12 s12=>?_⟩
   have B12:BoxAt H12 p:=by
    refine opq fun Gq kq=>?_
    obtain⟨a,b,h1,h2,h3,h⟩:=B11.ob
    refine kq ?_
    clear kq
    exact⟨a,b,h1,h2,h3,s12 _ _ h⟩
   have sp12:SpAt H12 sp:=by
    obtain⟨z,hz⟩:=s11
    exact⟨z,s12 _ _ hz⟩
   refine fin2 _ _ ⟨_,r2,Bb.app b,_,rfl,hr12,(hb11.mono (Same.tm s12)).app ((hBb.mono tm).mono (Same.tm s12)),?_,XL hdep hdp11,B12,sp12,k10.trans (k11.trans (But2.of_same s12)),by rw[List.length_append];omega⟩
   rw[zn,j4 s11 s12]
   exact⟨by omega,hsz12⟩
  ·intro σ H10 hq'
   refine opq fun Gq kq=>?_
   obtain⟨o6',bb,Bb,bs,rfl,hbb,hBb,hsz,hdep,B10,sp10,k10,lbs⟩:=hq'
   refine kq ?_
   clear kq
   refine f3 _ _ ?_
   have hdl10:H10 dl=some (.lst dv):=k10 _ _ dlp dsp (s9 _ _ hdl)
   have G10:=G9.but2 B10 sp10 k10
   have tm10:TMono H8 H10:=fun b xs e=>k10.tm B9 sp9 _ _ (s9 _ _ e)
   refine⟨_,rfl,.inl ⟨rfl,_,SqL.of hdl10⟩,_,rfl,_,rfl,_,rfl,sz3,fun r nr=>?_⟩
   have s11:Same H10 (upd H10 r (.tup [.str c.1,.ref t0,.ref bb])):=jg nr
   have hdvl:=hD.len
   have hsz':(Bb.size:Int)<=rm:=by obtain⟨hsa,hsb⟩:=hsz;omega
   have tp:=hBb.len
   have j3:(3:Int).toNat=3:=rfl
   refine⟨dl,_,_,rfl,rfl,s11 _ _ hdl10,by omega,?_⟩
   have hr11:upd H10 r (.tup [.str c.1,.ref t0,.ref bb]) r=some (.tup [.str c.1,.ref t0,.ref bb]):=je
   have B11:=B10.upd_new (o:=.tup [.str c.1,.ref t0,.ref bb]) nr
   generalize upd H10 r (.tup [.str c.1,.ref t0,.ref bb])=H11 at s11 hr11 B11
   have tm:TMono H11 (upd H11 dl (.lst (dv++[.ref r]))):=fun b xs e=>by rw[jf (jz e (s11 _ _ hdl10) (by intro z;cases z))];exact e
   have tmA:TMono H10 (upd H11 dl (.lst (dv++[.ref r]))):=fun b xs e=>tm _ _ (s11 _ _ e)
   have tmB:TMono H8 (upd H11 dl (.lst (dv++[.ref r]))):=fun b xs e=>tmA _ _ (tm10 _ _ e)
   refine fin _ _ ⟨_,_,_,_,_,_,_,ds++[⟨c.1,c.2,Bb⟩],_,rfl,je,(hD.mono tmB).snoc ⟨r,t0,bb,bs,rfl,tm _ _ hr11,tmB _ _ w2,tmA _ _ hbb,hBb.mono tmA⟩,by rw[List.length_append,hdl'];rfl,zO hok' ⟨hdep.2.2,hcok.2,by show Bb.top<=15;omega,hdep.1,Nat.le_trans hdep.2.1 (by omega),hsz'⟩,by rw[List.map_append,hds,List.take_succ,hc];rfl,?_,hd.mono tmB,?_,B11.eq (jf (Ne.symm dlp)),?_⟩
   ·obtain⟨hv',e1,e2⟩:=G10.h
    rw[jf hhdl]
    exact s11 _ _ (k10 _ _ G9.hsp.2 G9.hsp.1 (s9 _ _ hh))
   ·rw[jf smdl]
    exact s11 _ _ G10.g
   ·refine But.upd_own (fun b o n e=>?_) ndl0
    exact s11 _ _ (k10 _ _ n (jl e nsp0) (s9 _ _ (k8 _ _ n e)))
 ·intro σ H8 hq'
  refine opq fun Gq kq=>?_
  obtain⟨o6,o7,o8,o12,o13,o14,o15,ds,dv,rfl,hdl,hD,hdl',hok',hds,hh,hd,hm8,B8,k8⟩:=hq'
  refine kq ?_
  clear kq
  refine m9 _ _ ?_
  refine⟨_,rfl,dl,dv,rfl,.inl ⟨SqL.of hdl,fun t nt=>?_⟩⟩
  have ehs:ds.map hdOf=hs:=by rw[hds];exact List.take_of_length_le (by omega)
  have ndT:(ys.take hs.length).Nodup:=by
   have e:ys.take hs.length=(ys.take 8).take hs.length:=by rw[List.take_take,Nat.min_eq_left (by omega)]
   rw[e]
   exact nd8.sublist (List.take_sublist _ _)
  rw[<- hsl]at hnm
  exact q t ds dv _ je (hD.mono (Same.tm (jg nt))) (by omega) (by rw[ehs];exact hok') (by rw[ehs,hnm];exact ndT) (by rw[ehs];exact hok) (B8.upd_new nt) (k8.upd_new nt)
theorem sz0:0<=sizeLine:=by decide
theorem sz1:1<=sizeLine:=by decide
theorem sz2:2<=sizeLine:=by decide
theorem sz3:3<=sizeLine:=by decide
theorem sz4:4<=sizeLine:=by decide
theorem TMono.trans{H H1 H2:Hp}(a:TMono H H1)(b:TMono H1 H2):TMono H H2:=fun c xs e=>b c xs (a c xs e)
theorem TMono.refl{H:Hp}:TMono H H:=fun _ _ e=>e
def TmX(H:Hp)(ys:List Str)(k:Nat)(a:Addr):Prop:=∃T,TmAt H T a/\T.Good ys/\T.depth<=k
theorem TmX.mono{H H':Hp}{ys:List Str}{k:Nat}{a:Addr}(h:TmX H ys k a)(m:TMono H H'):TmX H' ys k a:=let ⟨T,h1,h2⟩:=h;⟨T,h1.mono m,h2⟩
theorem TmX.ok{H:Hp}{ys:List Str}{k:Nat}{a:Addr}(h:TmX H ys k a)(m:k < 6):∃T,TmAt H T a/\TOk T:=let ⟨T,h1,h2,h3⟩:=h;⟨T,h1,by omega,ys,h2⟩
section
variable {H:Hp}{ys:List Str}
theorem tx_num{a:Addr}{n:Int}(h:H a=some (.tup [.str "num",.int n]))(h0:0<=n)(h1:n < 1000000000000000000):TmX H ys 0 a:=⟨.num n,h,⟨h0,h1⟩,Nat.zero_le _⟩
theorem Zc{a:Addr}{x:Str}(h:H a=some (.tup [.str "var",.str x]))(hx:x∈ys):TmX H ys 0 a:=⟨.var x,h,hx,Nat.zero_le _⟩
def Sg(s:Str):Prop:=∃i,i < 6/\s=sgn i
theorem tx_op{a b c:Addr}{s:Str}{j k n:Nat}(h:H a=some (.tup [.str "op",.str s,.ref b,.ref c]))(hs:Sg s)(hb:TmX H ys j b)(hc:TmX H ys k c)(hj:j < n)(hk:k < n):TmX H ys n a:=by
 obtain⟨i,hi,rfl⟩:=hs
 obtain⟨B,b1,b2,b3⟩:=hb
 obtain⟨C,c1,c2,c3⟩:=hc
 exact⟨.op i B C,⟨b,c,h,b1,c1⟩,⟨hi,b2,c2⟩,by show max B.depth C.depth+1<=n;omega⟩
theorem zu:Sg "+":=⟨0,by decide,by decide+kernel⟩
theorem Qw:Sg "-":=⟨1,by decide,by decide+kernel⟩
theorem Qx:Sg "*":=⟨2,by decide,by decide+kernel⟩
theorem sg_over:Sg "/":=⟨3,by decide,by decide+kernel⟩
theorem Qb:Sg "<":=⟨4,by decide,by decide+kernel⟩
theorem sg_eq:Sg "=":=⟨5,by decide,by decide+kernel⟩
theorem pick_sg{d:Int}(h0:0<=d)(h1:d < 4):∃s,atI [V.str "+",.str "+",.str "*",.str "-"] d=some (.str s)/\Sg s:=by
 rcases(by omega:d=0∨d=1∨d=2∨d=3) with rfl |rfl |rfl |rfl
 ·exact⟨_,rfl,zu⟩
 ·exact⟨_,rfl,zu⟩
 ·exact⟨_,rfl,Qx⟩
 ·exact⟨_,rfl,Qw⟩
theorem pick_s3{d:Int}(h0:0<=d)(h1:d < 3):∃c,atI (Str.cps "<=*").toList d=some c/\Sg ⟨#[c]⟩:=by
 rcases(by omega:d=0∨d=1∨d=2) with rfl |rfl |rfl
 ·exact⟨_,rfl,Qb⟩
 ·exact⟨_,rfl,sg_eq⟩
 ·exact⟨_,rfl,Qx⟩
theorem pick2{P:Addr->Prop}{a b:Addr}{d:Int}(h0:0<=d)(h1:d < 2)(ha:P a)(hb:P b):∃x,atI [V.ref a,.ref b] d=some (.ref x)/\P x:=by
 rcases(by omega:d=0∨d=1) with rfl |rfl
 ·exact⟨_,rfl,ha⟩
 ·exact⟨_,rfl,hb⟩
theorem pick3{P:Addr->Prop}{a b c:Addr}{d:Int}(h0:0<=d)(h1:d < 3)(ha:P a)(hb:P b)(hc:P c):∃x,atI [V.ref a,.ref b,.ref c] d=some (.ref x)/\P x:=by
 rcases(by omega:d=0∨d=1∨d=2) with rfl |rfl |rfl
 ·exact⟨_,rfl,ha⟩
 ·exact⟨_,rfl,hb⟩
 ·exact⟨_,rfl,hc⟩
theorem pickB{P:Addr->Prop}{a b:Addr}(ha:P a)(hb:P b)(c:Bool):∃x,atI [V.ref a,.ref b] (if c then 1 else 0)=some (.ref x)/\P x:=by
 cases c
 ·exact⟨_,rfl,ha⟩
 ·exact⟨_,rfl,hb⟩
def Rg(g:Str)(f:Str)(n:Nat):Prop:=f=g/\n=2
def StX(g:Str)(H:Hp)(ys:List Str)(d:Nat)(v:V):Prop:=∃s:Bd,BdV H s [v]/\s.Ok/\s.dep<=d/\s.size<=1+20*d/\s.cs (Rg g)/\s.sm 100
def BdX(g:Str)(H:Hp)(ys:List Str)(d:Nat)(xs:List V):Prop:=∃b:Bd,BdV H b xs/\b.Ok/\b.dep<=d/\b.size<=(1+20*d)*xs.length/\b.cs (Rg g)/\b.sm 100
variable {g:Str}
theorem StX.mono{H':Hp}{d:Nat}{v:V}(h:StX g H ys d v)(m:TMono H H'):StX g H' ys d v:=let ⟨s,h1,h2⟩:=h;⟨s,h1.mono m,h2⟩
theorem BdX.mono{H':Hp}{d:Nat}{xs:List V}(h:BdX g H ys d xs)(m:TMono H H'):BdX g H' ys d xs:=let ⟨s,h1,h2⟩:=h;⟨s,h1.mono m,h2⟩
theorem StX.up{v:V}{d:Nat}(h:StX g H ys 0 v):StX g H ys d v:=let ⟨s,h1,h2,h3,h4,h5⟩:=h;⟨s,h1,h2,by omega,by omega,h5⟩
theorem JX{d:Nat}:BdX g H ys d []:=⟨.nil,rfl,trivial,Nat.zero_le _,Nat.zero_le _,trivial,trivial⟩
theorem Jh{d:Nat}{xs zs:List V}(h:BdX g H ys d xs)(k:BdX g H ys d zs):BdX g H ys d (xs++zs):=by
 obtain⟨a,a1,a2,a3,a4,a5,a6⟩:=h
 obtain⟨b,b1,b2,b3,b4,b5,b6⟩:=k
 refine⟨a.app b,b1.app a1,Bd.Ok.app b2 a2,by rw[qN];omega,?_,qx b5 a5,Jg b6 a6⟩
 rw[zn,List.length_append,Nat.mul_add]
 omega
theorem zA{d:Nat}{v:V}(h:StX g H ys d v):BdX g H ys d [v]:=by
 obtain⟨s,h1,h2,h3,h4,h5⟩:=h
 exact⟨s,h1,h2,h3,by show s.size<=(1+20*d)*1;omega,h5⟩
theorem jS{d:Nat}{v:V}{xs:List V}(h:StX g H ys d v)(k:BdX g H ys d xs):BdX g H ys d (v::xs):=Jh (xs:=[v]) (zA h) k
theorem Qi{p:Addr}{l:Lf}(h2:LfV H (.ref p) l)(h3:l.Ok)(c:l.cs (Rg g)):StX g H ys 0 (.ref p):=⟨.lf l .nil,⟨.ref p,[],rfl,h2,rfl⟩,⟨h3,trivial⟩,Nat.le_refl 0,Nat.le_refl 1,⟨c,trivial⟩,trivial⟩
theorem sx_rd{p t:Addr}{x:Str}{k:Nat}(h:H p=some (.tup [.str "read",.str x,.ref t]))(hx:x∈ys)(ht:TmX H ys k t)(hk:k < 6:=by decide):StX g H ys 0 (.ref p):=by
 obtain⟨T,t1,t2⟩:=ht.ok hk
 exact Qi (l:=.rd x T) ⟨p,t,rfl,h,t1⟩ t2 trivial
theorem sx_st{p t:Addr}{x:Str}{k:Nat}(h:H p=some (.tup [.str "set",.str x,.ref t]))(hx:x∈ys)(ht:TmX H ys k t)(hk:k < 6:=by decide):StX g H ys 0 (.ref p):=by
 obtain⟨T,t1,t2⟩:=ht.ok hk
 exact Qi (l:=.set x T) ⟨p,t,rfl,h,t1⟩ t2 trivial
theorem sx_gv{p t:Addr}{k:Nat}(h:H p=some (.tup [.str "give",.ref t]))(ht:TmX H ys k t)(hk:k < 6:=by decide):StX g H ys 0 (.ref p):=by
 obtain⟨T,t1,t2⟩:=ht.ok hk
 exact Qi (l:=.gv T) ⟨p,t,rfl,h,t1⟩ t2 trivial
theorem sx_wr{p t u:Addr}{k j:Nat}(h:H p=some (.tup [.str "write",.ref t,.ref u]))(ht:TmX H ys k t)(hu:TmX H ys j u)(hk:k < 6:=by decide)(hj:j < 6:=by decide):StX g H ys 0 (.ref p):=by
 obtain⟨T,t1,t2⟩:=ht.ok hk
 obtain⟨U,u1,u2⟩:=hu.ok hj
 exact Qi (l:=.wr T U) ⟨p,t,u,rfl,h,t1,u1⟩ ⟨t2,u2⟩ trivial
theorem sx_cl{p q t u:Addr}{x:Str}{k j:Nat}(h:H p=some (.tup [.str "call",.str x,.str g,.ref q]))(hx:x∈ys)(hq:H q=some (.tup [.ref t,.ref u]))(ht:TmX H ys k t)(hu:TmX H ys j u)(hk:k < 6:=by decide)(hj:j < 6:=by decide):StX g H ys 0 (.ref p):=by
 obtain⟨T,t1,t2⟩:=ht.ok hk
 obtain⟨U,u1,u2⟩:=hu.ok hj
 refine Qi (l:=.cl x g [T,U]) ⟨p,q,_,rfl,h,hq,t,_,rfl,t1,u,_,rfl,u1,rfl⟩ ⟨fun c hc=>?_,by show 2<=100;decide⟩ ⟨rfl,rfl⟩
 rcases List.mem_cons.mp hc with rfl |hc
 ·exact t2
 ·rw[List.mem_singleton.mp hc];exact u2
theorem sx_if{p t qa qb:Addr}{as bs:List V}{k:Nat}(h:H p=some (.tup [.str "if",.ref t,.ref qa,.ref qb]))(ht:TmX H ys k t)(ha:H qa=some (.tup as))(hb:H qb=some (.tup bs))(ga:BdX g H ys 0 as)(gb:BdX g H ys 0 bs)(hl:as.length+bs.length<=20)(hk:k < 6:=by decide):StX g H ys 1 (.ref p):=by
 obtain⟨T,t1,t2⟩:=ht.ok hk
 obtain⟨a,a1,a2,a3,a4,a5,a6⟩:=ga
 obtain⟨b,b1,b2,b3,b4,b5,b6⟩:=gb
 have la:=a1.len
 have lb:=b1.len
 exact⟨.ite T a b .nil,⟨p,t,qa,qb,as,bs,[],rfl,h,t1,ha,a1,hb,b1,rfl⟩,⟨⟨t2,by omega,by omega⟩,a2,b2,trivial⟩,(by show max (max a.dep b.dep+1) 0<=1;omega),(by show a.size+b.size+0+1<=21;omega),⟨a5,b5,trivial⟩,a6,b6,trivial⟩
theorem ZQ{p t qa:Addr}{as:List V}{k:Nat}(h:H p=some (.tup [.str "while",.ref t,.ref qa]))(ht:TmX H ys k t)(ha:H qa=some (.tup as))(ga:BdX g H ys 0 as)(hl:as.length<=20)(hk:k < 6:=by decide):StX g H ys 1 (.ref p):=by
 obtain⟨T,t1,t2⟩:=ht.ok hk
 obtain⟨a,a1,a2,a3,a4,a5,a6⟩:=ga
 have la:=a1.len
 exact⟨.loop T a .nil,⟨p,t,qa,as,[],rfl,h,t1,ha,a1,rfl⟩,⟨⟨t2,by omega⟩,a2,trivial⟩,(by show max (a.dep+1) 0<=1;omega),(by show a.size+0+1<=21;omega),⟨a5,trivial⟩,by omega,a6,trivial⟩
def DfX(g f:Str)(n:Nat)(H:Hp)(r:Addr):Prop:=∃d:Df,DfV H (.ref r) d/\d.f=f/\d.ps.length=n/\d.body.Ok/\d.body.top<=16/\d.body.size<=400/\d.body.cs (Rg g)/\d.body.sm 100/\d.body.dep<=5
theorem DfX.mono{H':Hp}{f:Str}{n:Nat}{r:Addr}(h:DfX g f n H r)(m:TMono H H'):DfX g f n H' r:=let ⟨d,h1,h2⟩:=h;⟨d,h1.mono m,h2⟩
theorem dx_mk{r a b:Addr}{f:Str}{ps:List Str}{xs:List V}(h:H r=some (.tup [.str f,.ref a,.ref b]))(ha:H a=some (.tup (ps.map V.str)))(hb:H b=some (.tup xs))(k:BdX g H ys 1 xs)(hx:xs.length<=16):DfX g f ps.length H r:=by
 obtain⟨c,c1,c2,c3,c4,c5,c6⟩:=k
 have l:=c1.len
 exact⟨⟨f,ps,c⟩,⟨r,a,b,xs,rfl,h,ha,hb,c1⟩,rfl,rfl,c2,by show c.top<=16;omega,by show c.size<=400;omega,c5,c6,by show c.dep<=5;omega⟩
structure Wx(H0 H:Hp)(p wl:Addr)(ys:List Str):Prop where
 B:BoxAt H p
 K:But p H0 H
 w:H wl=some (.lst (ys.map V.str))
theorem Wx.np{H0:Hp}{p wl:Addr}(h:Wx H0 H p wl ys):wl≠p:=zZ h.B h.w
theorem Wx.same{H0 H':Hp}{p wl:Addr}(h:Wx H0 H p wl ys)(s:Same H H'):Wx H0 H' p wl ys:=⟨h.B.same s,h.K.trans (But.of_same s),s _ _ h.w⟩
theorem Wx.but{H0 H':Hp}{p wl:Addr}(h:Wx H0 H p wl ys)(B:BoxAt H' p)(k:But p H H'):Wx H0 H' p wl ys:=⟨B,h.K.trans k,k _ _ h.np h.w⟩
theorem Wx.own{H0:Hp}{p wl l:Addr}{xs zs:List V}(h:Wx H0 H p wl ys)(n:H0 l=none)(lp:l≠p)(lw:l≠wl):Wx H0 (upd H l (.lst zs)) p wl ys:=⟨h.B.eq (jf (Ne.symm lp)),h.K.upd_own n,by rw[jf (Ne.symm lw)];exact h.w⟩
theorem K2{l:Addr}{xs zs:List V}(hl:H l=some (.lst xs)):TMono H (upd H l (.lst zs)):=fun b us e=>by rw[jf (jz e hl (by intro z;cases z))];exact e
end
def spOp:Sp:=fun vs H Q _=>∃(p a b:Addr) (ys:List Str) (k:Nat),vs=[.ref p,.ref a,.ref b]/\BoxAt H p/\TmX H ys k a/\TmX H ys k b/\∀(r:Addr) (H':Hp),TmX H' ys (k+1) r->BoxAt H' p->But p H H'->Q (.ref r) H'
def spDefn(n:Nat):Sp:=fun vs H Q _=>∃(p wl:Addr) (f g:Str) (ys:List Str),vs=[.ref p,.str f,.str g,.ref wl]/\BoxAt H p/\H wl=some (.lst (ys.map V.str))/\ys.length=6/\∀(r:Addr) (H':Hp),DfX g f n H' r->BoxAt H' p->But p H H'->Q (.ref r) H'
noncomputable abbrev sOp:Stmt:=top 34
noncomputable abbrev sInner:Stmt:=top 35
noncomputable abbrev sLooped:Stmt:=top 36
noncomputable abbrev sTicking:Stmt:=top 37
noncomputable abbrev sBusy:Stmt:=top 38
theorem len5{as:List V}(h:as.length=5):∃a b c d e,as=[a,b,c,d,e]:=by
 match as,h with
 | [a,b,c,d,e],_=>exact⟨a,b,c,d,e,rfl⟩
theorem ix0{n:Nat}:ixN (n+1) 0=some 0:=by unfold ixN;rw[if_pos (by decide),if_pos (by omega)];rfl
theorem ix1{n:Nat}:ixN (n+2) 1=some 1:=by unfold ixN;rw[if_pos (by decide),if_pos (by omega)];rfl
theorem at0{v:V}{ys:List V}:atI (v::ys) 0=some v:=j6 (j:=0) rfl
theorem at1{v u:V}{ys:List V}:atI (v::u::ys) 1=some u:=j6 (j:=1) rfl
structure Fw(p:Addr)(H H':Hp):Prop where
 t:TMono H H'
 b:But p H H'
theorem Fw.refl{p:Addr}{H:Hp}:Fw p H H:=⟨TMono.refl,But.refl⟩
theorem Fw.trans{p:Addr}{H H1 H2:Hp}(a:Fw p H H1)(b:Fw p H1 H2):Fw p H H2:=⟨a.t.trans b.t,a.b.trans b.b⟩
theorem Fw.new{p r:Addr}{H:Hp}{o:HO}(n:H r=none):Fw p H (upd H r o):=⟨Same.tm (jg n),But.of_same (jg n)⟩
theorem Fw.same{p:Addr}{H H':Hp}(s:Same H H'):Fw p H H':=⟨Same.tm s,But.of_same s⟩
theorem Fw.but{p:Addr}{H H':Hp}(B:BoxAt H p)(c:But p H H'):Fw p H H':=⟨c.tm B,c⟩
def Mon(P:Hp->V->Prop):Prop:=∀H H' v,TMono H H'->P H v->P H' v
def Ev(H0:Hp)(p wl:Addr)(ys:List Str)(Hb:Hp)(σ:L2.St)(te:TE)(P:Hp->V->Prop):Prop:=∀(H:Hp) (Q:VK),Fw p Hb H->Wx H0 H p wl ys->(∀v H',P H' v->Wx H0 H' p wl ys->Fw p H H'->Q v H')->te σ H Q
def PT(ys:List Str)(k:Nat)(H:Hp)(v:V):Prop:=∃a,v= .ref a/\TmX H ys k a
def PB(g:Str)(ys:List Str)(d n:Nat)(H:Hp)(v:V):Prop:=∃a xs,v= .ref a/\H a=some (.tup xs)/\BdX g H ys d xs/\xs.length<=n
def PN(ys:List Str)(_:Hp)(v:V):Prop:=∃x,v= .str x/\x∈ys
def PI(x:Str)(_:Hp)(v:V):Prop:=v= .str x
def PG(_:Hp)(v:V):Prop:=∃s,v= .str s/\Sg s
def PP(n:Nat)(H:Hp)(v:V):Prop:=∃(a:Addr) (ps:List Str),v= .ref a/\H a=some (.tup (ps.map V.str))/\ps.length=n
def PD(g f:Str)(n:Nat)(H:Hp)(v:V):Prop:=∃a,v= .ref a/\DfX g f n H a
section
variable {g:Str}{ys:List Str}{H0 Hb:Hp}{p wl:Addr}{σ:L2.St}
theorem monT{k:Nat}:Mon (PT ys k):=fun _ _ _ m ⟨a,e,h⟩=>⟨a,e,h.mono m⟩
theorem monB{d n:Nat}:Mon (PB g ys d n):=fun _ _ _ m ⟨a,xs,e,h1,h2,h3⟩=>⟨a,xs,e,m _ _ h1,h2.mono m,h3⟩
theorem monS{d:Nat}:Mon fun H v=>StX g H ys d v:=fun _ _ _ m h=>h.mono m
theorem monD{f:Str}{n:Nat}:Mon (PD g f n):=fun _ _ _ m ⟨a,e,h1⟩=>⟨a,e,h1.mono m⟩
theorem Ev.up{te:TE}{P R:Hp->V->Prop}(h:Ev H0 p wl ys Hb σ te P)(k:∀H v,P H v->R H v):Ev H0 p wl ys Hb σ te R:=fun H Q m W q=>h H Q m W fun v H' x=>q v H' (k _ _ x)
theorem jI{P:Hp->V->Prop}{i:Nat}{v:V}(e:σ[i]?=some (some v))(M:Mon P)(h:P Hb v):Ev H0 p wl ys Hb σ (tVar i) P:=fun H Q m W q=>⟨v,e,q v H (M _ _ _ m.t h) W .refl⟩
theorem QO{i:Nat}{x:Str}(e:σ[i]?=some (some (.str x))):Ev H0 p wl ys Hb σ (tVar i) (PI x):=jI e (fun _ _ _ _ h=>h) rfl
theorem zW{s:Str}(h:Sg s):Ev H0 p wl ys Hb σ (tC (.str s)) PG:=fun H Q m W q=>q _ H ⟨s,rfl,h⟩ W .refl
theorem kx{K:Frag}{i:Int}{j:Nat}(e:σ[j]?=some (some (.ref wl)))(h0:0<=i)(h1:i < (ys.length:Int)):Ev H0 p wl ys Hb σ (tOp (rIxL K) (tVar j) (tC (.int i))) (PN ys):=fun H Q m W q=>by
 obtain⟨y,hy,hat⟩:=JW (ys:=ys) h0 h1
 exact⟨_,e,wl,_,_,_,rfl,rfl,SqL.of W.w,hat,q _ H ⟨y,rfl,hy⟩ W .refl⟩
theorem KW{K:Frag}{i:Int}{j:Nat}{x:Str}(e:σ[j]?=some (some (.ref wl)))(h:atI (ys.map V.str) i=some (.str x)):Ev H0 p wl ys Hb σ (tOp (rIxL K) (tVar j) (tC (.int i))) (PI x):=fun H Q m W q=>
 ⟨_,e,wl,_,_,_,rfl,rfl,SqL.of W.w,h,q _ H rfl W .refl⟩
theorem j9{H:Hp}{r:Addr}{o:HO}{Q:VK}{P:Hp->V->Prop}(W:Wx H0 H p wl ys)(q:∀v H',P H' v->Wx H0 H' p wl ys->Fw p H H'->Q v H')(n:H r=none)(x:TMono H (upd H r o)->upd H r o r=some o->P (upd H r o) (.ref r)):Q (.ref r) (upd H r o):=
 q _ _ (x (Same.tm (jg n)) je) (W.same (jg n)) (.new n)
abbrev tTk(n:Int):TE:=tCall spTake [] E0 (tCons (tVar 0) (tCons (tC (.int n)) tNil))
def PK(n:Int)(_:Hp)(v:V):Prop:=∃d:Int,v= .int d/\0<=d/\d < n
theorem za{n:Int}(e:σ[0]?=some (some (.ref p)))(h1:1<=n)(h2:n<=1000):Ev H0 p wl ys Hb σ (tTk n) (PK n):=fun H Q m W q=>
 ⟨_,e,p,n,rfl,W.B,by omega,by omega,fun d H1 d0 d1 B1 e1=>q _ _ ⟨d,rfl,d0,d1⟩ (W.but B1 (But.of_eq e1)) (.but W.B (But.of_eq e1))⟩
theorem kn{te:TE}{n:Int}(h:Ev H0 p wl ys Hb σ te (PK n))(h1:n<=1000000000000000000):Ev H0 p wl ys Hb σ (tTup (tCons (tC (.str "num")) (tCons te tNil))) (PT ys 0):=fun H Q m W q=>
 h H _ m W fun v H1 ⟨d,e,d0,d1⟩ W1 k1=>⟨sz2,fun r nr=>j9 (P:=PT ys 0) W1 (fun v' H' x W' k=>q v' H' x W' (k1.trans k)) nr fun _ z=>⟨r,rfl,tx_num (by rw[z,e]) d0 (by omega)⟩⟩
theorem KY{n m:Int}(h0:0<=n)(h1:n < m):Ev H0 p wl ys Hb σ (tC (.int n)) (PK m):=fun H Q _ W q=>q _ H ⟨n,rfl,h0,h1⟩ W .refl
theorem K5{te:TE}{n m:Int}(h:Ev H0 p wl ys Hb σ te (PK n))(h0:0<=m):Ev H0 p wl ys Hb σ (tOp (rI0 fun i j=>V.int (i+j)) (tC (.int m)) te) (PK (m+n)):=fun H Q mm W q=>
 h H _ mm W fun v H1 ⟨d,e,d0,d1⟩ W1 k1=>⟨m,d,rfl,e,q _ H1 ⟨m+d,rfl,by omega,by omega⟩ W1 k1⟩
theorem JO{te:TE}(h:Ev H0 p wl ys Hb σ te (PN ys)):Ev H0 p wl ys Hb σ (tTup (tCons (tC (.str "var")) (tCons te tNil))) (PT ys 0):=fun H Q m W q=>
 h H _ m W fun v H1 ⟨d,e,hd⟩ W1 k1=>⟨sz2,fun r nr=>j9 (P:=PT ys 0) W1 (fun v' H' x W' k=>q v' H' x W' (k1.trans k)) nr fun _ z=>⟨r,rfl,Zc (by rw[z,e]) hd⟩⟩
theorem zU{ts ta tb:TE}{j k n:Nat}(hs:Ev H0 p wl ys Hb σ ts PG)(ha:Ev H0 p wl ys Hb σ ta (PT ys j))(hb:Ev H0 p wl ys Hb σ tb (PT ys k))(h1:j < n)(h2:k < n):Ev H0 p wl ys Hb σ (tTup (tCons (tC (.str "op")) (tCons ts (tCons ta (tCons tb tNil))))) (PT ys n):=fun H Q m W q=>
 hs H _ m W fun v1 H1 ⟨s,e1,x1⟩ W1 k1=>ha H1 _ (m.trans k1) W1 fun v2 H2 ⟨a,e2,x2⟩ W2 k2=>hb H2 _ ((m.trans k1).trans k2) W2 fun v3 H3 ⟨b,e3,x3⟩ W3 k3=>⟨sz4,fun r nr=>j9 (P:=PT ys n) W3 (fun v' H' x W' k=>q v' H' x W' (((k1.trans k2).trans k3).trans k)) nr fun t z=>
  ⟨r,rfl,tx_op (by rw[z,e1,e2,e3]) x1 ((x2.mono k3.t).mono t) (x3.mono t) h1 h2⟩⟩
theorem ev_s3(e:σ[0]?=some (some (.ref p))):Ev H0 p wl ys Hb σ (tOp rIxS (tC (.str "<=*")) (tTk 3)) PG:=fun H Q m W q=>
 za e (by decide) (by decide) H _ m W fun v H1 ⟨d,e1,d0,d1⟩ W1 k1=>by
  obtain⟨g,i,x⟩:=pick_s3 d0 d1
  exact⟨"<=*",d,g,rfl,e1,by decide+kernel,i,q _ H1 ⟨_,rfl,x⟩ W1 k1⟩
theorem Xp{K:Frag}{ta tb:TE}{k:Nat}(e:σ[0]?=some (some (.ref p)))(ha:Ev H0 p wl ys Hb σ ta (PT ys k))(hb:Ev H0 p wl ys Hb σ tb (PT ys k)):Ev H0 p wl ys Hb σ (tOp (rIxL K) (tLst (tCons ta (tCons tb tNil))) (tTk 2)) (PT ys k):=fun H Q m W q=>
 ha H _ m W fun v2 H2 ⟨a,e2,x2⟩ W2 k2=>hb H2 _ (m.trans k2) W2 fun v3 H3 ⟨b,e3,x3⟩ W3 k3=>⟨sz2,fun l nl=>za e (by decide) (by decide) _ _ (((m.trans k2).trans k3).trans (.new nl)) (W3.same (jg nl)) fun v H4 ⟨d,e4,d0,d1⟩ W4 k4=>by
  obtain⟨g,i,x⟩:=pick2 (P:=TmX H3 ys k) d0 d1 (x2.mono k3.t) x3
  rw[<- e2,<- e3]at i
  have t:=(Fw.new (p:=p) (o:=HO.lst [v2,v3]) nl).trans k4
  exact⟨l,_,d,_,rfl,e4,SqL.of (k4.b _ _ (W3.B.ne nl) je),i,q _ H4 ⟨g,rfl,x.mono t.t⟩ W4 ((k2.trans k3).trans t)⟩⟩
theorem ev_p3{K:Frag}{ta tb tc:TE}{k:Nat}(e:σ[0]?=some (some (.ref p)))(ha:Ev H0 p wl ys Hb σ ta (PT ys k))(hb:Ev H0 p wl ys Hb σ tb (PT ys k))(hc:Ev H0 p wl ys Hb σ tc (PT ys k)):Ev H0 p wl ys Hb σ (tOp (rIxL K) (tLst (tCons ta (tCons tb (tCons tc tNil)))) (tTk 3)) (PT ys k):=fun H Q m W q=>
 ha H _ m W fun v2 H2 ⟨a,e2,x2⟩ W2 k2=>hb H2 _ (m.trans k2) W2 fun v3 H3 ⟨b,e3,x3⟩ W3 k3=>hc H3 _ ((m.trans k2).trans k3) W3 fun v5 H5 ⟨c,e5,x5⟩ W5 k5=>⟨sz3,fun l nl=>za e (by decide) (by decide) _ _ ((((m.trans k2).trans k3).trans k5).trans (.new nl)) (W5.same (jg nl)) fun v H4 ⟨d,e4,d0,d1⟩ W4 k4=>by
  obtain⟨g,i,x⟩:=pick3 (P:=TmX H5 ys k) d0 d1 (x2.mono (k3.trans k5).t) (x3.mono k5.t) x5
  rw[<- e2,<- e3,<- e5]at i
  have t:=(Fw.new (p:=p) (o:=HO.lst [v2,v3,v5]) nl).trans k4
  exact⟨l,_,d,_,rfl,e4,SqL.of (k4.b _ _ (W5.B.ne nl) je),i,q _ H4 ⟨g,rfl,x.mono t.t⟩ W4 (((k2.trans k3).trans k5).trans t)⟩⟩
theorem ev_pb{K:Frag}{ta tb:TE}{k:Nat}{n:Int}(e:σ[0]?=some (some (.ref p)))(h1:1<=n)(h2:n<=1000)(ha:Ev H0 p wl ys Hb σ ta (PT ys k))(hb:Ev H0 p wl ys Hb σ tb (PT ys k)):Ev H0 p wl ys Hb σ (tOp (rIxL K) (tLst (tCons ta (tCons tb tNil))) (tCB (fun xs H Q=>(∃i,xs=[V.int i]/\Q (V.int i) H)∨∃k,xs=[V.bl k]/\Q (V.int (if k=true then 1 else 0)) H) (tCons (tOp rEq (tTk n) (tC (.int 0))) tNil))) (PT ys k):=fun H Q m W q=>
 ha H _ m W fun v2 H2 ⟨a,e2,x2⟩ W2 k2=>hb H2 _ (m.trans k2) W2 fun v3 H3 ⟨b,e3,x3⟩ W3 k3=>⟨sz2,fun l nl=>za e h1 h2 _ _ (((m.trans k2).trans k3).trans (.new nl)) (W3.same (jg nl)) fun v H4 ⟨d,e4,d0,d1⟩ W4 k4=>by
  subst e4
  refine⟨rfl,.inr ⟨_,rfl,?_⟩⟩
  obtain⟨g,i,x⟩:=pickB (P:=TmX H3 ys k) (x2.mono k3.t) x3 _
  rw[<- e2,<- e3]at i
  have t:=(Fw.new (p:=p) (o:=HO.lst [v2,v3]) nl).trans k4
  exact⟨l,_,_,_,rfl,rfl,SqL.of (k4.b _ _ (W3.B.ne nl) je),i,q _ H4 ⟨g,rfl,x.mono t.t⟩ W4 ((k2.trans k3).trans t)⟩⟩
theorem JP{ta tb:TE}{k:Nat}(e:σ[0]?=some (some (.ref p)))(ha:Ev H0 p wl ys Hb σ ta (PT ys k))(hb:Ev H0 p wl ys Hb σ tb (PT ys k)):Ev H0 p wl ys Hb σ (tCall spOp [] E0 (tCons (tVar 0) (tCons ta (tCons tb tNil)))) (PT ys (k+1)):=fun H Q m W q=>
 ⟨_,e,ha H _ m W fun v2 H2 ⟨a,e2,x2⟩ W2 k2=>hb H2 _ (m.trans k2) W2 fun v3 H3 ⟨b,e3,x3⟩ W3 k3=>⟨p,a,b,ys,k,by rw[e2,e3];rfl,W3.B,x2.mono k3.t,x3,fun r H4 x4 B4 c4=>q _ H4 ⟨r,rfl,x4⟩ (W3.but B4 c4) ((k2.trans k3).trans (.but W3.B c4))⟩⟩
theorem Z4{w:Str}{ta tb:TE}{A B R:Hp->V->Prop}(MA:Mon A)(MB:Mon B)(ha:Ev H0 p wl ys Hb σ ta A)(hb:Ev H0 p wl ys Hb σ tb B)(h:∀H r u v,H r=some (.tup [.str w,u,v])->A H u->B H v->R H (.ref r)):Ev H0 p wl ys Hb σ (tTup (tCons (tC (.str w)) (tCons ta (tCons tb tNil)))) R:=fun H Q m W q=>
 ha H _ m W fun v2 H2 x2 W2 k2=>hb H2 _ (m.trans k2) W2 fun v3 H3 x3 W3 k3=>⟨sz3,fun r nr=>j9 (P:=R) W3 (fun v' H' x W' k=>q v' H' x W' ((k2.trans k3).trans k)) nr fun t z=>h _ _ _ _ z (MA _ _ _ t (MA _ _ _ k3.t x2)) (MB _ _ _ t x3)⟩
theorem ev_1{w:Str}{ta:TE}{A R:Hp->V->Prop}(MA:Mon A)(ha:Ev H0 p wl ys Hb σ ta A)(h:∀H r u,H r=some (.tup [.str w,u])->A H u->R H (.ref r)):Ev H0 p wl ys Hb σ (tTup (tCons (tC (.str w)) (tCons ta tNil))) R:=fun H Q m W q=>
 ha H _ m W fun v2 H2 x2 W2 k2=>⟨sz2,fun r nr=>j9 (P:=R) W2 (fun v' H' x W' k=>q v' H' x W' (k2.trans k)) nr fun t z=>h _ _ _ z (MA _ _ _ t x2)⟩
theorem ev_3{w:Str}{ta tb tc:TE}{A B C R:Hp->V->Prop}(MA:Mon A)(MB:Mon B)(MC:Mon C)(ha:Ev H0 p wl ys Hb σ ta A)(hb:Ev H0 p wl ys Hb σ tb B)(hc:Ev H0 p wl ys Hb σ tc C)(h:∀H r u v x,H r=some (.tup [.str w,u,v,x])->A H u->B H v->C H x->R H (.ref r)):Ev H0 p wl ys Hb σ (tTup (tCons (tC (.str w)) (tCons ta (tCons tb (tCons tc tNil))))) R:=fun H Q m W q=>
 ha H _ m W fun v2 H2 x2 W2 k2=>hb H2 _ (m.trans k2) W2 fun v3 H3 x3 W3 k3=>hc H3 _ ((m.trans k2).trans k3) W3 fun v4 H4 x4 W4 k4=>⟨sz4,fun r nr=>j9 (P:=R) W4 (fun v' H' x W' k=>q v' H' x W' (((k2.trans k3).trans k4).trans k)) nr fun t z=>h _ _ _ _ _ z (MA _ _ _ t (MA _ _ _ (k3.trans k4).t x2)) (MB _ _ _ t (MB _ _ _ k4.t x3)) (MC _ _ _ t x4)⟩
theorem monN:Mon (PN ys):=fun _ _ _ _ h=>h
theorem monI{x:Str}:Mon (PI x):=fun _ _ _ _ h=>h
theorem JQ{tx tt:TE}{k:Nat}(hx:Ev H0 p wl ys Hb σ tx (PN ys))(ht:Ev H0 p wl ys Hb σ tt (PT ys k))(hk:k < 6):Ev H0 p wl ys Hb σ (tTup (tCons (tC (.str "read")) (tCons tx (tCons tt tNil)))) (fun H v=>StX g H ys 0 v):=Z4 monN monT hx ht fun H r u v z ⟨x,e1,h1⟩ ⟨a,e2,h2⟩=>sx_rd (by rw[z,e1,e2]) h1 h2 hk
theorem Js{tx tt:TE}{k:Nat}(hx:Ev H0 p wl ys Hb σ tx (PN ys))(ht:Ev H0 p wl ys Hb σ tt (PT ys k))(hk:k < 6):Ev H0 p wl ys Hb σ (tTup (tCons (tC (.str "set")) (tCons tx (tCons tt tNil)))) (fun H v=>StX g H ys 0 v):=Z4 monN monT hx ht fun H r u v z ⟨x,e1,h1⟩ ⟨a,e2,h2⟩=>sx_st (by rw[z,e1,e2]) h1 h2 hk
theorem JR{tx tt:TE}{j k:Nat}(hx:Ev H0 p wl ys Hb σ tx (PT ys j))(ht:Ev H0 p wl ys Hb σ tt (PT ys k))(hj:j < 6)(hk:k < 6):Ev H0 p wl ys Hb σ (tTup (tCons (tC (.str "write")) (tCons tx (tCons tt tNil)))) (fun H v=>StX g H ys 0 v):=Z4 monT monT hx ht fun H r u v z ⟨x,e1,h1⟩ ⟨a,e2,h2⟩=>sx_wr (by rw[z,e1,e2]) h1 h2 hj hk
theorem Qj{tt:TE}{k:Nat}(ht:Ev H0 p wl ys Hb σ tt (PT ys k))(hk:k < 6):Ev H0 p wl ys Hb σ (tTup (tCons (tC (.str "give")) (tCons tt tNil))) (fun H v=>StX g H ys 0 v):=ev_1 monT ht fun H r v z ⟨a,e2,h2⟩=>sx_gv (by rw[z,e2]) h2 hk
theorem YS{tx tf ta tb:TE}{j k:Nat}(hx:Ev H0 p wl ys Hb σ tx (PN ys))(hf:Ev H0 p wl ys Hb σ tf (PI g))(ha:Ev H0 p wl ys Hb σ ta (PT ys j))(hb:Ev H0 p wl ys Hb σ tb (PT ys k))(hj:j < 6)(hk:k < 6):Ev H0 p wl ys Hb σ (tTup (tCons (tC (.str "call")) (tCons tx (tCons tf (tCons (tTup (tCons ta (tCons tb tNil))) tNil))))) (fun H v=>StX g H ys 0 v):=by
 let R:Hp->V->Prop:=fun H v=>∃q a b,v= .ref q/\H q=some (.tup [.ref a,.ref b])/\TmX H ys j a/\TmX H ys k b
 have MR:Mon R:=fun _ _ _ m ⟨q,a,b,e,h1,h2,h3⟩=>⟨q,a,b,e,m _ _ h1,h2.mono m,h3.mono m⟩
 have hR:Ev H0 p wl ys Hb σ (tTup (tCons ta (tCons tb tNil))) R:=fun H Q m W q=>
  ha H _ m W fun v2 H2 ⟨a,e2,x2⟩ W2 k2=>hb H2 _ (m.trans k2) W2 fun v3 H3 ⟨b,e3,x3⟩ W3 k3=>⟨sz2,fun r nr=>j9 (P:=R) W3 (fun v' H' x W' k=>q v' H' x W' ((k2.trans k3).trans k)) nr fun t z=>⟨r,a,b,rfl,by rw[z,e2,e3],(x2.mono k3.t).mono t,x3.mono t⟩⟩
 exact ev_3 monN monI MR hx hf hR fun H r u v x z ⟨y,e1,h1⟩ e2 ⟨q,a,b,e3,h3,h4,h5⟩=>sx_cl (by rw[z,e1,show v=_ from e2,e3]) h1 h3 h4 h5 hj hk
theorem ev_if{tt ta tb:TE}{k n m:Nat}(ht:Ev H0 p wl ys Hb σ tt (PT ys k))(ha:Ev H0 p wl ys Hb σ ta (PB g ys 0 n))(hb:Ev H0 p wl ys Hb σ tb (PB g ys 0 m))(hk:k < 6)(hn:n+m<=20):Ev H0 p wl ys Hb σ (tTup (tCons (tC (.str "if")) (tCons tt (tCons ta (tCons tb tNil))))) (fun H v=>StX g H ys 1 v):=
 ev_3 monT monB monB ht ha hb fun H r u v x z ⟨a,e1,h1⟩ ⟨qa,xa,e2,h2,h3,h4⟩ ⟨qb,xb,e5,h5,h6,h7⟩=>sx_if (by rw[z,e1,e2,e5]) h1 h2 h5 h3 h6 (by omega) hk
theorem ev_wh{tt ta:TE}{k n:Nat}(ht:Ev H0 p wl ys Hb σ tt (PT ys k))(ha:Ev H0 p wl ys Hb σ ta (PB g ys 0 n))(hk:k < 6)(hn:n<=20):Ev H0 p wl ys Hb σ (tTup (tCons (tC (.str "while")) (tCons tt (tCons ta tNil)))) (fun H v=>StX g H ys 1 v):=
 Z4 monT monB ht ha fun H r u v z ⟨a,e1,h1⟩ ⟨qa,xa,e2,h2,h3,h4⟩=>ZQ (by rw[z,e1,e2]) h1 h2 h3 (by omega) hk
theorem ev_b0{d:Nat}:Ev H0 p wl ys Hb σ (tTup tNil) (PB g ys d 0):=fun H Q m W q=>⟨sz0,fun r nr=>j9 (P:=PB g ys d 0) W q nr fun t z=>⟨r,[],rfl,z,JX,Nat.le_refl 0⟩⟩
theorem JS{ta:TE}{d:Nat}(ha:Ev H0 p wl ys Hb σ ta (fun H v=>StX g H ys d v)):Ev H0 p wl ys Hb σ (tTup (tCons ta tNil)) (PB g ys d 1):=fun H Q m W q=>
 ha H _ m W fun v2 H2 x2 W2 k2=>⟨sz1,fun r nr=>j9 (P:=PB g ys d 1) W2 (fun v' H' x W' k=>q v' H' x W' (k2.trans k)) nr fun t z=>⟨r,_,rfl,z,zA (x2.mono t),Nat.le_refl 1⟩⟩
theorem Xq{ta tb:TE}{d:Nat}(ha:Ev H0 p wl ys Hb σ ta (fun H v=>StX g H ys d v))(hb:Ev H0 p wl ys Hb σ tb (fun H v=>StX g H ys d v)):Ev H0 p wl ys Hb σ (tTup (tCons ta (tCons tb tNil))) (PB g ys d 2):=fun H Q m W q=>
 ha H _ m W fun v2 H2 x2 W2 k2=>hb H2 _ (m.trans k2) W2 fun v3 H3 x3 W3 k3=>⟨sz2,fun r nr=>j9 (P:=PB g ys d 2) W3 (fun v' H' x W' k=>q v' H' x W' ((k2.trans k3).trans k)) nr fun t z=>⟨r,_,rfl,z,jS ((x2.mono k3.t).mono t) (zA (x3.mono t)),Nat.le_refl 2⟩⟩
theorem ev_b3{ta tb tc:TE}{d:Nat}(ha:Ev H0 p wl ys Hb σ ta (fun H v=>StX g H ys d v))(hb:Ev H0 p wl ys Hb σ tb (fun H v=>StX g H ys d v))(hc:Ev H0 p wl ys Hb σ tc (fun H v=>StX g H ys d v)):Ev H0 p wl ys Hb σ (tTup (tCons ta (tCons tb (tCons tc tNil)))) (PB g ys d 3):=fun H Q m W q=>
 ha H _ m W fun v2 H2 x2 W2 k2=>hb H2 _ (m.trans k2) W2 fun v3 H3 x3 W3 k3=>hc H3 _ ((m.trans k2).trans k3) W3 fun v4 H4 x4 W4 k4=>⟨sz3,fun r nr=>j9 (P:=PB g ys d 3) W4 (fun v' H' x W' k=>q v' H' x W' (((k2.trans k3).trans k4).trans k)) nr fun t z=>⟨r,_,rfl,z,jS ((x2.mono (k3.trans k4).t).mono t) (jS ((x3.mono k4.t).mono t) (zA (x4.mono t))),Nat.le_refl 3⟩⟩
theorem qy{ta tb:TE}{d n m:Nat}(ha:Ev H0 p wl ys Hb σ ta (PB g ys d n))(hb:Ev H0 p wl ys Hb σ tb (PB g ys d m))(hn:n+m<=100):Ev H0 p wl ys Hb σ (tOp rCatH ta tb) (PB g ys d (n+m)):=fun H Q mm W q=>
 ha H _ mm W fun v2 H2 ⟨a,xs,e2,h2,x2,l2⟩ W2 k2=>hb H2 _ (mm.trans k2) W2 fun v3 H3 ⟨b,zs,e3,h3,x3,l3⟩ W3 k3=>⟨a,b,xs,zs,e2,e3,k3.t _ _ h2,h3,Nat.le_trans (show xs.length+zs.length<=100 by omega) (by decide),fun r H4 h4 s4=>q _ H4 ⟨r,_,rfl,h4,Jh ((x2.mono k3.t).mono (Same.tm s4)) (x3.mono (Same.tm s4)),by rw[List.length_append];omega⟩ (W3.same s4) ((k2.trans k3).trans (.same s4))⟩
theorem Xr{tf tp tb:TE}{n c:Nat}{f:Str}(hf:Ev H0 p wl ys Hb σ tf (PI f))(hp:Ev H0 p wl ys Hb σ tp (PP c))(hb:Ev H0 p wl ys Hb σ tb (PB g ys 1 n))(hn:n<=16):Ev H0 p wl ys Hb σ (tTup (tCons tf (tCons tp (tCons tb tNil)))) (PD g f c):=fun H Q m W q=>
 hf H _ m W fun v2 H2 e2 W2 k2=>hp H2 _ (m.trans k2) W2 fun v3 H3 ⟨a,ps,e3,h3,l3⟩ W3 k3=>hb H3 _ ((m.trans k2).trans k3) W3 fun v4 H4 ⟨b,xs,e4,h4,x4,l4⟩ W4 k4=>⟨sz3,fun r nr=>j9 (P:=PD g f c) W4 (fun v' H' x W' k=>q v' H' x W' (((k2.trans k3).trans k4).trans k)) nr fun t z=>
  ⟨r,rfl,l3▸dx_mk (f:=f) (ys:=ys) (by rw[z,show v2=_ from e2,e3,e4]) (t _ _ (k4.t _ _ h3)) (t _ _ h4) (x4.mono t) (by omega)⟩⟩
theorem ev_q1{ta:TE}(ha:Ev H0 p wl ys Hb σ ta (PN ys)):Ev H0 p wl ys Hb σ (tTup (tCons ta tNil)) (PP 1):=fun H Q m W q=>
 ha H _ m W fun v2 H2 ⟨x,e,_⟩ W2 k2=>⟨sz1,fun r nr=>j9 (P:=PP 1) W2 (fun v' H' x W' k=>q v' H' x W' (k2.trans k)) nr fun t z=>⟨r,[x],rfl,by rw[z,e];rfl,rfl⟩⟩
theorem ev_q2{ta tb:TE}(ha:Ev H0 p wl ys Hb σ ta (PN ys))(hb:Ev H0 p wl ys Hb σ tb (PN ys)):Ev H0 p wl ys Hb σ (tTup (tCons ta (tCons tb tNil))) (PP 2):=fun H Q m W q=>
 ha H _ m W fun v2 H2 ⟨x,e,_⟩ W2 k2=>hb H2 _ (m.trans k2) W2 fun v3 H3 ⟨y,e3,_⟩ W3 k3=>⟨sz2,fun r nr=>j9 (P:=PP 2) W3 (fun v' H' x W' k=>q v' H' x W' ((k2.trans k3).trans k)) nr fun t z=>⟨r,[x,y],rfl,by rw[z,e,e3];rfl,rfl⟩⟩
theorem StX.lift{H:Hp}{v:V}(h:StX g H ys 0 v):StX g H ys 1 v:=h.up
theorem PB.lift{H:Hp}{v:V}{n:Nat}(h:PB g ys 0 n H v):PB g ys 1 n H v:=let ⟨a,xs,e,h1,⟨b,b1,b2,b3,b4,b5⟩,h3⟩:=h;⟨a,xs,e,h1,⟨b,b1,b2,by omega,by omega,b5⟩,h3⟩
theorem PB.more{H:Hp}{v:V}{d n m:Nat}(h:PB g ys d n H v)(k:n<=m):PB g ys d m H v:=let ⟨a,xs,e,h1,h2,h3⟩:=h;⟨a,xs,e,h1,h2,Nat.le_trans h3 k⟩
theorem qE{H:Hp}{n:Int}{a b:TS}{D:L2.Ends}(W:Wx H0 H p wl ys)(e:σ[0]?=some (some (.ref p)))(h1:1<=n)(h2:n<=1000)(ha:∀H',Wx H0 H' p wl ys->Fw p H H'->a D σ H')(hb:∀H',Wx H0 H' p wl ys->Fw p H H'->b D σ H'):tIfS (tTest (tOp rEq (tTk n) (tC (.int 0)))) a b D σ H:=
 za (Hb:=H) e h1 h2 H _ .refl W fun v H1 ⟨d,e1,d0,d1⟩ W1 k1=>by
  subst e1
  exact⟨rfl,_,rfl,ite2 (fun _=>ha H1 W1 k1) (fun _=>hb H1 W1 k1)⟩
theorem jP{H:Hp}{te:TE}{i:Nat}{D:L2.Ends}{P:Hp->V->Prop}(W:Wx H0 H p wl ys)(h:Ev H0 p wl ys H σ te P)(q:∀v H',P H' v->Wx H0 H' p wl ys->Fw p H H'->D.nx (σ.set i (some v)) H'):tAsg te (gName i) D σ H:=h H _ .refl W q
theorem K6{H:Hp}{te:TE}{D:L2.Ends}{P:Hp->V->Prop}(W:Wx H0 H p wl ys)(h:Ev H0 p wl ys H σ te P)(q:∀v H',P H' v->Wx H0 H' p wl ys->D.rt v H'):tRet te D σ H:=h H _ .refl W fun v H' x W' _=>q v H' x W'
theorem set3_ok{K:Frag}{H:Hp}{ta tb tc:TE}{i j k:Nat}{D:L2.Ends}(W:Wx H0 H p wl ys)(ha:Ev H0 p wl ys H σ ta (PT ys 0))(hb:Ev H0 p wl ys H σ tb (PT ys 0))(hc:Ev H0 p wl ys H σ tc (PT ys 0))
  (q:∀u v w H',PT ys 0 H' u->PT ys 0 H' v->PT ys 0 H' w->Wx H0 H' p wl ys->Fw p H H'->D.nx (((σ.set k (some w)).set j (some v)).set i (some u)) H'):tAsg3 K (tTup (tCons ta (tCons tb (tCons tc tNil)))) i j k D σ H:=
 ha H _ .refl W fun v2 H2 x2 W2 k2=>hb H2 _ k2 W2 fun v3 H3 x3 W3 k3=>hc H3 _ (k2.trans k3) W3 fun v4 H4 x4 W4 k4=>⟨sz3,fun r nr=>⟨r,_,_,_,rfl,SqT.of je,q v2 v3 v4 _ (monT _ _ _ (Same.tm (jg nr)) (monT _ _ _ (k3.trans k4).t x2)) (monT _ _ _ (Same.tm (jg nr)) (monT _ _ _ k4.t x3)) (monT _ _ _ (Same.tm (jg nr)) x4) (W4.same (jg nr)) (((k2.trans k3).trans k4).trans (.new nr))⟩⟩
structure Ow(H0 H:Hp)(p wl l:Addr)(xs:List V):Prop where
 hl:H l=some (.lst xs)
 np:l≠p
 lw:l≠wl
 l0:H0 l=none
theorem Ow.fw{H H':Hp}{l:Addr}{xs:List V}(o:Ow H0 H p wl l xs)(k:Fw p H H'):Ow H0 H' p wl l xs:=⟨k.b _ _ o.np o.hl,o.np,o.lw,o.l0⟩
theorem Ow.new{H:Hp}{l:Addr}{xs:List V}(W:Wx H0 H p wl ys)(n:H l=none):Ow H0 (upd H l (.lst xs)) p wl l xs:=⟨je,W.B.ne n,(fun e=>by have z:=W.w;rw[<- e,n]at z;cases z),W.K.none W.B n⟩
theorem own1{H:Hp}{ta:TE}{i:Nat}{D:L2.Ends}(W:Wx H0 H p wl ys)(ha:Ev H0 p wl ys H σ ta (fun H v=>StX g H ys 0 v))(q:∀l v H',Ow H0 H' p wl l [v]->StX g H' ys 0 v->Wx H0 H' p wl ys->Fw p H H'->D.nx (σ.set i (some (.ref l))) H'):tAsg (tLst (tCons ta tNil)) (gName i) D σ H:=
 ha H _ .refl W fun v2 H2 x2 W2 k2=>⟨sz1,fun l nl=>q l v2 _ (.new W2 nl) (x2.mono (Same.tm (jg nl))) (W2.same (jg nl)) (k2.trans (.new nl))⟩
theorem own2{H:Hp}{ta tb:TE}{i:Nat}{D:L2.Ends}(W:Wx H0 H p wl ys)(ha:Ev H0 p wl ys H σ ta (fun H v=>StX g H ys 0 v))(hb:Ev H0 p wl ys H σ tb (fun H v=>StX g H ys 0 v))(q:∀l u v H',Ow H0 H' p wl l [u,v]->StX g H' ys 0 u->StX g H' ys 0 v->Wx H0 H' p wl ys->Fw p H H'->D.nx (σ.set i (some (.ref l))) H'):tAsg (tLst (tCons ta (tCons tb tNil))) (gName i) D σ H:=
 ha H _ .refl W fun v2 H2 x2 W2 k2=>hb H2 _ k2 W2 fun v3 H3 x3 W3 k3=>⟨sz2,fun l nl=>q l v2 v3 _ (.new W3 nl) ((x2.mono k3.t).mono (Same.tm (jg nl))) (x3.mono (Same.tm (jg nl))) (W3.same (jg nl)) ((k2.trans k3).trans (.new nl))⟩
theorem Ji{K:Frag}{H:Hp}{i:Nat}{te:TE}{l:Addr}{xs:List V}{D:L2.Ends}(W:Wx H0 H p wl ys)(hσ:σ[i]?=some (some (.ref l)))(o:Ow H0 H p wl l xs)(hx:xs.length<=100)(ht:Ev H0 p wl ys H σ te (fun H v=>StX g H ys 0 v))
  (q:∀v H',StX g H' ys 0 v->Ow H0 H' p wl l (xs++[v])->Wx H0 H' p wl ys->TMono H H'->D.nx σ H'):tDrop (tBM K "list" rAppend (tVar i) (tCons te tNil)) D σ H:=
 ⟨_,hσ,.inl ⟨rfl,_,SqL.of o.hl⟩,ht H _ .refl W fun v H1 x1 W1 k1=>⟨l,xs,v,rfl,rfl,(o.fw k1).hl,Nat.lt_of_le_of_lt hx (by decide),q v _ (x1.mono (K2 (o.fw k1).hl)) ⟨je,o.np,o.lw,o.l0⟩ (W1.own (xs:=xs) o.l0 o.np o.lw) (k1.t.trans (K2 (o.fw k1).hl))⟩⟩
theorem swap_ok{K:Frag}{H:Hp}{i:Nat}{l:Addr}{u v:V}{zs:List V}{D:L2.Ends}(W:Wx H0 H p wl ys)(hσ:σ[i]?=some (some (.ref l)))(o:Ow H0 H p wl l (u::v::zs))
  (q:∀H',Ow H0 H' p wl l (v::u::zs)->Wx H0 H' p wl ys->TMono H H'->D.nx σ H'):tAsg (tTup (tCons (tOp (rIxL K) (tVar i) (tC (.int 1))) (tCons (tOp (rIxL K) (tVar i) (tC (.int 0))) tNil))) (gTup K 2 (gCons (gSub (tVar i) (tC (.int 0)) rSetL) (gCons (gSub (tVar i) (tC (.int 1)) rSetL) gNil))) D σ H:=
 ⟨_,hσ,l,_,_,_,rfl,rfl,SqL.of o.hl,at1,_,hσ,l,_,_,_,rfl,rfl,SqL.of o.hl,at0,sz2,fun t nt=>⟨t,_,rfl,SqT.of je,rfl,_,_,rfl,_,hσ,l,_,0,0,rfl,rfl,keepN o.hl nt,ix0 (n:=zs.length+1),_,_,rfl,_,hσ,l,_,1,1,rfl,rfl,je,ix1 (n:=zs.length),rfl,
  q _ ⟨je,o.np,o.lw,o.l0⟩ (((W.same (jg nt)).own (xs:=u::v::zs) o.l0 o.np o.lw).own (xs:=u::v::zs) o.l0 o.np o.lw) (((Same.tm (jg nt)).trans (K2 (keepN o.hl nt))).trans (K2 je))⟩⟩
theorem ev_tl{K:Frag}{i n:Nat}{l:Addr}{xs:List V}(e:σ[i]?=some (some (.ref l)))(o:Ow H0 Hb p wl l xs)(hx:BdX g Hb ys 0 xs)(hn:xs.length<=n):Ev H0 p wl ys Hb σ (tCB (fun xs H Q=>∃p ys,xs=[V.ref p]/\((SqL K H p ys/\∀(l:Addr),H l=none->Q (V.ref l) (upd H l (HO.tup ys)))∨SqT K H p ys/\Q (V.ref p) H)) (tCons (tVar i) tNil)) (PB g ys 0 n):=fun H Q m W q=>
 ⟨_,e,l,xs,rfl,.inl ⟨SqL.of (o.fw m).hl,fun r nr=>j9 (P:=PB g ys 0 n) W q nr fun t z=>⟨r,xs,rfl,z,(hx.mono m.t).mono t,hn⟩⟩⟩
theorem cat_ok{H:Hp}{i j:Nat}{ta tb:TE}{l m:Addr}{xs zs:List V}{D:L2.Ends}(W:Wx H0 H p wl ys)(hσ:σ[i]?=some (some (.ref l)))(hτ:σ[j]?=some (some (.ref m)))(o:Ow H0 H p wl l xs)(oo:Ow H0 H p wl m zs)(hx:xs.length+zs.length<=100)(bx:BdX g H ys 0 xs)(bz:BdX g H ys 0 zs)
  (ha:Ev H0 p wl ys H σ ta (fun H v=>StX g H ys 0 v)) (hb:Ev H0 p wl ys H σ tb (fun H v=>StX g H ys 0 v)) (q:∀r us H',Ow H0 H' p wl r us->BdX g H' ys 0 us->us.length<=xs.length+zs.length+2->Wx H0 H' p wl ys->Fw p H H'->D.nx (σ.set i (some (.ref r))) H'):
  tAsg (tOp rCat (tOp rCat (tVar i) (tVar j)) (tLst (tCons ta (tCons tb tNil)))) (gName i) D σ H:=
 ⟨_,hσ,_,hτ,l,m,_,_,rfl,rfl,o.hl,oo.hl,Nat.le_trans hx (by decide),fun c nc=>ha _ _ (.new nc) (W.same (jg nc)) fun v2 H2 x2 W2 k2=>hb H2 _ ((Fw.new nc).trans k2) W2 fun v3 H3 x3 W3 k3=>⟨sz2,fun d nd=>⟨c,d,_,_,rfl,rfl,keepN ((k2.trans k3).b _ _ (W.B.ne nc) je) nd,je,by
  have:=line24
  show(xs++zs).length+2<=sizeLine
  rw[List.length_append]
  omega,fun r nr=>q r _ _ (.new (W3.same (jg nd)) nr) (by
   have f:=(((Fw.new nc).trans k2).trans k3).trans ((Fw.new (p:=p) (o:=HO.lst [v2,v3]) nd).trans (Fw.new (o:=HO.lst ((xs++zs)++[v2,v3])) nr))
   have g:=(Fw.new (p:=p) (o:=HO.lst [v2,v3]) nd).trans (Fw.new (o:=HO.lst ((xs++zs)++[v2,v3])) nr)
   exact Jh (Jh (bx.mono f.t) (bz.mono f.t)) (jS ((x2.mono k3.t).mono g.t) (zA (x3.mono g.t)))) (by rw[List.length_append,List.length_append];exact Nat.le_refl _) ((W3.same (jg nd)).same (jg nr)) ((((Fw.new nc).trans k2).trans k3).trans ((Fw.new nd).trans (Fw.new nr)))⟩⟩⟩
theorem XS{K:Frag}{H:Hp}{D:L2.Ends}(W:Wx H0 H p wl ys)(hσ:σ[3]?=some (some (.ref wl)))(hy:ys.length=6)
  (q:∀a b c d e H',PT ys 0 H' a->PT ys 0 H' b->PT ys 0 H' c->PT ys 0 H' d->PT ys 0 H' e->Wx H0 H' p wl ys->D.nx (((((σ.set 4 (some a)).set 5 (some b)).set 6 (some c)).set 7 (some d)).set 8 (some e)) H'):
  tAsg (tComp (iList K (tSl (rSlL K) (tVar 3) tNoPart (tPart (tC (V.int 5))))) 1 [] (gName 0) tAll (tTup (tCons (tC (V.str "var")) (tCons (tVar 0) tNil)))) (gLn K 5 (gCons (gName 4) (gCons (gName 5) (gCons (gName 6) (gCons (gName 7) (gCons (gName 8) gNil)))))) D σ H:=by
 have big:=line24
 refine⟨_,hσ,_,rfl,wl,_,rfl,SqL.of W.w,fun sl nsl=>?_⟩
 have e5:cutV (ys.map V.str) none (some 5)=(ys.take 5).map V.str:=by rw[show(5:Int)=((5:Nat):Int) from rfl,cutN (by rw[List.length_map];omega),List.map_take]
 have t1:upd H sl (.lst (cutV (ys.map V.str) none (some 5))) sl=some (.lst ((ys.take 5).map V.str)):=by rw[e5];exact je
 have s1:=jg (o:=HO.lst (cutV (ys.map V.str) none (some 5))) nsl
 generalize upd H sl (.lst (cutV (ys.map V.str) none (some 5)))=H1 at t1 s1
 refine⟨sl,rfl,⟨_,SqL.of t1⟩,?_⟩
 refine KS (K:=K) (a:=sl) (xs:=(ys.take 5).map V.str) (by rw[List.length_map,List.length_take];omega) (fun i vs H'=>vs.length=i/\(∀v∈vs,PT ys 0 H' v)/\Same H1 H') ⟨rfl,(fun _ h=>absurd h List.not_mem_nil),Same.refl _⟩ (fun i vs H' h=>⟨SqL.of (h.2.2 _ _ t1),Nat.le_of_eq h.1⟩) (fun i x vs H' hx h=>?_) (fun vs H2 h l5 n5=>?_)
 ·obtain⟨y,hy,rfl⟩:=List.mem_map.mp (List.mem_of_getElem? hx)
  exact⟨_,rfl,sz2,fun r nr=>⟨by rw[List.length_append,h.1];rfl,zO (fun a z=>monT _ _ _ (Same.tm (jg nr)) (h.2.1 a z)) ⟨r,rfl,Zc je (List.mem_of_mem_take hy)⟩,h.2.2.trans (jg nr)⟩⟩
 ·have e:=h.1
  rw[List.length_map,List.length_take]at e
  obtain⟨a,b,c,d,f,rfl⟩:=len5 (show vs.length=5 by omega)
  have m:=Same.tm (jg (o:=HO.lst [a,b,c,d,f]) n5)
  exact⟨l5,_,rfl,SqL.of je,rfl,_,_,rfl,_,_,rfl,_,_,rfl,_,_,rfl,_,_,rfl,rfl,q a b c d f _ (monT _ _ _ m (h.2.1 a (by simp))) (monT _ _ _ m (h.2.1 b (by simp))) (monT _ _ _ m (h.2.1 c (by simp))) (monT _ _ _ m (h.2.1 d (by simp))) (monT _ _ _ m (h.2.1 f (by simp))) (((W.same s1).same h.2.2).same (jg n5))⟩
end
theorem scOp:FnScope ["_law_box_here","_law_a","_law_b"] ["_law_box_here","_law_a","_law_b"] (defScope sOp):=fsc
theorem ok_op{f:Addr}{fd:FuncData}{fT:Addr}{fdT:FuncData}(F:Fun K "_law_op" "_law_op" sOp f fd)(GT:FnOk P w K mg base CX0 1 fT fdT ["_law_box_here","_law_wide"] spTake)(bT:Binds K fdT ["_law_box_here","_law_wide"] [])(kT:keepIn K (.ref fT)=true)(mT:mg "_law_take"=some (.ref fT)):FnOk P w K mg base CX0 2 f fd ["_law_box_here","_law_a","_law_b"] spOp:=by
 refine F.ok scOp (fun vs H Q E h=>?_) (fun cdv A outer s H vs Q E hr h=>?_)
 ·refine opq fun Gq kq=>?_
  obtain⟨p,a,b,ys,k,rfl,_⟩:=h
  refine kq ?_
  clear kq
  rfl
 refine opq fun Gq kq=>?_
 obtain⟨p,a,b,ys,k,rfl,B,ha,hb,q⟩:=h
 refine kq ?_
 clear kq
 refine⟨_,(jj (jv (jk (ja ji (ja (@jm _ _ _ _ _ _ _ jr (jH (ja ji (ja ji (ja ji (ja ji jb))))) (jh GT hr.m rfl mT kT bT .nil pass0 (ja (pv 0) (ja jc jb))) (fun _ _=>rfl)) (ja (pv 1) (ja (pv 2) jb))))))),?_⟩
 try dsimp only[cxOf,Cx.nox,Cx.wish]
 refine⟨sz4,fun l nl=>⟨_,rfl,p,4,rfl,B.upd_new nl,by decide,by decide,fun d H2 d0 d1 B2 e2=>?_⟩⟩
 obtain⟨s,hat,hs⟩:=pick_sg d0 d1
 have k2:But p H H2:=((But.refl).upd_new nl).trans (But.of_eq e2)
 refine⟨l,_,_,_,rfl,rfl,SqL.of (by rw[e2 l (B.ne nl)];exact je),hat,_,rfl,_,rfl,sz4,fun r nr=>?_⟩
 have s3:=jg (o:=HO.tup [.str "op",.str s,.ref a,.ref b]) nr
 exact q r _ (tx_op je hs ((ha.mono (k2.tm B)).mono (Same.tm s3)) ((hb.mono (k2.tm B)).mono (Same.tm s3)) (Nat.lt_succ_self _) (Nat.lt_succ_self _)) (B2.upd_new nr) (k2.trans (But.of_same s3))
theorem scInner:FnScope ["_law_box_here","_law_f","_law_g","_law_w","_law_x","_law_i","_law_y","_law_spot_here","_law_body_here","_law_deeper","_law_test","_law_early","_law_last"] ["_law_box_here","_law_f","_law_g","_law_w"] (defScope sInner):=fsc
theorem ZR{f:Addr}{fd:FuncData}{fT fO:Addr}{fdT fdO:FuncData}(F:Fun K "_law_inner" "_law_inner" sInner f fd)(GT:FnOk P w K mg base CX0 1 fT fdT ["_law_box_here","_law_wide"] spTake)(bT:Binds K fdT ["_law_box_here","_law_wide"] [])(kT:keepIn K (.ref fT)=true)(mT:mg "_law_take"=some (.ref fT))(GO:FnOk P w K mg base CX0 2 fO fdO ["_law_box_here","_law_a","_law_b"] spOp)(bO:Binds K fdO ["_law_box_here","_law_a","_law_b"] [])(kO:keepIn K (.ref fO)=true)(mO:mg "_law_op"=some (.ref fO)):FnOk P w K mg base CX0 3 f fd ["_law_box_here","_law_f","_law_g","_law_w"] (spDefn 2):=by
 refine F.ok scInner (fun vs H Q E h=>?_) (fun cdv A outer s H vs Q E hr h=>?_)
 ·refine opq fun Gq kq=>?_
  obtain⟨p,wl,f0,g,ys,rfl,_⟩:=h
  refine kq ?_
  clear kq
  rfl
 refine opq fun Gq kq=>?_
 obtain⟨p,wl,f0,g,ys,rfl,B,hw,hyl,q⟩:=h
 refine kq ?_
 clear kq
 refine⟨_,(jd (@ps_asg3 _ _ _ _ _ _ _ _ (4) (5) (6) rfl scInner.nd rfl rfl rfl (Or.inl rfl) (Or.inl rfl) (Or.inl rfl) (jk (ja (jk (ja ji (ja (@jm _ _ _ _ _ _ _ jr (pv 3) jc (fun _ _=>rfl)) jb))) (ja (jk (ja ji (ja (@jm _ _ _ _ _ _ _ jr (pv 3) jc (fun _ _=>rfl)) jb))) (ja (jk (ja ji (ja (@jm _ _ _ _ _ _ _ jr (pv 3) jc (fun _ _=>rfl)) jb))) jb)))) (by first |exact .inl rfl |exact .inr rfl) (by first |exact .inl rfl |exact .inr rfl) (by first |exact .inl rfl |exact .inr rfl) (by rfl) (by rfl)) (jd (jo (i:=7) scInner.nd rfl (Or.inl rfl) (jk (ja ji (ja ji (ja (@jm _ _ _ _ _ _ _ jr (jH (ja (pv 4) (ja (pv 5) jb))) (jh GT hr.m rfl mT kT bT .nil pass0 (ja (pv 0) (ja jc jb))) (fun _ _=>rfl)) (ja (jk (ja ji (ja (jh GT hr.m rfl mT kT bT .nil pass0 (ja (pv 0) (ja jc jb))) jb))) jb)))))) (jd (jo (i:=8) scInner.nd rfl (Or.inl rfl) (jk (ja (jk (ja ji (ja (@jm _ _ _ _ _ _ _ jr (pv 3) jc (fun _ _=>rfl)) (ja (pv 7) jb)))) jb))) (jd (jW (jy (@jp _ _ _ _ _ _ _ _ jD (jh GT hr.m rfl mT kT bT .nil pass0 (ja (pv 0) (ja jc jb))) jc (nomark _)) (jd (jo (i:=7) scInner.nd rfl (Or.inl rfl) (jk (ja ji (ja ji (ja (pv 5) (ja (jk (ja ji (ja (jw jO jc (jh GT hr.m rfl mT kT bT .nil pass0 (ja (pv 0) (ja jc jb)))) jb))) jb)))))) (jj (jo (i:=8) scInner.nd rfl (Or.inl rfl) (jw zq (pv 8) (jk (ja (jk (ja ji (ja (pv 7) (ja (jh GO hr.m rfl mO kO bO .nil pass0 (ja (pv 0) (ja (pv 4) (ja (pv 6) jb)))) jb)))) jb)))))) jq)) (jd (jW (jy (@jp _ _ _ _ _ _ _ _ jD (jh GT hr.m rfl mT kT bT .nil pass0 (ja (pv 0) (ja jc jb))) jc (nomark _)) (jd (jo (i:=9) scInner.nd rfl (Or.inl rfl) (jk (ja ji (ja (@jm _ _ _ _ _ _ _ jr (pv 3) jc (fun _ _=>rfl)) (ja (pv 2) (ja (jk (ja (jk (ja ji (ja ji (ja (pv 5) (ja (jk (ja ji (ja jc jb))) jb))))) (ja (pv 6) jb))) jb)))))) (jj (jo (i:=8) scInner.nd rfl (Or.inl rfl) (jw zq (pv 8) (jk (ja (jk (ja ji (ja (pv 5) (ja (jk (ja (pv 9) jb)) (ja (jk jb) jb))))) jb)))))) jq)) (jd (jo (i:=10) scInner.nd rfl (Or.inl rfl) (jk (ja ji (ja (@jm _ _ _ _ _ _ _ JU ji (jh GT hr.m rfl mT kT bT .nil pass0 (ja (pv 0) (ja jc jb))) (fun _ _=>rfl)) (ja (pv 6) (ja (jk (ja ji (ja (jh GT hr.m rfl mT kT bT .nil pass0 (ja (pv 0) (ja jc jb))) jb))) jb)))))) (jd (jo (i:=11) scInner.nd rfl (Or.inl rfl) (jk (ja ji (ja (jh GO hr.m rfl mO kO bO .nil pass0 (ja (pv 0) (ja (pv 4) (ja (pv 6) jb)))) jb)))) (jd (jo (i:=12) scInner.nd rfl (Or.inl rfl) (jk (ja ji (ja (jh GO hr.m rfl mO kO bO .nil pass0 (ja (pv 0) (ja (pv 6) (ja (pv 5) jb)))) jb)))) (jd (jo (i:=8) scInner.nd rfl (Or.inl rfl) (jw zq (pv 8) (jk (ja (jk (ja ji (ja (pv 10) (ja (jk (ja (pv 11) jb)) (ja (jk jb) jb))))) (ja (pv 12) jb))))) (jj (jv (jk (ja (pv 1) (ja (jk (ja (@jm _ _ _ _ _ _ _ jr (pv 3) jc (fun _ _=>rfl)) (ja (@jm _ _ _ _ _ _ _ jr (pv 3) jc (fun _ _=>rfl)) jb))) (ja (pv 8) jb))))))))))))))),?_⟩
 try dsimp only[cxOf,Cx.nox,Cx.wish]
 have W0:Wx H H p wl ys:=⟨B,But.refl,hw⟩
 refine seqF fun F1 f1=>set3_ok W0 (JO (kx rfl (by decide) (by omega))) (JO (kx rfl (by decide) (by omega))) (JO (kx rfl (by decide) (by omega))) fun vx vi vy H1 xx xi xy W1 k1=>f1 _ _ ?_
 refine seqF fun F2 f2=>jP W1 (zU (n:=1) (zW zu) (Xp rfl (jI rfl monT xx) (jI rfl monT xi)) (kn (za rfl (by decide) (by decide)) (by decide)) (by decide) (by decide)) fun v2 H2 x2 W2 k2=>f2 _ _ ?_
 refine seqF fun F3 f3=>jP W2 (JS (JQ (g:=g) (kx rfl (by decide) (by omega)) (jI rfl monT x2) (by decide))) fun v3 H3 x3 W3 k3=>f3 _ _ ?_
 refine seqF fun F4 f4=>midE (fun σ' H'=>∃(o:Option V) (b:V),σ'=[some (V.ref p),some (V.str f0),some (V.str g),some (V.ref wl),some (vx),some (vi),some (vy),o,some b,none,none,none,none]/\PB g ys 1 2 H' b/\Wx H H' p wl ys/\TMono H3 H') (fun E4 _ fm4=>qE W3 rfl (by decide) (by decide) (fun H6 W6 k6=>?_) (fun H6 W6 k6=>?_)) fun σ4 H5 hq4=>?_
 ·clear f4
  have m1_6:TMono H1 H6:=((k2.t.trans k3.t).trans k6.t)
  refine seqF fun F7 f7=>jP W6 (zU (n:=1) (zW zu) (jI rfl monT (monT _ _ _ m1_6 xi)) (kn (K5 (za rfl (by decide) (by decide)) (by decide)) (by decide)) (by decide) (by decide)) fun v7 H7 x7 W7 k7=>f7 _ _ ?_
  have m3_7:TMono H3 H7:=(k6.t.trans k7.t)
  have m1_7:TMono H1 H7:=(m1_6.trans k7.t)
  refine jP W7 (qy (jI rfl monB (monB _ _ _ m3_7 x3)) (JS (JR (g:=g) (jI rfl monT x7) (JP rfl (jI rfl monT (monT _ _ _ m1_7 xx)) (jI rfl monT (monT _ _ _ m1_7 xy))) (by decide) (by decide))) (by decide)) fun v8 H8 x8 W8 k8=>fm4 _ _ ?_
  have m3_8:TMono H3 H8:=(m3_7.trans k8.t)
  exact⟨_,_,rfl,(PB.lift x8),W8,m3_8⟩
 ·clear f4
  exact fm4 _ _ ⟨_,_,rfl,(PB.more (PB.lift (monB _ _ _ k6.t x3)) (by decide)),W6,k6.t⟩
 obtain⟨o5,b5,rfl,x5,W5,k5⟩:=hq4
 refine f4 _ _ ?_
 clear f4
 refine seqF fun F9 f9=>midE (fun σ' H'=>∃(o:Option V) (b:V),σ'=[some (V.ref p),some (V.str f0),some (V.str g),some (V.ref wl),some (vx),some (vi),some (vy),o5,some b,o,none,none,none]/\PB g ys 1 3 H' b/\Wx H H' p wl ys/\TMono H5 H') (fun E9 _ fm9=>qE W5 rfl (by decide) (by decide) (fun H11 W11 k11=>?_) (fun H11 W11 k11=>?_)) fun σ9 H10 hq9=>?_
 ·clear f9
  have m1_11:TMono H1 H11:=(((k2.t.trans k3.t).trans k5).trans k11.t)
  refine seqF fun F12 f12=>jP W11 (YS (kx rfl (by decide) (by omega)) (QO rfl) (zU (n:=1) (zW Qw) (jI rfl monT (monT _ _ _ m1_11 xi)) (kn (KY (by decide) (by decide:(1:Int) < 2)) (by decide)) (by decide) (by decide)) (jI rfl monT (monT _ _ _ m1_11 xy)) (by decide) (by decide)) fun v12 H12 x12 W12 k12=>f12 _ _ ?_
  have m5_12:TMono H5 H12:=(k11.t.trans k12.t)
  have m1_12:TMono H1 H12:=(m1_11.trans k12.t)
  refine jP W12 (qy (jI rfl monB (monB _ _ _ m5_12 x5)) (JS (ev_if (jI rfl monT (monT _ _ _ m1_12 xi)) (JS (jI rfl monS x12)) (ev_b0 (g:=g) (d:=0)) (by decide) (by decide))) (by decide)) fun v13 J12 x13 W13 k13=>fm9 _ _ ?_
  have m5_13:TMono H5 J12:=(m5_12.trans k13.t)
  exact⟨_,_,rfl,x13,W13,m5_13⟩
 ·clear f9
  exact fm9 _ _ ⟨_,_,rfl,(PB.more (monB _ _ _ k11.t x5) (by decide)),W11,k11.t⟩
 obtain⟨o10,b10,rfl,x10,W10,k10⟩:=hq9
 refine f9 _ _ ?_
 clear f9
 have m1_10:TMono H1 H10:=(((k2.t.trans k3.t).trans k5).trans k10)
 refine seqF fun F14 f14=>jP W10 (zU (n:=1) (ev_s3 rfl) (jI rfl monT (monT _ _ _ m1_10 xy)) (kn (za rfl (by decide) (by decide)) (by decide)) (by decide) (by decide)) fun v14 H14 x14 W14 k14=>f14 _ _ ?_
 have m1_14:TMono H1 H14:=(m1_10.trans k14.t)
 refine seqF fun F15 f15=>jP W14 (Qj (g:=g) (JP rfl (jI rfl monT (monT _ _ _ m1_14 xx)) (jI rfl monT (monT _ _ _ m1_14 xy))) (by decide)) fun v15 H15 x15 W15 k15=>f15 _ _ ?_
 have m1_15:TMono H1 H15:=(m1_14.trans k15.t)
 refine seqF fun F16 f16=>jP W15 (Qj (g:=g) (JP rfl (jI rfl monT (monT _ _ _ m1_15 xy)) (jI rfl monT (monT _ _ _ m1_15 xi))) (by decide)) fun v16 H16 x16 W16 k16=>f16 _ _ ?_
 have m10_16:TMono H10 H16:=((k14.t.trans k15.t).trans k16.t)
 have m14_16:TMono H14 H16:=(k15.t.trans k16.t)
 refine seqF fun F17 f17=>jP W16 (qy (jI rfl monB (monB _ _ _ m10_16 x10)) (Xq (ev_if (jI rfl monT (monT _ _ _ m14_16 x14)) (JS (jI rfl monS (monS _ _ _ k16.t x15))) (ev_b0 (g:=g) (d:=0)) (by decide) (by decide)) (Ev.up (jI rfl monS x16) fun _ _=>StX.lift)) (by decide)) fun v17 H17 x17 W17 k17=>f17 _ _ ?_
 refine K6 W17 (Xr (QO rfl) (ev_q2 (kx rfl (by decide) (by omega)) (kx rfl (by decide) (by omega))) (jI rfl monB x17) (by decide)) fun v H' x W'=>?_
 obtain⟨r,rfl,x⟩:=x
 exact q r H' x W'.B W'.K
theorem scLooped:FnScope ["_law_box_here","_law_f","_law_inner_here","_law_w","_law_n","_law_i","_law_s","_law_x","_law_y","_law_body_here","_law_spot_here","_law_start","_law_loop"] ["_law_box_here","_law_f","_law_inner_here","_law_w"] (defScope sLooped):=fsc
noncomputable def Kz:Scope:=⟨.function,[(".0",.local),("_law_one",.local)],false,false,[]⟩
theorem Xi:(["_law_one"]:List Str).Nodup:=by decide+kernel
theorem Xj:CompSc ["_law_box_here","_law_f","_law_inner_here","_law_w","_law_n","_law_i","_law_s","_law_x","_law_y","_law_body_here","_law_spot_here","_law_start","_law_loop"] (defScope sLooped) Kz ["_law_one"] 1 []:=csc
theorem YD{f:Addr}{fd:FuncData}{fT fO:Addr}{fdT fdO:FuncData}(F:Fun K "_law_looped" "_law_looped" sLooped f fd)(GT:FnOk P w K mg base CX0 1 fT fdT ["_law_box_here","_law_wide"] spTake)(bT:Binds K fdT ["_law_box_here","_law_wide"] [])(kT:keepIn K (.ref fT)=true)(mT:mg "_law_take"=some (.ref fT))(GO:FnOk P w K mg base CX0 2 fO fdO ["_law_box_here","_law_a","_law_b"] spOp)(bO:Binds K fdO ["_law_box_here","_law_a","_law_b"] [])(kO:keepIn K (.ref fO)=true)(mO:mg "_law_op"=some (.ref fO))(mi:mg "int"=none)(mtu:mg "tuple"=none):FnOk P w K mg base CX0 3 f fd ["_law_box_here","_law_f","_law_inner_here","_law_w"] (spDefn 1):=by
 refine F.ok scLooped (fun vs H Q E h=>?_) (fun cdv A outer s H vs Q E hr h=>?_)
 ·refine opq fun Gq kq=>?_
  obtain⟨p,wl,f0,g,ys,rfl,_⟩:=h
  refine kq ?_
  clear kq
  rfl
 refine opq fun Gq kq=>?_
 obtain⟨p,wl,f0,g,ys,rfl,B,hw,hyl,q⟩:=h
 refine kq ?_
 clear kq
 refine⟨_,(jd (@kE _ _ _ _ _ _ (@zc _ _ _ _ _ _ _ (["_law_one"]) (1) ([]) _ _ _ _ rfl (@JC _ _ _ _ (@jR _ _ _ _ _ _ _ _ _ _ kt (pv 3) (@zb _) (@jN _ _ _ jc))) Xj (fun _ _ _ _ _=>(jx (i:=0) Xi rfl (Or.inl rfl))) (fun _ _ _ _ _=>(@zw _)) (fun _ _ _ _ _=>(jk (ja ji (ja (pv 0) jb)))) (by intro _;rfl)) (@XF _ _ _ _ (5) _ rfl (jE (jx (i:=4) scLooped.nd rfl (Or.inl rfl)) (jE (jx (i:=5) scLooped.nd rfl (Or.inl rfl)) (jE (jx (i:=6) scLooped.nd rfl (Or.inl rfl)) (jE (jx (i:=7) scLooped.nd rfl (Or.inl rfl)) (jE (jx (i:=8) scLooped.nd rfl (Or.inl rfl)) zi))))) (by rfl) (by rfl)) (by rfl) (by rfl) (by rfl)) (jd (jo (i:=9) scLooped.nd rfl (Or.inl rfl) (jH (ja (jk (ja ji (ja (@jm _ _ _ _ _ _ _ jr (pv 3) jc (fun _ _=>rfl)) (ja (jk (ja ji (ja ji (ja (pv 5) (ja (jk (ja ji (ja (jh GT hr.m rfl mT kT bT .nil pass0 (ja (pv 0) (ja jc jb))) jb))) jb))))) jb)))) jb))) (jd (jU (@ze _ _ _ _ _ _ _ _ _ _ _ _ PySem.F.plainAttrs_list PySem.F.slot_list_append PySem.F.type_list_append jT (pv 9) (ja (jk (ja ji (ja (@jm _ _ _ _ _ _ _ jr (pv 3) jc (fun _ _=>rfl)) (ja (pv 2) (ja (jk (ja (pv 7) (ja (@jm _ _ _ _ _ _ _ jr (jH (ja (pv 5) (ja (pv 6) jb))) (@jF _ _ _ _ _ _ _ _ _ jV rfl mi boot_int (ja (@j5 _ _ _ _ _ _ _ _ jD (jh GT hr.m rfl mT kT bT .nil pass0 (ja (pv 0) (ja jc jb))) jc (nomark _)) jb) (by decide) (by decide) (by rfl) (by rfl)) (fun _ _=>rfl)) jb))) jb))))) jb) (by rfl) (by rfl) (by rfl) (by rfl) (by rfl))) (jd (jW (jy (@jp _ _ _ _ _ _ _ _ jD (jh GT hr.m rfl mT kT bT .nil pass0 (ja (pv 0) (ja jc jb))) jc (nomark _)) (jd (jo (i:=10) scLooped.nd rfl (Or.inl rfl) (jk (ja ji (ja ji (ja (pv 5) (ja (jk (ja ji (ja (jw jO jc (jh GT hr.m rfl mT kT bT .nil pass0 (ja (pv 0) (ja jc jb)))) jb))) jb)))))) (jj (jU (@ze _ _ _ _ _ _ _ _ _ _ _ _ PySem.F.plainAttrs_list PySem.F.slot_list_append PySem.F.type_list_append jT (pv 9) (ja (jk (ja ji (ja (pv 10) (ja (@jm _ _ _ _ _ _ _ jr (jH (ja (pv 6) (ja (pv 8) (ja (pv 7) jb)))) (jh GT hr.m rfl mT kT bT .nil pass0 (ja (pv 0) (ja jc jb))) (fun _ _=>rfl)) jb)))) jb) (by rfl) (by rfl) (by rfl) (by rfl) (by rfl))))) jq)) (jd (jU (@ze _ _ _ _ _ _ _ _ _ _ _ _ PySem.F.plainAttrs_list PySem.F.slot_list_append PySem.F.type_list_append jT (pv 9) (ja (jk (ja ji (ja (@jm _ _ _ _ _ _ _ jr (pv 3) jc (fun _ _=>rfl)) (ja (jh GO hr.m rfl mO kO bO .nil pass0 (ja (pv 0) (ja (@jm _ _ _ _ _ _ _ jr (jH (ja (pv 6) (ja (pv 6) (ja (pv 7) jb)))) (jh GT hr.m rfl mT kT bT .nil pass0 (ja (pv 0) (ja jc jb))) (fun _ _=>rfl)) (ja (pv 8) jb)))) jb)))) jb) (by rfl) (by rfl) (by rfl) (by rfl) (by rfl))) (jd (jW (jy (@jp _ _ _ _ _ _ _ _ jD (jh GT hr.m rfl mT kT bT .nil pass0 (ja (pv 0) (ja jc jb))) jc (nomark _)) (jj (@kE _ _ _ _ _ _ (jk (ja (@jm _ _ _ _ _ _ _ jr (pv 9) jc (fun _ _=>rfl)) (ja (@jm _ _ _ _ _ _ _ jr (pv 9) jc (fun _ _=>rfl)) jb))) (@zX _ _ _ _ _ (2) rfl (jE (@qv _ _ _ _ _ _ _ (pv 9) jc zB (by intro _;rfl)) (jE (@qv _ _ _ _ _ _ _ (pv 9) jc zB (by intro _;rfl)) zi)) (by rfl) (by rfl)) (by rfl) (by rfl) (by rfl))) jq)) (jd (jU (@ze _ _ _ _ _ _ _ _ _ _ _ _ PySem.F.plainAttrs_list PySem.F.slot_list_append PySem.F.type_list_append jT (pv 9) (ja (jk (ja ji (ja (@jm _ _ _ _ _ _ _ jr (pv 3) jc (fun _ _=>rfl)) (ja (jk (ja ji (ja ji (ja (pv 5) (ja (jk (ja ji (ja jc jb))) jb))))) jb)))) jb) (by rfl) (by rfl) (by rfl) (by rfl) (by rfl))) (jd (jo (i:=11) scLooped.nd rfl (Or.inl rfl) (jk (ja (jk (ja ji (ja (@jm _ _ _ _ _ _ _ jr (pv 3) jc (fun _ _=>rfl)) (ja (jk (ja ji (ja (jh GT hr.m rfl mT kT bT .nil pass0 (ja (pv 0) (ja jc jb))) jb))) jb)))) (ja (jk (ja ji (ja (@jm _ _ _ _ _ _ _ jr (pv 3) jc (fun _ _=>rfl)) (ja (jk (ja ji (ja (jh GT hr.m rfl mT kT bT .nil pass0 (ja (pv 0) (ja jc jb))) jb))) jb)))) jb)))) (jd (jW (jy (@jp _ _ _ _ _ _ _ _ jD (jh GT hr.m rfl mT kT bT .nil pass0 (ja (pv 0) (ja jc jb))) jc (nomark _)) (jd (jo (i:=11) scLooped.nd rfl (Or.inl rfl) (jw zq (pv 11) (jk (ja (jk (ja ji (ja (@jm _ _ _ _ _ _ _ jr (pv 3) jc (fun _ _=>rfl)) (ja (jk (ja ji (ja (jw jO jc (jh GT hr.m rfl mT kT bT .nil pass0 (ja (pv 0) (ja jc jb)))) jb))) jb)))) jb)))) (jj (jo (i:=11) scLooped.nd rfl (Or.inl rfl) (jw zq (pv 11) (jk (ja (jk (ja ji (ja (@jm _ _ _ _ _ _ _ jr (pv 3) jc (fun _ _=>rfl)) (ja (jk (ja ji (ja ji (ja (pv 4) (ja (jk (ja ji (ja jc jb))) jb))))) jb)))) jb)))))) jq)) (jd (jo (i:=12) scLooped.nd rfl (Or.inl rfl) (jk (ja ji (ja (jk (ja ji (ja ji (ja (pv 5) (ja (pv 4) jb))))) (ja (@jF _ _ _ _ _ _ _ _ _ jL rfl mtu boot_tuple (ja (pv 9) jb) (by decide) (by decide) (by rfl) (by rfl)) jb))))) (jj (jv (jk (ja (pv 1) (ja (jk (ja (@jm _ _ _ _ _ _ _ jr (pv 3) jc (fun _ _=>rfl)) jb)) (ja (jw zq (pv 11) (jk (ja (pv 12) (ja (jk (ja ji (ja (jk (ja ji (ja jc jb))) (ja (pv 6) jb)))) (ja (jk (ja ji (ja (pv 6) jb))) jb))))) jb)))))))))))))))),?_⟩
 try dsimp only[cxOf,Cx.nox,Cx.wish]
 have W0:Wx H H p wl ys:=⟨B,But.refl,hw⟩
 refine seqF fun F1 f1=>XS W0 rfl hyl fun vn vi vs vx vy H1 xn xi xs xx xy W1=>f1 _ _ ?_
 refine seqF fun F2 f2=>own1 W1 (JQ (g:=g) (kx rfl (by decide) (by omega)) (zU (n:=1) (zW zu) (jI rfl monT xi) (kn (za rfl (by decide) (by decide)) (by decide)) (by decide) (by decide)) (by decide)) fun lb u2 H2 o2 x2 W2 k2=>f2 _ _ ?_
 refine seqF fun F3 f3=>Ji W2 rfl o2 (show 1<=100 by decide) (YS (kx rfl (by decide) (by omega)) (QO rfl) (jI rfl monT (monT _ _ _ k2.t xx)) (ev_pb rfl (by decide) (by decide) (jI rfl monT (monT _ _ _ k2.t xi)) (jI rfl monT (monT _ _ _ k2.t xs))) (by decide) (by decide)) fun u3 H3 x3 o3 W3 k3=>f3 _ _ ?_
 refine seqF fun F4 f4=>midE (fun σ' H'=>∃(o:Option V) (zs:List V),σ'=[some (V.ref p),some (V.str f0),some (V.str g),some (V.ref wl),some (vn),some (vi),some (vs),some (vx),some (vy),some (V.ref lb),o,none,none]/\Ow H H' p wl lb (u2::u3::zs)/\BdX g H' ys 0 zs/\zs.length<=1/\Wx H H' p wl ys/\TMono H3 H') (fun E4 _ fm4=>qE W3 rfl (by decide) (by decide) (fun H6 W6 k6=>?_) (fun H6 W6 k6=>?_)) fun σ4 H5 hq4=>?_
 ·clear f4
  have o6:=o3.fw k6
  have m1_6:TMono H1 H6:=((k2.t.trans k3).trans k6.t)
  refine seqF fun F7 f7=>jP W6 (zU (n:=1) (zW zu) (jI rfl monT (monT _ _ _ m1_6 xi)) (kn (K5 (za rfl (by decide) (by decide)) (by decide)) (by decide)) (by decide) (by decide)) fun v7 H7 x7 W7 k7=>f7 _ _ ?_
  have o7:=o6.fw k7
  have m1_7:TMono H1 H7:=(m1_6.trans k7.t)
  refine Ji W7 rfl o7 (show 2<=100 by decide) (JR (g:=g) (jI rfl monT x7) (ev_p3 rfl (jI rfl monT (monT _ _ _ m1_7 xs)) (jI rfl monT (monT _ _ _ m1_7 xy)) (jI rfl monT (monT _ _ _ m1_7 xx))) (by decide) (by decide)) fun u8 H8 x8 o8 W8 k8=>fm4 _ _ ?_
  have m3_8:TMono H3 H8:=((k6.t.trans k7.t).trans k8)
  exact⟨_,[u8],rfl,o8,zA x8,Nat.le_refl 1,W8,m3_8⟩
 ·clear f4
  have o6:=o3.fw k6
  exact fm4 _ _ ⟨_,[],rfl,o6,JX,by decide,W6,k6.t⟩
 obtain⟨w5,zs,rfl,o5,zx,zl,W5,k5⟩:=hq4
 refine f4 _ _ ?_
 clear f4
 have m1_5:TMono H1 H5:=((k2.t.trans k3).trans k5)
 refine seqF fun F9 f9=>Ji W5 rfl o5 (show zs.length+1+1<=100 by omega) (Js (g:=g) (kx rfl (by decide) (by omega)) (JP rfl (ev_p3 rfl (jI rfl monT (monT _ _ _ m1_5 xs)) (jI rfl monT (monT _ _ _ m1_5 xs)) (jI rfl monT (monT _ _ _ m1_5 xx))) (jI rfl monT (monT _ _ _ m1_5 xy))) (by decide)) fun u9 H9 x9 o9 W9 k9=>f9 _ _ ?_
 have zy:BdX g H9 ys 0 (zs++[u9]):=Jh (zx.mono k9) (zA x9)
 have zm:(zs++[u9]).length<=2:=by rw[List.length_append];exact Nat.succ_le_succ zl
 refine seqF fun F10 f10=>midE (fun σ' H'=>∃(us:List V),σ'=[some (V.ref p),some (V.str f0),some (V.str g),some (V.ref wl),some (vn),some (vi),some (vs),some (vx),some (vy),some (V.ref lb),w5,none,none]/\Ow H H' p wl lb us/\BdX g H' ys 0 us/\us.length<=4/\Wx H H' p wl ys/\TMono H9 H') (fun E10 _ fm10=>qE W9 rfl (by decide) (by decide) (fun H12 W12 k12=>?_) (fun H12 W12 k12=>?_)) fun σ10 H11 hq10=>?_
 ·clear f10
  have o12:=o9.fw k12
  refine swap_ok W12 rfl o12 fun J12 o13 W13 k13=>fm10 _ _ ?_
  have m3_13:TMono H3 J12:=(((k5.trans k9).trans k12.t).trans k13)
  have m2_13:TMono H2 J12:=((((k3.trans k5).trans k9).trans k12.t).trans k13)
  have m9_13:TMono H9 J12:=(k12.t.trans k13)
  exact⟨_,rfl,o13,jS ((monS _ _ _ m3_13 x3)) (jS ((monS _ _ _ m2_13 x2)) (zy.mono m9_13)),(show(zs++[u9]).length+1+1<=4 by omega),W13,m9_13⟩
 ·clear f10
  have o12:=o9.fw k12
  have m2_12:TMono H2 H12:=(((k3.trans k5).trans k9).trans k12.t)
  have m3_12:TMono H3 H12:=((k5.trans k9).trans k12.t)
  exact fm10 _ _ ⟨_,rfl,o12,jS ((monS _ _ _ m2_12 x2)) (jS ((monS _ _ _ m3_12 x3)) (zy.mono k12.t)),(show(zs++[u9]).length+1+1<=4 by omega),W12,k12.t⟩
 obtain⟨us,rfl,o11,ux,ul,W11,k11⟩:=hq10
 refine f10 _ _ ?_
 clear f10
 have m1_11:TMono H1 H11:=((m1_5.trans k9).trans k11)
 refine seqF fun F14 f14=>Ji W11 rfl o11 (by omega) (Js (g:=g) (kx rfl (by decide) (by omega)) (zU (n:=1) (zW zu) (jI rfl monT (monT _ _ _ m1_11 xi)) (kn (KY (by decide) (by decide:(1:Int) < 2)) (by decide)) (by decide) (by decide)) (by decide)) fun u14 H14 x14 o14 W14 k14=>f14 _ _ ?_
 have bx14:BdX g H14 ys 0 (us++[u14]):=Jh (ux.mono k14) (zA x14)
 have bl:(us++[u14]).length<=5:=by rw[List.length_append];exact Nat.succ_le_succ ul
 refine seqF fun F15 f15=>jP W14 (Xq (Js (g:=g) (kx rfl (by decide) (by omega)) (kn (za rfl (by decide) (by decide)) (by decide)) (by decide)) (Js (g:=g) (kx rfl (by decide) (by omega)) (kn (za rfl (by decide) (by decide)) (by decide)) (by decide))) fun v15 H15 x15 W15 k15=>f15 _ _ ?_
 have o15:=o14.fw k15
 refine seqF fun F16 f16=>midE (fun σ' H'=>∃(b:V),σ'=[some (V.ref p),some (V.str f0),some (V.str g),some (V.ref wl),some (vn),some (vi),some (vs),some (vx),some (vy),some (V.ref lb),w5,some b,none]/\Ow H H' p wl lb (us++[u14])/\PB g ys 0 4 H' b/\Wx H H' p wl ys/\TMono H15 H') (fun E16 _ fm16=>qE W15 rfl (by decide) (by decide) (fun H18 W18 k18=>?_) (fun H18 W18 k18=>?_)) fun σ16 H17 hq16=>?_
 ·clear f16
  have o18:=o15.fw k18
  refine seqF fun F19 f19=>jP W18 (qy (jI rfl monB (monB _ _ _ k18.t x15)) (JS (JQ (g:=g) (kx rfl (by decide) (by omega)) (kn (K5 (za rfl (by decide) (by decide)) (by decide)) (by decide)) (by decide))) (by decide)) fun v19 H19 x19 W19 k19=>f19 _ _ ?_
  have o19:=o18.fw k19
  have m1_19:TMono H1 H19:=((((m1_11.trans k14).trans k15.t).trans k18.t).trans k19.t)
  refine jP W19 (qy (jI rfl monB x19) (JS (Js (g:=g) (kx rfl (by decide) (by omega)) (zU (n:=1) (zW sg_over) (jI rfl monT (monT _ _ _ m1_19 xn)) (kn (KY (by decide) (by decide:(2:Int) < 3)) (by decide)) (by decide) (by decide)) (by decide))) (by decide)) fun v20 H20 x20 W20 k20=>fm16 _ _ ?_
  have o20:=o19.fw k20
  have m15_20:TMono H15 H20:=((k18.t.trans k19.t).trans k20.t)
  exact⟨_,rfl,o20,x20,W20,m15_20⟩
 ·clear f16
  have o18:=o15.fw k18
  exact fm16 _ _ ⟨_,rfl,o18,(PB.more (monB _ _ _ k18.t x15) (by decide)),W18,k18.t⟩
 obtain⟨b17,rfl,o17,x17,W17,k17⟩:=hq16
 refine f16 _ _ ?_
 clear f16
 have m1_17:TMono H1 H17:=(((m1_11.trans k14).trans k15.t).trans k17)
 have m14_17:TMono H14 H17:=(k15.t.trans k17)
 refine seqF fun F21 f21=>jP W17 (ev_wh (zU (n:=1) (zW Qb) (jI rfl monT (monT _ _ _ m1_17 xi)) (jI rfl monT (monT _ _ _ m1_17 xn)) (by decide) (by decide)) (ev_tl (n:=5) rfl o17 (bx14.mono m14_17) bl) (by decide) (by decide)) fun v21 H21 x21 W21 k21=>f21 _ _ ?_
 have o21:=o17.fw k21
 have m1_21:TMono H1 H21:=(m1_17.trans k21.t)
 refine K6 W21 (Xr (QO rfl) (ev_q1 (kx rfl (by decide) (by omega))) (qy (Ev.up (jI rfl monB (monB _ _ _ k21.t x17)) fun _ _=>PB.lift) (ev_b3 (jI rfl monS x21) (Ev.up (JR (g:=g) (kn (KY (by decide) (by decide:(30:Int) < 31)) (by decide)) (jI rfl monT (monT _ _ _ m1_21 xs)) (by decide) (by decide)) fun _ _=>StX.lift) (Ev.up (Qj (g:=g) (jI rfl monT (monT _ _ _ m1_21 xs)) (by decide)) fun _ _=>StX.lift)) (by decide)) (by decide)) fun v H' x W'=>?_
 obtain⟨r,rfl,x⟩:=x
 exact q r H' x W'.B W'.K
theorem cut2{H:Hp}{ys:List Str}{u v:V}{d:Int}(h0:0<=d)(h1:d < 2)(hu:StX g H ys 0 u)(hv:StX g H ys 0 v):BdX g H ys 0 (cutV [u,v] none (some (1+d)))/\(cutV [u,v] none (some (1+d))).length<=2:=by
 rcases(by omega:d=0∨d=1) with rfl |rfl
 ·exact⟨zA hu,by show 1<=2;decide⟩
 ·exact⟨jS hu (zA hv),by show 2<=2;decide⟩
def P2(g:Str)(ys:List Str)(H:Hp)(w:V):Prop:=∃a u v,w= .ref a/\H a=some (.tup [u,v])/\StX g H ys 0 u/\StX g H ys 0 v
theorem monP2{g:Str}{ys:List Str}:Mon (P2 g ys):=fun _ _ _ m ⟨a,u,v,e,h1,h2,h3⟩=>⟨a,u,v,e,m _ _ h1,h2.mono m,h3.mono m⟩
section
variable {g:Str}{ys:List Str}{H0 Hb:Hp}{p wl:Addr}{σ:L2.St}
theorem ev_two{ta tb:TE}(ha:Ev H0 p wl ys Hb σ ta (fun H v=>StX g H ys 0 v))(hb:Ev H0 p wl ys Hb σ tb (fun H v=>StX g H ys 0 v)):Ev H0 p wl ys Hb σ (tTup (tCons ta (tCons tb tNil))) (P2 g ys):=fun H Q m W q=>
 ha H _ m W fun v2 H2 x2 W2 k2=>hb H2 _ (m.trans k2) W2 fun v3 H3 x3 W3 k3=>⟨sz2,fun r nr=>j9 (P:=P2 g ys) W3 (fun v' H' x W' k=>q v' H' x W' ((k2.trans k3).trans k)) nr fun t z=>⟨r,_,_,rfl,z,(x2.mono k3.t).mono t,x3.mono t⟩⟩
theorem ev_cut{i:Nat}{v:V}(e:σ[i]?=some (some v))(e0:σ[0]?=some (some (.ref p)))(h:P2 g ys Hb v):Ev H0 p wl ys Hb σ (tSl rSlA (tVar i) tNoPart (tPart (tOp (rI0 fun i j=>V.int (i+j)) (tC (.int 1)) (tTk 2)))) (PB g ys 0 2):=fun H Q m W q=>
 ⟨v,e,za e0 (by decide) (by decide) H _ m W fun w H1 ⟨d,e1,d0,d1⟩ W1 k1=>⟨1,d,rfl,e1,_,rfl,by
  obtain⟨a,u,v',rfl,h1,h2,h3⟩:=monP2 _ _ _ (m.trans k1).t h
  have z:=cut2 d0 d1 h2 h3
  exact⟨a,_,rfl,h1,fun r H2 hr s=>q _ H2 ⟨r,_,rfl,hr,z.1.mono (Same.tm s),z.2⟩ (W1.same s) (k1.trans (.same s))⟩⟩⟩
end
theorem scTicking:FnScope ["_law_box_here","_law_f","_law_inner_here","_law_w","_law_n","_law_i","_law_s","_law_x","_law_y","_law_spot_here","_law_body_here","_law_kept","_law_some","_law_start","_law_loop"] ["_law_box_here","_law_f","_law_inner_here","_law_w"] (defScope sTicking):=fsc
noncomputable def Kl:Scope:=⟨.function,[(".0",.local),("_law_one",.local)],false,false,[]⟩
theorem QK:(["_law_one"]:List Str).Nodup:=by decide+kernel
theorem QL:CompSc ["_law_box_here","_law_f","_law_inner_here","_law_w","_law_n","_law_i","_law_s","_law_x","_law_y","_law_spot_here","_law_body_here","_law_kept","_law_some","_law_start","_law_loop"] (defScope sTicking) Kl ["_law_one"] 1 []:=csc
theorem Xk{f:Addr}{fd:FuncData}{fT fO:Addr}{fdT fdO:FuncData}(F:Fun K "_law_ticking" "_law_ticking" sTicking f fd)(GT:FnOk P w K mg base CX0 1 fT fdT ["_law_box_here","_law_wide"] spTake)(bT:Binds K fdT ["_law_box_here","_law_wide"] [])(kT:keepIn K (.ref fT)=true)(mT:mg "_law_take"=some (.ref fT))(GO:FnOk P w K mg base CX0 2 fO fdO ["_law_box_here","_law_a","_law_b"] spOp)(bO:Binds K fdO ["_law_box_here","_law_a","_law_b"] [])(kO:keepIn K (.ref fO)=true)(mO:mg "_law_op"=some (.ref fO))(mi:mg "int"=none)(mtu:mg "tuple"=none):FnOk P w K mg base CX0 3 f fd ["_law_box_here","_law_f","_law_inner_here","_law_w"] (spDefn 1):=by
 refine F.ok scTicking (fun vs H Q E h=>?_) (fun cdv A outer s H vs Q E hr h=>?_)
 ·refine opq fun Gq kq=>?_
  obtain⟨p,wl,f0,g,ys,rfl,_⟩:=h
  refine kq ?_
  clear kq
  rfl
 refine opq fun Gq kq=>?_
 obtain⟨p,wl,f0,g,ys,rfl,B,hw,hyl,q⟩:=h
 refine kq ?_
 clear kq
 refine⟨_,(jd (@kE _ _ _ _ _ _ (@zc _ _ _ _ _ _ _ (["_law_one"]) (1) ([]) _ _ _ _ rfl (@JC _ _ _ _ (@jR _ _ _ _ _ _ _ _ _ _ kt (pv 3) (@zb _) (@jN _ _ _ jc))) QL (fun _ _ _ _ _=>(jx (i:=0) QK rfl (Or.inl rfl))) (fun _ _ _ _ _=>(@zw _)) (fun _ _ _ _ _=>(jk (ja ji (ja (pv 0) jb)))) (by intro _;rfl)) (@XF _ _ _ _ (5) _ rfl (jE (jx (i:=4) scTicking.nd rfl (Or.inl rfl)) (jE (jx (i:=5) scTicking.nd rfl (Or.inl rfl)) (jE (jx (i:=6) scTicking.nd rfl (Or.inl rfl)) (jE (jx (i:=7) scTicking.nd rfl (Or.inl rfl)) (jE (jx (i:=8) scTicking.nd rfl (Or.inl rfl)) zi))))) (by rfl) (by rfl)) (by rfl) (by rfl) (by rfl)) (jd (jo (i:=9) scTicking.nd rfl (Or.inl rfl) (jk (ja ji (ja (jw jO jc (jh GT hr.m rfl mT kT bT .nil pass0 (ja (pv 0) (ja jc jb)))) jb)))) (jd (jo (i:=10) scTicking.nd rfl (Or.inl rfl) (jH (ja (jk (ja ji (ja (@jm _ _ _ _ _ _ _ jr (pv 3) jc (fun _ _=>rfl)) (ja (pv 9) jb)))) (ja (jk (ja ji (ja (@jm _ _ _ _ _ _ _ jr (pv 3) jc (fun _ _=>rfl)) (ja (@jm _ _ _ _ _ _ _ jr (jH (ja (pv 5) (ja (jk (ja ji (ja (jh GT hr.m rfl mT kT bT .nil pass0 (ja (pv 0) (ja jc jb))) jb))) jb))) (jh GT hr.m rfl mT kT bT .nil pass0 (ja (pv 0) (ja jc jb))) (fun _ _=>rfl)) jb)))) jb)))) (jd (jU (@ze _ _ _ _ _ _ _ _ _ _ _ _ PySem.F.plainAttrs_list PySem.F.slot_list_append PySem.F.type_list_append jT (pv 10) (ja (jk (ja ji (ja (@jm _ _ _ _ _ _ _ jr (pv 3) jc (fun _ _=>rfl)) (ja (pv 2) (ja (jk (ja (@jm _ _ _ _ _ _ _ jr (jH (ja (pv 7) (ja (jk (ja ji (ja jc jb))) jb))) (jh GT hr.m rfl mT kT bT .nil pass0 (ja (pv 0) (ja jc jb))) (fun _ _=>rfl)) (ja (@jm _ _ _ _ _ _ _ jr (jH (ja (pv 5) (ja (jk (ja ji (ja jc jb))) jb))) (jh GT hr.m rfl mT kT bT .nil pass0 (ja (pv 0) (ja jc jb))) (fun _ _=>rfl)) jb))) jb))))) jb) (by rfl) (by rfl) (by rfl) (by rfl) (by rfl))) (jd (jW (jy (@jp _ _ _ _ _ _ _ _ jD (jh GT hr.m rfl mT kT bT .nil pass0 (ja (pv 0) (ja jc jb))) jc (nomark _)) (jj (jU (@ze _ _ _ _ _ _ _ _ _ _ _ _ PySem.F.plainAttrs_list PySem.F.slot_list_append PySem.F.type_list_append jT (pv 10) (ja (jk (ja ji (ja (jk (ja ji (ja ji (ja (pv 5) (ja (jk (ja ji (ja (jh GT hr.m rfl mT kT bT .nil pass0 (ja (pv 0) (ja jc jb))) jb))) jb))))) (ja (pv 8) jb)))) jb) (by rfl) (by rfl) (by rfl) (by rfl) (by rfl)))) jq)) (jd (jo (i:=11) scTicking.nd rfl (Or.inl rfl) (jk (ja ji (ja jc jb)))) (jd (jo (i:=12) scTicking.nd rfl (Or.inl rfl) (jH (ja (jk (ja ji (ja (@jm _ _ _ _ _ _ _ jr (pv 3) jc (fun _ _=>rfl)) (ja (pv 11) jb)))) (ja (jk (ja ji (ja (pv 11) (ja (jh GO hr.m rfl mO kO bO .nil pass0 (ja (pv 0) (ja (pv 6) (ja (pv 8) jb)))) jb)))) jb)))) (jd (jW (jy (@jp _ _ _ _ _ _ _ _ jD (jh GT hr.m rfl mT kT bT .nil pass0 (ja (pv 0) (ja jc jb))) jc (nomark _)) (jj (jo (i:=12) scTicking.nd rfl (Or.inl rfl) (jH (ja (jk (ja ji (ja (@jm _ _ _ _ _ _ _ jr (pv 3) jc (fun _ _=>rfl)) (ja (jh GO hr.m rfl mO kO bO .nil pass0 (ja (pv 0) (ja (pv 6) (ja (pv 8) jb)))) jb)))) jb)))) jq)) (jd (jo (i:=10) scTicking.nd rfl (Or.inl rfl) (jw qw (jw qw (pv 10) (pv 12)) (jH (ja (jk (ja ji (ja (pv 9) (ja (jk (ja ji (ja ji (ja (pv 5) (ja (jk (ja ji (ja jc jb))) jb))))) jb)))) (ja (jk (ja ji (ja (@jm _ _ _ _ _ _ _ jr (pv 3) jc (fun _ _=>rfl)) (ja (jk (ja ji (ja ji (ja (pv 5) (ja (pv 4) jb))))) jb)))) jb))))) (jd (jo (i:=13) scTicking.nd rfl (Or.inl rfl) (jk (ja (jk (ja ji (ja (@jm _ _ _ _ _ _ _ jr (pv 3) jc (fun _ _=>rfl)) (ja (jk (ja ji (ja jc jb))) jb)))) (ja (jk (ja ji (ja (pv 9) (ja (jk (ja ji (ja (jh GT hr.m rfl mT kT bT .nil pass0 (ja (pv 0) (ja jc jb))) jb))) jb)))) jb)))) (jd (jo (i:=14) scTicking.nd rfl (Or.inl rfl) (jk (ja ji (ja (jk (ja ji (ja (@jm _ _ _ _ _ _ _ jr (pv 3) jc (fun _ _=>rfl)) jb))) (ja (@jF _ _ _ _ _ _ _ _ _ jL rfl mtu boot_tuple (ja (pv 10) jb) (by decide) (by decide) (by rfl) (by rfl)) jb))))) (jj (jv (jk (ja (pv 1) (ja (jk (ja (@jm _ _ _ _ _ _ _ jr (pv 3) jc (fun _ _=>rfl)) jb)) (ja (jw zq (@jR _ _ _ _ _ _ _ _ _ _ XE (pv 13) (@zb _) (@jN _ _ _ (jw jO jc (jh GT hr.m rfl mT kT bT .nil pass0 (ja (pv 0) (ja jc jb)))))) (jk (ja (pv 14) (ja (jk (ja ji (ja (pv 6) jb))) jb)))) jb))))))))))))))))),?_⟩
 try dsimp only[cxOf,Cx.nox,Cx.wish]
 have W0:Wx H H p wl ys:=⟨B,But.refl,hw⟩
 refine seqF fun F1 f1=>XS W0 rfl hyl fun vn vi vs vx vy H1 xn xi xs xx xy W1=>f1 _ _ ?_
 refine seqF fun F2 f2=>jP W1 (kn (K5 (za rfl (by decide) (by decide)) (by decide)) (by decide)) fun v2 H2 x2 W2 k2=>f2 _ _ ?_
 refine seqF fun F3 f3=>own2 W2 (JQ (g:=g) (kx rfl (by decide) (by omega)) (jI rfl monT x2) (by decide)) (JQ (g:=g) (kx rfl (by decide) (by omega)) (Xp rfl (jI rfl monT (monT _ _ _ k2.t xi)) (kn (za rfl (by decide) (by decide)) (by decide))) (by decide)) fun lb u3 w3 H3 o3 x3 y3 W3 k3=>f3 _ _ ?_
 have m1_3:TMono H1 H3:=(k2.t.trans k3.t)
 refine seqF fun F4 f4=>Ji W3 rfl o3 (show 2<=100 by decide) (YS (kx rfl (by decide) (by omega)) (QO rfl) (Xp rfl (jI rfl monT (monT _ _ _ m1_3 xx)) (kn (KY (by decide) (by decide:(3:Int) < 4)) (by decide))) (Xp rfl (jI rfl monT (monT _ _ _ m1_3 xi)) (kn (KY (by decide) (by decide:(2:Int) < 3)) (by decide))) (by decide) (by decide)) fun u4 H4 x4 o4 W4 k4=>f4 _ _ ?_
 refine seqF fun F5 f5=>midE (fun σ' H'=>∃(us:List V),σ'=[some (V.ref p),some (V.str f0),some (V.str g),some (V.ref wl),some (vn),some (vi),some (vs),some (vx),some (vy),some (v2),some (V.ref lb),none,none,none,none]/\Ow H H' p wl lb us/\BdX g H' ys 0 us/\us.length<=4/\Wx H H' p wl ys/\TMono H4 H') (fun E5 _ fm5=>qE W4 rfl (by decide) (by decide) (fun H7 W7 k7=>?_) (fun H7 W7 k7=>?_)) fun σ5 H6 hq5=>?_
 ·clear f5
  have o7:=o4.fw k7
  have m1_7:TMono H1 H7:=((m1_3.trans k4).trans k7.t)
  refine Ji W7 rfl o7 (show 3<=100 by decide) (JR (g:=g) (zU (n:=1) (zW zu) (jI rfl monT (monT _ _ _ m1_7 xi)) (kn (za rfl (by decide) (by decide)) (by decide)) (by decide) (by decide)) (jI rfl monT (monT _ _ _ m1_7 xy)) (by decide) (by decide)) fun u8 H8 x8 o8 W8 k8=>fm5 _ _ ?_
  have m4_8:TMono H4 H8:=(k7.t.trans k8)
  have m3_8:TMono H3 H8:=((k4.trans k7.t).trans k8)
  exact⟨_,rfl,o8,(jS ((monS _ _ _ m3_8 x3)) (jS ((monS _ _ _ m3_8 y3)) (jS ((monS _ _ _ m4_8 x4)) (jS (x8) JX)))),(show 4<=4 by decide),W8,m4_8⟩
 ·clear f5
  have o7:=o4.fw k7
  have m3_7:TMono H3 H7:=(k4.trans k7.t)
  exact fm5 _ _ ⟨_,rfl,o7,(jS ((monS _ _ _ m3_7 x3)) (jS ((monS _ _ _ m3_7 y3)) (jS ((monS _ _ _ k7.t x4)) JX))),(show 3<=4 by decide),W7,k7.t⟩
 obtain⟨us,rfl,o6,ux,ul,W6,k6⟩:=hq5
 refine f5 _ _ ?_
 clear f5
 refine seqF fun F9 f9=>jP W6 (kn (KY (by decide) (by decide:(30:Int) < 31)) (by decide)) fun v9 H9 x9 W9 k9=>f9 _ _ ?_
 have o9:=o6.fw k9
 have m1_9:TMono H1 H9:=(((m1_3.trans k4).trans k6).trans k9.t)
 refine seqF fun F10 f10=>own2 W9 (JQ (g:=g) (kx rfl (by decide) (by omega)) (jI rfl monT x9) (by decide)) (JR (g:=g) (jI rfl monT x9) (JP rfl (jI rfl monT (monT _ _ _ m1_9 xs)) (jI rfl monT (monT _ _ _ m1_9 xy))) (by decide) (by decide)) fun lm u10 w10 H10 z10 x10 y10 W10 k10=>f10 _ _ ?_
 have o10:=o9.fw k10
 refine seqF fun F11 f11=>midE (fun σ' H'=>∃(m:Addr) (zs:List V),σ'=[some (V.ref p),some (V.str f0),some (V.str g),some (V.ref wl),some (vn),some (vi),some (vs),some (vx),some (vy),some (v2),some (V.ref lb),some (v9),some (.ref m),none,none]/\Ow H H' p wl lb us/\Ow H H' p wl m zs/\BdX g H' ys 0 zs/\zs.length<=2/\Wx H H' p wl ys/\TMono H10 H') (fun E11 _ fm11=>qE W10 rfl (by decide) (by decide) (fun J12 W13 k13=>?_) (fun J12 W13 k13=>?_)) fun σ11 H12 hq11=>?_
 ·clear f11
  have o13:=o10.fw k13
  have z13:=z10.fw k13
  have m1_13:TMono H1 J12:=((m1_9.trans k10.t).trans k13.t)
  refine own1 W13 (Js (g:=g) (kx rfl (by decide) (by omega)) (JP rfl (jI rfl monT (monT _ _ _ m1_13 xs)) (jI rfl monT (monT _ _ _ m1_13 xy))) (by decide)) fun lq u14 H14 z14 x14 W14 k14=>fm11 _ _ ?_
  have o14:=o13.fw k14
  have m10_14:TMono H10 H14:=(k13.t.trans k14.t)
  exact⟨_,_,rfl,o14,z14,zA x14,(show 1<=2 by decide),W14,m10_14⟩
 ·clear f11
  have o13:=o10.fw k13
  have z13:=z10.fw k13
  exact fm11 _ _ ⟨_,_,rfl,o13,z13,(jS ((monS _ _ _ k13.t x10)) (jS ((monS _ _ _ k13.t y10)) JX)),(show 2<=2 by decide),W13,k13.t⟩
 obtain⟨lm,zs,rfl,o12,z12,zx,zl,W12,k12⟩:=hq11
 refine f11 _ _ ?_
 clear f11
 have m2_12:TMono H2 H12:=(((((k3.t.trans k4).trans k6).trans k9.t).trans k10.t).trans k12)
 have m1_12:TMono H1 H12:=((m1_9.trans k10.t).trans k12)
 have m6_12:TMono H6 H12:=((k9.t.trans k10.t).trans k12)
 refine seqF fun F15 f15=>cat_ok W12 rfl rfl o12 z12 (by omega) (ux.mono m6_12) zx (JR (g:=g) (jI rfl monT (monT _ _ _ m2_12 x2)) (zU (n:=1) (zW zu) (jI rfl monT (monT _ _ _ m1_12 xi)) (kn (KY (by decide) (by decide:(1:Int) < 2)) (by decide)) (by decide) (by decide)) (by decide) (by decide)) (Js (g:=g) (kx rfl (by decide) (by omega)) (zU (n:=1) (zW Qb) (jI rfl monT (monT _ _ _ m1_12 xi)) (jI rfl monT (monT _ _ _ m1_12 xn)) (by decide) (by decide)) (by decide)) fun lc cs H15 o15 cx cl W15 k15=>f15 _ _ ?_
 have cm:cs.length<=8:=by omega
 have m2_15:TMono H2 H15:=(m2_12.trans k15.t)
 refine seqF fun F16 f16=>jP W15 (ev_two (Js (g:=g) (kx rfl (by decide) (by omega)) (kn (KY (by decide) (by decide:(1:Int) < 2)) (by decide)) (by decide)) (JR (g:=g) (jI rfl monT (monT _ _ _ m2_15 x2)) (kn (za rfl (by decide) (by decide)) (by decide)) (by decide) (by decide))) fun v16 H16 x16 W16 k16=>f16 _ _ ?_
 have o16:=o15.fw k16
 refine seqF fun F17 f17=>jP W16 (ev_wh (JO (kx rfl (by decide) (by omega))) (ev_tl (n:=8) rfl o16 (cx.mono k16.t) cm) (by decide) (by decide)) fun v17 H17 x17 W17 k17=>f17 _ _ ?_
 have o17:=o16.fw k17
 have m1_17:TMono H1 H17:=(((m1_12.trans k15.t).trans k16.t).trans k17.t)
 refine K6 W17 (Xr (QO rfl) (ev_q1 (kx rfl (by decide) (by omega))) (qy (Ev.up (ev_cut rfl rfl (monP2 _ _ _ k17.t x16)) fun _ _=>PB.lift) (Xq (jI rfl monS x17) (Ev.up (Qj (g:=g) (jI rfl monT (monT _ _ _ m1_17 xs)) (by decide)) fun _ _=>StX.lift)) (by decide)) (by decide)) fun v H' x W'=>?_
 obtain⟨r,rfl,x⟩:=x
 exact q r H' x W'.B W'.K
theorem cut6{ys:List Str}{lo:Nat}(h:ys.length=14)(h1:lo<=8):(cutS ys (some (lo:Int)) (some ((lo+6:Nat):Int))).length=6:=by
 unfold cutS
 rw[HT.sIx_nat,HT.sIx_nat,List.length_take,List.length_drop]
 omega
theorem ixk{n k:Nat}(h:k < n):ixN n (k:Int)=some k:=by unfold ixN;rw[if_pos (by omega),if_pos (by omega),Int.toNat_natCast]
def Fnd(ds:List Df)(f:Str)(n:Nat):Prop:=∃e,findD ds f=some e/\e.ps.length=n
def Sd(ds:List Df):Prop:=∀d∈ds,d.ps.length<=6/\d.body.top<=100/\d.body.Ok/\d.body.size<=400/\d.body.cs (Fnd ds)/\d.body.sm 100/\d.body.dep<=5
theorem qZ{d:Df}{P:List Df}{f:Str}(e:d.f=f):findD (d::P) f=some d:=by
 unfold findD
 rw[List.find?_cons,decide_eq_true e]
theorem qk{d:Df}{P:List Df}{f:Str}(n:d.f≠f):findD (d::P) f=findD P f:=by
 unfold findD
 rw[List.find?_cons,decide_eq_false n]
theorem qP:∀{ds:List Df} {e:Df},((ds.map hdOf).map Prod.fst).Nodup->e∈ds->findD ds e.f=some e
 |d::ds,e,nd,he=>by
  rw[List.map_cons,List.map_cons,List.nodup_cons]at nd
  rcases List.mem_cons.mp he with rfl |he
  ·exact qZ rfl
  ·rw[qk fun z=>nd.1 (by rw[show(hdOf d).1=e.f from z];exact List.mem_map.mpr ⟨hdOf e,List.mem_map_of_mem he,rfl⟩)]
   exact qP nd.2 he
theorem any_sd{ds:List Df}{rm:Int}(hr:rm<=100)(h:DfsOk (ds.map hdOf) rm ds)(nd:((ds.map hdOf).map Prod.fst).Nodup):Sd ds:=fun d hd=>by
 obtain⟨h0,h1,h2,h3,h4,h5⟩:=h d hd
 refine⟨h1,by omega,h3,by omega,zV (fun f n ⟨c,hc,e1,e2⟩=>?_) h0,JN (by omega),h4⟩
 obtain⟨e,he,rfl⟩:=List.mem_map.mp hc
 exact⟨e,by rw[<- e1];exact qP nd he,e2⟩
def spBusy:Sp:=fun vs H Q _=>∃(p:Addr),vs=[.ref p]/\BoxAt H p/\∀(r:Addr) (d e f:Df) (xs:List V) (H':Hp),H' r=some (.tup xs)->DfsV H' [d,e,f] xs->Sd [d,e,f]->([d,e,f].map hdOf |>.map Prod.fst).Nodup->d.f.length<=20->d.ps.length=1->BoxAt H' p->But p H H'->Q (.ref r) H'
section
variable {g:Str}{ys:List Str}{H0 Hb:Hp}{p wl:Addr}{σ:L2.St}
theorem ev_ps{K:Frag}{ta tb tc:TE}{a b:Str}(e:σ[0]?=some (some (.ref p)))(ha:Ev H0 p wl ys Hb σ ta (PI a))(hb:Ev H0 p wl ys Hb σ tb (PI b))(hc:Ev H0 p wl ys Hb σ tc (PI b)):Ev H0 p wl ys Hb σ (tOp (rIxL K) (tLst (tCons ta (tCons tb (tCons tc tNil)))) (tTk 3)) (fun _ v=>∃x,v= .str x/\(x=a∨x=b)):=fun H Q m W q=>
 ha H _ m W fun v2 H2 e2 W2 k2=>hb H2 _ (m.trans k2) W2 fun v3 H3 e3 W3 k3=>hc H3 _ ((m.trans k2).trans k3) W3 fun v5 H5 e5 W5 k5=>⟨sz3,fun l nl=>za e (by decide) (by decide) _ _ ((((m.trans k2).trans k3).trans k5).trans (.new nl)) (W5.same (jg nl)) fun v H4 ⟨d,e4,d0,d1⟩ W4 k4=>by
  cases (show v2=_ from e2)
  cases (show v3=_ from e3)
  cases (show v5=_ from e5)
  obtain⟨x,i,hx⟩:∃x,atI [V.str a,.str b,.str b] d=some (.str x)/\(x=a∨x=b):=by
   rcases(by omega:d=0∨d=1∨d=2) with rfl |rfl |rfl
   ·exact⟨_,rfl,.inl rfl⟩
   ·exact⟨_,rfl,.inr rfl⟩
   ·exact⟨_,rfl,.inr rfl⟩
  exact⟨l,_,d,_,rfl,e4,SqL.of (k4.b _ _ (W5.B.ne nl) je),i,q _ H4 ⟨x,rfl,hx⟩ W4 (((k2.trans k3).trans k5).trans ((Fw.new nl).trans k4))⟩⟩
theorem YT{K:Frag}{tf tg:TE}{f:Str}{n:Nat}{i j:Int}{lo:Nat}(e0:σ[0]?=some (some (.ref p)))(e1:σ[1]?=some (some (.ref wl)))(hf:Ev H0 p wl ys Hb σ tf (PI f))(hg:Ev H0 p wl ys Hb σ tg (PI g))(h14:ys.length=14)(hl:lo<=8)(hi:i=(lo:Int))(hj:j=((lo+6:Nat):Int)):
  Ev H0 p wl ys Hb σ (tCall (spDefn n) [] E0 (tCons (tVar 0) (tCons tf (tCons tg (tCons (tSl (rSlL K) (tVar 1) (tPart (tC (.int i))) (tPart (tC (.int j)))) tNil))))) (PD g f n):=fun H Q m W q=>
 ⟨_,e0,hf H _ m W fun v2 H2 e2 W2 k2=>hg H2 _ (m.trans k2) W2 fun v3 H3 e3 W3 k3=>⟨_,e1,_,rfl,_,rfl,wl,_,rfl,SqL.of W3.w,fun r nr=>⟨p,r,f,g,cutS ys (some i) (some j),by rw[show v2=_ from e2,show v3=_ from e3];rfl,W3.B.upd_new nr,by rw[je,zC],by rw[hi,hj];exact cut6 h14 hl,fun a H4 x4 B4 c4=>
  q _ H4 ⟨a,rfl,x4⟩ ((W3.same (jg nr)).but B4 c4) ((k2.trans k3).trans ((Fw.new nr).trans (.but (W3.B.upd_new nr) c4)))⟩⟩⟩
theorem ev_d3{ta tb tc:TE}{g1 g2 g3 f1 f2 f3:Str}{n1 n2 n3:Nat}(ha:Ev H0 p wl ys Hb σ ta (PD g1 f1 n1))(hb:Ev H0 p wl ys Hb σ tb (PD g2 f2 n2))(hc:Ev H0 p wl ys Hb σ tc (PD g3 f3 n3)):Ev H0 p wl ys Hb σ (tTup (tCons ta (tCons tb (tCons tc tNil)))) (fun H v=>∃r a b c,v= .ref r/\H r=some (.tup [.ref a,.ref b,.ref c])/\DfX g1 f1 n1 H a/\DfX g2 f2 n2 H b/\DfX g3 f3 n3 H c):=fun H Q m W q=>
 ha H _ m W fun v2 H2 x2 W2 k2=>hb H2 _ (m.trans k2) W2 fun v3 H3 x3 W3 k3=>hc H3 _ ((m.trans k2).trans k3) W3 fun v4 H4 x4 W4 k4=>⟨sz3,fun r nr=>q _ _ (by
  have t:=Same.tm (jg (o:=HO.tup [v2,v3,v4]) nr)
  obtain⟨a,e1,h1⟩:=monD _ _ _ t (monD _ _ _ (k3.trans k4).t x2)
  obtain⟨b,e2,h2⟩:=monD _ _ _ t (monD _ _ _ k4.t x3)
  obtain⟨c,e3,h3⟩:=monD _ _ _ t x4
  exact⟨r,a,b,c,rfl,by rw[je,e1,e2,e3],h1,h2,h3⟩) (W4.same (jg nr)) (((k2.trans k3).trans k4).trans (.new nr))⟩
end
theorem scBusy:FnScope ["_law_box_here","_law_w","_law_body_here","_law_deeper","_law_further","_law_first"] ["_law_box_here"] (defScope sBusy):=fsc
theorem ok_busy{f:Addr}{fd:FuncData}{fT fO fA fL fK fI:Addr}{fdT fdO fdA fdL fdK fdI:FuncData}(F:Fun K "_law_busy" "_law_busy" sBusy f fd)(GT:FnOk P w K mg base CX0 1 fT fdT ["_law_box_here","_law_wide"] spTake)(bT:Binds K fdT ["_law_box_here","_law_wide"] [])(kT:keepIn K (.ref fT)=true)(mT:mg "_law_take"=some (.ref fT))(GO:FnOk P w K mg base CX0 2 fO fdO ["_law_box_here","_law_a","_law_b"] spOp)(bO:Binds K fdO ["_law_box_here","_law_a","_law_b"] [])(kO:keepIn K (.ref fO)=true)(mO:mg "_law_op"=some (.ref fO))(GA:FnOk P w K mg base CX0 2 fA fdA ["_law_box_here","_law_total"] spNames)(bA:Binds K fdA ["_law_box_here","_law_total"] [])(kA:keepIn K (.ref fA)=true)(mA:mg "_law_names"=some (.ref fA))(GL:FnOk P w K mg base CX0 3 fL fdL ["_law_box_here","_law_f","_law_inner_here","_law_w"] (spDefn 1))(bL:Binds K fdL ["_law_box_here","_law_f","_law_inner_here","_law_w"] [])(kL:keepIn K (.ref fL)=true)(mL:mg "_law_looped"=some (.ref fL))(GK:FnOk P w K mg base CX0 3 fK fdK ["_law_box_here","_law_f","_law_inner_here","_law_w"] (spDefn 1))(bK:Binds K fdK ["_law_box_here","_law_f","_law_inner_here","_law_w"] [])(kK:keepIn K (.ref fK)=true)(mK:mg "_law_ticking"=some (.ref fK))(GI:FnOk P w K mg base CX0 3 fI fdI ["_law_box_here","_law_f","_law_g","_law_w"] (spDefn 2))(bI:Binds K fdI ["_law_box_here","_law_f","_law_g","_law_w"] [])(kI:keepIn K (.ref fI)=true)(mI:mg "_law_inner"=some (.ref fI)):FnOk P w K mg base CX0 4 f fd ["_law_box_here"] spBusy:=by
 refine F.ok scBusy (fun vs H Q E h=>?_) (fun cdv A outer s H vs Q E hr h=>?_)
 ·refine opq fun Gq kq=>?_
  obtain⟨p,rfl,_⟩:=h
  refine kq ?_
  clear kq
  rfl
 refine opq fun Gq kq=>?_
 obtain⟨p,rfl,B,q⟩:=h
 refine kq ?_
 clear kq
 refine⟨_,(jd (jo (i:=1) scBusy.nd rfl (Or.inl rfl) (jh GA hr.m rfl mA kA bA .nil pass0 (ja (pv 0) (ja jc jb)))) (jd (jW (jy (@jp _ _ _ _ _ _ _ _ jD (jh GT hr.m rfl mT kT bT .nil pass0 (ja (pv 0) (ja jc jb))) jc (nomark _)) (jj (@kE _ _ _ _ _ _ (@jm _ _ _ _ _ _ _ jr (pv 1) jc (fun _ _=>rfl)) (@qv _ _ _ _ _ _ _ (pv 1) jc zB (by intro _;rfl)) (by rfl) (by rfl) (by rfl))) jq)) (jd (jo (i:=2) scBusy.nd rfl (Or.inl rfl) (jk (ja (jk (ja ji (ja (@jm _ _ _ _ _ _ _ jr (pv 1) jc (fun _ _=>rfl)) (ja (jk (ja ji (ja (@jm _ _ _ _ _ _ _ jr (pv 1) jc (fun _ _=>rfl)) jb))) jb)))) (ja (jk (ja ji (ja (jh GO hr.m rfl mO kO bO .nil pass0 (ja (pv 0) (ja (jk (ja ji (ja (@jm _ _ _ _ _ _ _ jr (pv 1) jc (fun _ _=>rfl)) jb))) (ja (jk (ja ji (ja (@jm _ _ _ _ _ _ _ jr (pv 1) jc (fun _ _=>rfl)) jb))) jb)))) jb))) jb)))) (jd (jo (i:=3) scBusy.nd rfl (Or.inl rfl) (jk (ja (@jm _ _ _ _ _ _ _ jr (pv 1) jc (fun _ _=>rfl)) (ja (jk (ja (@jm _ _ _ _ _ _ _ jr (pv 1) jc (fun _ _=>rfl)) (ja (@jm _ _ _ _ _ _ _ jr (pv 1) jc (fun _ _=>rfl)) jb))) (ja (pv 2) jb))))) (jd (jo (i:=4) scBusy.nd rfl (Or.inl rfl) (@jm _ _ _ _ _ _ _ jr (jH (ja (@jm _ _ _ _ _ _ _ jr (pv 1) jc (fun _ _=>rfl)) (ja (@jm _ _ _ _ _ _ _ jr (pv 1) jc (fun _ _=>rfl)) (ja (@jm _ _ _ _ _ _ _ jr (pv 1) jc (fun _ _=>rfl)) jb)))) (jh GT hr.m rfl mT kT bT .nil pass0 (ja (pv 0) (ja jc jb))) (fun _ _=>rfl))) (jd (jo (i:=5) scBusy.nd rfl (Or.inl rfl) (jh GL hr.m rfl mL kL bL .nil pass0 (ja (pv 0) (ja (@jm _ _ _ _ _ _ _ jr (pv 1) jc (fun _ _=>rfl)) (ja (@jm _ _ _ _ _ _ _ jr (pv 1) jc (fun _ _=>rfl)) (ja (@jR _ _ _ _ _ _ _ _ _ _ kt (pv 1) (@jN _ _ _ jc) (@jN _ _ _ jc)) jb)))))) (jd (jW (jy (@jp _ _ _ _ _ _ _ _ jD (jh GT hr.m rfl mT kT bT .nil pass0 (ja (pv 0) (ja jc jb))) jc (nomark _)) (jj (jo (i:=5) scBusy.nd rfl (Or.inl rfl) (jh GK hr.m rfl mK kK bK .nil pass0 (ja (pv 0) (ja (@jm _ _ _ _ _ _ _ jr (pv 1) jc (fun _ _=>rfl)) (ja (@jm _ _ _ _ _ _ _ jr (pv 1) jc (fun _ _=>rfl)) (ja (@jR _ _ _ _ _ _ _ _ _ _ kt (pv 1) (@jN _ _ _ jc) (@jN _ _ _ jc)) jb))))))) jq)) (jj (jv (jk (ja (pv 5) (ja (jh GI hr.m rfl mI kI bI .nil pass0 (ja (pv 0) (ja (@jm _ _ _ _ _ _ _ jr (pv 1) jc (fun _ _=>rfl)) (ja (pv 4) (ja (@jR _ _ _ _ _ _ _ _ _ _ kt (pv 1) (@jN _ _ _ jc) (@jN _ _ _ jc)) jb))))) (ja (pv 3) jb))))))))))))),?_⟩
 try dsimp only[cxOf,Cx.nox,Cx.wish]
 refine seqF fun Fa fa=>⟨_,rfl,p,14,rfl,B,by decide,by decide,fun wl ys Ha nwl hwa hyl hys nd Ba ka=>fa _ _ ?_⟩
 obtain⟨y0,y1,y2,yr,rfl⟩:∃y0 y1 y2 yr,ys=y0::y1::y2::yr:=by
  have l3:3<=ys.length:=by omega
  match ys,l3 with
  |y0::y1::y2::yr,_=>exact⟨y0,y1,y2,yr,rfl⟩
 have l0:y0.length<=20:=hys y0 List.mem_cons_self
 have n01:y0≠y1:=fun z=>(List.nodup_cons.mp nd.1).1 (by rw[z];exact List.mem_cons_self)
 have n02:y0≠y2:=fun z=>(List.nodup_cons.mp nd.1).1 (by rw[z];exact List.mem_cons_of_mem _ List.mem_cons_self)
 have n12:y1≠y2:=fun z=>(List.nodup_cons.mp (List.nodup_cons.mp nd.1).2).1 (by rw[z];exact List.mem_cons_self)
 clear fa
 have wp:wl≠p:=zZ Ba hwa
 refine seqF fun Fa fa=>midE (fun σ' H'=>∃yr':List Str,σ'=[some (V.ref p),some (V.ref wl),none,none,none,none]/\H' wl=some (.lst ((y0::y1::y2::yr').map V.str))/\(y0::y1::y2::yr').length=14/\BoxAt H' p/\But p H H') (fun E0 _ fm=>qE (W:=⟨Ba,ka,hwa⟩) rfl (by decide) (by decide) (fun Hb Wb kb=>?_) (fun Hb Wb kb=>fm _ _ ⟨_,rfl,Wb.w,by omega,Wb.B,Wb.K⟩)) fun σ0 H0 hq0=>?_
 ·clear fa
  obtain⟨v1,hv1,hat1⟩:=JW (ys:=y0::y1::y2::yr) (k:=1) (by decide) (by omega)
  refine⟨_,rfl,wl,_,_,_,rfl,rfl,SqL.of Wb.w,hat1,_,rfl,wl,_,8,8,rfl,rfl,Wb.w,ixk (k:=8) (by rw[List.length_map];omega),fm _ _ ⟨yr.set 5 v1,rfl,?_,by show(yr.set 5 v1).length+3=14;rw[List.length_set];have hyl':((yr.length+3:Nat):Int)=14:=hyl;omega,Wb.B.eq (jf (Ne.symm wp)),Wb.K.upd_own nwl⟩⟩
  rw[je]
  show some (HO.lst (((y0::y1::y2::yr).map V.str).set 8 (V.str v1)))=_
  rw[<- List.map_set]
  rfl
 obtain⟨yr,rfl,hw1,hyl,B1,k1⟩:=hq0
 have a0:atI ((y0::y1::y2::yr).map V.str) 0=some (.str y0):=j6 (j:=0) rfl
 have a1:atI ((y0::y1::y2::yr).map V.str) 1=some (.str y1):=j6 (j:=1) rfl
 have a2:atI ((y0::y1::y2::yr).map V.str) 2=some (.str y2):=j6 (j:=2) rfl
 generalize y0::y1::y2::yr=ys at hw1 hyl a0 a1 a2
 refine fa _ _ ?_
 clear fa
 have W1:Wx H H0 p wl ys:=⟨B1,k1,hw1⟩
 generalize H0=H1 at W1
 refine seqF fun F2 f2=>jP W1 (Xq (JQ (g:=y2) (kx rfl (by decide) (by omega)) (JO (kx rfl (by decide) (by omega))) (by decide)) (Qj (g:=y2) (JP rfl (JO (kx rfl (by decide) (by omega))) (JO (kx rfl (by decide) (by omega)))) (by decide))) fun v2 H2 x2 W2 k2=>f2 _ _ ?_
 refine seqF fun F3 f3=>jP W2 (Xr (KW rfl a2) (ev_q2 (kx rfl (by decide) (by omega)) (kx rfl (by decide) (by omega))) (Ev.up (jI rfl monB x2) fun _ _=>PB.lift) (by decide)) fun v3 H3 x3 W3 k3=>f3 _ _ ?_
 refine seqF fun F4 f4=>jP W3 (ev_ps rfl (KW rfl a1) (KW rfl a2) (KW rfl a2)) fun v4 H4 x4 W4 k4=>f4 _ _ ?_
 obtain⟨gg,rfl,hgg⟩:=x4
 refine seqF fun F5 f5=>jP W4 (YT (n:=1) (lo:=6) rfl rfl (KW rfl a0) (KW rfl a1) hyl (by decide) rfl rfl) fun v5 H5 x5 W5 k5=>f5 _ _ ?_
 refine seqF fun F6 f6=>midE (fun σ' H'=>∃(b:V),σ'=[some (V.ref p),some (V.ref wl),some (v2),some (v3),some (V.str gg),some b]/\PD y1 y0 1 H' b/\Wx H H' p wl ys/\TMono H5 H') (fun E6 _ fm6=>qE W5 rfl (by decide) (by decide) (fun H8 W8 k8=>?_) (fun H8 W8 k8=>?_)) fun σ6 H7 hq6=>?_
 ·clear f6
  refine jP W8 (YT (n:=1) (lo:=6) rfl rfl (KW rfl a0) (KW rfl a1) hyl (by decide) rfl rfl) fun v9 H9 x9 W9 k9=>fm6 _ _ ?_
  have m5_9:TMono H5 H9:=(k8.t.trans k9.t)
  exact⟨_,rfl,x9,W9,m5_9⟩
 ·clear f6
  exact fm6 _ _ ⟨_,rfl,(monD _ _ _ k8.t x5),W8,k8.t⟩
 obtain⟨b7,rfl,x7,W7,k7⟩:=hq6
 refine f6 _ _ ?_
 clear f6
 have m3_7:TMono H3 H7:=((k4.t.trans k5.t).trans k7)
 refine K6 W7 (ev_d3 (jI rfl monD x7) (YT (n:=2) (lo:=7) rfl rfl (KW rfl a1) (QO rfl) hyl (by decide) rfl rfl) (jI rfl monD (monD _ _ _ m3_7 x3))) fun v H' x W'=>?_
 obtain⟨r,a,b,c,rfl,h0,⟨d,d1,d2,d3,d4,d5,d6,d7,d8,d9⟩,⟨e,e1,e2,e3,e4,e5,e6,e7,e8,e9⟩,⟨f',f1,f2,f3,f4,f5,f6,f7,f8,f9⟩⟩:=x
 have F1:Fnd [d,e,f'] y1 2:=⟨e,(qk (by rw[d2];exact n01)).trans (qZ e2),e3⟩
 have F2:Fnd [d,e,f'] y2 2:=⟨f',(qk (by rw[d2];exact n02)).trans ((qk (by rw[e2];exact n12)).trans (qZ f2)),f3⟩
 have ND3:([d,e,f'].map hdOf |>.map Prod.fst).Nodup:=by
  show [d.f,e.f,f'.f].Nodup
  rw[d2,e2,f2]
  exact List.nodup_cons.mpr ⟨by simp [n01,n02],List.nodup_cons.mpr ⟨by simp [n12],by simp⟩⟩
 refine q r d e f' _ H' h0 ⟨_,_,rfl,d1,_,_,rfl,e1,_,_,rfl,f1,rfl⟩ (fun x hx=>?_) ND3 (by rw[d2];exact l0) d3 W'.B W'.K
 simp only[List.mem_cons,List.not_mem_nil,or_false]at hx
 rcases hx with rfl |rfl |rfl
 ·exact⟨by omega,by omega,d4,d6,zV (fun f n h=>by rw[h.1,h.2];exact F1) d7,d8,d9⟩
 ·refine⟨by omega,by omega,e4,e6,zV (fun f n h=>by rw[h.1,h.2];rcases hgg with z |z<;>rw[z]<;>assumption) e7,e8,e9⟩
 ·exact⟨by omega,by omega,f4,f6,zV (fun f n h=>by rw[h.1,h.2];exact F2) f7,f8,f9⟩
noncomputable abbrev sCase:Stmt:=top 39
theorem tot_at{d:Int}(h0:0<=d)(h1:d < 4):∃m:Int,atI [V.int 3,.int 3,.int 3,.int 8] d=some (.int m)/\3<=m/\m<=8:=by
 rcases(by omega:d=0∨d=1∨d=2∨d=3) with rfl |rfl |rfl |rfl
 ·exact⟨3,rfl,by decide,by decide⟩
 ·exact⟨3,rfl,by decide,by decide⟩
 ·exact⟨3,rfl,by decide,by decide⟩
 ·exact⟨8,rfl,by decide,by decide⟩
theorem Zd{H:Hp}{ds:List Df}{vs:List V}(h:DfsV H ds vs){k:Int}(h0:0<=k)(h1:k < (vs.length:Int)):∃d v,atI vs k=some v/\d∈ds/\DfV H v d:=by
 have hk:k.toNat < vs.length:=by omega
 have ek:k=((k.toNat:Nat):Int):=by omega
 obtain⟨d,h2,h3⟩:=h.at k.toNat _ (List.getElem?_eq_getElem hk)
 have e:=j6 (List.getElem?_eq_getElem hk)
 rw[<- ek]at e
 exact⟨d,_,e,List.mem_of_getElem? h2,h3⟩
def spCase:Sp:=fun vs H Q _=>∃(p:Addr),vs=[.ref p]/\BoxAt H p/\∀(t r ar:Addr) (f:Str) (d:Df) (ds:List Df) (xs:List V) (is:List Int) (H':Hp),H' t=some (.tup [.ref r,.str f,.ref ar])->H' r=some (.tup xs)->DfsV H' ds xs->ds.length<=8->Sd ds->((ds.map hdOf).map Prod.fst).Nodup->f.length<=20->findD ds f=some d->H' ar=some (.tup (is.map V.int))->(∀i∈is,InT i)->d.ps.length=is.length->BoxAt H' p->But p H H'->Q (.ref t) H'
theorem scCase:FnScope ["_law_box_here","_law_program","_law_total","_law_f","_law_params","_law_body_here"] ["_law_box_here"] (defScope sCase):=fsc
noncomputable def QM:Scope:=⟨.function,[(".0",.local),("_law_one",.local),("_law_number",.globalImplicit),("_law_box_here",.free)],false,false,[]⟩
theorem ZS:(["_law_one","_law_box_here"]:List Str).Nodup:=by decide+kernel
theorem ZT:CompSc ["_law_box_here","_law_program","_law_total","_law_f","_law_params","_law_body_here"] (defScope sCase) QM ["_law_one","_law_box_here"] 1 [0]:=csc
theorem ok_case{f:Addr}{fd:FuncData}{fT fN fY fZ:Addr}{fdT fdN fdY fdZ:FuncData}(F:Fun K "_law_case" "_law_case" sCase f fd)(GT:FnOk P w K mg base CX0 1 fT fdT ["_law_box_here","_law_wide"] spTake)(bT:Binds K fdT ["_law_box_here","_law_wide"] [])(kT:keepIn K (.ref fT)=true)(mT:mg "_law_take"=some (.ref fT))(GN:FnOk P w K mg base CX0 2 fN fdN ["_law_box_here"] spNum)(bN:Binds K fdN ["_law_box_here"] [])(kN:keepIn K (.ref fN)=true)(mN:mg "_law_number"=some (.ref fN))(GY:FnOk P w K mg base CX0 4 fY fdY ["_law_box_here"] spBusy)(bY:Binds K fdY ["_law_box_here"] [])(kY:keepIn K (.ref fY)=true)(mY:mg "_law_busy"=some (.ref fY))(GZ:FnOk P w K mg base CX0 22 fZ fdZ ["_law_box_here","_law_total","_law_room"] spAny)(bZ:Binds K fdZ ["_law_box_here","_law_total","_law_room"] [])(kZ:keepIn K (.ref fZ)=true)(mZ:mg "_law_any"=some (.ref fZ))(ml:mg "len"=none)(mtu:mg "tuple"=none):FnOk P w K mg base CX0 23 f fd ["_law_box_here"] spCase:=by
 refine F.ok scCase (fun vs H Q E h=>?_) (fun cdv A outer s H vs Q E hr h=>?_)
 ·refine opq fun Gq kq=>?_
  obtain⟨p,rfl,_⟩:=h
  refine kq ?_
  clear kq
  rfl
 refine opq fun Gq kq=>?_
 obtain⟨p,rfl,B,q⟩:=h
 refine kq ?_
 clear kq
 refine⟨_,(jd (jy (@jp _ _ _ _ _ _ _ _ qC (jh GT hr.m rfl mT kT bT .nil pass0 (ja (pv 0) (ja jc jb))) jc (nomark _)) (jd (jo (i:=1) scCase.nd rfl (Or.inl rfl) (jh GY hr.m rfl mY kY bY .nil pass0 (ja (pv 0) jb))) (jj (jv (jk (ja (pv 1) (ja (@jm _ _ _ _ _ _ _ ju (@jm _ _ _ _ _ _ _ ju (pv 1) jc (fun _ _=>rfl)) jc (fun _ _=>rfl)) (ja (jk (ja (jh GT hr.m rfl mT kT bT .nil pass0 (ja (pv 0) (ja jc jb))) jb)) jb))))))) jq) (jd (jo (i:=2) scCase.nd rfl (Or.inl rfl) (@jm _ _ _ _ _ _ _ jr (jH (ja jc (ja jc (ja jc (ja jc jb))))) (jh GT hr.m rfl mT kT bT .nil pass0 (ja (pv 0) (ja jc jb))) (fun _ _=>rfl))) (jd (jo (i:=1) scCase.nd rfl (Or.inl rfl) (jh GZ hr.m rfl mZ kZ bZ .nil pass0 (ja (pv 0) (ja (jw jO jc (jh GT hr.m rfl mT kT bT .nil pass0 (ja (pv 0) (ja (pv 2) jb)))) (ja jc jb))))) (jd (@kE _ _ _ _ _ _ (@jm _ _ _ _ _ _ _ ju (pv 1) (jh GT hr.m rfl mT kT bT .nil pass0 (ja (pv 0) (ja (@jG _ _ _ _ _ _ _ _ _ jJ rfl ml PySem.boot_len (ja (pv 1) jb) (by decide) (by decide) (by rfl) (by rfl)) jb))) (fun _ _=>rfl)) (@zX _ _ _ _ _ (3) rfl (jE (jx (i:=3) scCase.nd rfl (Or.inl rfl)) (jE (jx (i:=4) scCase.nd rfl (Or.inl rfl)) (jE (jx (i:=5) scCase.nd rfl (Or.inl rfl)) zi))) (by rfl) (by rfl)) (by rfl) (by rfl) (by rfl)) (jj (jv (jk (ja (pv 1) (ja (pv 3) (ja (@jF _ _ _ _ _ _ _ _ _ jL rfl mtu boot_tuple (ja (@zc _ _ _ _ _ _ _ (["_law_one","_law_box_here"]) (1) ([0]) _ _ _ _ rfl (@zI _ _ _ _ (pv 4)) ZT (fun _ _ _ _ _=>(jx (i:=0) ZS rfl (Or.inl rfl))) (fun _ _ _ _ _=>(@zw _)) (fun _ _ _ _ _=>(jh GN hr.m rfl mN kN bN .nil pass0 (ja (pv 1) jb))) (by intro _;rfl)) jb) (by decide) (by decide) (by rfl) (by rfl)) jb)))))))))),?_⟩
 try dsimp only[cxOf,Cx.nox,Cx.wish]
 have big:=line24
 refine seqF fun F1 f1=>ifG fun G1 g1=>⟨_,rfl,p,3,rfl,B,by decide,by decide,fun d1 H1 d10 d11 B1 e1=>⟨_,_,rfl,rfl,_,rfl,g1 _ _ ?_⟩⟩
 clear g1
 have k1:But p H H1:=But.of_eq e1
 refine ite2 (fun c=>?_) (fun c=>f1 _ _ ?_)
 ·clear f1
  refine seqF fun F2 f2=>⟨_,rfl,p,rfl,B1,fun r d e0 f0 xs H2 hr2 hD hok hnd hl0 hd1 B2 k2=>f2 _ _ ?_⟩
  clear f2
  have ln:=hD.len
  obtain⟨v,ws,rfl,⟨q0,pa,pb,bs,rfl,hp,_⟩,_⟩:=id hD
  refine⟨_,rfl,_,rfl,r,_,_,_,rfl,rfl,SqT.of hr2,at0,q0,_,_,_,rfl,rfl,SqT.of hp,at0,_,rfl,p,6,rfl,B2,by decide,by decide,fun d3 H3 d30 d31 B3 e3=>?_⟩
  have c3:But p H2 H3:=But.of_eq e3
  refine⟨sz1,fun u nu=>⟨sz3,fun t nt=>?_⟩⟩
  have s4:Same H3 (upd (upd H3 u (.tup [.int d3])) t (.tup [.ref r,.str d.f,.ref u])):=(jg nu).trans (jg nt)
  have tm:=(c3.tm B2).trans (Same.tm s4)
  exact q t r u d.f d _ _ [d3] _ je (tm _ _ hr2) (hD.mono tm) (by show 3<=8;decide) hok hnd hl0 (qZ rfl) (keepN je nt) (fun i hi=>by rw[List.mem_singleton.mp hi];exact⟨d30,by omega⟩) hd1 (B3.same s4) ((k1.trans k2).trans (c3.trans (But.of_same s4)))
 clear f1
 refine seqF fun F1 f1=>⟨sz4,fun l nl=>⟨_,rfl,p,4,rfl,B1.upd_new nl,by decide,by decide,fun d2 H2 d20 d21 B2 e2=>?_⟩⟩
 have k2:But p H1 H2:=((But.refl).upd_new nl).trans (But.of_eq e2)
 obtain⟨m,hat,m3,m8⟩:=tot_at d20 d21
 refine⟨l,_,_,_,rfl,rfl,SqL.of (by rw[e2 l (B1.ne nl)];exact je),hat,f1 _ _ ?_⟩
 clear f1
 refine seqF fun F1 f1=>⟨_,rfl,_,rfl,_,rfl,p,m,rfl,B2,by omega,by omega,fun d3 H3 d30 d31 B3 e3=>⟨_,_,rfl,rfl,p,1+d3,12,rfl,B3,by omega,by omega,by decide,by decide,fun r ds xs H4 hr4 hD hl hok hnd hho B4 k4=>f1 _ _ ?_⟩⟩
 clear f1
 have ln:=hD.len
 have K4:But p H H4:=(k1.trans k2).trans ((But.of_eq e3).trans k4)
 refine seqF fun F1 f1=>⟨_,rfl,_,rfl,_,rfl,r,_,rfl,.inr (SqT.of hr4),p,_,rfl,B4,by omega,by omega,fun d5 H5 d50 d51 B5 e5=>?_⟩
 have c5:But p H4 H5:=But.of_eq e5
 have tm5:=c5.tm B4
 obtain⟨d,v,hat,hd,q0,pa,pb,bs,rfl,hp,hpv5,_⟩:=Zd (hD.mono tm5) d50 d51
 refine⟨r,_,_,_,rfl,rfl,SqT.of (tm5 _ _ hr4),hat,q0,_,rfl,SqT.of hp,rfl,_,_,rfl,_,_,rfl,_,_,rfl,rfl,f1 _ _ ?_⟩
 clear f1
 have sd:=any_sd (by decide) hok hnd
 have hpl:=(sd d hd).1
 refine⟨_,rfl,_,rfl,_,rfl,pa,rfl,⟨_,SqT.of hpv5⟩,?_⟩
 refine zv (K:=K) (xs:=d.ps.map V.str) (by rw[List.length_map];omega) (fun i zs H6=>∃js:List Int,zs=js.map V.int/\js.length=i/\(∀j∈js,InT j)/\BoxAt H6 p/\But p H5 H6) ⟨[],rfl,rfl,(fun _ h=>absurd h List.not_mem_nil),B5,But.refl⟩ (fun i zs H6 h6=>?_) (fun i x zs H6 hx h6=>?_) (fun zs H6 h6 l nl=>?_)
 ·obtain⟨js,rfl,lj,_,B6,k6⟩:=h6
  exact⟨SqT.of (k6.tm B5 _ _ hpv5),by rw[List.length_map,lj];exact Nat.le_refl _⟩
 ·refine opq fun Gq kq=>?_
  obtain⟨js,rfl,lj,hj,B6,k6⟩:=h6
  refine kq ?_
  clear kq
  refine⟨_,rfl,p,rfl,B6,fun e H7 e0 e1 B7 e7=>⟨js++[e],by rw[List.map_append];rfl,by rw[List.length_append,lj];rfl,zO hj ⟨e0,e1⟩,B7,k6.trans (But.of_eq e7)⟩⟩
 ·obtain⟨js,rfl,lj,hj,B6,k6⟩:=h6
  rw[List.length_map]at lj
  refine⟨l,_,rfl,.inl ⟨SqL.of je,fun l2 nl2=>⟨sz3,fun t nt=>?_⟩⟩⟩
  have s7:Same H6 (upd (upd (upd H6 l (.lst (js.map V.int))) l2 (.tup (js.map V.int))) t (.tup [.ref r,.str d.f,.ref l2])):=((jg nl).trans (jg nl2)).trans (jg nt)
  have tm:=tm5.trans ((k6.tm B5).trans (Same.tm s7))
  exact q t r l2 d.f d ds xs js _ je (tm _ _ hr4) (hD.mono tm) (by omega) sd hnd (hho _ (List.mem_map_of_mem hd)).1 (qP hnd hd) (keepN je nt) hj lj.symm (B6.same s7) (K4.trans (c5.trans (k6.trans (But.of_same s7))))
theorem YU{P:List Df}{C:Tab}{m:Int}{n k:Nat}{b:Bd}{h L:Tab}{t:Nat}{o:Out}(q:Ex P C m n k b h L t o):∀a L' t',o= .done a L' t'->t<=t'/\((t:Int)<=m->(t':Int)<=m):=by
 induction q with
 |nil=>intro a L' t' e;cases e;exact⟨Nat.le_refl _,id⟩
 |gv=>intro a L' t' e;cases e;exact⟨Nat.le_refl _,id⟩
 |set q ih=>exact ih
 |longL e g=>intro a L' t' e;cases e
 |longI g=>intro a L' t' e;cases e
 |longW g=>intro a L' t' e;cases e
 |rd g q ih=>intro a L' t' e;have:=ih a L' t' e;exact⟨by omega,fun _=>this.2 (by omega)⟩
 |wr g q ih=>intro a L' t' e;have:=ih a L' t' e;exact⟨by omega,fun _=>this.2 (by omega)⟩
 |ite g q ih=>intro a L' t' e;have:=ih a L' t' e;exact⟨by omega,fun _=>this.2 (by omega)⟩
 |loop1 g e q ih=>intro a L' t' e;have:=ih a L' t' e;exact⟨by omega,fun _=>this.2 (by omega)⟩
 |loop0 g e q ih=>intro a L' t' e;have:=ih a L' t' e;exact⟨by omega,fun _=>this.2 (by omega)⟩
 |cl g hf hl hk c q ih1 ih2=>intro a L' t' e;have h1:=ih1 _ _ _ rfl;have:=ih2 a L' t' e;exact⟨by omega,fun _=>this.2 (h1.2 (by omega))⟩
 |clL g hf hl hk c ih=>intro a L' t' e;cases e
 |clD g hf hl hk c ih=>intro a L' t' e;cases e
 |deep g=>intro a L' t' e;cases e
theorem XT(P:List Df)(C:Tab)(m:Int)(n:Nat)(hc:∀n',n=n'+1->∀(d:Df) (is:List Int) (L:Tab) (t D:Nat),d∈P->m=(t:Int)+(D:Int)->∃k o,k<=60000/\Ex P C m n' k d.body (heldOf d.ps is) L t o):
  ∀(N:Nat) (b:Bd) (h L:Tab) (t D:Nat),b.cs (Fnd P)->b.sm 100->m=(t:Int)+(D:Int)->b.size+D*101<=N->∃k o,k<=N/\Ex P C m n k b h L t o:=by
 intro N
 induction N with
 |zero=>
  intro b h L t D hn hs hm hN
  cases b with
  |nil=>exact⟨0,_,Nat.le_refl _,.nil⟩
  |lf l r=>have:r.size+1+D*101<=0:=hN;omega
  |ite T a b r=>have:a.size+b.size+r.size+1+D*101<=0:=hN;omega
  |loop T a r=>have:a.size+r.size+1+D*101<=0:=hN;omega
 |succ N ih=>
  intro b h L t D hn hs hm hN
  cases b with
  |nil=>exact⟨0,_,Nat.zero_le _,.nil⟩
  |lf l r=>
   have hN':r.size+1+D*101<=N+1:=hN
   obtain⟨hl,hn'⟩:=hn
   cases l with
   |gv T=>exact⟨0,_,Nat.zero_le _,.gv⟩
   |set x T=>
    obtain⟨k,o,hk,q⟩:=ih r (putK h (.inr x) (.int (T.ev h))) L t D hn' hs hm (by omega)
    exact⟨k+1,o,by omega,.set q⟩
   |rd x T=>
    by_cases z:D=0
    ·exact⟨0,_,Nat.zero_le _,.longL rfl (by omega)⟩
    ·obtain⟨k,o,hk,q⟩:=ih r (putK h (.inr x) (.int (look L (.inl (T.ev h)) (look C (.inl (T.ev h)) 0)))) L (t+1) (D - 1) hn' hs (by omega) (by omega)
     exact⟨k+1,o,by omega,.rd (by omega) q⟩
   |wr T U=>
    by_cases z:D=0
    ·exact⟨0,_,Nat.zero_le _,.longL rfl (by omega)⟩
    ·obtain⟨k,o,hk,q⟩:=ih r h (putK L (.inl (T.ev h)) (.int (U.ev h))) (t+1) (D - 1) hn' hs (by omega) (by omega)
     exact⟨k+1,o,by omega,.wr (by omega) q⟩
   |cl x f ts=>
    by_cases z:D=0
    ·exact⟨0,_,Nat.zero_le _,.longL rfl (by omega)⟩
    ·cases n with
     |zero=>exact⟨0,_,Nat.zero_le _,.deep (by omega)⟩
     |succ n=>
      obtain⟨d,hf,hd⟩:=hl
      obtain⟨k1,o1,hk1,q1⟩:=hc n rfl d (ts.map (Tm.ev h)) L (t+1) (D - 1) (zd hf) (by omega)
      cases o1 with
      |long=>exact⟨0,_,Nat.zero_le _,.clL (by omega) hf hd hk1 q1⟩
      |deep=>exact⟨0,_,Nat.zero_le _,.clD (by omega) hf hd hk1 q1⟩
      |done a L1 t1=>
       obtain⟨e1,e2⟩:=YU q1 _ _ _ rfl
       have e3:=e2 (by omega)
       obtain⟨k,o,hk,q⟩:=ih r (putK h (.inr x) (.int a)) L1 t1 (m - t1).toNat hn' hs (by omega) (by omega)
       exact⟨k+1,o,by omega,.cl (by omega) hf hd hk1 q1 q⟩
  |ite T a b r=>
   have hN':a.size+b.size+r.size+1+D*101<=N+1:=hN
   by_cases z:D=0
   ·exact⟨0,_,Nat.zero_le _,.longI (by omega)⟩
   ·have hz:((if T.ev h=0 then b else a).app r).size<=a.size+b.size+r.size:=by
     rw[zn]
     split<;>omega
    obtain⟨k,o,hk,q⟩:=ih ((if T.ev h=0 then b else a).app r) h L (t+1) (D - 1) (qx hn.2.2 (by split;exact hn.2.1;exact hn.1)) (Jg hs.2.2 (by split;exact hs.2.1;exact hs.1)) (by omega) (by omega)
    exact⟨k+1,o,by omega,.ite (by omega) q⟩
  |loop T a r=>
   have hN':a.size+r.size+1+D*101<=N+1:=hN
   by_cases z:D=0
   ·exact⟨0,_,Nat.zero_le _,.longW (by omega)⟩
   ·by_cases e:T.ev h=0
    ·obtain⟨k,o,hk,q⟩:=ih r h L (t+1) (D - 1) hn.2 hs.2.2 (by omega) (by omega)
     exact⟨k+1,o,by omega,.loop0 (by omega) e q⟩
    ·have hz:(a.app (.loop T a r)).size=a.size+(a.size+r.size+1):=by rw[zn];rfl
     have:=hs.1
     obtain⟨k,o,hk,q⟩:=ih (a.app (.loop T a r)) h L (t+1) (D - 1) (qx hn hn.1) (Jg hs hs.2.1) (by omega) (by omega)
     exact⟨k+1,o,by omega,.loop1 (by omega) e q⟩
theorem ex_all{P:List Df}(hP:Sd P)(C:Tab){m:Int}(hm:m<=300):∀(n:Nat) (d:Df) (is:List Int) (L:Tab) (t D:Nat),d∈P->m=(t:Int)+(D:Int)->∃k o,k<=60000/\Ex P C m n k d.body (heldOf d.ps is) L t o:=by
 intro n
 induction n with
 |zero=>
  intro d is L t D hd e
  obtain⟨_,_,_,h4,h5,h6,_⟩:=hP d hd
  exact XT P C m 0 (fun n' z=>by omega) 60000 d.body _ L t D h5 h6 e (by omega)
 |succ n ih=>
  intro d is L t D hd e
  obtain⟨_,_,_,h4,h5,h6,_⟩:=hP d hd
  exact XT P C m (n+1) (fun n' z=>by injection z with z;subst z;exact ih) 60000 d.body _ L t D h5 h6 e (by omega)
noncomputable abbrev sTurnL:Stmt:=top 42
noncomputable def stk(hA wA:Addr)(t:Nat)(m:Int)(w:Str)(gA:Addr):Tab:=[(.inr "holds",.ref hA),(.inr "wrote",.ref wA),(.inr "turns",.int (t:Int)),(.inr "most",.int m),(.inr "word",.str w),(.inr "log",.ref gA)]
structure Sx(C:Tab)(H:Hp)(sA hA wA gA:Addr)(L:Tab)(t:Nat)(m:Int)(w:Str):Prop where
 st:H sA=some (.dK (stk hA wA t m w gA))
 ho:∃HD,H hA=some (.dK HD)/\GT HD/\HD.length<=20+t/\∀c,look HD (.inl c) 0=look L (.inl c) (look C (.inl c) 0)
 wr:H wA=some (.dK L)
 lg:∃xs,H gA=some (.lst xs)/\xs.length<=t
 gL:GT L
 lL:L.length<=t
 n1:sA≠hA
 n2:sA≠wA
 n3:hA≠wA
def Fr(sA hA wA gA:Addr)(H H':Hp):Prop:=∀b o,b≠sA->b≠hA->b≠wA->b≠gA->H b=some o->H' b=some o
theorem Fr.trans{sA hA wA gA:Addr}{H H1 H2:Hp}(a:Fr sA hA wA gA H H1)(b:Fr sA hA wA gA H1 H2):Fr sA hA wA gA H H2:=fun c o n1 n2 n3 n4 e=>b c o n1 n2 n3 n4 (a c o n1 n2 n3 n4 e)
theorem Fr.of_same{sA hA wA gA:Addr}{H H':Hp}(s:Same H H'):Fr sA hA wA gA H H':=fun b o _ _ _ _ e=>s _ _ e
section
variable {C:Tab}{H H':Hp}{sA hA wA gA:Addr}{L:Tab}{t:Nat}{m:Int}{w:Str}
theorem Fr.tm(f:Fr sA hA wA gA H H')(S:Sx C H sA hA wA gA L t m w):TMono H H':=fun b xs e=>by
 obtain⟨HD,h1,_⟩:=S.ho
 obtain⟨ys,h2,_⟩:=S.lg
 exact f b _ (jz e S.st (by intro z;cases z)) (jz e h1 (by intro z;cases z)) (jz e S.wr (by intro z;cases z)) (jz e h2 (by intro z;cases z)) e
theorem Sx.same(S:Sx C H sA hA wA gA L t m w)(s:Same H H'):Sx C H' sA hA wA gA L t m w:=by
 obtain⟨HD,h1,h2⟩:=S.ho
 obtain⟨ys,g1,g2⟩:=S.lg
 exact⟨s _ _ S.st,⟨HD,s _ _ h1,h2⟩,s _ _ S.wr,⟨ys,s _ _ g1,g2⟩,S.gL,S.lL,S.n1,S.n2,S.n3⟩
theorem Sx.put(S:Sx C H sA hA wA gA L t m w){t2:Nat}(h:t<=t2)(w2:Str):Sx C (upd H sA (.dK (stk hA wA t2 m w2 gA))) sA hA wA gA L t2 m w2:=by
 obtain⟨HD,h1,h2,h3,h4⟩:=S.ho
 obtain⟨ys,g1,g2⟩:=S.lg
 have l1:=S.lL
 exact⟨je,⟨HD,(jf (Ne.symm S.n1)).trans h1,h2,by omega,h4⟩,(jf (Ne.symm S.n2)).trans S.wr,⟨ys,(jf (jz g1 S.st (by intro z;cases z))).trans g1,by omega⟩,S.gL,by omega,S.n1,S.n2,S.n3⟩
end
def spTurnL:Sp:=fun vs H Q _=>∃(C:Tab) (sA hA wA gA:Addr) (L:Tab) (t:Nat) (m:Int) (v:V),vs=[.ref sA,v]/\Sx C H sA hA wA gA L t m "told"/\(t:Int)<=m/\m<=300/\
 ((t:Int)=m->∀H',Sx C H' sA hA wA gA L t m "long"->Fr sA hA wA gA H H'->Q (.bl false) H')/\
 ((t:Int) < m->∀H',Sx C H' sA hA wA gA L (t+1) m "told"->Fr sA hA wA gA H H'->Fr sA sA sA gA H H'->Q (.bl true) H')
theorem scTurnL:FnScope ["_law_state","_law_entry"] ["_law_state","_law_entry"] (defScope sTurnL):=fsc
theorem ZU{f:Addr}{fd:FuncData}(F:Fun K "_law_turn" "_law_turn" sTurnL f fd):FnOk P w K mg base CX0 1 f fd ["_law_state","_law_entry"] spTurnL:=by
 refine F.ok scTurnL (fun vs H Q E h=>?_) (fun cdv A outer s H vs Q E hr h=>?_)
 ·refine opq fun Gq kq=>?_
  obtain⟨C,sA,hA,wA,gA,L,t,m,v,rfl,_⟩:=h
  refine kq ?_
  clear kq
  rfl
 refine opq fun Gq kq=>?_
 obtain⟨C,sA,hA,wA,gA,L,t,m,v,rfl,S,htm,hm,qL,qT⟩:=h
 refine kq ?_
 clear kq
 refine⟨_,(jd (jy (@jp _ _ _ _ _ _ _ _ jD (@jX _ _ _ _ _ _ (jM hr) (pv 0) ji (fun _ _=>rfl)) (@jX _ _ _ _ _ _ (jM hr) (pv 0) ji (fun _ _=>rfl)) (nomark _)) (jd (@jY _ _ _ _ _ _ _ _ _ (jM hr) (pv 0) ji ji rfl) (jj (jv (@qm _ _ _ _)))) jq) (jd (@jY _ _ _ _ _ _ _ _ _ (jM hr) (pv 0) ji (jw jO (@jX _ _ _ _ _ _ (jM hr) (pv 0) ji (fun _ _=>rfl)) jc) rfl) (jd (jU (@ze _ _ _ _ _ _ _ _ _ _ _ _ PySem.F.plainAttrs_list PySem.F.slot_list_append PySem.F.type_list_append jT (@jX _ _ _ _ _ _ (jM hr) (pv 0) ji (fun _ _=>rfl)) (ja (pv 1) jb) (by rfl) (by rfl) (by rfl) (by rfl) (by rfl))) (jj (jv (@qm _ _ _ _)))))),?_⟩
 try dsimp only[cxOf,Cx.nox,Cx.wish]
 have big:=line24
 have g1:DGet H sA (V.str "turns") (some (.int (t:Int))):=DGet.k (k:=.inr "turns") S.st
 have g2:DGet H sA (V.str "most") (some (.int m)):=DGet.k (k:=.inr "most") S.st
 refine seqF fun F1 f1=>⟨_,rfl,sA,_,rfl,g1,_,rfl,sA,_,rfl,g2,rfl,_,rfl,?_⟩
 by_cases c:(t:Int)=m
 ·refine ifY (by rw[c];exact decide_eq_true rfl) ?_
  refine seqF fun F2 f2=>⟨_,rfl,sA,_,rfl,DPut.k (k:=.inr "word") S.st (by show 6 < sizeLine;omega),f2 _ _ ?_⟩
  exact qL c _ (S.put (Nat.le_refl _) "long") (fun b o n1 _ _ _ e=>by rw[jf n1];exact e)
 refine ifX (decide_eq_false (fun z=>c (by injection z))) (f1 _ _ ?_)
 clear f1
 refine seqF fun F1 f1=>⟨_,rfl,sA,_,rfl,g1,_,_,rfl,rfl,_,rfl,sA,_,rfl,DPut.k (k:=.inr "turns") S.st (by show 6 < sizeLine;omega),f1 _ _ ?_⟩
 clear f1
 obtain⟨ys,l1,l2⟩:=S.lg
 have hg0:upd H sA (.dK (stk hA wA (t+1) m "told" gA)) gA=some (.lst ys):=(jf (jz l1 S.st (by intro z;cases z))).trans l1
 have S1:=S.put (Nat.le_succ t) "told"
 have F0:Fr sA sA sA gA H (upd H sA (.dK (stk hA wA (t+1) m "told" gA))):=fun b o n1 _ _ _ e=>by rw[jf n1];exact e
 show tSeq _ _ _ _ (upd H sA (.dK (stk hA wA (t+1) m "told" gA)))
 generalize upd H sA (.dK (stk hA wA (t+1) m "told" gA))=H1 at S1 F0 hg0
 obtain⟨HD,h1,h2,h3,h4⟩:=S1.ho
 have hg:H1 gA=some (.lst ys):=hg0
 have g3:DGet H1 sA (V.str "log") (some (.ref gA)):=DGet.k (k:=.inr "log") S1.st
 refine seqF fun F1 f1=>⟨_,rfl,sA,_,rfl,g3,.inl ⟨rfl,_,SqL.of hg⟩,_,rfl,gA,_,_,rfl,rfl,hg,by omega,f1 _ _ ?_⟩
 clear f1
 have n5:sA≠gA:=jz S1.st hg (by intro z;cases z)
 have n6:hA≠gA:=jz h1 hg (by intro z;cases z)
 have n7:wA≠gA:=jz S1.wr hg (by intro z;cases z)
 exact qT (by omega) _ ⟨(jf n5).trans S1.st,⟨HD,(jf n6).trans h1,h2,h3,h4⟩,(jf n7).trans S1.wr,⟨_,je,by rw[List.length_append];show ys.length+1<=t+1;omega⟩,S1.gL,S1.lL,S1.n1,S1.n2,S1.n3⟩ (fun b o a1 a2 a3 a4 e=>by rw[jf a4];exact F0 b o a1 a1 a1 a4 e) (fun b o a1 a2 a3 a4 e=>by rw[jf a4];exact F0 b o a1 a2 a3 a4 e)
noncomputable abbrev sLR:Stmt:=top 43
noncomputable abbrev sDR:Stmt:=top 44
noncomputable abbrev sBR:Stmt:=top 45
noncomputable abbrev sFR:Stmt:=top 46
def Fit(P:List Df):Prop:=P.length<=1000/\∀d∈P,d.body.dep<=5
structure Run(C:Tab)(P:List Df)(H:Hp)(pA kA sA hA wA gA:Addr)(h L:Tab)(t k:Nat)(m deep:Int)(n:Nat):Prop where
 dp:deep+(n:Int)=15
 pr:Pr H pA P
 sx:Sx C H sA hA wA gA L t m "told"
 kh:H kA=some (.dK h)
 gh:GT h
 k1:kA≠sA
 k2:kA≠hA
 k3:kA≠wA
 lh:h.length+k<=60100
 tm:(t:Int)<=m
 mm:m<=300
 kk:k<=60000
 fp:Fit P
def Fk(kA sA hA wA gA:Addr)(H H':Hp):Prop:=∀b o,b≠kA->b≠sA->b≠hA->b≠wA->b≠gA->H b=some o->H' b=some o
theorem Fk.refl{kA sA hA wA gA:Addr}{H:Hp}:Fk kA sA hA wA gA H H:=fun _ _ _ _ _ _ _ e=>e
theorem Fk.trans{kA sA hA wA gA:Addr}{H H1 H2:Hp}(a:Fk kA sA hA wA gA H H1)(b:Fk kA sA hA wA gA H1 H2):Fk kA sA hA wA gA H H2:=fun c o n0 n1 n2 n3 n4 e=>b c o n0 n1 n2 n3 n4 (a c o n0 n1 n2 n3 n4 e)
theorem Fk.of_same{kA sA hA wA gA:Addr}{H H':Hp}(s:Same H H'):Fk kA sA hA wA gA H H':=fun b o _ _ _ _ _ e=>s _ _ e
theorem Fr.k{kA sA hA wA gA:Addr}{H H':Hp}(f:Fr sA hA wA gA H H'):Fk kA sA hA wA gA H H':=fun b o _ n1 n2 n3 n4 e=>f b o n1 n2 n3 n4 e
section
variable {C:Tab}{P:List Df}{H H':Hp}{pA kA sA hA wA gA:Addr}{h L:Tab}{t k:Nat}{m deep:Int}{n:Nat}
theorem Run.tm'(R:Run C P H pA kA sA hA wA gA h L t k m deep n)(f:Fk kA sA hA wA gA H H'):TMono H H':=fun b xs e=>by
 obtain⟨HD,h1,_⟩:=R.sx.ho
 obtain⟨ys,h2,_⟩:=R.sx.lg
 exact f b _ (jz e R.kh (by intro z;cases z)) (jz e R.sx.st (by intro z;cases z)) (jz e h1 (by intro z;cases z)) (jz e R.sx.wr (by intro z;cases z)) (jz e h2 (by intro z;cases z)) e
theorem Run.same(R:Run C P H pA kA sA hA wA gA h L t k m deep n)(s:Same H H'):Run C P H' pA kA sA hA wA gA h L t k m deep n:=
 ⟨R.dp,R.pr.mono (Same.tm s),R.sx.same s,s _ _ R.kh,R.gh,R.k1,R.k2,R.k3,R.lh,R.tm,R.mm,R.kk,R.fp⟩
theorem Run.ng(R:Run C P H pA kA sA hA wA gA h L t k m deep n):kA≠gA:=by
 obtain⟨ys,h2,_⟩:=R.sx.lg
 exact jz R.kh h2 (by intro z;cases z)
theorem Run.turn(R:Run C P H pA kA sA hA wA gA h L t k m deep n){t':Nat}{L':Tab}{k':Nat}(S:Sx C H' sA hA wA gA L' t' m "told")(f:Fr sA hA wA gA H H')(e:(t':Int)<=m)(l:k'<=k):Run C P H' pA kA sA hA wA gA h L' t' k' m deep n:=
 ⟨R.dp,R.pr.mono (f.tm R.sx),S,f _ _ R.k1 R.k2 R.k3 R.ng R.kh,R.gh,R.k1,R.k2,R.k3,by have:=R.lh;omega,e,R.mm,by have:=R.kk;omega,R.fp⟩
theorem Run.put(R:Run C P H pA kA sA hA wA gA h L t k m deep n){k':Nat}{x:Str}{i:Int}(hi:InT i)(l:k'+1<=k):Run C P (upd H kA (.dK (putK h (.inr x) (.int i)))) pA kA sA hA wA gA (putK h (.inr x) (.int i)) L t k' m deep n:=by
 have tm:TMono H (upd H kA (.dK (putK h (.inr x) (.int i)))):=fun b xs e=>by rw[jf (jz e R.kh (by intro z;cases z))];exact e
 obtain⟨HD,h1,h2⟩:=R.sx.ho
 obtain⟨ys,g1,g2⟩:=R.sx.lg
 have pl:=zF h (.inr x) (.int i)
 exact⟨R.dp,R.pr.mono tm,⟨(jf (Ne.symm R.k1)).trans R.sx.st,⟨HD,(jf (Ne.symm R.k2)).trans h1,h2⟩,(jf (Ne.symm R.k3)).trans R.sx.wr,⟨ys,(jf (Ne.symm R.ng)).trans g1,g2⟩,R.sx.gL,R.sx.lL,R.sx.n1,R.sx.n2,R.sx.n3⟩,je,R.gh.put _ hi,R.k1,R.k2,R.k3,by have:=R.lh;omega,R.tm,R.mm,by have:=R.kk;omega,R.fp⟩
theorem JY(v:HO):Fk kA sA hA wA gA H (upd H kA v):=fun b o n0 _ _ _ _ e=>by rw[jf n0];exact e
end
def OnE(C:Tab)(P:List Df)(H:Hp)(pA kA sA hA wA gA:Addr)(m deep:Int)(n k:Nat)(r:Bd)(o:Out)(G:Hp->Prop):Prop:=∀(h' L':Tab) (t' k':Nat) (H':Hp),Run C P H' pA kA sA hA wA gA h' L' t' k' m deep n->Ex P C m n k' r h' L' t' o->k'<=k->Fk kA sA hA wA gA H H'->G H'
def StopE(C:Tab)(H:Hp)(kA sA hA wA gA:Addr)(m:Int)(o:Out)(G:Hp->Prop):Prop:=∀(w:Str) (L':Tab) (t':Nat) (H':Hp),(o= .long/\w="long"∨o= .deep/\w="deep")->Sx C H' sA hA wA gA L' t' m w->Fk kA sA hA wA gA H H'->G H'
def GiveE(C:Tab)(H:Hp)(kA sA hA wA gA:Addr)(m:Int)(o:Out)(G:Int->Hp->Prop):Prop:=∀(x:Int) (L':Tab) (t':Nat) (H':Hp),o= .done x L' t'->Sx C H' sA hA wA gA L' t' m "told"->InT x->Fk kA sA hA wA gA H H'->G x H'
def spBR(n d:Nat):Sp:=fun vs H Q _=>∃(C:Tab) (P:List Df) (bA pA kA sA hA wA gA:Addr) (xs:List V) (a r:Bd) (h L:Tab) (t k:Nat) (m deep:Int) (o:Out),vs=[.ref pA,.ref bA,.ref kA,.ref sA,.int deep]/\Run C P H pA kA sA hA wA gA h L t k m deep n/\H bA=some (.tup xs)/\BdV H a xs/\a.Ok/\a.dep < d/\Ex P C m n k (a.app r) h L t o/\
 OnE C P H pA kA sA hA wA gA m deep n k r o (fun H'=>∀rr,H' rr=some (.tup [.str "on"])->Q (.ref rr) H')/\StopE C H kA sA hA wA gA m o (fun H'=>∀rr,H' rr=some (.tup [.str "stop"])->Q (.ref rr) H')/\GiveE C H kA sA hA wA gA m o (fun x H'=>∀rr,H' rr=some (.tup [.str "give",.int x])->Q (.ref rr) H')
def spLR(n d:Nat):Sp:=fun vs H Q _=>∃(C:Tab) (P:List Df) (oA tA bA pA kA sA hA wA gA:Addr) (xs:List V) (T:Tm) (a r:Bd) (h L:Tab) (t k:Nat) (m deep:Int) (o:Out),vs=[.ref pA,.ref oA,.ref kA,.ref sA,.int deep]/\Run C P H pA kA sA hA wA gA h L t k m deep n/\H oA=some (.tup [.str "while",.ref tA,.ref bA])/\TmAt H T tA/\TOk T/\H bA=some (.tup xs)/\BdV H a xs/\a.Ok/\a.dep < d/\Ex P C m n k (.loop T a r) h L t o/\
 OnE C P H pA kA sA hA wA gA m deep n k r o (fun H'=>∀rr,H' rr=some (.tup [.str "on"])->Q (.ref rr) H')/\StopE C H kA sA hA wA gA m o (fun H'=>∀rr,H' rr=some (.tup [.str "stop"])->Q (.ref rr) H')/\GiveE C H kA sA hA wA gA m o (fun x H'=>∀rr,H' rr=some (.tup [.str "give",.int x])->Q (.ref rr) H')
def spDR(n:Nat):Sp:=fun vs H Q _=>∃(C:Tab) (P:List Df) (oA pA kA sA hA wA gA:Addr) (l:Lf) (r:Bd) (h L:Tab) (t k:Nat) (m deep:Int) (o:Out),vs=[.ref pA,.ref oA,.ref kA,.ref sA,.int deep]/\Run C P H pA kA sA hA wA gA h L t k m deep n/\LfV H (.ref oA) l/\l.Ok/\l.turn=true/\Ex P C m n k (.lf l r) h L t o/\
 OnE C P H pA kA sA hA wA gA m deep n k r o (fun H'=>Q (.bl true) H')/\StopE C H kA sA hA wA gA m o (fun H'=>Q (.bl false) H')
inductive WL(C:Tab)(P:List Df)(pA oA kA sA hA wA gA:Addr)(T:Tm)(a r:Bd)(m deep:Int)(n k0:Nat)(o:Out)(H:Hp)(M:Nat)(σ:L2.St)(H':Hp):Prop
 |mk (o5 o6:Option V) (h L:Tab) (t:Nat) (e0:σ=[some (.ref pA),some (.ref oA),some (.ref kA),some (.ref sA),some (.int deep),o5,o6]) (e1:Run C P H' pA kA sA hA wA gA h L t M m deep n) (e2:Ex P C m n M (.loop T a r) h L t o) (e3:M<=k0) (e4:Fk kA sA hA wA gA H H'):WL C P pA oA kA sA hA wA gA T a r m deep n k0 o H M σ H'
theorem scLR:FnScope ["_law_program","_law_one","_law_held","_law_state","_law_deep","_law_test","_law_found"] ["_law_program","_law_one","_law_held","_law_state","_law_deep"] (defScope sLR):=fsc
theorem ok_lr{f:Addr}{fd:FuncData}{fW fT fB:Addr}{fdW fdT fdB:FuncData}(F:Fun K "_law_looped_run" "_law_looped_run" sLR f fd){n d:Nat}(GW:FnOk P w K mg base CX0 9 fW fdW ["_law_term_here","_law_held"] (spLW 8))(bW:Binds K fdW ["_law_term_here","_law_held"] [])(kW:keepIn K (.ref fW)=true)(mW:mg "_law_worth"=some (.ref fW))(GT:FnOk P w K mg base CX0 1 fT fdT ["_law_state","_law_entry"] spTurnL)(bT:Binds K fdT ["_law_state","_law_entry"] [])(kT:keepIn K (.ref fT)=true)(mT:mg "_law_turn"=some (.ref fT))(GB:FnOk P w K mg base CX0 (13*n+2*d+9) fB fdB ["_law_program","_law_body_here","_law_held","_law_state","_law_deep"] (spBR n d))(bB:Binds K fdB ["_law_program","_law_body_here","_law_held","_law_state","_law_deep"] [])(kB:keepIn K (.ref fB)=true)(mB:mg "_law_body_run"=some (.ref fB))(mi:mg "int"=none):FnOk P w K mg base CX0 (13*n+2*d+10) f fd ["_law_program","_law_one","_law_held","_law_state","_law_deep"] (spLR n d):=by
 refine F.ok scLR (fun vs H Q E h=>?_) (fun cdv A outer s H vs Q E hr h=>?_)
 ·refine opq fun Gq kq=>?_
  obtain⟨C,P0,oA,tA,bA,pA,kA,sA,hA,wA,gA,xs,T,a,r,h,L,t,k,m,deep,o,rfl,_⟩:=h
  refine kq ?_
  clear kq
  rfl
 refine opq fun Gq kq=>?_
 obtain⟨C,P0,oA,tA,bA,pA,kA,sA,hA,wA,gA,xs,T,a,r,h,L,t,k,m,deep,o,rfl,R,ho,hT,oT,hb,hba,oka,hda,hx,qO,qS,qG⟩:=h
 refine kq ?_
 clear kq
 refine⟨_,(jj (@Qk _ _ _ _ _ _ PassesOwn.never (@ky _ _ _ (@qm _ _ _ _) (by intro _;rfl)) (jd (jo (i:=5) scLR.nd rfl (Or.inl rfl) (@jF _ _ _ _ _ _ _ _ _ jV rfl mi boot_int (ja (@j5 _ _ _ _ _ _ _ _ Jq (jh GW hr.m rfl mW kW bW .nil pass0 (ja (@jm _ _ _ _ _ _ _ ju (pv 1) jc (fun _ _=>rfl)) (ja (pv 2) jb))) jc (nomark _)) jb) (by decide) (by decide) (by rfl) (by rfl))) (jd (jy (@zp _ _ _ _ (@ky _ _ _ (jh GT hr.m rfl mT kT bT .nil pass0 (ja (pv 3) (ja (jk (ja ji (ja (pv 5) jb))) jb))) (by intro _;rfl))) (jj (jv (jk (ja ji jb)))) jq) (jd (jy (@jp _ _ _ _ _ _ _ _ jD (pv 5) jc (nomark _)) (jj (jv (jk (ja ji jb)))) jq) (jd (jo (i:=6) scLR.nd rfl (Or.inl rfl) (jh GB hr rfl mB kB bB .nil pass0 (ja (pv 0) (ja (@jm _ _ _ _ _ _ _ ju (pv 1) jc (fun _ _=>rfl)) (ja (pv 2) (ja (pv 3) (ja (pv 4) jb))))))) (jj (jy (@jp _ _ _ _ _ _ _ _ Jq (@jm _ _ _ _ _ _ _ ju (pv 6) jc (fun _ _=>rfl)) ji (nomark _)) (jj (jv (pv 6))) jq)))))))),?_⟩
 try dsimp only[cxOf,Cx.nox,Cx.wish]
 have big:=line24
 refine whileE (WL C P0 pA oA kA sA hA wA gA T a r m deep n k o H) k ⟨none,none,h,L,t,rfl,R,hx,Nat.le_refl _,Fk.refl⟩ ?_
 have R0tm:∀{H':Hp},Fk kA sA hA wA gA H H'->TMono H H':=fun f=>R.tm' f
 intro M σ H3 E hE fN G kT kF Gq kq hh
 obtain⟨o5,o6,h,L,t,rfl,R3,hx3,hM,f3⟩:=hh
 refine kq ?_
 clear kq R hx kF
 refine⟨_,rfl,kT _ ?_⟩
 clear kT
 have tm3:=R0tm f3
 have o3:=tm3 _ _ ho
 obtain⟨d1,ys,d2⟩:=id oT
 refine seqF fun F1 f1=>⟨_,rfl,oA,_,_,_,rfl,rfl,SqT.of o3,rfl,_,rfl,tA,kA,T,ys,h,rfl,hT.mono tm3,d1,d2,R3.kh,R3.gh,fun H4 s4=>⟨rfl,.inr ⟨_,rfl,?_⟩⟩⟩
 have ev:(if (!decide (V.int (T.ev h)=V.int 0))=true then (1:Int) else 0)=if T.ev h=0 then 0 else 1:=by
  by_cases z:T.ev h=0
  ·rw[z];rfl
  ·rw[decide_eq_false (fun y=>z (by injection y)),if_neg z];rfl
 show F1 [some (.ref pA),some (.ref oA),some (.ref kA),some (.ref sA),some (.int deep),some (.int (if (!decide (V.int (T.ev h)=V.int 0))=true then (1:Int) else 0)),o6] H4
 rw[ev]
 refine f1 _ _ ?_
 clear f1
 have R4:=R3.same s4
 have f4:Fk kA sA hA wA gA H H4:=f3.trans (Fk.of_same s4)
 clear R3 f3 s4 tm3 o3 ev
 refine seqF fun F1 f1=>⟨_,rfl,_,rfl,sz2,fun en nen=>?_⟩
 have R5:=R4.same (jg (o:=.tup [.str "ask",.int (if T.ev h=0 then 0 else 1)]) nen)
 have f5:Fk kA sA hA wA gA H (upd H4 en (.tup [.str "ask",.int (if T.ev h=0 then 0 else 1)])):=f4.trans (Fk.of_same (jg nen))
 generalize upd H4 en (.tup [.str "ask",.int (if T.ev h=0 then 0 else 1)])=H5 at R5 f5
 clear R4 f4 nen
 refine⟨C,sA,hA,wA,gA,L,t,m,_,rfl,R5.sx,R5.tm,R5.mm,fun et H6 S6 f6=>⟨_,rfl,ifY rfl ⟨sz1,fun rr nrr=>?_⟩⟩,fun lt H6 S6 f6 _=>⟨_,rfl,ifX rfl (f1 _ _ ?_)⟩⟩
 ·clear f1
  show E.rt _ _
  rw[hE]
  exact qS "long" L t _ (.inl ⟨zj hx3 rfl (by omega),rfl⟩) (S6.same (jg nrr)) ((f5.trans f6.k).trans (Fk.of_same (jg nrr))) rr je
 clear f1
 obtain⟨k',rfl,hx'⟩:=XI hx3 lt
 have R6:=R5.turn S6 f6 (k':=k') (by omega) (by omega)
 have F6:=f5.trans f6.k
 have tm6:=R0tm F6
 clear hx3 R5 f5 f6 S6
 refine seqF fun F1 f1=>⟨_,rfl,rfl,_,rfl,?_⟩
 by_cases ez:T.ev h=0
 ·rw[if_pos ez]at hx'
  rw[if_pos ez]
  refine ifY (by rfl) ⟨sz1,fun rr nrr=>?_⟩
  show E.rt _ _
  rw[hE]
  exact qO h L (t+1) k' _ (R6.same (jg nrr)) hx' (by omega) (F6.trans (Fk.of_same (jg nrr))) rr je
 rw[if_neg ez]at hx'
 rw[if_neg ez]
 refine ifX (by rfl) (f1 _ _ ?_)
 clear f1
 refine seqF fun F1 f1=>⟨_,rfl,_,rfl,oA,_,_,_,rfl,rfl,SqT.of (tm6 _ _ ho),rfl,_,rfl,_,rfl,_,rfl,C,P0,bA,pA,kA,sA,hA,wA,gA,xs,a,.loop T a r,h,L,t+1,k',m,deep,o,rfl,R6,tm6 _ _ hb,hba.mono tm6,oka,hda,hx',?_,?_,?_⟩
 ·intro h7 L7 t7 k7 H7 R7 x7 l7 f7 rr hrr
  refine f1 _ _ ?_
  refine⟨_,rfl,rr,_,_,_,rfl,rfl,SqT.of hrr,rfl,rfl,_,rfl,ifX (by decide+kernel) ?_⟩
  exact fN k7 _ _ (by omega) ⟨_,_,h7,L7,t7,rfl,R7,x7,by omega,F6.trans f7⟩
 ·intro w L7 t7 H7 ew S7 f7 rr hrr
  refine f1 _ _ ?_
  refine⟨_,rfl,rr,_,_,_,rfl,rfl,SqT.of hrr,rfl,rfl,_,rfl,ifY (by decide+kernel) ⟨_,rfl,?_⟩⟩
  show E.rt _ _
  rw[hE]
  exact qS w L7 t7 H7 ew S7 (F6.trans f7) rr hrr
 ·intro x L7 t7 H7 ew S7 ix f7 rr hrr
  refine f1 _ _ ?_
  refine⟨_,rfl,rr,_,_,_,rfl,rfl,SqT.of hrr,rfl,rfl,_,rfl,ifY (by decide+kernel) ⟨_,rfl,?_⟩⟩
  show E.rt _ _
  rw[hE]
  exact qG x L7 t7 H7 ew S7 ix (F6.trans f7) rr hrr
theorem drop_at{bs:List V}{i:Nat}{x:V}(h:bs[i]?=some x):bs.drop i=x::bs.drop (i+1):=by
 obtain⟨hi,e⟩:=List.getElem?_eq_some_iff.mp h
 rw[List.drop_eq_getElem_cons hi,e]
inductive BL(C:Tab)(P:List Df)(bA pA kA sA hA wA gA:Addr)(xs:List V)(r:Bd)(d:Nat)(m deep:Int)(n k0:Nat)(o:Out)(H:Hp)(i:Nat)(σ:L2.St)(H':Hp):Prop
 |mk (o5 o6 o7:Option V) (a:Bd) (h L:Tab) (t k:Nat) (e0:σ=[some (.ref pA),some (.ref bA),some (.ref kA),some (.ref sA),some (.int deep),o5,o6,o7]) (e1:BdV H' a (xs.drop i)) (e2:a.Ok) (e3:a.dep < d) (e4:Run C P H' pA kA sA hA wA gA h L t k m deep n) (e5:Ex P C m n k (a.app r) h L t o) (e6:k<=k0) (e7:Fk kA sA hA wA gA H H'):BL C P bA pA kA sA hA wA gA xs r d m deep n k0 o H i σ H'
theorem scBR:FnScope ["_law_program","_law_body_here","_law_held","_law_state","_law_deep","_law_one","_law_found","_law_test"] ["_law_program","_law_body_here","_law_held","_law_state","_law_deep"] (defScope sBR):=fsc
theorem ok_br{f:Addr}{fd:FuncData}{fW fT fD fL fB:Addr}{fdW fdT fdD fdL fdB:FuncData}(F:Fun K "_law_body_run" "_law_body_run" sBR f fd){n d:Nat}(GW:FnOk P w K mg base CX0 9 fW fdW ["_law_term_here","_law_held"] (spLW 8))(bW:Binds K fdW ["_law_term_here","_law_held"] [])(kW:keepIn K (.ref fW)=true)(mW:mg "_law_worth"=some (.ref fW))(GT:FnOk P w K mg base CX0 1 fT fdT ["_law_state","_law_entry"] spTurnL)(bT:Binds K fdT ["_law_state","_law_entry"] [])(kT:keepIn K (.ref fT)=true)(mT:mg "_law_turn"=some (.ref fT))(GD:FnOk P w K mg base CX0 (13*n+10) fD fdD ["_law_program","_law_one","_law_held","_law_state","_law_deep"] (spDR n))(bD:Binds K fdD ["_law_program","_law_one","_law_held","_law_state","_law_deep"] [])(kD:keepIn K (.ref fD)=true)(mD:mg "_law_deed_run"=some (.ref fD))(GL:FnOk P w K mg base CX0 (13*n+2*d+10) fL fdL ["_law_program","_law_one","_law_held","_law_state","_law_deep"] (spLR n d))(bL:Binds K fdL ["_law_program","_law_one","_law_held","_law_state","_law_deep"] [])(kL:keepIn K (.ref fL)=true)(mL:mg "_law_looped_run"=some (.ref fL))(GB:FnOk P w K mg base CX0 (13*n+2*d+9) fB fdB ["_law_program","_law_body_here","_law_held","_law_state","_law_deep"] (spBR n d))(bB:Binds K fdB ["_law_program","_law_body_here","_law_held","_law_state","_law_deep"] [])(kB:keepIn K (.ref fB)=true)(mB:mg "_law_body_run"=some (.ref fB))(mi:mg "int"=none):FnOk P w K mg base CX0 (13*n+2*d+11) f fd ["_law_program","_law_body_here","_law_held","_law_state","_law_deep"] (spBR n (d+1)):=by
 refine F.ok scBR (fun vs H Q E h=>?_) (fun cdv A outer s H vs Q E hr h=>?_)
 ·refine opq fun Gq kq=>?_
  obtain⟨C,P0,bA,pA,kA,sA,hA,wA,gA,xs,a,r,h,L,t,k,m,deep,o,rfl,_⟩:=h
  refine kq ?_
  clear kq
  rfl
 refine opq fun Gq kq=>?_
 obtain⟨C,P0,bA,pA,kA,sA,hA,wA,gA,xs,a,r,h,L,t,k,m,deep,o,rfl,R,hb,hba,oka,hda,hx,qO,qS,qG⟩:=h
 refine kq ?_
 clear kq
 refine⟨_,(jd (@zJ _ _ _ _ _ _ _ _ PassesOwn.never rfl (@zI _ _ _ _ (pv 1)) (jx (i:=5) scBR.nd rfl (Or.inl rfl)) (jd (jo (i:=6) scBR.nd rfl (Or.inl rfl) (jk (ja ji jb))) (jd (jy (@jp _ _ _ _ _ _ _ _ jD (@jm _ _ _ _ _ _ _ ju (pv 5) jc (fun _ _=>rfl)) ji (nomark _)) (jj (@jY _ _ _ _ _ _ _ _ _ (jM hr) (pv 2) (@jm _ _ _ _ _ _ _ ju (pv 5) jc (fun _ _=>rfl)) (jh GW hr.m rfl mW kW bW .nil pass0 (ja (@jm _ _ _ _ _ _ _ ju (pv 5) jc (fun _ _=>rfl)) (ja (pv 2) jb))) rfl)) (jj (jy (@jp _ _ _ _ _ _ _ _ jD (@jm _ _ _ _ _ _ _ ju (pv 5) jc (fun _ _=>rfl)) ji (nomark _)) (jj (jv (jk (ja ji (ja (jh GW hr.m rfl mW kW bW .nil pass0 (ja (@jm _ _ _ _ _ _ _ ju (pv 5) jc (fun _ _=>rfl)) (ja (pv 2) jb))) jb))))) (jj (jy (@jp _ _ _ _ _ _ _ _ jD (@jm _ _ _ _ _ _ _ ju (pv 5) jc (fun _ _=>rfl)) ji (nomark _)) (jj (jo (i:=6) scBR.nd rfl (Or.inl rfl) (jh GL hr.m rfl mL kL bL .nil pass0 (ja (pv 0) (ja (pv 5) (ja (pv 2) (ja (pv 3) (ja (pv 4) jb)))))))) (jj (jy (@jp _ _ _ _ _ _ _ _ jD (@jm _ _ _ _ _ _ _ ju (pv 5) jc (fun _ _=>rfl)) ji (nomark _)) (jd (jo (i:=7) scBR.nd rfl (Or.inl rfl) (@jF _ _ _ _ _ _ _ _ _ jV rfl mi boot_int (ja (@j5 _ _ _ _ _ _ _ _ Jq (jh GW hr.m rfl mW kW bW .nil pass0 (ja (@jm _ _ _ _ _ _ _ ju (pv 5) jc (fun _ _=>rfl)) (ja (pv 2) jb))) jc (nomark _)) jb) (by decide) (by decide) (by rfl) (by rfl))) (jd (jy (@zp _ _ _ _ (@ky _ _ _ (jh GT hr.m rfl mT kT bT .nil pass0 (ja (pv 3) (ja (jk (ja ji (ja (pv 7) jb))) jb))) (by intro _;rfl))) (jj (jv (jk (ja ji jb)))) jq) (jj (jo (i:=6) scBR.nd rfl (Or.inl rfl) (jh GB hr.m rfl mB kB bB .nil pass0 (ja (pv 0) (ja (@jm _ _ _ _ _ _ _ ju (pv 5) (jw zf jc (pv 7)) (fun _ _=>rfl)) (ja (pv 2) (ja (pv 3) (ja (pv 4) jb)))))))))) (jj (jy (@zp _ _ _ _ (@ky _ _ _ (jh GD hr.m rfl mD kD bD .nil pass0 (ja (pv 0) (ja (pv 5) (ja (pv 2) (ja (pv 3) (ja (pv 4) jb)))))) (by intro _;rfl))) (jj (jv (jk (ja ji jb)))) jq))))))))) (jj (jy (@jp _ _ _ _ _ _ _ _ Jq (@jm _ _ _ _ _ _ _ ju (pv 6) jc (fun _ _=>rfl)) ji (nomark _)) (jj (jv (pv 6))) jq)))) (by intro _;rfl)) (jj (jv (jk (ja ji jb))))),?_⟩
 try dsimp only[cxOf,Cx.nox,Cx.wish]
 have big:=line24
 have R0tm:∀{H':Hp},Fk kA sA hA wA gA H H'->TMono H H':=fun f=>R.tm' f
 refine seqF fun F1 f1=>forE fun J j=>⟨_,rfl,bA,rfl,⟨_,SqT.of hb⟩,j _ _ ?_⟩
 clear j
 refine J4 (K:=K) (xs:=xs) (BL C P0 bA pA kA sA hA wA gA xs r (d+1) m deep n k o H) ⟨none,none,none,a,h,L,t,k,rfl,hba,oka,hda,R,hx,Nat.le_refl _,Fk.refl⟩ (fun i σ H' _ h=>by obtain⟨_,_,_,_,_,_,_,_,_,_,_,_,_,_,_,f⟩:=h;exact SqT.of (R0tm f _ _ hb)) ?_ (fun σ H' h=>f1 _ _ ?_)
 ·clear f1 R hx hba oka hda
  intro E0 hE i v σ H3 hv fE Gq kq hh
  obtain⟨o5,o6,o7,a,h,L,t,k',rfl,hbd,hok,hdp,R3,hx3,hk3,f3⟩:=hh
  refine kq ?_
  clear kq
  rw[drop_at hv]at hbd
  show tSeq (tAsg _ _) _ E0 _ _
  refine seqF fun F1 f1=>⟨sz1,fun fo nfo=>f1 _ _ ?_⟩
  clear f1
  have s4:Same H3 (upd H3 fo (.tup [.str "on"])):=jg nfo
  have xfo:upd H3 fo (.tup [.str "on"]) fo=some (.tup [.str "on"]):=je
  generalize upd H3 fo (.tup [.str "on"])=H4 at s4 xfo
  have R4:=R3.same s4
  have f4:Fk kA sA hA wA gA H H4:=f3.trans (Fk.of_same s4)
  replace hbd:=hbd.mono (Same.tm s4)
  clear R3 f3 s4 nfo
  refine seqF fun F1 f1=>?_
  cases a with
  |nil=>cases (show _=[] from hbd)
  |lf l rest=>
   obtain⟨v',ws,ev,hlf,hbd⟩:=hbd
   injection ev with ev1 ev2
   subst ev1
   subst ev2
   obtain⟨ok1,ok2⟩:=hok
   have hd2:rest.dep < d+1:=hdp
   have hx4:Ex P0 C m n k' (.lf l (rest.app r)) h L t o:=hx3
   have next:∀(h7 L7:Tab) (t7 k7:Nat) (H7:Hp),Run C P0 H7 pA kA sA hA wA gA h7 L7 t7 k7 m deep n->Ex P0 C m n k7 (rest.app r) h7 L7 t7 o->k7<=k->Fk kA sA hA wA gA H H7->TMono H4 H7->F1 [some (.ref pA),some (.ref bA),some (.ref kA),some (.ref sA),some (.int deep),some v,some (.ref fo),o7] H7:=fun h7 L7 t7 k7 H7 R7 x7 l7 f7 tm7=>f1 _ _ (by
    exact⟨_,rfl,fo,_,_,_,rfl,rfl,SqT.of (tm7 _ _ xfo),rfl,rfl,_,rfl,ifX (by decide+kernel) (fE _ _ ⟨_,_,_,rest,h7,L7,t7,k7,rfl,hbd.mono tm7,ok2,hd2,R7,x7,l7,f7⟩)⟩)
   clear f1
   cases l with
   |set y T=>
    obtain⟨x,pt,rfl,h1,hT⟩:=hlf
    obtain⟨d1,ys,d2⟩:=ok1
    obtain⟨k2,rfl,hx'⟩:=Y7 hx4
    have pl:=zF h (.inr y) (.int (T.ev h))
    have lh:=R4.lh
    refine⟨_,rfl,x,_,_,_,rfl,rfl,SqT.of h1,rfl,rfl,_,rfl,ifY (by decide+kernel) ⟨_,rfl,x,_,_,_,rfl,rfl,SqT.of h1,rfl,_,rfl,pt,kA,T,ys,h,rfl,hT,d1,d2,R4.kh,R4.gh,fun H5 s5=>⟨_,rfl,_,rfl,x,_,_,_,rfl,rfl,SqT.of (s5 _ _ h1),rfl,kA,_,rfl,DPut.k (k:=.inr y) (s5 _ _ R4.kh) (by omega),?_⟩⟩⟩
    have R5:=(R4.same s5).put (x:=y) (k':=k2) (zD R4.gh d2) (Nat.le_refl _)
    exact next _ L t k2 _ R5 hx' (by omega) ((f4.trans (Fk.of_same s5)).trans (JY _)) (fun b xs e=>by rw[jf (jz (s5 _ _ e) (s5 _ _ R4.kh) (by intro z;cases z))];exact s5 _ _ e)
   |gv T=>
    obtain⟨x,pt,rfl,h1,hT⟩:=hlf
    obtain⟨d1,ys,d2⟩:=ok1
    refine⟨_,rfl,x,_,_,_,rfl,rfl,SqT.of h1,rfl,rfl,_,rfl,ifX (by decide+kernel) ⟨_,rfl,x,_,_,_,rfl,rfl,SqT.of h1,rfl,rfl,_,rfl,ifY (by decide+kernel) ⟨_,rfl,x,_,_,_,rfl,rfl,SqT.of h1,rfl,_,rfl,pt,kA,T,ys,h,rfl,hT,d1,d2,R4.kh,R4.gh,fun H5 s5=>⟨sz2,fun r7 nr7=>?_⟩⟩⟩⟩
    show E0.rt _ _
    rw[hE]
    exact qG _ L t _ (ex_gv hx4) ((R4.sx.same s5).same (jg nr7)) (zD R4.gh d2) ((f4.trans (Fk.of_same s5)).trans (Fk.of_same (jg nr7))) r7 je
   |rd y T=>
    obtain⟨x,pt,rfl,h1,hT⟩:=id hlf
    refine⟨_,rfl,x,_,_,_,rfl,rfl,SqT.of h1,rfl,rfl,_,rfl,ifX (by decide+kernel) ⟨_,rfl,x,_,_,_,rfl,rfl,SqT.of h1,rfl,rfl,_,rfl,ifX (by decide+kernel) ⟨_,rfl,x,_,_,_,rfl,rfl,SqT.of h1,rfl,rfl,_,rfl,ifX (by decide+kernel) ⟨_,rfl,x,_,_,_,rfl,rfl,SqT.of h1,rfl,rfl,_,rfl,ifX (by decide+kernel) ⟨_,rfl,_,rfl,_,rfl,_,rfl,_,rfl,C,P0,x,pA,kA,sA,hA,wA,gA,.rd y T,rest.app r,h,L,t,k',m,deep,o,rfl,R4,hlf,ok1,rfl,hx4,?_,?_⟩⟩⟩⟩⟩
    ·intro h7 L7 t7 k7 H7 R7 x7 l7 f7
     exact⟨_,rfl,ifX rfl (next h7 L7 t7 k7 H7 R7 x7 (by omega) (f4.trans f7) (R4.tm' f7))⟩
    ·intro w L7 t7 H7 ew S7 f7
     refine⟨_,rfl,ifY rfl ⟨sz1,fun r7 nr7=>?_⟩⟩
     show E0.rt _ _
     rw[hE]
     exact qS w L7 t7 _ ew (S7.same (jg nr7)) ((f4.trans f7).trans (Fk.of_same (jg nr7))) r7 je
   |wr T U=>
    obtain⟨x,pt,pu,rfl,h1,hT,hU⟩:=id hlf
    refine⟨_,rfl,x,_,_,_,rfl,rfl,SqT.of h1,rfl,rfl,_,rfl,ifX (by decide+kernel) ⟨_,rfl,x,_,_,_,rfl,rfl,SqT.of h1,rfl,rfl,_,rfl,ifX (by decide+kernel) ⟨_,rfl,x,_,_,_,rfl,rfl,SqT.of h1,rfl,rfl,_,rfl,ifX (by decide+kernel) ⟨_,rfl,x,_,_,_,rfl,rfl,SqT.of h1,rfl,rfl,_,rfl,ifX (by decide+kernel) ⟨_,rfl,_,rfl,_,rfl,_,rfl,_,rfl,C,P0,x,pA,kA,sA,hA,wA,gA,.wr T U,rest.app r,h,L,t,k',m,deep,o,rfl,R4,hlf,ok1,rfl,hx4,?_,?_⟩⟩⟩⟩⟩
    ·intro h7 L7 t7 k7 H7 R7 x7 l7 f7
     exact⟨_,rfl,ifX rfl (next h7 L7 t7 k7 H7 R7 x7 (by omega) (f4.trans f7) (R4.tm' f7))⟩
    ·intro w L7 t7 H7 ew S7 f7
     refine⟨_,rfl,ifY rfl ⟨sz1,fun r7 nr7=>?_⟩⟩
     show E0.rt _ _
     rw[hE]
     exact qS w L7 t7 _ ew (S7.same (jg nr7)) ((f4.trans f7).trans (Fk.of_same (jg nr7))) r7 je
   |cl y g ts=>
    obtain⟨x,q0,vs,rfl,h1,h2,h3⟩:=id hlf
    refine⟨_,rfl,x,_,_,_,rfl,rfl,SqT.of h1,rfl,rfl,_,rfl,ifX (by decide+kernel) ⟨_,rfl,x,_,_,_,rfl,rfl,SqT.of h1,rfl,rfl,_,rfl,ifX (by decide+kernel) ⟨_,rfl,x,_,_,_,rfl,rfl,SqT.of h1,rfl,rfl,_,rfl,ifX (by decide+kernel) ⟨_,rfl,x,_,_,_,rfl,rfl,SqT.of h1,rfl,rfl,_,rfl,ifX (by decide+kernel) ⟨_,rfl,_,rfl,_,rfl,_,rfl,_,rfl,C,P0,x,pA,kA,sA,hA,wA,gA,.cl y g ts,rest.app r,h,L,t,k',m,deep,o,rfl,R4,hlf,ok1,rfl,hx4,?_,?_⟩⟩⟩⟩⟩
    ·intro h7 L7 t7 k7 H7 R7 x7 l7 f7
     exact⟨_,rfl,ifX rfl (next h7 L7 t7 k7 H7 R7 x7 (by omega) (f4.trans f7) (R4.tm' f7))⟩
    ·intro w L7 t7 H7 ew S7 f7
     refine⟨_,rfl,ifY rfl ⟨sz1,fun r7 nr7=>?_⟩⟩
     show E0.rt _ _
     rw[hE]
     exact qS w L7 t7 _ ew (S7.same (jg nr7)) ((f4.trans f7).trans (Fk.of_same (jg nr7))) r7 je
  |ite T b1 b2 rest=>
   obtain⟨x,pt,pa,pb,as,bs,ws,ev,h1,hT,ha',hb1,hb',hb2,hbd⟩:=hbd
   injection ev with ev1 ev2
   subst ev1
   subst ev2
   obtain⟨⟨oT,tc,td⟩,ok1,ok2,okr⟩:=hok
   obtain⟨d1,ys,d2⟩:=oT
   have hd2:max (max b1.dep b2.dep+1) rest.dep < d+1:=hdp
   have hx4:Ex P0 C m n k' (.ite T b1 b2 (rest.app r)) h L t o:=hx3
   refine⟨_,rfl,x,_,_,_,rfl,rfl,SqT.of h1,rfl,rfl,_,rfl,ifX (by decide+kernel) ⟨_,rfl,x,_,_,_,rfl,rfl,SqT.of h1,rfl,rfl,_,rfl,ifX (by decide+kernel) ⟨_,rfl,x,_,_,_,rfl,rfl,SqT.of h1,rfl,rfl,_,rfl,ifX (by decide+kernel) ⟨_,rfl,x,_,_,_,rfl,rfl,SqT.of h1,rfl,rfl,_,rfl,ifY (by decide+kernel) ?_⟩⟩⟩⟩
   refine seqF fun F2 f2=>⟨_,rfl,x,_,_,_,rfl,rfl,SqT.of h1,rfl,_,rfl,pt,kA,T,ys,h,rfl,hT,d1,d2,R4.kh,R4.gh,fun H5 s5=>⟨rfl,.inr ⟨_,rfl,?_⟩⟩⟩
   have ev:(if (!decide (V.int (T.ev h)=V.int 0))=true then (1:Int) else 0)=if T.ev h=0 then 0 else 1:=by
    by_cases z:T.ev h=0
    ·rw[z];rfl
    ·rw[decide_eq_false (fun y=>z (by injection y)),if_neg z];rfl
   show F2 [some (.ref pA),some (.ref bA),some (.ref kA),some (.ref sA),some (.int deep),some (.ref x),some (.ref fo),some (.int (if (!decide (V.int (T.ev h)=V.int 0))=true then (1:Int) else 0))] H5
   rw[ev]
   refine f2 _ _ ?_
   clear f2 ev
   have R5:=R4.same s5
   have f5:Fk kA sA hA wA gA H H5:=f4.trans (Fk.of_same s5)
   refine seqF fun F2 f2=>⟨_,rfl,_,rfl,sz2,fun en nen=>?_⟩
   have s6:Same H5 (upd H5 en (.tup [.str "ask",.int (if T.ev h=0 then 0 else 1)])):=jg nen
   generalize upd H5 en (.tup [.str "ask",.int (if T.ev h=0 then 0 else 1)])=H6 at s6
   have R6:=R5.same s6
   have f6:=f5.trans (Fk.of_same s6)
   have S46:=s5.trans s6
   clear R5 f5 s5 s6 nen
   refine⟨C,sA,hA,wA,gA,L,t,m,_,rfl,R6.sx,R6.tm,R6.mm,fun et H7 S7 f7=>⟨_,rfl,ifY rfl ⟨sz1,fun r7 nr7=>?_⟩⟩,fun lt H7 S7 f7 _=>⟨_,rfl,ifX rfl (f2 _ _ ?_)⟩⟩
   ·show E0.rt _ _
    rw[hE]
    exact qS "long" L t _ (.inl ⟨zj hx4 rfl (by omega),rfl⟩) (S7.same (jg nr7)) ((f6.trans f7.k).trans (Fk.of_same (jg nr7))) r7 je
   clear f2
   obtain⟨k2,rfl,hx'⟩:=Y8 hx4 lt
   have R7:=R6.turn S7 f7 (k':=k2) (by omega) (by omega)
   have F7:=f6.trans f7.k
   have tm7:TMono H4 H7:=fun b xs e=>f7.tm R6.sx _ _ (S46 _ _ e)
   obtain⟨px,bx,xx,hat,hpx,hbx,okx,dx,hx2⟩:∃px bx xx,atI [V.str "if",.ref pt,.ref pa,.ref pb] (3 - (if T.ev h=0 then 0 else 1))=some (.ref px)/\H7 px=some (.tup xx)/\BdV H7 bx xx/\bx.Ok/\bx.dep < d/\Ex P0 C m n k2 (bx.app (rest.app r)) h L (t+1) o:=by
    by_cases z:T.ev h=0
    ·rw[if_pos z]at hx' ⊢
     exact⟨pb,b2,bs,rfl,tm7 _ _ hb',hb2.mono tm7,ok2,by omega,hx'⟩
    ·rw[if_neg z]at hx' ⊢
     exact⟨pa,b1,as,rfl,tm7 _ _ ha',hb1.mono tm7,ok1,by omega,hx'⟩
   refine⟨_,rfl,_,rfl,_,rfl,_,_,rfl,rfl,x,_,_,_,rfl,rfl,SqT.of (tm7 _ _ h1),hat,_,rfl,_,rfl,_,rfl,C,P0,px,pA,kA,sA,hA,wA,gA,xx,bx,rest.app r,h,L,t+1,k2,m,deep,o,rfl,R7,hpx,hbx,okx,dx,hx2,?_,?_,?_⟩
   ·intro h8 L8 t8 k8 H8 R8 x8 l8 f8 rr hrr
    have tm8:=tm7.trans (R7.tm' f8)
    exact f1 _ _ ⟨_,rfl,rr,_,_,_,rfl,rfl,SqT.of hrr,rfl,rfl,_,rfl,ifX (by decide+kernel) (fE _ _ ⟨_,_,_,rest,h8,L8,t8,k8,rfl,hbd.mono tm8,okr,by omega,R8,x8,by omega,F7.trans f8⟩)⟩
   ·intro w L8 t8 H8 ew S8 f8 rr hrr
    refine f1 _ _ ⟨_,rfl,rr,_,_,_,rfl,rfl,SqT.of hrr,rfl,rfl,_,rfl,ifY (by decide+kernel) ⟨_,rfl,?_⟩⟩
    show E0.rt _ _
    rw[hE]
    exact qS w L8 t8 H8 ew S8 (F7.trans f8) rr hrr
   ·intro y L8 t8 H8 ew S8 iy f8 rr hrr
    refine f1 _ _ ⟨_,rfl,rr,_,_,_,rfl,rfl,SqT.of hrr,rfl,rfl,_,rfl,ifY (by decide+kernel) ⟨_,rfl,?_⟩⟩
    show E0.rt _ _
    rw[hE]
    exact qG y L8 t8 H8 ew S8 iy (F7.trans f8) rr hrr
  |loop T b1 rest=>
   obtain⟨x,pt,pa,as,ws,ev,h1,hT,ha',hb1,hbd⟩:=hbd
   injection ev with ev1 ev2
   subst ev1
   subst ev2
   obtain⟨⟨oT,tc⟩,ok1,okr⟩:=hok
   have hd2:max (b1.dep+1) rest.dep < d+1:=hdp
   have hx4:Ex P0 C m n k' (.loop T b1 (rest.app r)) h L t o:=hx3
   refine⟨_,rfl,x,_,_,_,rfl,rfl,SqT.of h1,rfl,rfl,_,rfl,ifX (by decide+kernel) ⟨_,rfl,x,_,_,_,rfl,rfl,SqT.of h1,rfl,rfl,_,rfl,ifX (by decide+kernel) ⟨_,rfl,x,_,_,_,rfl,rfl,SqT.of h1,rfl,rfl,_,rfl,ifY (by decide+kernel) ⟨_,rfl,_,rfl,_,rfl,_,rfl,_,rfl,C,P0,x,pt,pa,pA,kA,sA,hA,wA,gA,as,T,b1,rest.app r,h,L,t,k',m,deep,o,rfl,R4,h1,hT,oT,ha',hb1,ok1,by omega,hx4,?_,?_,?_⟩⟩⟩⟩
   ·intro h8 L8 t8 k8 H8 R8 x8 l8 f8 rr hrr
    exact f1 _ _ ⟨_,rfl,rr,_,_,_,rfl,rfl,SqT.of hrr,rfl,rfl,_,rfl,ifX (by decide+kernel) (fE _ _ ⟨_,_,_,rest,h8,L8,t8,k8,rfl,hbd.mono (R4.tm' f8),okr,by omega,R8,x8,by omega,f4.trans f8⟩)⟩
   ·intro w L8 t8 H8 ew S8 f8 rr hrr
    refine f1 _ _ ⟨_,rfl,rr,_,_,_,rfl,rfl,SqT.of hrr,rfl,rfl,_,rfl,ifY (by decide+kernel) ⟨_,rfl,?_⟩⟩
    show E0.rt _ _
    rw[hE]
    exact qS w L8 t8 H8 ew S8 (f4.trans f8) rr hrr
   ·intro y L8 t8 H8 ew S8 iy f8 rr hrr
    refine f1 _ _ ⟨_,rfl,rr,_,_,_,rfl,rfl,SqT.of hrr,rfl,rfl,_,rfl,ifY (by decide+kernel) ⟨_,rfl,?_⟩⟩
    show E0.rt _ _
    rw[hE]
    exact qG y L8 t8 H8 ew S8 iy (f4.trans f8) rr hrr
 obtain⟨o5,o6,o7,a',h',L',t',k',rfl,hbd,hok,hdp,R3,hx3,hk3,f3⟩:=h
 rw[List.drop_length]at hbd
 have ea:a'= .nil:=by
  have:=hbd.len
  cases a' with
  |nil=>rfl
  |lf l r=>exact absurd this (by show ¬0=_+1;omega)
  |ite T a b r=>exact absurd this (by show ¬0=_+1;omega)
  |loop T a r=>exact absurd this (by show ¬0=_+1;omega)
 subst ea
 exact⟨sz1,fun rr nrr=>qO h' L' t' k' _ (R3.same (jg nrr)) hx3 hk3 (f3.trans (Fk.of_same (jg nrr))) rr je⟩
theorem Qy{h:Tab}{k:Key}{i z:Int}:look (putK h k (.int i)) k z=i:=by
 unfold look
 rw[J1,if_pos rfl]
theorem JA{h:Tab}{k j:Key}{v:V}{z:Int}(n:j≠k):look (putK h k v) j z=look h j z:=by
 unfold look
 rw[J1,if_neg n]
theorem Sx.write{C:Tab}{H:Hp}{sA hA wA gA:Addr}{L:Tab}{t:Nat}{m:Int}{w:Str}(S:Sx C H sA hA wA gA L (t+1) m w)(l:L.length<=t){HD:Tab}(h1:H hA=some (.dK HD))(h2:GT HD)(h3:HD.length<=20+t)(h4:∀c,look HD (.inl c) 0=look L (.inl c) (look C (.inl c) 0)){c v:Int}(hv:InT v):
  Sx C (upd (upd H hA (.dK (putK HD (.inl c) (.int v)))) wA (.dK (putK L (.inl c) (.int v)))) sA hA wA gA (putK L (.inl c) (.int v)) (t+1) m w:=by
 obtain⟨ys,g1,g2⟩:=S.lg
 have p1:=zF HD (.inl c) (.int v)
 have p2:=zF L (.inl c) (.int v)
 refine⟨(jf S.n2).trans ((jf S.n1).trans S.st),⟨_,(jf S.n3).trans je,h2.put _ hv,by omega,fun c'=>?_⟩,je,⟨ys,(jf (jz g1 S.wr (by intro z;cases z))).trans ((jf (jz g1 h1 (by intro z;cases z))).trans g1),g2⟩,S.gL.put _ hv,by omega,S.n1,S.n2,S.n3⟩
 by_cases e:c'=c
 ·rw[e,Qy,Qy]
 ·rw[JA (fun z=>e (by injection z)),JA (fun z=>e (by injection z))];exact h4 c'
theorem Sx.oth{C:Tab}{H:Hp}{sA hA wA gA kA:Addr}{L:Tab}{t:Nat}{m:Int}{w:Str}(S:Sx C H sA hA wA gA L t m w)(k1:kA≠sA)(k2:kA≠hA)(k3:kA≠wA)(k4:kA≠gA)(v:HO):Sx C (upd H kA v) sA hA wA gA L t m w:=by
 obtain⟨HD,h1,h2⟩:=S.ho
 obtain⟨ys,g1,g2⟩:=S.lg
 exact⟨(jf (Ne.symm k1)).trans S.st,⟨HD,(jf (Ne.symm k2)).trans h1,h2⟩,(jf (Ne.symm k3)).trans S.wr,⟨ys,(jf (Ne.symm k4)).trans g1,g2⟩,S.gL,S.lL,S.n1,S.n2,S.n3⟩
theorem Run.sxk{C:Tab}{P:List Df}{H:Hp}{pA kA sA hA wA gA:Addr}{h L:Tab}{t k:Nat}{m deep:Int}{n:Nat}(R:Run C P H pA kA sA hA wA gA h L t k m deep n)(v:HO):Sx C (upd H kA v) sA hA wA gA L t m "told":=by
 obtain⟨HD,h1,h2⟩:=R.sx.ho
 obtain⟨ys,g1,g2⟩:=R.sx.lg
 exact⟨(jf (Ne.symm R.k1)).trans R.sx.st,⟨HD,(jf (Ne.symm R.k2)).trans h1,h2⟩,(jf (Ne.symm R.k3)).trans R.sx.wr,⟨ys,(jf (Ne.symm R.ng)).trans g1,g2⟩,R.sx.gL,R.sx.lL,R.sx.n1,R.sx.n2,R.sx.n3⟩
def spFR(n:Nat):Sp:=fun vs H Q _=>∃(C:Tab) (P:List Df) (pA ag sA hA wA gA:Addr) (f:Str) (d:Df) (is:List Int) (L:Tab) (t k:Nat) (m deep:Int) (o:Out),vs=[.ref pA,.str f,.ref ag,.ref sA,.int deep]/\deep+(n:Int)=15/\Pr H pA P/\Fit P/\findD P f=some d/\H ag=some (.tup (is.map V.int))/\(∀i∈is,InT i)/\d.ps.length=is.length/\Sx C H sA hA wA gA L t m "told"/\(t:Int)<=m/\m<=300/\Ex P C m n k d.body (heldOf d.ps is) L t o/\k<=60000/\
 (∀a L' t' H',o= .done a L' t'->Sx C H' sA hA wA gA L' t' m "told"->(t':Int)<=m->InT a->Fr sA hA wA gA H H'->Q (.int a) H')/\(∀(w:Str) L' t' H',(o= .long/\w="long"∨o= .deep/\w="deep")->Sx C H' sA hA wA gA L' t' m w->Fr sA hA wA gA H H'->Q .non H')
theorem scDR:FnScope ["_law_program","_law_one","_law_held","_law_state","_law_deep","_law_entry","_law_cell","_law_args"] ["_law_program","_law_one","_law_held","_law_state","_law_deep"] (defScope sDR):=fsc
noncomputable def YE:Scope:=⟨.function,[(".0",.local),("_law_term_here",.local),("_law_worth",.globalImplicit),("_law_held",.free)],false,false,[]⟩
theorem nd_dr1:(["_law_term_here","_law_held"]:List Str).Nodup:=by decide+kernel
theorem cs_dr1:CompSc ["_law_program","_law_one","_law_held","_law_state","_law_deep","_law_entry","_law_cell","_law_args"] (defScope sDR) YE ["_law_term_here","_law_held"] 1 [2]:=csc
theorem ok_dr{f:Addr}{fd:FuncData}{fW fT fF:Addr}{fdW fdT fdF:FuncData}(F:Fun K "_law_deed_run" "_law_deed_run" sDR f fd){n:Nat}{spF:Sp}(GW:FnOk P w K mg base CX0 9 fW fdW ["_law_term_here","_law_held"] (spLW 8))(bW:Binds K fdW ["_law_term_here","_law_held"] [])(kW:keepIn K (.ref fW)=true)(mW:mg "_law_worth"=some (.ref fW))(GT:FnOk P w K mg base CX0 1 fT fdT ["_law_state","_law_entry"] spTurnL)(bT:Binds K fdT ["_law_state","_law_entry"] [])(kT:keepIn K (.ref fT)=true)(mT:mg "_law_turn"=some (.ref fT))(GF:FnOk P w K mg base CX0 (13*n+9) fF fdF ["_law_program","_law_f","_law_args","_law_state","_law_deep"] spF)(bF:Binds K fdF ["_law_program","_law_f","_law_args","_law_state","_law_deep"] [])(kF:keepIn K (.ref fF)=true)(mF:mg "_law_def_run"=some (.ref fF))(hF:∀n',n=n'+1->spF=spFR n')(mtu:mg "tuple"=none):FnOk P w K mg base CX0 (13*n+10) f fd ["_law_program","_law_one","_law_held","_law_state","_law_deep"] (spDR n):=by
 refine F.ok scDR (fun vs H Q E h=>?_) (fun cdv A outer s H vs Q E hr h=>?_)
 ·refine opq fun Gq kq=>?_
  obtain⟨C,P0,oA,pA,kA,sA,hA,wA,gA,l,r,h,L,t,k,m,deep,o,rfl,_⟩:=h
  refine kq ?_
  clear kq
  rfl
 refine opq fun Gq kq=>?_
 obtain⟨C,P0,oA,pA,kA,sA,hA,wA,gA,l,r,h,L,t,k,m,deep,o,rfl,R,hlf,okl,hlt,hx,qO,qS⟩:=h
 refine kq ?_
 clear kq
 refine⟨_,(jd (jy (@jp _ _ _ _ _ _ _ _ jD (@jm _ _ _ _ _ _ _ ju (pv 1) jc (fun _ _=>rfl)) ji (nomark _)) (jd (jo (i:=5) scDR.nd rfl (Or.inl rfl) (jk (ja ji (ja (jh GW hr.m rfl mW kW bW .nil pass0 (ja (@jm _ _ _ _ _ _ _ ju (pv 1) jc (fun _ _=>rfl)) (ja (pv 2) jb))) (ja (jh GW hr.m rfl mW kW bW .nil pass0 (ja (@jm _ _ _ _ _ _ _ ju (pv 1) jc (fun _ _=>rfl)) (ja (pv 2) jb))) jb))))) (jd (jy (@zp _ _ _ _ (@ky _ _ _ (jh GT hr.m rfl mT kT bT .nil pass0 (ja (pv 3) (ja (pv 5) jb))) (by intro _;rfl))) (jj (jv (@qm _ _ _ _))) jq) (jd (@jY _ _ _ _ _ _ _ _ _ (jM hr) (@jX _ _ _ _ _ _ (jM hr) (pv 3) ji (fun _ _=>rfl)) (@jm _ _ _ _ _ _ _ ju (pv 5) jc (fun _ _=>rfl)) (@jm _ _ _ _ _ _ _ ju (pv 5) jc (fun _ _=>rfl)) rfl) (jd (@jY _ _ _ _ _ _ _ _ _ (jM hr) (@jX _ _ _ _ _ _ (jM hr) (pv 3) ji (fun _ _=>rfl)) (@jm _ _ _ _ _ _ _ ju (pv 5) jc (fun _ _=>rfl)) (@jm _ _ _ _ _ _ _ ju (pv 5) jc (fun _ _=>rfl)) rfl) (jj (jv (@qm _ _ _ _))))))) jq) (jd (jy (@jp _ _ _ _ _ _ _ _ jD (@jm _ _ _ _ _ _ _ ju (pv 1) jc (fun _ _=>rfl)) ji (nomark _)) (jd (jo (i:=6) scDR.nd rfl (Or.inl rfl) (jh GW hr.m rfl mW kW bW .nil pass0 (ja (@jm _ _ _ _ _ _ _ ju (pv 1) jc (fun _ _=>rfl)) (ja (pv 2) jb)))) (jd (@jY _ _ _ _ _ _ _ _ _ (jM hr) (pv 2) (@jm _ _ _ _ _ _ _ ju (pv 1) jc (fun _ _=>rfl)) (@qW _ _ _ _ _ _ _ _ _ (jM hr) (@jX _ _ _ _ _ _ (jM hr) (pv 3) ji (fun _ _=>rfl)) (pv 6) jc ⟨by rfl,by rfl,by rfl,by rfl⟩) rfl) (jj (jv (jh GT hr.m rfl mT kT bT .nil pass0 (ja (pv 3) (ja (jk (ja ji (ja (pv 6) (ja (@jX _ _ _ _ _ _ (jM hr) (pv 2) (@jm _ _ _ _ _ _ _ ju (pv 1) jc (fun _ _=>rfl)) (fun _ _=>rfl)) jb)))) jb))))))) jq) (jd (jo (i:=7) scDR.nd rfl (Or.inl rfl) (@jF _ _ _ _ _ _ _ _ _ jL rfl mtu boot_tuple (ja (@zc _ _ _ _ _ _ _ (["_law_term_here","_law_held"]) (1) ([2]) _ _ _ _ rfl (@zI _ _ _ _ (@jm _ _ _ _ _ _ _ ju (pv 1) jc (fun _ _=>rfl))) cs_dr1 (fun _ _ _ _ _=>(jx (i:=0) nd_dr1 rfl (Or.inl rfl))) (fun _ _ _ _ _=>(@zw _)) (fun _ _ _ _ _=>(jh GW hr.m rfl mW kW bW .nil pass0 (ja (pv 0) (ja (pv 1) jb)))) (by intro _;rfl)) jb) (by decide) (by decide) (by rfl) (by rfl))) (jd (jy (@zp _ _ _ _ (@ky _ _ _ (jh GT hr.m rfl mT kT bT .nil pass0 (ja (pv 3) (ja (jk (ja ji (ja (@jm _ _ _ _ _ _ _ ju (pv 1) jc (fun _ _=>rfl)) (ja (pv 7) jb)))) jb))) (by intro _;rfl))) (jj (jv (@qm _ _ _ _))) jq) (jd (jy (@jp _ _ _ _ _ _ _ _ jD (pv 4) jc (nomark _)) (jd (@jY _ _ _ _ _ _ _ _ _ (jM hr) (pv 3) ji ji rfl) (jj (jv (@qm _ _ _ _)))) jq) (jd (@jY _ _ _ _ _ _ _ _ _ (jM hr) (pv 2) (@jm _ _ _ _ _ _ _ ju (pv 1) jc (fun _ _=>rfl)) (jh GF hr.m rfl mF kF bF .nil pass0 (ja (pv 0) (ja (@jm _ _ _ _ _ _ _ ju (pv 1) jc (fun _ _=>rfl)) (ja (pv 7) (ja (pv 3) (ja (jw jO (pv 4) jc) jb)))))) rfl) (jj (jv (@j5 _ _ _ _ _ _ _ _ jD (@jX _ _ _ _ _ _ (jM hr) (pv 3) ji (fun _ _=>rfl)) ji (nomark _)))))))))),?_⟩
 try dsimp only[cxOf,Cx.nox,Cx.wish]
 have big:=line24
 cases l with
 |set y T=>cases hlt
 |gv T=>cases hlt
 |wr T U=>
  obtain⟨_,pt,pu,e0,h1,hT,hU⟩:=hlf
  cases e0
  obtain⟨⟨d1,ys,d2⟩,d3,zs,d4⟩:=okl
  refine seqF fun F1 f1=>⟨_,rfl,oA,_,_,_,rfl,rfl,SqT.of h1,rfl,rfl,_,rfl,ifY (by decide+kernel) ?_⟩
  clear f1
  refine seqF fun F1 f1=>⟨_,rfl,oA,_,_,_,rfl,rfl,SqT.of h1,rfl,_,rfl,pt,kA,T,ys,h,rfl,hT,d1,d2,R.kh,R.gh,fun H1 s1=>⟨_,rfl,oA,_,_,_,rfl,rfl,SqT.of (s1 _ _ h1),rfl,_,rfl,pu,kA,U,zs,h,rfl,(hU.same s1),d3,d4,(s1 _ _ R.kh),R.gh,fun H2 s2=>⟨sz3,fun en nen=>f1 _ _ ?_⟩⟩⟩
  clear f1
  have s3:Same H (upd H2 en (.tup [.str "write",.int (T.ev h),.int (U.ev h)])):=(s1.trans s2).trans (jg nen)
  have xen:upd H2 en (.tup [.str "write",.int (T.ev h),.int (U.ev h)]) en=some (.tup [.str "write",.int (T.ev h),.int (U.ev h)]):=je
  generalize upd H2 en (.tup [.str "write",.int (T.ev h),.int (U.ev h)])=H3 at s3 xen
  have R3:=R.same s3
  clear s1 s2 nen
  refine seqF fun F1 f1=>⟨_,rfl,_,rfl,C,sA,hA,wA,gA,L,t,m,_,rfl,R3.sx,R3.tm,R3.mm,fun et H4 S4 f4=>⟨_,rfl,ifY rfl ?_⟩,fun lt H4 S4 f4 w4=>⟨_,rfl,ifX rfl (f1 _ _ ?_)⟩⟩
  ·exact qS "long" L t H4 (.inl ⟨zj hx rfl (by omega),rfl⟩) S4 ((Fk.of_same s3).trans f4.k)
  clear f1
  obtain⟨k',rfl,hx'⟩:=ex_wr hx lt
  have tm4:=f4.tm R3.sx
  have en4:=tm4 _ _ xen
  obtain⟨HD,g1,g2,g3,g4⟩:=R3.sx.ho
  have i1:H4 hA=some (.dK HD):=w4 _ _ (Ne.symm R3.sx.n1) (Ne.symm R3.sx.n1) (Ne.symm R3.sx.n1) (jz g1 (Classical.choose_spec R3.sx.lg).1 (by intro z;cases z)) g1
  have lL:=R3.sx.lL
  have mm3:=R3.mm
  have gs:DGet H4 sA (V.str "holds") (some (.ref hA)):=DGet.k (k:=.inr "holds") S4.st
  refine seqF fun F1 f1=>⟨_,rfl,en,_,_,_,rfl,rfl,SqT.of en4,rfl,_,rfl,sA,_,rfl,gs,_,rfl,en,_,_,_,rfl,rfl,SqT.of en4,rfl,hA,_,rfl,DPut.k (k:=.inl (T.ev h)) i1 (by omega),f1 _ _ ?_⟩
  clear f1
  have S5:=S4.write lL i1 g2 g3 g4 (c:=T.ev h) (zD R.gh d4)
  have nx:∀(b:Addr),b≠hA->upd H4 hA (.dK (putK HD (.inl (T.ev h)) (.int (U.ev h)))) b=H4 b:=fun b e=>jf e
  have gw:DGet (upd H4 hA (.dK (putK HD (.inl (T.ev h)) (.int (U.ev h))))) sA (V.str "wrote") (some (.ref wA)):=DGet.k (k:=.inr "wrote") ((nx sA S4.n1).trans S4.st)
  have en5:upd H4 hA (.dK (putK HD (.inl (T.ev h)) (.int (U.ev h)))) en=some (.tup [.str "write",.int (T.ev h),.int (U.ev h)]):=(nx en (jz en4 i1 (by intro z;cases z))).trans en4
  refine seqF fun F1 f1=>⟨_,rfl,en,_,_,_,rfl,rfl,SqT.of en5,rfl,_,rfl,sA,_,rfl,gw,_,rfl,en,_,_,_,rfl,rfl,SqT.of en5,rfl,wA,_,rfl,DPut.k (k:=.inl (T.ev h)) ((nx wA (Ne.symm S4.n3)).trans S4.wr) (by omega),f1 _ _ ?_⟩
  clear f1
  have F5:Fr sA hA wA gA H4 (upd (upd H4 hA (.dK (putK HD (.inl (T.ev h)) (.int (U.ev h))))) wA (.dK (putK L (.inl (T.ev h)) (.int (U.ev h))))):=fun b o _ n2 n3 _ e=>by rw[jf n3,jf n2];exact e
  have F35:=f4.trans F5
  exact qO h _ (t+1) k' _ (R3.turn S5 F35 (by omega) (by omega)) hx' (by omega) ((Fk.of_same s3).trans F35.k)
 |rd y T=>
  obtain⟨_,pt,e0,h1,hT⟩:=hlf
  cases e0
  obtain⟨d1,ys,d2⟩:=okl
  refine seqF fun F1 f1=>⟨_,rfl,oA,_,_,_,rfl,rfl,SqT.of h1,rfl,rfl,_,rfl,ifX (by decide+kernel) (f1 _ _ ?_)⟩
  clear f1
  refine seqF fun F1 f1=>⟨_,rfl,oA,_,_,_,rfl,rfl,SqT.of h1,rfl,rfl,_,rfl,ifY (by decide+kernel) ?_⟩
  clear f1
  refine seqF fun F1 f1=>⟨_,rfl,oA,_,_,_,rfl,rfl,SqT.of h1,rfl,_,rfl,pt,kA,T,ys,h,rfl,hT,d1,d2,R.kh,R.gh,fun H1 s1=>f1 _ _ ?_⟩
  clear f1
  have R1:=R.same s1
  obtain⟨HD,g1,g2,g3,g4⟩:=R1.sx.ho
  have gs:DGet H1 sA (V.str "holds") (some (.ref hA)):=DGet.k (k:=.inr "holds") R1.sx.st
  have vv:(valV HD (.inl (T.ev h))).getD (.int 0)= .int (look L (.inl (T.ev h)) (look C (.inl (T.ev h)) 0)):=by rw[qY g2,g4]
  have iv:InT (look L (.inl (T.ev h)) (look C (.inl (T.ev h)) 0)):=by rw[<- g4];exact JH g2 qM
  have lh:=R1.lh
  refine seqF fun F1 f1=>⟨_,rfl,sA,_,rfl,gs,hA,rfl,.inl ⟨HD,.inl g1⟩,_,rfl,_,DGet.k (k:=.inl (T.ev h)) g1,?_⟩
  rw[vv]
  refine⟨_,rfl,_,rfl,oA,_,_,_,rfl,rfl,SqT.of (s1 _ _ h1),rfl,kA,_,rfl,DPut.k (k:=.inr y) R1.kh (by omega),f1 _ _ ?_⟩
  clear f1
  have v2:InT (look L (.inl (T.ev h)) (look C (.inl (T.ev h)) 0)):=iv
  generalize hvv:look L (.inl (T.ev h)) (look C (.inl (T.ev h)) 0)=vl at*
  have S2:=R1.sxk (.dK (putK h (.inr y) (.int vl)))
  have gk:DGet (upd H1 kA (.dK (putK h (.inr y) (.int vl)))) kA (V.str y) (some (.int vl)):=by
   have:=DGet.k (k:=.inr y) (je (H:=H1) (a:=kA) (o:=.dK (putK h (.inr y) (.int vl))))
   rw[J1,if_pos rfl]at this
   exact this
  have o2:upd H1 kA (.dK (putK h (.inr y) (.int vl))) oA=some (.tup [.str "read",.str y,.ref pt]):=(jf (jz (s1 _ _ h1) R1.kh (by intro z;cases z))).trans (s1 _ _ h1)
  refine⟨_,rfl,_,rfl,_,rfl,_,rfl,oA,_,_,_,rfl,rfl,SqT.of o2,rfl,kA,_,rfl,gk,sz3,fun en nen=>?_⟩
  have s3:=jg (o:=.tup [.str "read",.int (T.ev h),.int vl]) nen
  refine⟨C,sA,hA,wA,gA,L,t,m,_,rfl,S2.same s3,R1.tm,R1.mm,fun et H4 S4 f4=>?_,fun lt H4 S4 f4 _=>?_⟩
  ·exact qS "long" L t H4 (.inl ⟨zj hx rfl (by omega),rfl⟩) S4 ((((Fk.of_same s1).trans (JY _)).trans (Fk.of_same s3)).trans f4.k)
  ·obtain⟨k',rfl,hx'⟩:=ex_rd hx lt
   rw[hvv]at hx'
   have R2:=(R1.put (x:=y) (k':=k') v2 (Nat.le_refl _)).same s3
   exact qO _ L (t+1) k' H4 (R2.turn S4 f4 (by omega) (Nat.le_refl _)) hx' (by omega) ((((Fk.of_same s1).trans (JY _)).trans (Fk.of_same s3)).trans f4.k)
 |cl y g ts=>
  obtain⟨_,q0,vs,e0,h1,h2,h3⟩:=hlf
  cases e0
  obtain⟨okt,lts⟩:=okl
  have lvs:=h3.len
  refine seqF fun F1 f1=>⟨_,rfl,oA,_,_,_,rfl,rfl,SqT.of h1,rfl,rfl,_,rfl,ifX (by decide+kernel) (f1 _ _ ?_)⟩
  clear f1
  refine seqF fun F1 f1=>⟨_,rfl,oA,_,_,_,rfl,rfl,SqT.of h1,rfl,rfl,_,rfl,ifX (by decide+kernel) (f1 _ _ ?_)⟩
  clear f1
  refine seqF fun F1 f1=>⟨_,rfl,oA,_,_,_,rfl,rfl,SqT.of h1,rfl,q0,rfl,⟨_,SqT.of h2⟩,?_⟩
  refine zv (K:=K) (xs:=vs) (by omega) (fun i zs H'=>zs=((ts.take i).map (Tm.ev h)).map V.int/\Same H H') ⟨rfl,Same.refl H⟩ (fun i zs H' hh=>⟨SqT.of (hh.2 _ _ h2),by rw[hh.1,List.length_map,List.length_map,List.length_take];omega⟩) ?_ ?_
  ·clear f1
   intro i x zs H' hxx hh
   obtain⟨rfl,s⟩:=hh
   obtain⟨T,p,hTi,rfl,hT⟩:=h3.at i x hxx
   obtain⟨d1,ys,d2⟩:=okt T (List.mem_of_getElem? hTi)
   refine⟨_,rfl,_,rfl,p,kA,T,ys,h,rfl,hT.same s,d1,d2,s _ _ R.kh,R.gh,fun H2 s2=>⟨?_,s.trans s2⟩⟩
   rw[List.take_succ,hTi,Option.toList_some,List.map_append,List.map_append]
   rfl
  intro zs H1 hh l1 nl1
  obtain⟨rfl,s1⟩:=hh
  rw[lvs,List.take_of_length_le (Nat.le_refl _)]at*
  refine⟨l1,_,rfl,.inl ⟨SqL.of je,fun aa naa=>f1 _ _ ?_⟩⟩
  clear f1
  have s2:Same H (upd (upd H1 l1 (.lst ((ts.map (Tm.ev h)).map V.int))) aa (.tup ((ts.map (Tm.ev h)).map V.int))):=(s1.trans (jg nl1)).trans (jg naa)
  have xaa:upd (upd H1 l1 (.lst ((ts.map (Tm.ev h)).map V.int))) aa (.tup ((ts.map (Tm.ev h)).map V.int)) aa=some (.tup ((ts.map (Tm.ev h)).map V.int)):=je
  generalize upd (upd H1 l1 (.lst ((ts.map (Tm.ev h)).map V.int))) aa (.tup ((ts.map (Tm.ev h)).map V.int))=H2 at s2 xaa
  clear s1 nl1 naa
  refine seqF fun F1 f1=>⟨_,rfl,_,rfl,oA,_,_,_,rfl,rfl,SqT.of (s2 _ _ h1),rfl,_,rfl,sz3,fun en nen=>?_⟩
  have s3:Same H (upd H2 en (.tup [.str "call",.str g,.ref aa])):=s2.trans (jg nen)
  have xa3:=keepN (o:=.tup [.str "call",.str g,.ref aa]) xaa nen
  generalize upd H2 en (.tup [.str "call",.str g,.ref aa])=H3 at s3 xa3
  clear s2 xaa nen
  have R3:=R.same s3
  refine⟨C,sA,hA,wA,gA,L,t,m,_,rfl,R3.sx,R3.tm,R3.mm,fun et H4 S4 f4=>⟨_,rfl,ifY rfl ?_⟩,fun lt H4 S4 f4 _=>⟨_,rfl,ifX rfl (f1 _ _ ?_)⟩⟩
  ·exact qS "long" L t H4 (.inl ⟨zj hx rfl (by omega),rfl⟩) S4 ((Fk.of_same s3).trans f4.k)
  clear f1
  have tm4:=f4.tm R3.sx
  have F4:Fk kA sA hA wA gA H H4:=(Fk.of_same s3).trans f4.k
  have o4:=tm4 _ _ (s3 _ _ h1)
  have dp:=R.dp
  refine seqF fun F1 f1=>⟨_,rfl,rfl,_,rfl,?_⟩
  rcases YR hx lt with ⟨rfl,rfl⟩ | ⟨n',k1,d,oo,rfl,hf,hl,hk1,c1,c2⟩
  ·have e15:deep=15:=by omega
   refine ifY (by rw[e15];rfl) ?_
   clear f1
   refine seqF fun F1 f1=>⟨_,rfl,sA,_,rfl,DPut.k (k:=.inr "word") S4.st (by show 6 < sizeLine;omega),f1 _ _ ?_⟩
   exact qS "deep" L (t+1) _ (.inr ⟨rfl,rfl⟩) (S4.put (Nat.le_refl _) "deep") (F4.trans (fun b o _ n1 _ _ _ e=>by rw[jf n1];exact e))
  have ne15:deep≠15:=by omega
  refine ifX (decide_eq_false (fun z=>ne15 (by injection z))) (f1 _ _ ?_)
  clear f1
  have eF:=hF n' rfl
  subst eF
  have iT:∀i∈ts.map (Tm.ev h),InT i:=fun i hi=>by
   obtain⟨T,hT,rfl⟩:=List.mem_map.mp hi
   obtain⟨_,ys,d2⟩:=okt T hT
   exact zD R.gh d2
  have R4:=R3.turn S4 f4 (k':=k) (by omega) (Nat.le_refl _)
  have lh:=R4.lh
  refine seqF fun F1 f1=>⟨_,rfl,_,rfl,oA,_,_,_,rfl,rfl,SqT.of o4,rfl,_,rfl,_,rfl,_,rfl,_,_,rfl,rfl,C,P0,pA,aa,sA,hA,wA,gA,g,d,ts.map (Tm.ev h),L,t+1,k1,m,deep+1,oo,rfl,by omega,R4.pr,R4.fp,hf,tm4 _ _ xa3,iT,by rw[List.length_map];exact hl,S4,by omega,R3.mm,c1,hk1,?_,?_⟩
  ·intro a L5 t5 H5 eo S5 l5 ia f5
   rcases c2 with ⟨z,_⟩ | ⟨z,_⟩ | ⟨a1,L1,t1,k',z,rfl,hx'⟩
   ·rw[eo]at z;cases z
   ·rw[eo]at z;cases z
   rw[eo]at z
   cases z
   have R5:=R4.turn S5 f5 (k':=k'+1) l5 (Nat.le_refl _)
   have R6:=R5.put (x:=y) (k':=k') ia (Nat.le_refl _)
   have gw:DGet (upd H5 kA (.dK (putK h (.inr y) (.int a)))) sA (V.str "word") (some (.str "told")):=DGet.k (k:=.inr "word") R6.sx.st
   refine⟨_,rfl,_,rfl,oA,_,_,_,rfl,rfl,SqT.of (f5.tm S4 _ _ o4),rfl,kA,_,rfl,DPut.k (k:=.inr y) R5.kh (by omega),f1 _ _ ?_⟩
   refine⟨_,rfl,sA,_,rfl,gw,rfl,?_⟩
   have q7:=qO _ L5 t5 k' _ R6 hx' (by omega) (F4.trans (f5.k.trans (JY _)))
   rw[show decide (V.str "told"=V.str "told")=true from by decide+kernel]
   exact q7
  ·intro w L5 t5 H5 ew S5 f5
   have kh5:=f5 _ _ R4.k1 R4.k2 R4.k3 R4.ng R4.kh
   have S6:=S5.oth R4.k1 R4.k2 R4.k3 R4.ng (.dK (putK h (.inr y) .non))
   have gw:DGet (upd H5 kA (.dK (putK h (.inr y) .non))) sA (V.str "word") (some (.str w)):=DGet.k (k:=.inr "word") S6.st
   refine⟨_,rfl,_,rfl,oA,_,_,_,rfl,rfl,SqT.of (f5.tm S4 _ _ o4),rfl,kA,_,rfl,DPut.k (k:=.inr y) kh5 (by omega),f1 _ _ ?_⟩
   refine⟨_,rfl,sA,_,rfl,gw,rfl,?_⟩
   have FF:=F4.trans ((f5.k (kA:=kA)).trans (JY (.dK (putK h (.inr y) .non))))
   rcases ew with ⟨eo,rfl⟩ | ⟨eo,rfl⟩
   ·have eo2:o= .long:=by
     rcases c2 with ⟨_,z⟩ | ⟨z,_⟩ | ⟨a1,L1,t1,k',z,_⟩
     ·exact z
     ·rw[eo]at z;cases z
     ·rw[eo]at z;cases z
    have q7:=qS "long" L5 t5 _ (.inl ⟨eo2,rfl⟩) S6 FF
    rw[show decide (V.str "long"=V.str "told")=false from by decide+kernel]
    exact q7
   ·have eo2:o= .deep:=by
     rcases c2 with ⟨z,_⟩ | ⟨_,z⟩ | ⟨a1,L1,t1,k',z,_⟩
     ·rw[eo]at z;cases z
     ·exact z
     ·rw[eo]at z;cases z
    have q7:=qS "deep" L5 t5 _ (.inr ⟨eo2,rfl⟩) S6 FF
    rw[show decide (V.str "deep"=V.str "told")=false from by decide+kernel]
    exact q7
theorem Xl{K:Frag}{a:Addr}{xs:List V}{tt:TT}{te:TE}{Qf:List V->Hp->Prop}{σt:L2.St}{H:Hp}(hz:xs.length<=sizeLine)(Pv:Nat->List V->Hp->Prop)(h0:Pv 0 [] H)
  (hk:∀i ys H',Pv i ys H'->SqT K H' a xs/\ys.length<=i) (hs:∀i x ys H',xs[i]?=some x->Pv i ys H'->tt (some x::σt) H' fun b H2=>if b=true then te (some x::σt) H2 fun y H3=>Pv (i+1) (ys++[y]) H3 else Pv (i+1) ys H2) (hd:∀ys H',Pv xs.length ys H'->Qf ys H'):
  CompR (Itt K a) 1 σt (gName 0) tt te Qf H:=by
 refine⟨fun i m ys H'=>m=xs.length - i/\i<=xs.length/\Pv i ys H',⟨xs.length,by simp,Nat.zero_le _,h0⟩,?_⟩
 intro i m ys H' hq'
 refine opq fun Gq kq=>?_
 obtain⟨rfl,hi,p⟩:=hq'
 refine kq ?_
 clear kq
 obtain⟨hq,hy⟩:=hk i ys H' p
 by_cases hlt:i < xs.length
 ·refine .inr ⟨⟨xs,xs[i],hq,List.getElem?_eq_getElem hlt⟩,by omega,Pv (i+1),fun ys' H2 p'=>⟨xs.length - (i+1),by omega,rfl,hlt,p'⟩,fun v H2 ts hts y=>?_⟩
  obtain⟨e,y⟩:=y
  subst e
  obtain⟨w,rfl⟩:=len1 hts
  exact⟨⟨[some _],rfl,rfl⟩,hs i v ys H2 (y xs hq) p⟩
 ·have e:i=xs.length:=by omega
  subst e
  exact .inl ⟨⟨xs,hq,Nat.le_refl _⟩,hd ys H' p⟩
theorem ql{ds:List Df}{d:Df}{f:Str}:findD (ds++[d]) f=(findD ds f).or (if d.f=f then some d else none):=by
 unfold findD
 rw[List.find?_append]
 congr 1
 by_cases e:d.f=f
 ·rw[if_pos e,List.find?_cons,decide_eq_true e]
 ·rw[if_neg e,List.find?_cons,decide_eq_false e];rfl
theorem JJ:∀a:Bd,a.app .nil=a
 | .nil=>rfl
 | .lf l r=>by show Bd.lf l (r.app .nil)=_;rw[JJ r]
 | .ite T x y r=>by show Bd.ite T x y (r.app .nil)=_;rw[JJ r]
 | .loop T x r=>by show Bd.loop T x (r.app .nil)=_;rw[JJ r]
def Fst(H:Hp)(P:List Df)(f:Str)(zs:List V):Prop:=(zs=[]/\findD P f=none)∨∃v zs' d,zs=v::zs'/\findD P f=some d/\DfV H v d
theorem scFR:FnScope ["_law_program","_law_f","_law_args","_law_state","_law_deep","_law_name","_law_params","_law_body_here","_law_found"] ["_law_program","_law_f","_law_args","_law_state","_law_deep"] (defScope sFR):=fsc
noncomputable def YF:Scope:=⟨.function,[(".0",.local),("_law_one",.local),("_law_f",.free)],false,false,[]⟩
theorem nd_fr1:(["_law_one","_law_f"]:List Str).Nodup:=by decide+kernel
theorem cs_fr1:CompSc ["_law_program","_law_f","_law_args","_law_state","_law_deep","_law_name","_law_params","_law_body_here","_law_found"] (defScope sFR) YF ["_law_one","_law_f"] 1 [1]:=csc
theorem ok_fr{f:Addr}{fd:FuncData}{fB:Addr}{fdB:FuncData}(F:Fun K "_law_def_run" "_law_def_run" sFR f fd){n:Nat}(GB:FnOk P w K mg base CX0 (13*n+21) fB fdB ["_law_program","_law_body_here","_law_held","_law_state","_law_deep"] (spBR n 6))(bB:Binds K fdB ["_law_program","_law_body_here","_law_held","_law_state","_law_deep"] [])(kB:keepIn K (.ref fB)=true)(mB:mg "_law_body_run"=some (.ref fB))(mi:mg "int"=none)(mdi:mg "dict"=none)(mzi:mg "zip"=none):FnOk P w K mg base CX0 (13*n+22) f fd ["_law_program","_law_f","_law_args","_law_state","_law_deep"] (spFR n):=by
 refine F.ok scFR (fun vs H Q E h=>?_) (fun cdv A outer s H vs Q E hr h=>?_)
 ·refine opq fun Gq kq=>?_
  obtain⟨C,P0,pA,ag,sA,hA,wA,gA,f,d,is,L,t,k,m,deep,o,rfl,_⟩:=h
  refine kq ?_
  clear kq
  rfl
 refine opq fun Gq kq=>?_
 obtain⟨C,P0,pA,ag,sA,hA,wA,gA,f,d,is,L,t,k,m,deep,o,rfl,hdp,hpr,hfp,hf,hag,his,hl,S,htm,hm,hx,hk6,qD,qS⟩:=h
 refine kq ?_
 clear kq
 refine⟨_,(jd (@kE _ _ _ _ _ _ (@jm _ _ _ _ _ _ _ jr (@zc _ _ _ _ _ _ _ (["_law_one","_law_f"]) (1) ([1]) _ _ _ _ rfl (@zI _ _ _ _ (pv 0)) cs_fr1 (fun _ _ _ _ _=>(jx (i:=0) nd_fr1 rfl (Or.inl rfl))) (fun _ _ _ _ _=>(@pf_one _ _ _ (@jp _ _ _ _ _ _ _ _ jD (@jm _ _ _ _ _ _ (rIxT K) ju (pv 0) jc (fun _ _=>rfl)) (pv 1) (nomark _)))) (fun _ _ _ _ _=>(pv 0)) (by intro _;rfl)) jc (fun _ _=>rfl)) (@zX _ _ _ _ _ (3) rfl (jE (jx (i:=5) scFR.nd rfl (Or.inl rfl)) (jE (jx (i:=6) scFR.nd rfl (Or.inl rfl)) (jE (jx (i:=7) scFR.nd rfl (Or.inl rfl)) zi))) (by rfl) (by rfl)) (by rfl) (by rfl) (by rfl)) (jd (jo (i:=8) scFR.nd rfl (Or.inl rfl) (jh GB hr.m rfl mB kB bB .nil pass0 (ja (pv 0) (ja (pv 7) (ja (@XH _ _ _ _ _ _ _ _ rfl mdi rfl mzi rfl (ja (pv 6) (ja (pv 2) jb)) (by rfl) (by rfl) (by rfl) (by rfl)) (ja (pv 3) (ja (pv 4) jb))))))) (jd (jy (@jp _ _ _ _ _ _ _ _ jD (@jm _ _ _ _ _ _ _ ju (pv 8) jc (fun _ _=>rfl)) ji (nomark _)) (jj (jv (@jm _ _ _ _ _ _ _ ju (pv 8) jc (fun _ _=>rfl)))) jq) (jj (jv (@jm _ _ _ _ _ _ _ jr (jH (ja (@QP _ _ _) (ja jc jb))) (@jF _ _ _ _ _ _ _ _ _ jV rfl mi boot_int (ja (@j5 _ _ _ _ _ _ _ _ jD (@jm _ _ _ _ _ _ _ ju (pv 8) jc (fun _ _=>rfl)) ji (nomark _)) jb) (by decide) (by decide) (by rfl) (by rfl)) (fun _ _=>rfl))))))),?_⟩
 try dsimp only[cxOf,Cx.nox,Cx.wish]
 have big:=line24
 obtain⟨xs,hpA,hxs⟩:=hpr.at'
 have few:=hpr.few d (zd hf)
 have lxs:=hxs.len
 have fp1:=hfp.1
 refine seqF fun F1 f1=>⟨_,rfl,pA,rfl,⟨_,SqT.of hpA⟩,?_⟩
 refine Xl (K:=K) (xs:=xs) (by omega) (fun i zs H'=>H'=H/\zs.length<=i/\Fst H (P0.take i) f zs) ⟨rfl,Nat.le_refl _,.inl ⟨rfl,rfl⟩⟩ (fun i zs H' hh=>⟨by rw[hh.1];exact SqT.of hpA,hh.2.1⟩) ?_ ?_
 ·clear f1
  intro i x zs H' hxx hh
  obtain⟨rfl,hz,hF⟩:=hh
  obtain⟨e,he,hv⟩:=hxs.at i x hxx
  obtain⟨q0,qa,qb,qs,rfl,h1,h2⟩:=id hv
  have et:P0.take (i+1)=P0.take i++[e]:=by rw[List.take_succ,he];rfl
  refine⟨_,rfl,q0,_,_,_,rfl,rfl,SqT.of h1,rfl,_,rfl,rfl,_,rfl,?_⟩
  by_cases c:e.f=f
  ·refine ifY (by rw[c];exact decide_eq_true rfl) ⟨_,rfl,rfl,by rw[List.length_append];exact Nat.succ_le_succ hz,?_⟩
   unfold Fst
   rw[et,ql,if_pos c]
   rcases hF with ⟨rfl,hn⟩ | ⟨v,zs',d',rfl,hn,hv'⟩
   ·rw[hn];exact .inr ⟨_,[],e,rfl,rfl,hv⟩
   ·rw[hn];exact .inr ⟨v,_,d',rfl,rfl,hv'⟩
  ·refine ifX (decide_eq_false (fun z=>c (by injection z))) ⟨rfl,by omega,?_⟩
   unfold Fst
   rw[et,ql,if_neg c,Option.or_none]
   exact hF
 intro zs H' hh l nl
 obtain⟨rfl,hz,hF⟩:=hh
 rw[lxs,List.take_of_length_le (Nat.le_refl _)]at hF
 rcases hF with ⟨_,hn⟩ | ⟨v,zs',d',rfl,hn,q0,pa,pb,bs,rfl,h1,h2,h3,h4⟩
 ·rw[hf]at hn;cases hn
 rw[hf]at hn
 cases hn
 refine⟨l,_,_,_,rfl,rfl,SqL.of je,at0,q0,_,rfl,SqT.of (keepN h1 nl),rfl,_,_,rfl,_,_,rfl,_,_,rfl,rfl,f1 _ _ ?_⟩
 clear f1
 have s1:=jg (o:=.lst (V.ref q0::zs')) nl
 generalize upd H' l (.lst (V.ref q0::zs'))=H1 at s1
 have hk:=JI d.ps is [] his K12.GT.nil
 refine seqF fun F1 f1=>⟨_,rfl,_,rfl,_,rfl,_,rfl,pa,ag,d.ps.map Sum.inr,is.map V.int,rfl,SqT.of (by rw[List.map_map];exact s1 _ _ h2),SqT.of (s1 _ _ hag),by rw[List.length_map,List.length_map];exact hl,fun kA nkA=>?_⟩
 have s2:Same H' (upd H1 kA (.dK (heldOf d.ps is))):=s1.trans (jg nkA)
 have xk:upd H1 kA (.dK (heldOf d.ps is)) kA=some (.dK (heldOf d.ps is)):=je
 have nk0:H' kA=none:=by
  cases z:H' kA with
  |none=>rfl
  |some o=>rw[s1 _ _ z]at nkA;cases nkA
 obtain⟨HD,o1,o2⟩:=S.ho
 have nks:kA≠sA:=Ne.symm (jl (s1 _ _ S.st) nkA)
 have nkh:kA≠hA:=Ne.symm (jl (s1 _ _ o1) nkA)
 have nkw:kA≠wA:=Ne.symm (jl (s1 _ _ S.wr) nkA)
 have FF:∀{H3:Hp},Fk kA sA hA wA gA (upd H1 kA (.dK (heldOf d.ps is))) H3->Fr sA hA wA gA H' H3:=fun f b o n1 n2 n3 n4 e=>f b o (jl e nk0) n1 n2 n3 n4 (s2 _ _ e)
 refine⟨_,rfl,_,rfl,C,P0,pb,pA,kA,sA,hA,wA,gA,bs,d.body,.nil,heldOf d.ps is,L,t,k,m,deep,o,rfl,⟨hdp,hpr.mono (Same.tm s2),S.same s2,xk,hk.1,nks,nkh,nkw,by have e:=hk.2;have e2:(heldOf d.ps is).length<=0+d.ps.length:=e;omega,htm,hm,hk6,hfp⟩,s2 _ _ h3,h4.mono (Same.tm s2),few.2.2,Nat.lt_succ_of_le (hfp.2 d (zd hf)),by rw[JJ];exact hx,?_,?_,?_⟩
 ·intro h' L' t' k' H3 R3 x3 l3 f3 rr hrr
  refine f1 _ _ ?_
  clear f1
  refine seqF fun F1 f1=>⟨_,rfl,rr,_,_,_,rfl,rfl,SqT.of hrr,rfl,rfl,_,rfl,ifX (by decide+kernel) (f1 _ _ ?_)⟩
  clear f1
  refine⟨sz2,fun l2 nl2=>⟨_,rfl,rr,_,_,_,rfl,rfl,SqT.of (keepN hrr nl2),rfl,rfl,.inr ⟨_,rfl,l2,_,_,_,rfl,rfl,SqL.of je,at1,?_⟩⟩⟩
  exact qD 0 L' t' _ (Y9 x3) (R3.sx.same (jg nl2)) R3.tm qM ((FF f3).trans (Fr.of_same (jg nl2)))
 ·intro w L' t' H3 ew S3 f3 rr hrr
  refine f1 _ _ ?_
  clear f1
  refine seqF fun F1 f1=>⟨_,rfl,rr,_,_,_,rfl,rfl,SqT.of hrr,rfl,rfl,_,rfl,ifX (by decide+kernel) (f1 _ _ ?_)⟩
  clear f1
  refine⟨sz2,fun l2 nl2=>⟨_,rfl,rr,_,_,_,rfl,rfl,SqT.of (keepN hrr nl2),rfl,rfl,.inr ⟨_,rfl,l2,_,_,_,rfl,rfl,SqL.of je,at0,?_⟩⟩⟩
  exact qS w L' t' _ ew (S3.same (jg nl2)) ((FF f3).trans (Fr.of_same (jg nl2)))
 ·intro x L' t' H3 ew S3 ix f3 rr hrr
  refine f1 _ _ ?_
  clear f1
  refine seqF fun F1 f1=>⟨_,rfl,rr,_,_,_,rfl,rfl,SqT.of hrr,rfl,rfl,_,rfl,ifY (by decide+kernel) ⟨_,rfl,rr,_,_,_,rfl,rfl,SqT.of hrr,rfl,?_⟩⟩
  exact qD x L' t' _ ew S3 ((YU hx _ _ _ ew).2 htm) ix (FF f3)
def spVoid:Sp:=fun _ _ _ _=>False
theorem no_void{f:Addr}{fd:FuncData}{k:Nat}{ps:List Str}:FnOk P w K mg base CX0 k f fd ps spVoid:=⟨fun _ _ _ _ h=>absurd h id,fun _ _ _ _ _ _ _ _ _ _ _ _ _ h=>absurd h id⟩
theorem no_br{f:Addr}{fd:FuncData}{k n:Nat}:FnOk P w K mg base CX0 k f fd ["_law_program","_law_body_here","_law_held","_law_state","_law_deep"] (spBR n 0):=by
 have no:∀vs H Q E,¬spBR n 0 vs H Q E:=fun vs H Q E h=>by
  obtain⟨C,P0,bA,pA,kA,sA,hA,wA,gA,xs,a,r,h,L,t,k,m,deep,o,_,_,_,_,_,hd,_⟩:=h
  omega
 exact⟨fun vs H Q E h=>absurd h (no vs H Q E),fun A outer s H args us vs Q E _ _ _ _ h=>absurd h (no vs H Q E)⟩
variable {fB fL fD fF fW fT:Addr}{fdB fdL fdD fdF fdW fdT:FuncData}
theorem brs(GW:FnOk P w K mg base CX0 9 fW fdW ["_law_term_here","_law_held"] (spLW 8))(bW:Binds K fdW ["_law_term_here","_law_held"] [])(kW:keepIn K (.ref fW)=true)(mW:mg "_law_worth"=some (.ref fW))(GT:FnOk P w K mg base CX0 1 fT fdT ["_law_state","_law_entry"] spTurnL)(bT:Binds K fdT ["_law_state","_law_entry"] [])(kT:keepIn K (.ref fT)=true)(mT:mg "_law_turn"=some (.ref fT))(FB:Fun K "_law_body_run" "_law_body_run" sBR fB fdB)(bB:Binds K fdB ["_law_program","_law_body_here","_law_held","_law_state","_law_deep"] [])(kB:keepIn K (.ref fB)=true)(mB:mg "_law_body_run"=some (.ref fB))(FL:Fun K "_law_looped_run" "_law_looped_run" sLR fL fdL)(bL:Binds K fdL ["_law_program","_law_one","_law_held","_law_state","_law_deep"] [])(kL:keepIn K (.ref fL)=true)(mL:mg "_law_looped_run"=some (.ref fL)){n:Nat}(GD:FnOk P w K mg base CX0 (13*n+10) fD fdD ["_law_program","_law_one","_law_held","_law_state","_law_deep"] (spDR n))(bD:Binds K fdD ["_law_program","_law_one","_law_held","_law_state","_law_deep"] [])(kD:keepIn K (.ref fD)=true)(mD:mg "_law_deed_run"=some (.ref fD))(mi:mg "int"=none):
  ∀d:Nat,FnOk P w K mg base CX0 (13*n+2*d+9) fB fdB ["_law_program","_law_body_here","_law_held","_law_state","_law_deep"] (spBR n d)
 |0=>no_br
 |d+1=>ok_br FB GW bW kW mW GT bT kT mT GD bD kD mD (ok_lr FL GW bW kW mW GT bT kT mT (brs GW bW kW mW GT bT kT mT FB bB kB mB FL bL kL mL GD bD kD mD mi d) bB kB mB mi) bL kL mL (brs GW bW kW mW GT bT kT mT FB bB kB mB FL bL kL mL GD bD kD mD mi d) bB kB mB mi
theorem frs(GW:FnOk P w K mg base CX0 9 fW fdW ["_law_term_here","_law_held"] (spLW 8))(bW:Binds K fdW ["_law_term_here","_law_held"] [])(kW:keepIn K (.ref fW)=true)(mW:mg "_law_worth"=some (.ref fW))(GT:FnOk P w K mg base CX0 1 fT fdT ["_law_state","_law_entry"] spTurnL)(bT:Binds K fdT ["_law_state","_law_entry"] [])(kT:keepIn K (.ref fT)=true)(mT:mg "_law_turn"=some (.ref fT))(FB:Fun K "_law_body_run" "_law_body_run" sBR fB fdB)(bB:Binds K fdB ["_law_program","_law_body_here","_law_held","_law_state","_law_deep"] [])(kB:keepIn K (.ref fB)=true)(mB:mg "_law_body_run"=some (.ref fB))(FL:Fun K "_law_looped_run" "_law_looped_run" sLR fL fdL)(bL:Binds K fdL ["_law_program","_law_one","_law_held","_law_state","_law_deep"] [])(kL:keepIn K (.ref fL)=true)(mL:mg "_law_looped_run"=some (.ref fL))(FD:Fun K "_law_deed_run" "_law_deed_run" sDR fD fdD)(bD:Binds K fdD ["_law_program","_law_one","_law_held","_law_state","_law_deep"] [])(kD:keepIn K (.ref fD)=true)(mD:mg "_law_deed_run"=some (.ref fD))(FF:Fun K "_law_def_run" "_law_def_run" sFR fF fdF)(bF:Binds K fdF ["_law_program","_law_f","_law_args","_law_state","_law_deep"] [])(kF:keepIn K (.ref fF)=true)(mF:mg "_law_def_run"=some (.ref fF))(mi:mg "int"=none)(mtu:mg "tuple"=none)(mdi:mg "dict"=none)(mzi:mg "zip"=none):
  ∀n:Nat,FnOk P w K mg base CX0 (13*n+22) fF fdF ["_law_program","_law_f","_law_args","_law_state","_law_deep"] (spFR n)
 |0=>ok_fr FF (brs GW bW kW mW GT bT kT mT FB bB kB mB FL bL kL mL (ok_dr (spF:=spVoid) FD GW bW kW mW GT bT kT mT no_void bF kF mF (fun n' e=>by omega) mtu) bD kD mD mi 6) bB kB mB mi mdi mzi
 |n+1=>ok_fr FF (brs GW bW kW mW GT bT kT mT FB bB kB mB FL bL kL mL (ok_dr (n:=n+1) FD GW bW kW mW GT bT kT mT (frs GW bW kW mW GT bT kT mT FB bB kB mB FL bL kL mL FD bD kD mD FF bF kF mF mi mtu mdi mzi n) bF kF mF (fun n' e=>congrArg spFR (Nat.succ.inj e)) mtu) bD kD mD mi 6) bB kB mB mi mdi mzi
noncomputable abbrev sLP:Stmt:=top 47
def spLP:Sp:=fun vs H Q _=>∃(C:Tab) (P:List Df) (pA ag cA:Addr) (f:Str) (d:Df) (is:List Int) (k:Nat) (m:Int) (o:Out),vs=[.ref pA,.str f,.ref ag,.ref cA,.int m]/\Pr H pA P/\Fit P/\findD P f=some d/\H ag=some (.tup (is.map V.int))/\(∀i∈is,InT i)/\d.ps.length=is.length/\H cA=some (.dK C)/\K12.GT C/\C.length<=20/\0<=m/\m<=300/\Ex P C m 15 k d.body (heldOf d.ps is) [] 0 o/\k<=60000/\
 (∀a L' t' H' rr wA gA,o= .done a L' t'->H' rr=some (.tup [.str "told",.int a,.ref wA,.int (t':Int),.ref gA])->H' wA=some (.dK L')->K12.GT L'->L'.length<=300->Same H H'->Q (.ref rr) H')/\(∀(w:Str) H' rr v2 v3 v4 v5,(o= .long/\w="long"∨o= .deep/\w="deep")->H' rr=some (.tup [.str w,v2,v3,v4,v5])->Same H H'->Q (.ref rr) H')
theorem QV{H:Hp}{a b:Addr}{o:HO}(n:upd H a o b=none):b≠a:=fun e=>by rw[e,je]at n;cases n
theorem scLP:FnScope ["_law_program","_law_f","_law_args","_law_cells_here","_law_most","_law_state","_law_answer"] ["_law_program","_law_f","_law_args","_law_cells_here","_law_most"] (defScope sLP):=fsc
theorem ok_lp{f:Addr}{fd:FuncData}{fF:Addr}{fdF:FuncData}(F:Fun K "_law_plain" "_law_plain" sLP f fd)(GF:FnOk P w K mg base CX0 217 fF fdF ["_law_program","_law_f","_law_args","_law_state","_law_deep"] (spFR 15))(bF:Binds K fdF ["_law_program","_law_f","_law_args","_law_state","_law_deep"] [])(kF:keepIn K (.ref fF)=true)(mF:mg "_law_def_run"=some (.ref fF))(mdi:mg "dict"=none):FnOk P w K mg base CX0 218 f fd ["_law_program","_law_f","_law_args","_law_cells_here","_law_most"] spLP:=by
 refine F.ok scLP (fun vs H Q E h=>?_) (fun cdv A outer s H vs Q E hr h=>?_)
 ·refine opq fun Gq kq=>?_
  obtain⟨C,P0,pA,ag,cA,f,d,is,k,m,o,rfl,_⟩:=h
  refine kq ?_
  clear kq
  rfl
 refine opq fun Gq kq=>?_
 obtain⟨C,P0,pA,ag,cA,f,d,is,k,m,o,rfl,hpr,hfp,hf,hag,his,hl,hcA,hgc,hlc,hm0,hm,hx,hk6,qD,qS⟩:=h
 refine kq ?_
 clear kq
 refine⟨_,(jd (jo (i:=5) scLP.nd rfl (Or.inl rfl) (@pe_disp _ _ _ _ _ (@zM _ _ _ _ _ _ _ _ _ ji (@jF _ _ _ _ _ _ _ _ _ Jl rfl mdi boot_dict (ja (pv 3) jb) (by decide) (by decide) (by rfl) (by rfl)) (@zM _ _ _ _ _ _ _ _ _ ji (@J2 _ _) (@zM _ _ _ _ _ _ _ _ _ ji jc (@zM _ _ _ _ _ _ _ _ _ ji (pv 4) (@zM _ _ _ _ _ _ _ _ _ ji ji (@zM _ _ _ _ _ _ _ _ _ ji (jH jb) (@pps_nil _ _))))))) (by rfl) (by rfl) (by decide) (by decide))) (jd (jo (i:=6) scLP.nd rfl (Or.inl rfl) (jh GF hr.m rfl mF kF bF .nil pass0 (ja (pv 0) (ja (pv 1) (ja (pv 2) (ja (pv 5) (ja jc jb))))))) (jj (jv (jk (ja (@jX _ _ _ _ _ _ (jM hr) (pv 5) ji (fun _ _=>rfl)) (ja (pv 6) (ja (@jX _ _ _ _ _ _ (jM hr) (pv 5) ji (fun _ _=>rfl)) (ja (@jX _ _ _ _ _ _ (jM hr) (pv 5) ji (fun _ _=>rfl)) (ja (@jX _ _ _ _ _ _ (jM hr) (pv 5) ji (fun _ _=>rfl)) jb)))))))))),?_⟩
 try dsimp only[cxOf,Cx.nox,Cx.wish]
 have big:=line24
 refine seqF fun F1 f1=>fun sA nsA=>⟨_,rfl,cA,C,rfl,keepN hcA nsA,fun hA nhA wA nwA=>⟨_,rfl,Nat.zero_le _,fun gA ngA=>?_⟩⟩
 have d1:=QV nhA
 have d2:=QV nwA
 have d3:wA≠sA:=fun e=>by rw[e,jf (Ne.symm d1),je]at nwA;cases nwA
 have d4:=QV ngA
 have d5:gA≠hA:=fun e=>by rw[e,jf (Ne.symm d2),je]at ngA;cases ngA
 have d6:gA≠sA:=fun e=>by rw[e,jf (Ne.symm d3),jf (Ne.symm d1),je]at ngA;cases ngA
 have s0:Same H (upd (upd (upd (upd (upd H sA (.dK [])) hA (.dK C)) wA (.dK [])) gA (.lst [])) sA (.dK (stk hA wA 0 m "told" gA))):=fun b o e=>by
  rw[jf (jl e nsA)]
  exact keepN (keepN (keepN (keepN e nsA) nhA) nwA) ngA
 have S0:Sx C (upd (upd (upd (upd (upd H sA (.dK [])) hA (.dK C)) wA (.dK [])) gA (.lst [])) sA (.dK (stk hA wA 0 m "told" gA))) sA hA wA gA [] 0 m "told":=
  ⟨je,⟨C,by rw[jf d1,jf (Ne.symm d5),jf (Ne.symm d2),je],hgc,hlc,fun c=>rfl⟩,by rw[jf d3,jf (Ne.symm d4),je],⟨[],by rw[jf d6,je],Nat.le_refl _⟩,K12.GT.nil,Nat.le_refl _,Ne.symm d1,Ne.symm d3,Ne.symm d2⟩
 have nh:H hA=none:=by rw[jf d1]at nhA;exact nhA
 have nw:H wA=none:=by rw[jf d2,jf d3]at nwA;exact nwA
 have ng:H gA=none:=by rw[jf d4,jf d5,jf d6]at ngA;exact ngA
 refine⟨by rw[jf (Ne.symm d6),jf (Ne.symm d3),jf (Ne.symm d1),je],[(.inr "holds",.ref hA),(.inr "wrote",.ref wA),(.inr "turns",.int 0),(.inr "most",.int m),(.inr "word",.str "told"),(.inr "log",.ref gA)],rfl,(show 6<=15 by decide),?_⟩
 show F1 [some (.ref pA),some (.str f),some (.ref ag),some (.ref cA),some (.int m),some (.ref sA),none] (upd (upd (upd (upd (upd H sA (.dK [])) hA (.dK C)) wA (.dK [])) gA (.lst [])) sA (.dK (stk hA wA 0 m "told" gA)))
 generalize upd (upd (upd (upd (upd H sA (.dK [])) hA (.dK C)) wA (.dK [])) gA (.lst [])) sA (.dK (stk hA wA 0 m "told" gA))=H1 at s0 S0
 clear nhA nwA ngA
 refine f1 _ _ ?_
 clear f1
 have FS:∀{H3:Hp},Fr sA hA wA gA H1 H3->Same H H3:=fun f b o e=>f b o (jl e nsA) (jl e nh) (jl e nw) (jl e ng) (s0 _ _ e)
 have G:∀(w:Str) (L':Tab) (t':Nat) (H3:Hp),Sx C H3 sA hA wA gA L' t' m w->DGet H3 sA (V.str "word") (some (.str w))/\DGet H3 sA (V.str "wrote") (some (.ref wA))/\DGet H3 sA (V.str "turns") (some (.int (t':Int)))/\DGet H3 sA (V.str "log") (some (.ref gA)):=fun w L' t' H3 S=>⟨DGet.k (k:=.inr "word") S.st,DGet.k (k:=.inr "wrote") S.st,DGet.k (k:=.inr "turns") S.st,DGet.k (k:=.inr "log") S.st⟩
 refine seqF fun F1 f1=>⟨_,rfl,_,rfl,_,rfl,_,rfl,C,P0,pA,ag,sA,hA,wA,gA,f,d,is,[],0,k,m,0,o,rfl,rfl,hpr.mono (Same.tm s0),hfp,hf,s0 _ _ hag,his,hl,S0,hm0,hm,hx,hk6,fun a L' t' H3 eo S3 l3 ia f3=>f1 _ _ ?_,fun w L' t' H3 eo S3 f3=>f1 _ _ ?_⟩
 ·clear f1
  obtain⟨g1,g2,g3,g4⟩:=G _ _ _ _ S3
  refine⟨_,rfl,sA,_,rfl,g1,_,rfl,_,rfl,sA,_,rfl,g2,_,rfl,sA,_,rfl,g3,_,rfl,sA,_,rfl,g4,(by show 5<=sizeLine;decide),fun rr nrr=>?_⟩
  have l1:=S3.lL
  exact qD a L' t' _ rr wA gA eo je (keepN S3.wr nrr) S3.gL (by omega) ((FS f3).trans (jg nrr))
 ·clear f1
  obtain⟨g1,g2,g3,g4⟩:=G _ _ _ _ S3
  refine⟨_,rfl,sA,_,rfl,g1,_,rfl,_,rfl,sA,_,rfl,g2,_,rfl,sA,_,rfl,g3,_,rfl,sA,_,rfl,g4,(by show 5<=sizeLine;decide),fun rr nrr=>?_⟩
  exact qS w _ rr _ _ _ _ eo je ((FS f3).trans (jg nrr))
noncomputable abbrev sInitN:Stmt:=inClass (top 8) 0
noncomputable abbrev sInitC:Stmt:=inClass (top 9) 0
structure XIn(K:Frag)(C:Addr)(f:Str):Prop where
 x:XCls K C
 no:NoAttr K C f
 cd:∃cd,clsIn K C=some cd/\cd.hasDict=true/\veTail cd.mro=true
def spInit(C:Addr)(f:Str):Sp:=fun vs H Q _=>∃x v,vs=[.ref x,v]/\H x=some (ExO C none x)/\∀dx,H dx=none->Q .non (upd (upd H x (ExO C (some dx) x)) dx (.xd [(f,v)]))
structure XC(P:Program)(w:World)(K:Frag)(mg:Str->Option Value)(base:Heap)(C fI:Addr)(fdI:FuncData)(cn:Str):Prop where
 mkr:XMk K C
 ini:findIn K (.ref C) "__init__"=some (some (.ref fI))
 fn:isFn K (.ref fI)=true
 g:FnOk P w K mg base CX0 1 fI fdI ["self","name"] (spInit C "name")
 b:Binds K fdI ["self","name"] []
 m:mg cn=some (.ref C)
 x:XCls K C
 ty:typeIn K (.ref C)=some (.type "type")
def XO(H:Hp)(C:Addr)(x:Str)(E:XK):Prop:=∀dx H',Kp H H'->H' dx=some (.xd [("name",.str x)])->E (.ref C) (some dx) H'
theorem YV{x:Str}:NX (.xd [("name",.str x)]):=fun φ z=>by cases z
theorem XO.next{H H1:Hp}{C:Addr}{x:Str}{E:XK}(h:XO H C x E)(s:Same H H1):XO H1 C x (nextE E):=fun dx H' k e y T T' c ec hx hT hn=>by
 cases ec
 exact h dx _ (fun b o nx eb=>zr (H:=H) (k b o nx (s _ _ eb)) nx hx hn) (zr (H:=H) e YV hx hn)
theorem XU{H:Hp}{x dx C:Addr}{y:Str}{E:XK}(hx:H x=none)(hdx:upd H x (ExO C none x) dx=none)(h:XO H C y E):
  ∀T,upd (upd (upd H x (ExO C none x)) x (ExO C (some dx) x)) dx (.xd [("name",.str y)]) T=none->
   E (.ref C) (some dx) (upd (upd (upd (upd (upd H x (ExO C none x)) x (ExO C (some dx) x)) dx (.xd [("name",.str y)])) T (TbO T)) x (TxO C (some dx) T x)):=by
 intro T hT
 have xd:dx≠x:=fun e=>by rw[e,je]at hdx;cases hdx
 have xT:T≠x:=fun e=>by rw[e,jf (Ne.symm xd),je]at hT;cases hT
 have dT:T≠dx:=fun e=>by rw[e,je]at hT;cases hT
 have hT0:H T=none:=by rw[jf dT,jf xT,jf xT]at hT;exact hT
 have hd0:H dx=none:=by rw[jf xd]at hdx;exact hdx
 refine h dx _ (fun b o _ e=>?_) ?_
 ·rw[jf (jl e hx),jf (jl e hT0),jf (jl e hd0),jf (jl e hx),jf (jl e hx)]
  exact e
 ·rw[jf xd,jf (Ne.symm dT),je]
theorem Ze{H:Hp}{x dx C:Addr}{o:HO}(hdx:upd H x (ExO C none x) dx=none):upd (upd (upd H x (ExO C none x)) x (ExO C (some dx) x)) dx o x=some (ExO C (some dx) x):=by
 have ne:dx≠x:=fun e=>by rw[e,je]at hdx;cases hdx
 rw[jf (Ne.symm ne),je]
theorem ZV{P:List Df}{f:Str}{k:Nat}{d:Df}(h:findD (P.take k) f=some d):findD P f=some d:=by
 have e:findD (P.take k++P.drop k) f=(findD (P.take k) f).or (findD (P.drop k) f):=List.find?_append
 rw[List.take_append_drop,h]at e
 exact e
def spNamed2(CN:Addr):Sp:=fun vs H Q E=>∃(a:Addr) (f:Str) (P:List Df) (xs:List V),vs=[.ref a,.str f]/\H a=some (.tup xs)/\DfsV H P xs/\(∀d,findD P f=some d->∀v,DfV H v d->Q v H)/\(findD P f=none->XO H CN f E)
def spBegun2(CN CC:Addr):Sp:=fun vs H Q E=>∃(a g:Addr) (f:Str) (P:List Df) (xs ys:List V),vs=[.ref a,.str f,.ref g]/\H a=some (.tup xs)/\DfsV H P xs/\H g=some (.tup ys)/\(∀d,findD P f=some d->ys.length=d.ps.length->∀v,DfV H v d->Q v H)/\(findD P f=none->XO H CN f E)/\(∀d,findD P f=some d->ys.length≠d.ps.length->XO H CC f E)
def spPlain2(C TL TD CN CC:Addr):Sp:=fun vs H Q E=>∃(pA ag cA:Addr) (f:Str) (m:Int) (Cs:Tab) (P:List Df) (is:List Int),vs=[.ref pA,.str f,.ref ag,.ref cA,.int m]/\Pr H pA P/\H ag=some (.tup (is.map V.int))/\(∀i∈is,InT i)/\H cA=some (.dK Cs)/\K12.GT Cs/\m<=100000/\
 (∀d,findD P f=some d->d.ps.length=is.length->∃(k:Nat) (o:Out),Ex P Cs m 15 k d.body (heldOf d.ps is) [] 0 o/\k<=60000/\(∀a L' t',o= .done a L' t'->∀rr lA H',H' rr=some (.tup [.int a,.ref lA,.int (t':Int)])->H lA=none->H' lA=some (.dK L')->Same H H'->K12.GT L'->L'.length<=t'->Q (.ref rr) H')/\Ends TL TD E o (Kp H))/\
 (findD P f=none->XO H CN f E)/\(∀d,findD P f=some d->d.ps.length≠is.length->XO H CC f E)
theorem scInitN:FnScope ["self","name"] ["self","name"] (defScope sInitN):=fsc
theorem ZW{f:Addr}{fd:FuncData}(F:Fun K "__init__" "NoName.__init__" sInitN f fd){C:Addr}(xi:XIn K C "name"):FnOk P w K mg base CX0 1 f fd ["self","name"] (spInit C "name"):=by
 refine F.ok scInitN (fun vs H Q E h=>?_) (fun cdv A outer s H vs Q E hr h=>?_)
 ·refine opq fun Gq kq=>?_
  obtain⟨x,v,rfl,_⟩:=h
  refine kq ?_
  clear kq
  rfl
 refine opq fun Gq kq=>?_
 obtain⟨x,v,rfl,hx,q⟩:=h
 refine kq ?_
 clear kq
 refine⟨_,(jj (@Xz _ _ _ _ _ _ _ _ (pv 0) (pv 1) (by rfl))),?_⟩
 try dsimp only[cxOf,Cx.nox,Cx.wish]
 refine opq fun Gq kq=>?_
 obtain⟨cd,h1,h2,h3⟩:=xi.cd
 refine kq ?_
 clear kq
 exact⟨_,rfl,_,rfl,x,C,cd,rfl,hx,xi.x,xi.no,h1,h2,h3,fun dx n=>q dx n⟩
theorem scInitC:FnScope ["self","name"] ["self","name"] (defScope sInitC):=fsc
theorem ZX{f:Addr}{fd:FuncData}(F:Fun K "__init__" "NoCount.__init__" sInitC f fd){C:Addr}(xi:XIn K C "name"):FnOk P w K mg base CX0 1 f fd ["self","name"] (spInit C "name"):=by
 refine F.ok scInitC (fun vs H Q E h=>?_) (fun cdv A outer s H vs Q E hr h=>?_)
 ·refine opq fun Gq kq=>?_
  obtain⟨x,v,rfl,_⟩:=h
  refine kq ?_
  clear kq
  rfl
 refine opq fun Gq kq=>?_
 obtain⟨x,v,rfl,hx,q⟩:=h
 refine kq ?_
 clear kq
 refine⟨_,(jj (@Xz _ _ _ _ _ _ _ _ (pv 0) (pv 1) (by rfl))),?_⟩
 try dsimp only[cxOf,Cx.nox,Cx.wish]
 refine opq fun Gq kq=>?_
 obtain⟨cd,h1,h2,h3⟩:=xi.cd
 refine kq ?_
 clear kq
 exact⟨_,rfl,_,rfl,x,C,cd,rfl,hx,xi.x,xi.no,h1,h2,h3,fun dx n=>q dx n⟩
theorem YG{f:Addr}{fd:FuncData}(F:Fun K "named" "named" sNamedF f fd){CN fIN:Addr}{fdIN:FuncData}(XN:XC P w K mg base CN fIN fdIN "NoName"):FnOk P w K mg base (CX1 P w) 3 f fd ["ones","f"] (spNamed2 CN):=by
 refine F.ok1 scNamedF (fun vs H Q E h=>?_) (fun cdv A outer s H vs Q E hr h=>?_)
 ·refine opq fun Gq kq=>?_
  obtain⟨a,f,P0,xs,rfl,_⟩:=h
  refine kq ?_
  clear kq
  rfl
 refine opq fun Gq kq=>?_
 obtain⟨a,f,P0,xs,rfl,ha,hD,q,qn⟩:=h
 refine kq ?_
 clear kq
 refine⟨_,(jd (@zJ _ _ _ _ _ _ _ _ PassesOwn.leaving rfl (@zI _ _ _ _ (pv 0)) (jx (i:=2) scNamedF.nd rfl (Or.inl rfl)) (jj (jy (@jp _ _ _ _ _ _ _ _ jD (@jm _ _ _ _ _ _ _ ju (pv 2) jc (fun _ _=>rfl)) (pv 1) (nomark _)) (jj (jv (pv 2))) jq)) (by intro _;rfl)) (jj (@qX _ _ _ _ _ rfl qi (@Qq _ _ _ _ _ _ _ _ _ _ _ _ _ _ _ XN.mkr XN.ini XN.fn XN.g hr rfl XN.m XN.b pass0 (ja (pv 1) jb) (by decide) (by rfl) (by rfl))))),?_⟩
 try dsimp only[cxOf,Cx.nox,Cx.wish]
 refine seqF fun F1 f1=>forE fun J j=>⟨_,rfl,a,rfl,⟨_,SqT.of ha⟩,j _ _ ?_⟩
 clear j
 refine J4 (K:=K) (xs:=xs) (fun k σ H'=>(∃o2,σ=[some (.ref a),some (.str f),o2])/\H'=H/\findD (P0.take k) f=none) ⟨⟨_,rfl⟩,rfl,rfl⟩ (fun k σ H' _ h=>by rw[h.2.1];exact SqT.of ha) ?_ (fun σ H' h=>?_)
 ·clear f1
  intro E2 rt k x σ H2 hx fE Gq kq h
  obtain⟨⟨o2,rfl⟩,rfl,hk⟩:=h
  refine kq ?_
  clear kq
  obtain⟨e,he,hv⟩:=hD.at k x hx
  obtain⟨p,pa,pb,bs,rfl,h1,_⟩:=id hv
  have et:P0.take (k+1)=P0.take k++[e]:=by rw[List.take_succ,he];rfl
  show tIfS _ _ _ E2 _ _
  refine ifE fun G1 kT kF=>⟨_,rfl,p,_,_,_,rfl,rfl,SqT.of h1,rfl,_,rfl,rfl,_,rfl,?_⟩
  by_cases c:e.f=f
  ·rw[c,decide_eq_true (rfl:V.str f=V.str f)]
   refine kT _ ?_
   show tRet _ E2 _ _
   unfold tRet
   rw[rt]
   exact⟨_,rfl,q e (ZV (k:=k+1) (by rw[et,ql,hk,if_pos c];rfl)) _ hv⟩
  ·rw[decide_eq_false (fun z=>c (by injection z))]
   exact kF _ (fE _ _ ⟨⟨_,rfl⟩,rfl,by rw[et,ql,hk,if_neg c];rfl⟩)
 ·obtain⟨⟨o2,rfl⟩,rfl,hk⟩:=h
  refine f1 _ _ ?_
  rw[hD.len,List.take_of_length_le (Nat.le_refl _)]at hk
  exact⟨_,rfl,(by show 1<=1000;decide),fun x0 n0=>⟨x0,_,rfl,je,fun d0 nd0=>⟨rfl,x0,CN,some d0,rfl,Ze nd0,XN.x,XN.ty,XU n0 nd0 (qn hk)⟩⟩⟩
theorem YH{f:Addr}{fd:FuncData}{fN:Addr}{fdN:FuncData}(F:Fun K "begun" "begun" sBegun f fd){CC fIC:Addr}{fdIC:FuncData}(XC:XC P w K mg base CC fIC fdIC "NoCount"){CN:Addr}(GN:FnOk P w K mg base (CX1 P w) 3 fN fdN ["ones","f"] (spNamed2 CN))(bN:Binds K fdN ["ones","f"] [])(kN:keepIn K (.ref fN)=true)(mN:mg "named"=some (.ref fN))(ml:mg "len"=none):FnOk P w K mg base (CX1 P w) 4 f fd ["ones","f","args"] (spBegun2 CN CC):=by
 refine F.ok1 scBegun (fun vs H Q E h=>?_) (fun cdv A outer s H vs Q E hr h=>?_)
 ·refine opq fun Gq kq=>?_
  obtain⟨a,g,f,Pd,xs,ys,rfl,_⟩:=h
  refine kq ?_
  clear kq
  rfl
 refine opq fun Gq kq=>?_
 obtain⟨a,g,f,Pd,xs,ys,rfl,ha,hD,hg,q,qn,qc⟩:=h
 refine kq ?_
 clear kq
 refine⟨_,(jd (jo (i:=3) scBegun.nd rfl (Or.inl rfl) (jh GN hr.m rfl mN kN bN .nil kX (ja (pv 0) (ja (pv 1) jb)))) (jd (jy (@jp _ _ _ _ _ _ _ _ Jq (@jG _ _ _ _ _ _ _ _ _ jJ rfl ml PySem.boot_len (ja (pv 2) jb) (by decide) (by decide) (by rfl) (by rfl)) (@jG _ _ _ _ _ _ _ _ _ jJ rfl ml PySem.boot_len (ja (@jm _ _ _ _ _ _ _ ju (pv 3) jc (fun _ _=>rfl)) jb) (by decide) (by decide) (by rfl) (by rfl)) (nomark _)) (jj (@qX _ _ _ _ _ rfl qi (@Qq _ _ _ _ _ _ _ _ _ _ _ _ _ _ _ XC.mkr XC.ini XC.fn XC.g hr.m rfl XC.m XC.b pass0 (ja (pv 1) jb) (by decide) (by rfl) (by rfl)))) jq) (jj (jv (pv 3))))),?_⟩
 try dsimp only[cxOf,Cx.nox,Cx.wish]
 refine seqF fun F1 f1=>⟨_,rfl,_,rfl,a,f,Pd,xs,rfl,ha,hD,fun d hf v hv=>f1 _ _ ?_,fun hf=>(qn hf).next (fun _ _ e=>e)⟩
 clear f1
 obtain⟨p,pa,pb,bs,rfl,h1,h2,_⟩:=id hv
 refine seqF fun F1 f1=>⟨_,rfl,g,_,rfl,.inr (SqT.of hg),_,rfl,p,_,_,_,rfl,rfl,SqT.of h1,rfl,pa,_,rfl,.inr (SqT.of h2),rfl,_,rfl,?_⟩
 by_cases hl:ys.length=d.ps.length
 ·exact ifX (by rw[List.length_map,hl];simp) (f1 _ _ ⟨_,rfl,q d hf hl _ hv⟩)
 ·exact ifY (by rw[List.length_map];simp;omega) ⟨_,rfl,(by show 1<=1000;decide),fun x0 n0=>⟨x0,_,rfl,je,fun d0 nd0=>⟨rfl,x0,CC,some d0,rfl,Ze nd0,XC.x,XC.ty,XU n0 nd0 (qc d hf hl)⟩⟩⟩
theorem YI{f:Addr}{fd:FuncData}{C TL TD CN CC fI fB fA:Addr}{fdI fdB fdA:FuncData}(F:Fun K "plain" "plain" sPlain f fd)(ck:CK K C)(mk:Mk K C fI)(GI:FnOk P w K mg base CX0 2 fI fdI ["self","program","cells","most"] (spPIni C))(bI:Binds K fdI ["self","program","cells","most"] [])(mC:mg "PlainRun"=some (.ref C))(GB:FnOk P w K mg base (CX1 P w) 4 fB fdB ["ones","f","args"] (spBegun2 CN CC))(bB:Binds K fdB ["ones","f","args"] [])(kB:keepIn K (.ref fB)=true)(mB:mg "begun"=some (.ref fB))(GA:FnOk P w K mg base (CX1 P w) 58 fA fdA ["self","one","args","deep"] (spAns C TL TD 16))(bA:Binds K fdA ["self","one","args","deep"] [])(meA:Meth K C "answer_of" fA):FnOk P w K mg base (CX1 P w) 59 f fd ["program","f","args","cells","most"] (spPlain2 C TL TD CN CC):=by
 refine F.ok1 scPlain (fun vs H Q E h=>?_) (fun cdv A outer s H vs Q E hr h=>?_)
 ·refine opq fun Gq kq=>?_
  obtain⟨pA,ag,cA,f,m,Cs,Pd,is,rfl,_⟩:=h
  refine kq ?_
  clear kq
  rfl
 refine opq fun Gq kq=>?_
 obtain⟨pA,ag,cA,f,m,Cs,Pd,is,rfl,hP,ha,his,hce,hiC,hm,qq,qn,qc⟩:=h
 refine kq ?_
 clear kq
 refine⟨_,(jd (jo (i:=5) scPlain.nd rfl (Or.inl rfl) (jh GB hr.m rfl mB kB bB .nil kX (ja (pv 0) (ja (pv 1) (ja (pv 2) jb))))) (jd (jo (i:=6) scPlain.nd rfl (Or.inl rfl) (@pe_make _ _ _ _ _ _ _ _ _ _ _ _ _ _ _ _ _ mk GI hr.m rfl mC bI .nil pass0 (ja (pv 0) (ja (pv 3) (ja (pv 4) jb))) (by decide) (by rfl) (by rfl))) (jd (jo (i:=7) scPlain.nd rfl (Or.inl rfl) (@qH _ _ _ _ _ _ _ _ _ _ _ _ _ _ _ _ _ _ _ _ (pv 6) ck.cl meA GA hr.m bA .nil kX (ja (pv 5) (ja (pv 2) (ja jc jb))) (by rfl) (by rfl) (by rfl))) (jj (jv (jk (ja (pv 7) (ja (@zQ _ _ _ _ _ (pv 6) rfl) (ja (@zQ _ _ _ _ _ (pv 6) rfl) jb))))))))),?_⟩
 try dsimp only[cxOf,Cx.nox,Cx.wish]
 obtain⟨xs,p1,p2⟩:=hP.at'
 refine seqF fun F1 f1=>⟨_,rfl,_,rfl,_,rfl,pA,ag,f,Pd,xs,_,rfl,p1,p2,ha,fun d hf hl0 v dv=>f1 _ _ ?_,fun hf=>(qn hf).next (fun _ _ e=>e),fun d hf hl=>(qc d hf (fun z=>hl (by rw[List.length_map];exact z.symm))).next (fun _ _ e=>e)⟩
 have hl:d.ps.length=is.length:=by rw[List.length_map]at hl0;exact hl0.symm
 obtain⟨k,o,hx,hk,q,en⟩:=qq d hf hl
 clear f1
 refine seqF fun F1 f1=>⟨_,rfl,_,rfl,_,rfl,fun r dx nr nd ne=>?_⟩
 have s0:Same H (upd (upd H dx (.own r)) r (.ins C dx [])):=fun c o e=>by rw[jf (jl e nr),jf (jl e nd)];exact e
 refine⟨r,dx,pA,cA,m,rfl,je,fun lA nl=>⟨rfl,f1 _ _ ?_⟩⟩
 clear f1
 have nlr:lA≠r:=fun e=>by rw[e,je]at nl;cases nl
 have nlH:H lA=none:=s0.free nl
 have s1:Same H (upd (upd (upd (upd H dx (.own r)) r (.ins C dx [])) lA (.dK [])) r (.ins C dx (Flds cA lA pA m 0))):=fun c o e=>by rw[jf (jl e nr),jf (jl e nlH)];exact s0 _ _ e
 have R1:Rn (upd (upd (upd (upd H dx (.own r)) r (.ins C dx [])) lA (.dK [])) r (.ins C dx (Flds cA lA pA m 0))) C r dx cA lA pA m 0 [] Cs:=⟨je,by rw[jf nlr];exact je,s1 _ _ hce,K12.GT.nil,hiC,jl hce nlH⟩
 generalize upd (upd (upd (upd H dx (.own r)) r (.ins C dx [])) lA (.dK [])) r (.ins C dx (Flds cA lA pA m 0))=H1 at s1 R1
 have tm1:=Same.tm s1
 refine seqF fun F1 f1=>⟨_,rfl,r,dx,_,rfl,R1.ins,rfl,_,rfl,_,rfl,15,r,dx,cA,lA,pA,ag,m,0,0,k,[],Cs,v,d,Pd,is,o,rfl,rfl,R1,hP.mono tm1,zd hf,dv.mono tm1,s1 _ _ ha,his,hl,hx,hk,by decide,Nat.le_refl _,hm,fun a L' t' eo H2 R2 l2 i2 k2=>f1 _ _ ?_,Ends.next (en.mono fun H' kk=>fun b o nx e=>kk b o (jl e nr) (jl e nlH) nx (s1 _ _ e))⟩
 clear f1
 refine⟨_,rfl,_,rfl,r,C,dx,_,_,rfl,R2.ins,ck.cl,ck.n3,rfl,_,rfl,r,C,dx,_,_,rfl,R2.ins,ck.cl,ck.n4,rfl,sz3,fun rr nrr=>?_⟩
 exact q a L' t' eo rr lA _ je nlH (keepN R2.lf nrr) (fun c o e=>keepN (k2 c o (jl e nr) (jl e nlH) (s1 _ _ e)) nrr) R2.iL l2
noncomputable abbrev sRefused:Stmt:=top 48
theorem bootVE:bootBuiltins "ValueError"=some (.type "ValueError"):=by decide+kernel
structure Cs where
 T:Addr
 W:Addr
 N:Addr
 C:Addr
 L:Addr
 D:Addr
 S:Addr
 R:Addr
 B:Addr
structure KinR(K:Frag)(c:Cs)(C:Addr)(i:Nat):Prop where
 x:XCls K C
 kW:kitOne K (.ref C) (.ref c.W)=some (i==0)
 kN:kitOne K (.ref C) (.ref c.N)=some (i==1)
 kC:kitOne K (.ref C) (.ref c.C)=some (i==2)
 kL:kitOne K (.ref C) (.ref c.L)=some (i==3)
 kD:kitOne K (.ref C) (.ref c.D)=some (i==4)
 kT:kitOne K (.ref C) (.ref c.T)=some false
 kS:kitOne K (.ref C) (.ref c.S)=some false
 kR:kitOne K (.ref C) (.ref c.R)=some false
 kv:kitOne K (.ref C) (.type "ValueError")=some true
 mb:mroIn K C (.ref c.B)=some true
noncomputable def wordR:Nat->Str
 |1=>"name"
 |2=>"count"
 |3=>"long"
 |_=>"deep"
def NmR(K:Frag)(C:Addr)(i:Nat)(fs:List (Str×V))(y:Str):Prop:=((i=3∨i=4)/\y="")∨((i=1∨i=2)/\NoAttr K C "name"/\fs=([("name",.str y)]:List (Str×V)))
theorem NmR.four{K:Frag}{C:Addr}{i:Nat}{fs:List (Str×V)}{y:Str}(h:NmR K C i fs y):i=1∨i=2∨i=3∨i=4:=by
 rcases h with ⟨h,_⟩ | ⟨h,_⟩<;>omega
theorem qQ{H H':Hp}{a C:Addr}{fs:List (Str×V)}(s:Same H H')(e:ExcC H a C fs):ExcC H' a C fs:=by
 rcases e with ⟨h,T,e⟩ | ⟨dx,T,e,e2⟩
 ·exact .inl ⟨h,T,s _ _ e⟩
 ·exact .inr ⟨dx,T,s _ _ e,s _ _ e2⟩
def spRefused(K:Frag)(c:Cs):Sp:=fun vs H Q _=>∃(a C:Addr) (i:Nat) (fs:List (Str×V)) (y:Str),vs=[.ref a]/\ExcC H a C fs/\KinR K c C i/\NmR K C i fs y/\∀(r:Addr) (H':Hp),H' r=some (.tup [.str (wordR i),.str y])->Same H H'->Q (.ref r) H'
noncomputable def kb5(i:Nat):List Bool:=[(i==0),(i==1),(i==2),(i==3),(i==4)]
theorem YJ{i:Nat}(h:i=1∨i=2∨i=3∨i=4):(kb5 i).countP id=1:=by rcases h with rfl |rfl |rfl |rfl<;>rfl
theorem kb5_at{i:Nat}(h:i=1∨i=2∨i=3∨i=4):(kb5 i)[i]?=some true/\∀m:Nat,m < i->(kb5 i)[m]?=some false:=by
 refine⟨?_,fun m hm=>?_⟩
 ·rcases h with rfl |rfl |rfl |rfl<;>rfl
 ·rcases(by omega:m=0∨m=1∨m=2∨m=3) with rfl |rfl |rfl |rfl<;>rcases h with rfl |rfl |rfl |rfl<;>first |rfl |exact absurd hm (by decide)
theorem scRefused:FnScope ["_law_caught","_law_kinds","_law_others","_law_word"] ["_law_caught"] (defScope sRefused):=fsc
theorem Xm{f:Addr}{fd:FuncData}(F:Fun K "_law_refused" "_law_refused" sRefused f fd){c:Cs}(mis:mg "isinstance"=none)(mve:mg "ValueError"=none)(gT:mg "NoText"=some (.ref c.T))(gW:mg "Twice"=some (.ref c.W))(gN:mg "NoName"=some (.ref c.N))(gC:mg "NoCount"=some (.ref c.C))(gL:mg "TooLong"=some (.ref c.L))(gD:mg "TooDeep"=some (.ref c.D))(gS:mg "NoStep"=some (.ref c.S))(gR:mg "NoRow"=some (.ref c.R)):FnOk P w K mg base CX0 1 f fd ["_law_caught"] (spRefused K c):=by
 refine F.ok scRefused (fun vs H Q E h=>?_) (fun cdv A outer s H vs Q E hr h=>?_)
 ·refine opq fun Gq kq=>?_
  obtain⟨a,C,i,fs,y,rfl,_⟩:=h
  refine kq ?_
  clear kq
  rfl
 refine opq fun Gq kq=>?_
 obtain⟨a,C,i,fs,y,rfl,ex,kin,nm,qq⟩:=h
 refine kq ?_
 clear kq
 refine⟨_,(jd (jo (i:=1) scRefused.nd rfl (Or.inl rfl) (jH (ja (@jG _ _ _ _ _ _ _ _ _ j8 rfl mis boot_isinstance (ja (pv 0) (ja (@kr _ _ (.ref c.W) _ _ rfl gW rfl (by decide)) jb)) (by decide) (by decide) (by rfl) (by rfl)) (ja (@jG _ _ _ _ _ _ _ _ _ j8 rfl mis boot_isinstance (ja (pv 0) (ja (@kr _ _ (.ref c.N) _ _ rfl gN rfl (by decide)) jb)) (by decide) (by decide) (by rfl) (by rfl)) (ja (@jG _ _ _ _ _ _ _ _ _ j8 rfl mis boot_isinstance (ja (pv 0) (ja (@kr _ _ (.ref c.C) _ _ rfl gC rfl (by decide)) jb)) (by decide) (by decide) (by rfl) (by rfl)) jb))))) (jd (jo (i:=1) scRefused.nd rfl (Or.inl rfl) (jw qw (pv 1) (jH (ja (@jG _ _ _ _ _ _ _ _ _ j8 rfl mis boot_isinstance (ja (pv 0) (ja (@kr _ _ (.ref c.L) _ _ rfl gL rfl (by decide)) jb)) (by decide) (by decide) (by rfl) (by rfl)) (ja (@jG _ _ _ _ _ _ _ _ _ j8 rfl mis boot_isinstance (ja (pv 0) (ja (@kr _ _ (.ref c.D) _ _ rfl gD rfl (by decide)) jb)) (by decide) (by decide) (by rfl) (by rfl)) jb))))) (jd (jo (i:=2) scRefused.nd rfl (Or.inl rfl) (@pe_or _ _ _ _ _ _ _ (@jG _ _ _ _ _ _ _ _ _ Kw rfl mis boot_isinstance (ja (pv 0) (ja (jk (ja (@kr _ _ (.ref c.T) _ _ rfl gT rfl (by decide)) (ja (@kr _ _ (.ref c.S) _ _ rfl gS rfl (by decide)) (ja (@kr _ _ (.ref c.R) _ _ rfl gR rfl (by decide)) jb)))) jb)) (by decide) (by decide) (by rfl) (by rfl)) (@YX _ _ _ _ _ (@YY _ _ _ _ (@jG _ _ _ _ _ _ _ _ _ j8 rfl mis boot_isinstance (ja (pv 0) (ja (@qF _ _ (.ty "ValueError") _ _ rfl mve bootVE rfl (by decide) (by decide)) jb)) (by decide) (by decide) (by rfl) (by rfl)))))) (jd (jy (@PW.pt _ _ _ (@Jp _ _ _ _ _ _ _ (@ky _ _ _ (pv 2) (by intro _;rfl)) (@qu _ _ _ _ (@jp _ _ _ _ _ _ _ _ Jq (@ze _ _ _ _ _ _ _ _ _ _ _ _ PySem.F.plainAttrs_list PySem.F.slot_list_count PySem.F.type_list_count Yn (pv 1) (ja (@qm _ _ _ _) jb) (by rfl) (by rfl) (by rfl) (by rfl) (by rfl)) jc (nomark _))))) (jj (jv (jk (ja ji (ja ji jb))))) jq) (jd (jo (i:=3) scRefused.nd rfl (Or.inl rfl) (@jm _ _ _ _ _ _ _ jr (jH (@Xy _ _ ["twice","name","count","long","deep"] (by decide+kernel))) (@ze _ _ _ _ _ _ _ _ _ _ _ _ PySem.F.plainAttrs_list PySem.F.slot_list_index PySem.F.type_list_index Yo (pv 1) (ja (@qm _ _ _ _) jb) (by rfl) (by rfl) (by rfl) (by rfl) (by rfl)) (fun _ _=>rfl))) (jd (jy (@jp _ _ _ _ _ _ _ _ KI (pv 3) (jk (@Xy _ _ ["long","deep"] (by decide+kernel))) rfl) (jj (jv (jk (ja (pv 3) (ja ji jb))))) jq) (jj (jv (jk (ja (pv 3) (ja (@pe_fldC _ _ _ _ _ (pv 0) (by rfl)) jb))))))))))),?_⟩
 try dsimp only[cxOf,Cx.nox,Cx.wish]
 have big:=line24
 have hlt:=nm.four
 refine seqF fun F1 f1=>⟨_,rfl,a,C,_,_,_,_,rfl,rfl,ex,kin.x,kin.kW,⟨_,rfl,a,C,_,_,_,_,rfl,rfl,ex,kin.x,kin.kN,⟨_,rfl,a,C,_,_,_,_,rfl,rfl,ex,kin.x,kin.kC,sz3,fun l1 n1=>f1 _ _ ?_⟩⟩⟩
 clear f1
 have s1:Same H (upd H l1 (.lst [.bl (i==0),.bl (i==1),.bl (i==2)])):=jg n1
 have h1:upd H l1 (.lst [.bl (i==0),.bl (i==1),.bl (i==2)]) l1=some (.lst [.bl (i==0),.bl (i==1),.bl (i==2)]):=je
 generalize upd H l1 (.lst [.bl (i==0),.bl (i==1),.bl (i==2)])=H1 at s1 h1
 have e1:=qQ s1 ex
 refine seqF fun F1 f1=>⟨_,rfl,⟨_,rfl,a,C,_,_,_,_,rfl,rfl,e1,kin.x,kin.kL,⟨_,rfl,a,C,_,_,_,_,rfl,rfl,e1,kin.x,kin.kD,sz2,fun l2 n2=>?_⟩⟩⟩
 refine⟨l1,l2,_,_,rfl,rfl,keepN h1 n2,je,(by show 3+2<=sizeLine;decide),fun l3 n3=>f1 _ _ ?_⟩
 clear f1
 have s5:=(s1.trans (jg n2)).trans (jg (o:=.lst ([.bl (i==0),.bl (i==1),.bl (i==2)]++[.bl (i==3),.bl (i==4)])) n3)
 have h5:upd (upd H1 l2 (.lst [.bl (i==3),.bl (i==4)])) l3 (.lst ([.bl (i==0),.bl (i==1),.bl (i==2)]++[.bl (i==3),.bl (i==4)])) l3=some (.lst ((kb5 i).map V.bl)):=je
 generalize upd (upd H1 l2 (.lst [.bl (i==3),.bl (i==4)])) l3 (.lst ([.bl (i==0),.bl (i==1),.bl (i==2)]++[.bl (i==3),.bl (i==4)]))=H5 at s5 h5
 have e5:=qQ s5 ex
 obtain⟨ka,kz⟩:=kb5_at hlt
 refine seqF fun F1 f1=>⟨_,rfl,sz3,fun tp ntp=>⟨a,C,_,tp,[c.T,c.S,c.R],false,rfl,je,qQ (jg ntp) e5,kin.x,any3 kin.kT kin.kS kin.kR,_,rfl,iteF ?_⟩⟩
 have s6:=s5.trans (jg (o:=.tup [.ref c.T,.ref c.S,.ref c.R]) ntp)
 have h6:=keepN (o:=.tup [.ref c.T,.ref c.S,.ref c.R]) h5 ntp
 have e6:=qQ s6 ex
 refine⟨_,rfl,a,C,_,_,_,_,rfl,rfl,e6,kin.x,kin.kv,_,rfl,f1 _ _ ?_⟩
 clear f1
 show tSeq _ _ _ _ (upd H5 tp (.tup [.ref c.T,.ref c.S,.ref c.R]))
 generalize upd H5 tp (.tup [.ref c.T,.ref c.S,.ref c.R])=H6 at s6 h6 e6
 clear s5 h5 e5 ntp
 refine seqF fun F1 f1=>ifG fun G' g'=>⟨_,rfl,_,rfl,iteF ?_⟩
 refine⟨_,rfl,.inl ⟨rfl,_,SqL.of h6⟩,l3,kb5 i,rfl,rfl,h6,rfl,_,rfl,g' _ _ (ifX (by rw[YJ hlt];decide+kernel) (f1 _ _ ?_))⟩
 clear f1 g'
 refine seqF fun F1 f1=>⟨(by show 5<=sizeLine;decide),fun l6 n6=>?_⟩
 have s7:=jg (o:=.lst ((["twice","name","count","long","deep"]:List Str).map V.str)) n6
 refine⟨_,rfl,.inl ⟨rfl,_,SqL.of (s7 _ _ h6)⟩,l3,kb5 i,i,rfl,rfl,s7 _ _ h6,ka,kz,?_⟩
 have hw:atI ((["twice","name","count","long","deep"]:List Str).map V.str) ((i:Nat):Int)=some (.str (wordR i)):=by
  rcases hlt with rfl |rfl |rfl |rfl<;>rfl
 refine⟨l6,_,_,_,rfl,rfl,SqL.of je,hw,f1 _ _ ?_⟩
 clear f1
 refine seqF fun F1 f1=>ifG fun G' g'=>⟨_,rfl,sz2,fun l7 n7=>?_⟩
 have s8:=jg (o:=.tup ((["long","deep"]:List Str).map V.str)) n7
 refine⟨l7,_,rfl,.inr (SqT.of je),rfl,rfl,_,rfl,?_⟩
 rcases nm with ⟨h34,rfl⟩ | ⟨h12,hno,rfl⟩
 ·refine g' _ _ (ifY ?_ ?_)
  ·rcases h34 with rfl |rfl<;>decide+kernel
  exact⟨_,rfl,sz2,fun r nr=>qq r _ je (s6.trans ((s7.trans s8).trans (jg nr)))⟩
 ·refine g' _ _ (ifX ?_ (f1 _ _ ?_))
  ·rcases h12 with rfl |rfl<;>decide+kernel
  exact⟨_,rfl,_,rfl,a,C,_,.str y,rfl,qQ (s7.trans s8) e6,kin.x,hno,rfl,sz2,fun r nr=>qq r _ je (s6.trans ((s7.trans s8).trans (jg nr)))⟩
noncomputable abbrev sWhole:Stmt:=top 49
noncomputable abbrev sTold:Stmt:=top 50
def spWhole:Sp:=fun vs H Q _=>∃i:Int,vs=[.int i]/\Q (.bl true) H
def spTold:Sp:=fun vs H Q _=>∃(pA ag cA:Addr) (f:Str) (m:Int) (Cs:Tab) (P:List Df) (is:List Int),vs=[.ref pA,.str f,.ref ag,.ref cA,.int m]/\Pr H pA P/\H ag=some (.tup (is.map V.int))/\(∀i∈is,InT i)/\H cA=some (.dK Cs)/\K12.GT Cs/\m<=100000/\
 (∀d,findD P f=some d->d.ps.length=is.length->∃(k:Nat) (o:Out),Ex P Cs m 15 k d.body (heldOf d.ps is) [] 0 o/\k<=60000/\(∀a L' t',o= .done a L' t'->t'<=100000/\∀rr l2 H',H' rr=some (.tup [.str "told",.int a,.ref l2,.int (t':Int)])->H l2=none->H' l2=some (.dK L')->Kp H H'->K12.GT L'->Q (.ref rr) H')/\
 (o= .long->∀rr H',H' rr=some (.tup [.str "long",.str ""])->Kp H H'->Q (.ref rr) H')/\(o= .deep->∀rr H',H' rr=some (.tup [.str "deep",.str ""])->Kp H H'->Q (.ref rr) H'))/\
 (findD P f=none->∀rr H',H' rr=some (.tup [.str "name",.str f])->Kp H H'->Q (.ref rr) H')/\(∀d,findD P f=some d->d.ps.length≠is.length->∀rr H',H' rr=some (.tup [.str "count",.str f])->Kp H H'->Q (.ref rr) H')
def KeyI(L:Tab):Prop:=∀p∈L,∃c,p.1=Sum.inl c
theorem KeyI.put{L:Tab}(h:KeyI L)(c:Int)(v:V):KeyI (putK L (.inl c) v):=by
 intro p hp
 unfold putK at hp
 split at hp
 ·obtain⟨q,hq,rfl⟩:=List.mem_map.mp hp
  by_cases e:q.1= .inl c
  ·rw[if_pos e];exact⟨c,e⟩
  ·rw[if_neg e];exact h q hq
 ·rcases List.mem_append.mp hp with hp |hp
  ·exact h p hp
  ·rw[List.mem_singleton.mp hp];exact⟨c,rfl⟩
theorem ex_key{P:List Df}{C:Tab}{m:Int}{n k:Nat}{b:Bd}{h L:Tab}{t:Nat}{o:Out}(q:Ex P C m n k b h L t o):KeyI L->∀a L' t',o= .done a L' t'->KeyI L':=by
 induction q with
 |nil=>intro hL a L' t' e;cases e;exact hL
 |gv=>intro hL a L' t' e;cases e;exact hL
 |set q ih=>exact ih
 |longL e g=>intro _ a L' t' e;cases e
 |longI g=>intro _ a L' t' e;cases e
 |longW g=>intro _ a L' t' e;cases e
 |rd g q ih=>exact ih
 |wr g q ih=>exact fun hL=>ih (hL.put _ _)
 |ite g q ih=>exact ih
 |loop1 g e q ih=>exact ih
 |loop0 g e q ih=>exact ih
 |cl g hf hl hk c q ih1 ih2=>exact fun hL=>ih2 (ih1 hL _ _ _ rfl)
 |clL g hf hl hk c ih=>intro _ a L' t' e;cases e
 |clD g hf hl hk c ih=>intro _ a L' t' e;cases e
 |deep g=>intro _ a L' t' e;cases e
theorem ints_of{L:Tab}(h:K12.GT L):∃ns:List Int,(L.map fun p=>p.2)=ns.map V.int:=by
 induction L with
 |nil=>exact⟨[],rfl⟩
 |cons p L ih=>
  obtain⟨ns,e⟩:=ih fun q hq=>h q (List.mem_cons_of_mem _ hq)
  obtain⟨i,e2,_⟩:=h p List.mem_cons_self
  exact⟨i::ns,by rw[List.map_cons,List.map_cons,e,e2]⟩
theorem YK{L:Tab}(h:KeyI L):∃ns:List Int,(L.map fun p=>kV p.1)=ns.map V.int:=by
 induction L with
 |nil=>exact⟨[],rfl⟩
 |cons p L ih=>
  obtain⟨ns,e⟩:=ih fun q hq=>h q (List.mem_cons_of_mem _ hq)
  obtain⟨i,e2⟩:=h p List.mem_cons_self
  exact⟨i::ns,by rw[List.map_cons,List.map_cons,e,e2];rfl⟩
theorem scWhole:FnScope ["_law_found"] ["_law_found"] (defScope sWhole):=fsc
theorem ZY{f:Addr}{fd:FuncData}(F:Fun K "_law_whole" "_law_whole" sWhole f fd)(mis:mg "isinstance"=none)(mi:mg "int"=none)(mb:mg "bool"=none)(kii:kitOne K (.type "int") (.type "int")=some true)(kib:kitOne K (.type "int") (.type "bool")=some false):FnOk P w K mg base CX0 1 f fd ["_law_found"] spWhole:=by
 refine F.ok scWhole (fun vs H Q E h=>?_) (fun cdv A outer s H vs Q E hr h=>?_)
 ·refine opq fun Gq kq=>?_
  obtain⟨i,rfl,_⟩:=h
  refine kq ?_
  clear kq
  rfl
 refine opq fun Gq kq=>?_
 obtain⟨i,rfl,q⟩:=h
 refine kq ?_
 clear kq
 refine⟨_,(jj (jv (@pe_and _ _ _ _ _ _ _ (@jG _ _ _ _ _ _ _ _ _ zG rfl mis boot_isinstance (ja (pv 0) (ja (@qF _ _ (.ty "int") _ _ rfl mi boot_int rfl (by decide) (by decide)) jb)) (by decide) (by decide) (by rfl) (by rfl)) (@YX _ _ _ _ _ (@YY _ _ _ _ (@jG _ _ _ _ _ _ _ _ _ zG rfl mis boot_isinstance (ja (pv 0) (ja (@qF _ _ (.ty "bool") _ _ rfl mb boot_bool rfl (by decide) (by decide)) jb)) (by decide) (by decide) (by rfl) (by rfl))))))),?_⟩
 try dsimp only[cxOf,Cx.nox,Cx.wish]
 exact⟨_,rfl,_,_,_,_,_,rfl,rfl,TyOf.int i,kii,true,rfl,ifY rfl ⟨_,rfl,_,_,_,_,_,rfl,rfl,TyOf.int i,kib,false,rfl,q⟩⟩
theorem scTold:FnScope ["_law_program","_law_f","_law_args","_law_cells_here","_law_most","_law_handed","_law_told_here","_law_caught","e","_law_some","_law_kept"] ["_law_program","_law_f","_law_args","_law_cells_here","_law_most"] (defScope sTold):=fsc
noncomputable def QN:Scope:=⟨.function,[(".0",.local),("_law_one",.local),("_law_whole",.globalImplicit)],false,false,[]⟩
theorem ZZ:(["_law_one"]:List Str).Nodup:=by decide+kernel
theorem Z0:CompSc ["_law_program","_law_f","_law_args","_law_cells_here","_law_most","_law_handed","_law_told_here","_law_caught","e","_law_some","_law_kept"] (defScope sTold) QN ["_law_one"] 1 []:=csc
theorem ok_told{f:Addr}{fd:FuncData}{C fP fW fF:Addr}{c:Cs}{fdP fdW fdF:FuncData}(F:Fun K "_law_told" "_law_told" sTold f fd)(GP:FnOk P w K mg base (CX1 P w) 59 fP fdP ["program","f","args","cells","most"] (spPlain2 C c.L c.D c.N c.C))(bP:Binds K fdP ["program","f","args","cells","most"] [])(kP:keepIn K (.ref fP)=true)(mP:mg "plain"=some (.ref fP))(GF:FnOk P w K mg base CX0 1 fF fdF ["_law_caught"] (spRefused K c))(bF:Binds K fdF ["_law_caught"] [])(kF:keepIn K (.ref fF)=true)(mF:mg "_law_refused"=some (.ref fF))(kN:KinR K c c.N 1)(noN:NoAttr K c.N "name")(kC:KinR K c c.C 2)(noC:NoAttr K c.C "name")(kL:KinR K c c.L 3)(kD:KinR K c c.D 4)(GW:FnOk P w K mg base CX0 1 fW fdW ["_law_found"] spWhole)(bW:Binds K fdW ["_law_found"] [])(kW:keepIn K (.ref fW)=true)(mW:mg "_law_whole"=some (.ref fW))(gB:mg "BookError"=some (.ref c.B))(hB:clsIn K c.B≠none)(tB:typeIn K (.ref c.B)=some (.type "type"))(mB:mroIn K c.B (.type "BaseException")=some true)(mis:mg "isinstance"=none)(mdi:mg "dict"=none)(mtu:mg "tuple"=none)(mli:mg "list"=none)(mal:mg "all"=none)(ml:mg "len"=none)(ktt:kitOne K (.type "tuple") (.type "tuple")=some true)(kdd:kitOne K (.type "dict") (.type "dict")=some true):FnOk P w K mg base CX0 60 f fd ["_law_program","_law_f","_law_args","_law_cells_here","_law_most"] spTold:=by
 refine F.ok scTold (fun vs H Q E h=>?_) (fun cdv A outer s H vs Q E hr h=>?_)
 ·refine opq fun Gq kq=>?_
  obtain⟨pA,ag,cA,f,m,Cs,Pd,is,rfl,_⟩:=h
  refine kq ?_
  clear kq
  rfl
 refine opq fun Gq kq=>?_
 obtain⟨pA,ag,cA,f,m,Cs,Pd,is,rfl,hP,ha,his,hce,hiC,hm,qq,qn,qc⟩:=h
 refine kq ?_
 clear kq
 refine⟨_,(jd (jo (i:=5) scTold.nd rfl (Or.inl rfl) (@jF _ _ _ _ _ _ _ _ _ Jl rfl mdi boot_dict (ja (pv 3) jb) (by decide) (by decide) (by rfl) (by rfl))) (jd (jo (i:=6) scTold.nd rfl (Or.inl rfl) (@QP _ _ _)) (jd (jo (i:=7) scTold.nd rfl (Or.inl rfl) (@QP _ _ _)) (jd (@ps_try _ _ _ _ _ _ _ _ _ _ _ _ (8) rfl rfl (@psx_set _ _ _ _ (6) _ _ scTold.nd rfl (Or.inl rfl) (@ZA _ _ _ _ _ _ _ _ _ _ _ _ _ _ GP hr rfl mP kP bP .nil (ja (pv 0) (ja (pv 1) (ja (pv 2) (ja (pv 5) (ja (pv 4) jb))))) (by decide) (by rfl) (by rfl)) (by rfl) (by first |exact .inl rfl |exact .inr rfl)) rfl gB hB tB mB scTold.nd rfl rfl (fun _=>(jj (jo (i:=7) scTold.nd rfl (Or.inl rfl) (pv 8)))) (by decide)) (jd (jy (@jp _ _ _ _ _ _ _ _ (op_neD (Nat.lt_of_succ_lt (jM hr))) (pv 5) (pv 3) (nomark _)) (@zY _ _) jq) (jd (jy (@YW _ _ _ _ _ _ (@Z6 _ _ _ _ _ (pv 7)) (by rfl)) (jj (jv (jh GF hr.m rfl mF kF bF .nil pass0 (ja (pv 7) jb)))) jq) (jd (jy (@PW.pt _ _ _ (@Jp _ _ _ _ _ _ _ (@zp _ _ _ _ (@ky _ _ _ (@jG _ _ _ _ _ _ _ _ _ zG rfl mis boot_isinstance (ja (pv 6) (ja (@qF _ _ (.ty "tuple") _ _ rfl mtu boot_tuple rfl (by decide) (by decide)) jb)) (by decide) (by decide) (by rfl) (by rfl)) (by intro _;rfl))) (@Jp _ _ _ _ _ _ _ (@jp _ _ _ _ _ _ _ _ Jq (@jG _ _ _ _ _ _ _ _ _ jJ rfl ml PySem.boot_len (ja (pv 6) jb) (by decide) (by decide) (by rfl) (by rfl)) jc (nomark _)) (@qu _ _ _ _ (@zp _ _ _ _ (@ky _ _ _ (@jG _ _ _ _ _ _ _ _ _ zG rfl mis boot_isinstance (ja (@jm _ _ _ _ _ _ _ ju (pv 6) jc (fun _ _=>rfl)) (ja (@qF _ _ (.ty "dict") _ _ rfl mdi boot_dict rfl (by decide) (by decide)) jb)) (by decide) (by decide) (by rfl) (by rfl)) (by intro _;rfl))))))) (@zY _ _) jq) (jd (jo (i:=9) scTold.nd rfl (Or.inl rfl) (jw qw (jw qw (jH (ja (@jm _ _ _ _ _ _ _ ju (pv 6) jc (fun _ _=>rfl)) (ja (@jm _ _ _ _ _ _ _ ju (pv 6) jc (fun _ _=>rfl)) jb))) (@jF _ _ _ _ _ _ _ _ _ (Xd rfl) rfl mli boot_list (ja (@jm _ _ _ _ _ _ _ ju (pv 6) jc (fun _ _=>rfl)) jb) (by decide) (by decide) (by rfl) (by rfl))) (@QI _ _ _ _ _ _ _ rfl mli rfl (@jm _ _ _ _ _ _ _ ju (pv 6) jc (fun _ _=>rfl)) (by rfl) (by rfl) (by rfl) (by rfl)))) (jd (jy (@zp _ _ _ _ (@ky _ _ _ (@jG _ _ _ _ _ _ _ _ _ (Zt rfl) rfl mal boot_all (ja (@zc _ _ _ _ _ _ _ (["_law_one"]) (1) ([]) _ _ _ _ rfl (@JC _ _ _ _ (pv 9)) Z0 (fun _ _ _ _ _=>(jx (i:=0) ZZ rfl (Or.inl rfl))) (fun _ _ _ _ _=>(@zw _)) (fun _ _ _ _ _=>(jh GW hr.m rfl mW kW bW .nil pass0 (ja (pv 0) jb))) (by intro _;rfl)) jb) (by decide) (by decide) (by rfl) (by rfl)) (by intro _;rfl))) (@zY _ _) jq) (jd (jo (i:=10) scTold.nd rfl (Or.inl rfl) (jk (ja ji (ja (@jm _ _ _ _ _ _ _ ju (pv 6) jc (fun _ _=>rfl)) (ja (@jF _ _ _ _ _ _ _ _ _ Jl rfl mdi boot_dict (ja (@jm _ _ _ _ _ _ _ ju (pv 6) jc (fun _ _=>rfl)) jb) (by decide) (by decide) (by rfl) (by rfl)) (ja (@jm _ _ _ _ _ _ _ ju (pv 6) jc (fun _ _=>rfl)) jb)))))) (jd (@jY _ _ _ _ _ _ _ _ _ (jM hr) (@jm _ _ _ _ _ _ _ ju (pv 6) jc (fun _ _=>rfl)) jc jc rfl) (jj (jv (pv 10)))))))))))))),?_⟩
 try dsimp only[cxOf,Cx.nox,Cx.wish]
 have big:=line24
 refine seqF fun F1 f1=>⟨_,rfl,cA,Cs,rfl,hce,fun hn nh=>f1 _ _ ?_⟩
 clear f1
 have s1:Same H (upd H hn (.dK Cs)):=jg nh
 have e1:upd H hn (.dK Cs) hn=some (.dK Cs):=je
 generalize upd H hn (.dK Cs)=H1 at s1 e1
 refine seqF fun F1 f1=>f1 _ _ ?_
 clear f1
 refine seqF fun F1 f1=>f1 _ _ ?_
 clear f1
 have allG:∀p∈Cs,∃i,p.2= .int i:=fun p hp=>let ⟨i,e,_⟩:=hiC p hp;⟨i,e⟩
 have nxd:NX (HO.dK Cs):=fun φ z=>by cases z
 refine seqF fun F1 f1=>?_
 have fly:∀(T0:Addr) (i:Nat) (dO:Option Addr) (fs:List (Str×V)) (y:Str) (hkin:KinR K c T0 i) (nm:NmR K T0 i fs y) (fin:∀rr H',H' rr=some (.tup [.str (wordR i),.str y])->Kp H H'->Q (.ref rr) H') (H':Hp) (kp:Kp H1 H') (x T T':Addr) (hx:H' x=some (TxO T0 dO T x)) (nT':H' T'=none) (he:(dO=none/\fs=[])∨∃dx,dO=some dx/\NX (.xd fs)/\H' dx=some (.xd fs)),F1 [some (.ref pA),some (.str f),some (.ref ag),some (.ref cA),some (.int m),some (.ref hn),some .non,some (.ref x),none,none,none] (upd (upd H' T' (TbO T')) x (TxO T0 dO T' x)):=by
  intro T0 i dO fs y hkin nm fin H' kp x T T' hx nT' he
  refine f1 _ _ ?_
  have c1:upd (upd H' T' (TbO T')) x (TxO T0 dO T' x) cA=some (.dK Cs):=zr (H:=H) (kp _ _ nxd (s1 _ _ hce)) nxd hx nT'
  have c2:upd (upd H' T' (TbO T')) x (TxO T0 dO T' x) hn=some (.dK Cs):=zr (H:=H) (kp _ _ nxd e1) nxd hx nT'
  have c3:Kp H (upd (upd H' T' (TbO T')) x (TxO T0 dO T' x)):=fun b o nx e=>zr (H:=H) (kp _ _ nx (s1 _ _ e)) nx hx nT'
  have c4:ExcC (upd (upd H' T' (TbO T')) x (TxO T0 dO T' x)) x T0 fs:=by
   rcases he with ⟨rfl,rfl⟩ | ⟨dx,rfl,nx,hdx⟩
   ·exact .inl ⟨rfl,T',je⟩
   ·exact .inr ⟨dx,T',je,zr (H:=H) hdx nx hx nT'⟩
  generalize upd (upd H' T' (TbO T')) x (TxO T0 dO T' x)=H3 at c1 c2 c3 c4
  refine seqF fun F1 f1=>⟨_,rfl,_,rfl,hn,cA,Cs,rfl,rfl,c2,c1,allG,_,rfl,iteF (f1 _ _ ?_)⟩
  refine seqF fun F1 f1=>⟨_,rfl,_,rfl,ifY (by rfl) ?_⟩
  exact⟨_,rfl,x,T0,i,fs,y,rfl,c4,hkin,nm,fun r H4 h4 s4=>fin r H4 h4 (c3.trans (Kp.of_same s4))⟩
 refine⟨_,rfl,_,rfl,_,rfl,_,rfl,_,rfl,pA,ag,hn,f,m,Cs,Pd,is,rfl,hP.mono (Same.tm s1),s1 _ _ ha,his,e1,hiC,hm,fun d hf hl=>?_,fun hf dx H' kp hdx x C T eC hx hT hTx=>?_,fun d hf hl dx H' kp hdx x C T eC hx hT hTx=>?_⟩
 rotate_left
 ·cases eC
  exact⟨kN.mb,fun T' nT'=>⟨_,rfl,fly c.N 1 (some dx) _ f kN (.inr ⟨.inl rfl,noN,rfl⟩) (qn hf) H' kp x T T' hx nT' (.inr ⟨dx,rfl,YV,hdx⟩)⟩⟩
 ·cases eC
  exact⟨kC.mb,fun T' nT'=>⟨_,rfl,fly c.C 2 (some dx) _ f kC (.inr ⟨.inr rfl,noC,rfl⟩) (qc d hf hl) H' kp x T T' hx nT' (.inr ⟨dx,rfl,YV,hdx⟩)⟩⟩
 obtain⟨k,o,hx,hk,q,qL,qD⟩:=qq d hf hl
 refine⟨k,o,hx,hk,fun a L' t' eo rr lA H2 hrr nlA hlA s2 iL lL'=>f1 _ _ ?_,fun eo _ H' kp x C T eC hx hT hTx=>?_,fun eo _ H' kp x C T eC hx hT hTx=>?_⟩
 rotate_left
 ·cases eC
  exact⟨kL.mb,fun T' nT'=>⟨_,rfl,fly c.L 3 none [] "" kL (.inl ⟨.inl rfl,rfl⟩) (qL eo) H' kp x T T' hx nT' (.inl ⟨rfl,rfl⟩)⟩⟩
 ·cases eC
  exact⟨kD.mb,fun T' nT'=>⟨_,rfl,fly c.D 4 none [] "" kD (.inl ⟨.inr rfl,rfl⟩) (qD eo) H' kp x T T' hx nT' (.inl ⟨rfl,rfl⟩)⟩⟩
 clear f1 fly
 have kL2:KeyI L':=ex_key hx (fun _ h=>absurd h List.not_mem_nil) _ _ _ eo
 obtain⟨h100,q⟩:=q a L' t' eo
 have lL:L'.length<=100000:=by omega
 have S2:=s1.trans s2
 refine seqF fun F1 f1=>⟨_,rfl,_,rfl,hn,cA,Cs,rfl,rfl,s2 _ _ e1,S2 _ _ hce,allG,_,rfl,iteF (f1 _ _ ?_)⟩
 clear f1
 refine seqF fun F1 f1=>⟨_,rfl,_,rfl,ifX (by decide) (f1 _ _ ?_)⟩
 clear f1
 refine seqF fun F1 f1=>ifG fun G1 g1=>⟨_,rfl,_,_,_,_,_,rfl,rfl,TyOf.tup hrr,ktt,_,rfl,iteF ⟨_,rfl,rr,_,rfl,.inr (SqT.of hrr),rfl,_,rfl,ifX (show(!decide (V.int ((3:Nat):Int)=V.int 3))=false by decide) ⟨_,rfl,rr,_,_,_,rfl,rfl,SqT.of hrr,rfl,_,_,_,_,_,rfl,rfl,TyOf.dK hlA,kdd,_,rfl,g1 _ _ (iteF (f1 _ _ ?_))⟩⟩⟩
 clear f1 g1
 obtain⟨ks,eks⟩:=YK kL2
 obtain⟨ns,ens⟩:=ints_of iL
 have lks:ks.length=L'.length:=by have:=congrArg List.length eks;simpa using this.symm
 have lns:ns.length=L'.length:=by have:=congrArg List.length ens;simpa using this.symm
 refine seqF fun F1 f1=>⟨_,rfl,rr,_,_,_,rfl,rfl,SqT.of hrr,rfl,_,rfl,rr,_,_,_,rfl,rfl,SqT.of hrr,rfl,sz2,fun q1 nq1=>⟨_,rfl,rr,_,_,_,rfl,rfl,SqT.of (keepN hrr nq1),rfl,lA,L',rfl,keepN hlA nq1,fun q2 nq2=>⟨q1,q2,_,_,rfl,rfl,keepN je nq2,je,(by rw[eks,List.length_map];show 2+_<=_;omega),fun q3 nq3=>?_⟩⟩⟩
 rw[eks]at nq3 ⊢
 have s3:Same H2 (upd (upd (upd H2 q1 (.lst [.int a,.int (t':Int)])) q2 (.lst (ks.map V.int))) q3 (.lst ([V.int a,V.int (t':Int)]++ks.map V.int))):=((jg nq1).trans (jg nq2)).trans (jg nq3)
 have e3:upd (upd (upd H2 q1 (.lst [.int a,.int (t':Int)])) q2 (.lst (ks.map V.int))) q3 (.lst ([V.int a,V.int (t':Int)]++ks.map V.int)) q3=some (.lst ([V.int a,V.int (t':Int)]++ks.map V.int)):=je
 generalize upd (upd (upd H2 q1 (.lst [.int a,.int (t':Int)])) q2 (.lst (ks.map V.int))) q3 (.lst ([V.int a,V.int (t':Int)]++ks.map V.int))=H3 at s3 e3
 refine⟨_,rfl,rr,_,_,_,rfl,rfl,SqT.of (s3 _ _ hrr),rfl,lA,L',rfl,s3 _ _ hlA,fun q4 nq4=>⟨q3,q4,_,_,rfl,rfl,keepN e3 nq4,je,(by rw[ens,List.length_append,List.length_map,List.length_map];show 2+_+_<=_;omega),fun q5 nq5=>f1 _ _ ?_⟩⟩
 clear f1
 rw[ens]at nq5 ⊢
 have eall:([V.int a,V.int (t':Int)]++ks.map V.int)++ns.map V.int=(a::(t':Int)::(ks++ns)).map V.int:=by simp
 rw[eall]
 have s4:Same H3 (upd (upd H3 q4 (.lst (ns.map V.int))) q5 (.lst ((a::(t':Int)::(ks++ns)).map V.int))):=(jg nq4).trans (jg nq5)
 have e4:upd (upd H3 q4 (.lst (ns.map V.int))) q5 (.lst ((a::(t':Int)::(ks++ns)).map V.int)) q5=some (.lst ((a::(t':Int)::(ks++ns)).map V.int)):=je
 generalize hall:a::(t':Int)::(ks++ns)=all at*
 have lall:all.length<=300000:=by rw[<- hall];simp only[List.length_cons,List.length_append];omega
 generalize upd (upd H3 q4 (.lst (ns.map V.int))) q5 (.lst (all.map V.int))=H4 at s4 e4
 have S4:Same H2 H4:=s3.trans s4
 refine seqF fun F1 f1=>ifG fun G1 g1=>⟨_,rfl,q5,rfl,⟨_,SqL.of e4⟩,?_⟩
 refine KS (K:=K) (xs:=all.map V.int) (by rw[List.length_map];omega) (fun i zs H5=>zs=(List.replicate i true).map V.bl/\H5=H4) ⟨rfl,rfl⟩ (fun i zs H5 z=>?_) (fun i v zs H5 hv z=>?_) (fun zs H5 z l nl=>?_)
 ·obtain⟨rfl,rfl⟩:=z
  exact⟨SqL.of e4,by rw[List.length_map,List.length_replicate];exact Nat.le_refl _⟩
 ·obtain⟨rfl,rfl⟩:=z
  rw[List.getElem?_map]at hv
  obtain⟨j,_,rfl⟩:=Option.map_eq_some_iff.mp hv
  refine⟨_,rfl,j,rfl,?_,rfl⟩
  rw[List.replicate_succ',List.map_append]
  rfl
 obtain⟨rfl,rfl⟩:=z
 have ea:(List.replicate (all.map V.int).length true).all id=true:=by simp
 refine⟨l,_,rfl,SqL.of je,_,rfl,g1 _ _ ?_⟩
 rw[ea]
 refine iteF (f1 _ _ ?_)
 clear f1 g1
 have s6:Same H5 (upd H5 l (.lst ((List.replicate (all.map V.int).length true).map V.bl))):=jg nl
 generalize upd H5 l (.lst ((List.replicate (all.map V.int).length true).map V.bl))=H6 at s6
 have S6:Same H2 H6:=S4.trans s6
 have r6:=S6 _ _ hrr
 have l6:=S6 _ _ hlA
 refine seqF fun F1 f1=>⟨_,rfl,rr,_,_,_,rfl,rfl,SqT.of r6,rfl,_,rfl,rr,_,_,_,rfl,rfl,SqT.of r6,rfl,lA,L',rfl,l6,fun l2 nl2=>⟨_,rfl,rr,_,_,_,rfl,rfl,SqT.of (keepN r6 nl2),rfl,sz4,fun kk nkk=>f1 _ _ ?_⟩⟩
 clear f1
 have s7:Same H6 (upd (upd H6 l2 (.dK L')) kk (.tup [.str "told",.int a,.ref l2,.int (t':Int)])):=(jg nl2).trans (jg nkk)
 have k7:upd (upd H6 l2 (.dK L')) kk (.tup [.str "told",.int a,.ref l2,.int (t':Int)]) kk=some (.tup [.str "told",.int a,.ref l2,.int (t':Int)]):=je
 have d7:upd (upd H6 l2 (.dK L')) kk (.tup [.str "told",.int a,.ref l2,.int (t':Int)]) l2=some (.dK L'):=keepN je nkk
 generalize upd (upd H6 l2 (.dK L')) kk (.tup [.str "told",.int a,.ref l2,.int (t':Int)])=H7 at s7 k7 d7
 have S7:Same H H7:=S2.trans (S6.trans s7)
 have n2:l2≠lA:=Ne.symm (jl l6 nl2)
 refine seqF fun F1 f1=>⟨_,rfl,rr,_,_,_,rfl,rfl,SqT.of (s7 _ _ r6),rfl,lA,_,rfl,DPut.k (k:=.inl 7) (s7 _ _ l6) (by omega),f1 _ _ ?_⟩
 clear f1
 have nlH:H lA=none:=s1.free nlA
 refine⟨_,rfl,q kk l2 _ ?_ ((S2.trans S6).free nl2) (by rw[jf n2];exact d7) (fun b o _ e=>by rw[jf (jl e nlH)];exact S7 _ _ e) iL⟩
 rw[jf (jz k7 (s7 _ _ l6) (by intro z;cases z))]
 exact k7
noncomputable abbrev sRight:Stmt:=top 51
theorem km{xs:List V}:NX (.tup xs):=fun φ z=>by cases z
theorem nx_lst{xs:List V}:NX (.lst xs):=fun φ z=>by cases z
theorem Jt{k:Tab}:NX (.dK k):=fun φ z=>by cases z
theorem Kp.tm{H H':Hp}(k:Kp H H'):TMono H H':=fun b xs e=>k b _ km e
theorem Kp.seq{K:Frag}{H H':Hp}{a:Addr}{xs:List V}(e:Kp H H')(h:SqL K H a xs):SqL K H' a xs:=by
 rcases h with (h | ⟨o,h⟩) |h
 ·exact .inl (.inl (e _ _ nx_lst h))
 ·exact .inl (.inr ⟨o,e _ _ (by intro φ z;cases z) h⟩)
 ·exact .inr h
theorem YL{x:Int}{L:Tab}{t:Nat}{Pq:Int->Tab->Nat->Prop}(h:Pq x L t):∀a L' t',Out.done x L t= .done a L' t'->Pq a L' t':=fun a L' t' e=>by cases e;exact h
theorem Z1{T:Hp}{a b:Addr}{L:Tab}{x t:Int}(h1:T a=some (.dK L))(h2:T b=some (.dK L))(iL:∀p∈L,∃i,p.2=V.int i):∀z∈List.zip [V.str "told",.int x,.ref a,.int t] [V.str "told",.int x,.ref b,.int t],Alike T z.1 z.2:=by
 intro z hz
 simp only[List.zip_cons_cons,List.zip_nil_right,List.mem_cons,List.not_mem_nil,or_false]at hz
 rcases hz with rfl |rfl |rfl |rfl
 ·exact .inl ⟨rfl,rfl⟩
 ·exact .inl ⟨rfl,rfl⟩
 ·exact .inr ⟨a,b,L,rfl,rfl,h1,h2,iL⟩
 ·exact .inl ⟨rfl,rfl⟩
theorem XV{T:Hp}{w:Str}:∀z∈List.zip [V.str w,.str ""] [V.str w,.str ""],Alike T z.1 z.2:=by
 intro z hz
 simp only[List.zip_cons_cons,List.zip_nil_right,List.mem_cons,List.not_mem_nil,or_false]at hz
 rcases hz with rfl |rfl
 ·exact .inl ⟨rfl,rfl⟩
 ·exact .inl ⟨rfl,rfl⟩
theorem GT.i{L:Tab}(g:GT L):∀p∈L,∃i,p.2=V.int i:=fun p hp=>let ⟨i,e,_⟩:=g p hp;⟨i,e⟩
theorem Zf{P:List Df}(h:Sd P):∀d∈P,d.ps.length<=100/\d.body.top<=1000/\d.body.Ok:=fun d hd=>by
 obtain⟨h1,h2,h3,_⟩:=h d hd
 exact⟨by omega,by omega,h3⟩
def spRight:Sp:=fun vs H Q _=>∃(C:Tab) (P:List Df) (pA ag cA:Addr) (f:Str) (d:Df) (is:List Int) (m:Int),vs=[.ref pA,.str f,.ref ag,.ref cA,.int m]/\Pr H pA P/\P.length<=1000/\Sd P/\findD P f=some d/\H ag=some (.tup (is.map V.int))/\(∀i∈is,InT i)/\d.ps.length=is.length/\H cA=some (.dK C)/\K12.GT C/\C.length<=20/\0<=m/\m<=300/\∀H',Kp H H'->Q (.bl true) H'
theorem scRight:FnScope ["_law_program","_law_f","_law_args","_law_cells_here","_law_most","_law_word","_law_answer","_law_wrote","_law_turns","_law_log","_law_due"] ["_law_program","_law_f","_law_args","_law_cells_here","_law_most"] (defScope sRight):=fsc
theorem Z2{f:Addr}{fd:FuncData}{fL fO:Addr}{fdL fdO:FuncData}(F:Fun K "_law_right" "_law_right" sRight f fd)(GL:FnOk P w K mg base CX0 218 fL fdL ["_law_program","_law_f","_law_args","_law_cells_here","_law_most"] spLP)(bL:Binds K fdL ["_law_program","_law_f","_law_args","_law_cells_here","_law_most"] [])(kL:keepIn K (.ref fL)=true)(mL:mg "_law_plain"=some (.ref fL))(GO:FnOk P w K mg base CX0 60 fO fdO ["_law_program","_law_f","_law_args","_law_cells_here","_law_most"] spTold)(bO:Binds K fdO ["_law_program","_law_f","_law_args","_law_cells_here","_law_most"] [])(kO:keepIn K (.ref fO)=true)(mO:mg "_law_told"=some (.ref fO)):FnOk P w K mg base CX0 219 f fd ["_law_program","_law_f","_law_args","_law_cells_here","_law_most"] spRight:=by
 refine F.ok scRight (fun vs H Q E h=>?_) (fun cdv A outer s H vs Q E hr h=>?_)
 ·refine opq fun Gq kq=>?_
  obtain⟨C,P0,pA,ag,cA,f,d,is,m,rfl,_⟩:=h
  refine kq ?_
  clear kq
  rfl
 refine opq fun Gq kq=>?_
 obtain⟨C,P0,pA,ag,cA,f,d,is,m,rfl,hpr,hlp,hsd,hf,hag,his,hl,hcA,hgc,hlc,hm0,hm,q⟩:=h
 refine kq ?_
 clear kq
 refine⟨_,(jd (@kE _ _ _ _ _ _ (jh GL hr.m rfl mL kL bL .nil pass0 (ja (pv 0) (ja (pv 1) (ja (pv 2) (ja (pv 3) (ja (pv 4) jb)))))) (@zX _ _ _ _ _ (5) rfl (jE (jx (i:=5) scRight.nd rfl (Or.inl rfl)) (jE (jx (i:=6) scRight.nd rfl (Or.inl rfl)) (jE (jx (i:=7) scRight.nd rfl (Or.inl rfl)) (jE (jx (i:=8) scRight.nd rfl (Or.inl rfl)) (jE (jx (i:=9) scRight.nd rfl (Or.inl rfl)) zi))))) (by rfl) (by rfl)) (by rfl) (by rfl) (by rfl)) (jd (jo (i:=10) scRight.nd rfl (Or.inl rfl) (jk (ja (pv 5) (ja ji jb)))) (jd (jy (@jp _ _ _ _ _ _ _ _ jD (pv 5) ji (nomark _)) (jj (jo (i:=10) scRight.nd rfl (Or.inl rfl) (jk (ja (pv 5) (ja (pv 6) (ja (pv 7) (ja (pv 8) jb))))))) jq) (jj (jv (@j5 _ _ _ _ _ _ _ _ (op_eqA (jM hr)) (jh GO hr.m rfl mO kO bO .nil pass0 (ja (pv 0) (ja (pv 1) (ja (pv 2) (ja (pv 3) (ja (pv 4) jb)))))) (pv 10) (nomark _))))))),?_⟩
 try dsimp only[cxOf,Cx.nox,Cx.wish]
 have big:=line24
 have hfp:Fit P0:=⟨hlp,fun e he=>(hsd e he).2.2.2.2.2.2⟩
 obtain⟨k,o,hk6,hx⟩:=ex_all hsd C (m:=m) hm 15 d is [] 0 m.toNat (zd hf) (by omega)
 cases o with
 |long=>
  refine seqF fun F1 f1=>⟨_,rfl,_,rfl,_,rfl,_,rfl,_,rfl,C,P0,pA,ag,cA,f,d,is,k,m,_,rfl,hpr,hfp,hf,hag,his,hl,hcA,hgc,hlc,hm0,hm,hx,hk6,(fun _ _ _ _ _ _ _ z=>by cases z),fun w H3 rr v2 v3 v4 v5 ew hrr s3=>?_⟩
  have ew:w="long":=by rcases ew with ⟨_,e⟩ | ⟨z,_⟩;exact e;cases z
  subst ew
  refine⟨rr,_,rfl,SqT.of hrr,rfl,_,_,rfl,_,_,rfl,_,_,rfl,_,_,rfl,_,_,rfl,rfl,?_⟩
  refine f1 _ _ ?_
  clear f1
  refine seqF fun F1 f1=>⟨_,rfl,sz2,fun du ndu=>f1 _ _ ?_⟩
  clear f1
  have S2:Same H (upd H3 du (.tup [.str "long",.str ""])):=s3.trans (jg ndu)
  have xdu:upd H3 du (.tup [.str "long",.str ""]) du=some (.tup [.str "long",.str ""]):=je
  generalize upd H3 du (.tup [.str "long",.str ""])=H4 at S2 xdu
  refine seqF fun F1 f1=>⟨_,rfl,rfl,_,rfl,ifX (by decide+kernel) (f1 _ _ ?_)⟩
  clear f1
  refine⟨_,rfl,_,rfl,_,rfl,_,rfl,_,rfl,pA,ag,cA,f,m,C,P0,is,rfl,hpr.mono (Same.tm S2),S2 _ _ hag,his,S2 _ _ hcA,hgc,by omega,fun d1 hf1 hl1=>?_,(fun z=>by rw[hf]at z;cases z),(fun d1 hf1 hl1=>by rw[hf]at hf1;cases hf1;exact absurd hl hl1)⟩
  rw[hf]at hf1
  cases hf1
  refine⟨k,_,hx,hk6,(fun _ _ _ z=>by cases z),(fun _ rr2 T hrr2 kp=>?_),(fun z=>by cases z)⟩
  exact⟨_,rfl,rr2,du,_,_,rfl,rfl,SqT.of hrr2,SqT.of (kp _ _ km xdu),rfl,XV,q _ ((Kp.of_same S2).trans kp)⟩
 |deep=>
  refine seqF fun F1 f1=>⟨_,rfl,_,rfl,_,rfl,_,rfl,_,rfl,C,P0,pA,ag,cA,f,d,is,k,m,_,rfl,hpr,hfp,hf,hag,his,hl,hcA,hgc,hlc,hm0,hm,hx,hk6,(fun _ _ _ _ _ _ _ z=>by cases z),fun w H3 rr v2 v3 v4 v5 ew hrr s3=>?_⟩
  have ew:w="deep":=by rcases ew with ⟨z,_⟩ | ⟨_,e⟩;cases z;exact e
  subst ew
  refine⟨rr,_,rfl,SqT.of hrr,rfl,_,_,rfl,_,_,rfl,_,_,rfl,_,_,rfl,_,_,rfl,rfl,?_⟩
  refine f1 _ _ ?_
  clear f1
  refine seqF fun F1 f1=>⟨_,rfl,sz2,fun du ndu=>f1 _ _ ?_⟩
  clear f1
  have S2:Same H (upd H3 du (.tup [.str "deep",.str ""])):=s3.trans (jg ndu)
  have xdu:upd H3 du (.tup [.str "deep",.str ""]) du=some (.tup [.str "deep",.str ""]):=je
  generalize upd H3 du (.tup [.str "deep",.str ""])=H4 at S2 xdu
  refine seqF fun F1 f1=>⟨_,rfl,rfl,_,rfl,ifX (by decide+kernel) (f1 _ _ ?_)⟩
  clear f1
  refine⟨_,rfl,_,rfl,_,rfl,_,rfl,_,rfl,pA,ag,cA,f,m,C,P0,is,rfl,hpr.mono (Same.tm S2),S2 _ _ hag,his,S2 _ _ hcA,hgc,by omega,fun d1 hf1 hl1=>?_,(fun z=>by rw[hf]at z;cases z),(fun d1 hf1 hl1=>by rw[hf]at hf1;cases hf1;exact absurd hl hl1)⟩
  rw[hf]at hf1
  cases hf1
  refine⟨k,_,hx,hk6,(fun _ _ _ z=>by cases z),(fun z=>by cases z),(fun _ rr2 T hrr2 kp=>?_)⟩
  exact⟨_,rfl,rr2,du,_,_,rfl,rfl,SqT.of hrr2,SqT.of (kp _ _ km xdu),rfl,XV,q _ ((Kp.of_same S2).trans kp)⟩
 |done x L t=>
  have tle:=(YU hx _ _ _ rfl).2 hm0
  refine seqF fun F1 f1=>⟨_,rfl,_,rfl,_,rfl,_,rfl,_,rfl,C,P0,pA,ag,cA,f,d,is,k,m,_,rfl,hpr,hfp,hf,hag,his,hl,hcA,hgc,hlc,hm0,hm,hx,hk6,(fun a L' t' H3 rr wA gA eo hrr hwA gL lL s3=>?_),(fun w H3 rr v2 v3 v4 v5 ew=>by rcases ew with ⟨z,_⟩ | ⟨z,_⟩<;>cases z)⟩
  cases eo
  refine⟨rr,_,rfl,SqT.of hrr,rfl,_,_,rfl,_,_,rfl,_,_,rfl,_,_,rfl,_,_,rfl,rfl,?_⟩
  refine f1 _ _ ?_
  clear f1
  refine seqF fun F1 f1=>⟨_,rfl,sz2,fun du ndu=>f1 _ _ ?_⟩
  clear f1
  refine seqF fun F1 f1=>⟨_,rfl,rfl,_,rfl,ifY (by decide+kernel) ⟨_,rfl,_,rfl,_,rfl,_,rfl,sz4,fun d2 nd2=>f1 _ _ ?_⟩⟩
  clear f1
  have s4:Same H3 (upd (upd H3 du (.tup [.str "told",.str ""])) d2 (.tup [.str "told",.int x,.ref wA,.int (t:Int)])):=(jg ndu).trans (jg nd2)
  have S2:Same H (upd (upd H3 du (.tup [.str "told",.str ""])) d2 (.tup [.str "told",.int x,.ref wA,.int (t:Int)])):=s3.trans s4
  have xdu:upd (upd H3 du (.tup [.str "told",.str ""])) d2 (.tup [.str "told",.int x,.ref wA,.int (t:Int)]) d2=some (.tup [.str "told",.int x,.ref wA,.int (t:Int)]):=je
  have xw:=s4 _ _ hwA
  generalize upd (upd H3 du (.tup [.str "told",.str ""])) d2 (.tup [.str "told",.int x,.ref wA,.int (t:Int)])=H4 at S2 xdu xw
  refine⟨_,rfl,_,rfl,_,rfl,_,rfl,_,rfl,pA,ag,cA,f,m,C,P0,is,rfl,hpr.mono (Same.tm S2),S2 _ _ hag,his,S2 _ _ hcA,hgc,by omega,fun d1 hf1 hl1=>?_,(fun z=>by rw[hf]at z;cases z),(fun d1 hf1 hl1=>by rw[hf]at hf1;cases hf1;exact absurd hl hl1)⟩
  rw[hf]at hf1
  cases hf1
  refine⟨k,_,hx,hk6,(YL ⟨by omega,fun rr2 l2 T hrr2 nl2 hl2 kp gL2=>?_⟩),(fun z=>by cases z),(fun z=>by cases z)⟩
  exact⟨_,rfl,rr2,d2,_,_,rfl,rfl,SqT.of hrr2,SqT.of (kp _ _ km xdu),rfl,Z1 hl2 (kp _ _ Jt xw) (K12.GT.i gL2),q _ ((Kp.of_same S2).trans kp)⟩
noncomputable abbrev sLaw:Stmt:=top 52
def spLaw(K:Frag):Sp:=fun vs H Q _=>∃(a:Addr) (ns:List Int),vs=[.ref a]/\SqL K H a (ns.map V.int)/\ns.length<=63/\∀H',Q (.bl true) H'
theorem Qc{T:Hp}{w y:Str}:∀z∈List.zip [V.str w,.str y] [V.str w,.str y],Alike T z.1 z.2:=by
 intro z hz
 simp only[List.zip_cons_cons,List.zip_nil_right,List.mem_cons,List.not_mem_nil,or_false]at hz
 rcases hz with rfl |rfl
 ·exact .inl ⟨rfl,rfl⟩
 ·exact .inl ⟨rfl,rfl⟩
theorem DfsV.rev{H:Hp}:∀{ds:List Df} {xs:List V},DfsV H ds xs->DfsV H ds.reverse xs.reverse
 | [],_,h=>by have e:_=[]:=h;rw[e];rfl
 |d::ds,_,⟨v,r,e,h1,h2⟩=>by rw[e,List.reverse_cons,List.reverse_cons];exact DfsV.snoc h1 (DfsV.rev h2)
theorem range_all:∀(n:Nat) (xs:List V),xs.length=n->(List.range n).filterMap (fun k=>xs[k]?)=xs:=by
 intro n
 induction n with
 |zero=>intro xs h;rw[List.eq_nil_of_length_eq_zero h];rfl
 |succ n ih=>
  intro xs h
  match xs,h with
  |x::xs,h=>
   rw[List.range_succ_eq_map,List.filterMap_cons]
   show x::List.filterMap _ _=_
   rw[List.filterMap_map]
   exact congrArg (x::·) (ih xs (Nat.succ.inj h))
theorem ix_back:∀n:Fin 9,pickIx none none (-1) n.val=(List.range n.val).reverse:=by decide+kernel
theorem turnA{xs:List V}(h:xs.length<=8):pickV xs none none (-1)=xs.reverse:=by
 unfold pickV
 rw[ix_back ⟨xs.length,by omega⟩,List.filterMap_reverse]
 show((List.range xs.length).filterMap _).reverse=_
 rw[range_all xs.length xs rfl]
theorem YM{ds:List Df}{f:Str}{d:Df}(h:findD ds f=some d):d.f=f:=of_decide_eq_true (List.find?_some (p:=fun e:Df=>decide (e.f=f)) h)
theorem nd_rev{ds:List Df}(h:((ds.map hdOf).map Prod.fst).Nodup):((ds.reverse.map hdOf).map Prod.fst).Nodup:=by
 rw[List.map_reverse,List.map_reverse]
 exact(List.reverse_perm _).nodup_iff.mpr h
theorem Qz{ds:List Df}{f:Str}{d:Df}(h:findD ds f=some d)(nd:((ds.map hdOf).map Prod.fst).Nodup):findD ds.reverse f=some d:=by
 rw[<- YM h]
 exact qP (nd_rev nd) (List.mem_reverse.mpr (zd h))
theorem Zg{ds:List Df}(h:Sd ds)(nd:((ds.map hdOf).map Prod.fst).Nodup):Sd ds.reverse:=fun d hd=>by
 obtain⟨h1,h2,h3,h4,h5,h6⟩:=h d (List.mem_reverse.mp hd)
 exact⟨h1,h2,h3,h4,zV (fun f n ⟨e,e1,e2⟩=>⟨e,Qz e1 nd,e2⟩) h5,h6⟩
theorem Z3{ds:List Df}{y:Str}(h:(!inV (V.str y) (ds.map fun d=>V.str d.f))=true):findD ds y=none:=by
 unfold findD
 rw[List.find?_eq_none]
 intro d hd z
 have e:inV (V.str y) (ds.map fun d=>V.str d.f)=true:=List.any_eq_true.mpr ⟨V.str d.f,List.mem_map_of_mem hd,by rw[of_decide_eq_true z];exact beq_self_eq_true y⟩
 rw[e]at h
 cases h
theorem YN{js:List Int}(h:0 < js.length):cutV (js.map V.int) (some 1) none=(js.drop 1).map V.int:=by
 unfold cutV
 rw[show(1:Int)=((1:Nat):Int) from rfl,HT.sIx_nat,HT.sIx_none,List.length_map,Nat.min_eq_left (by omega),List.map_drop,List.take_of_length_le (by rw[List.length_drop,List.length_map];exact Nat.le_refl _)]
inductive LI(K:Frag)(a:Addr)(is:List Int)(i:Nat)(σ:L2.St)(H':Hp):Prop
 |mk (o1 o2 o3 o4 o5 o6 o7 o8 o9 o10 o11 o12 o13 o14:Option V) (e0:σ=[some (.ref a),o1,o2,o3,o4,o5,o6,o7,o8,o9,o10,o11,o12,o13,o14]) (e1:SqL K H' a (is.map V.int)):LI K a is i σ H'
theorem scLaw:FnScope ["_law_script","_law_k","_law_box_here","_law_program","_law_f","_law_args","_law_cells_here","_law_most","_law_g","_law_params","_law_body_here","_law_numbers","_law_others","_law_other","_law_none"] ["_law_script"] (defScope sLaw):=fsc
noncomputable def Xn:Scope:=⟨.function,[(".0",.local),("_law_x",.local),("_law_number",.globalImplicit),("_law_box_here",.free)],false,false,[]⟩
theorem nd_law1:(["_law_x","_law_box_here"]:List Str).Nodup:=by decide+kernel
theorem cs_law1:CompSc ["_law_script","_law_k","_law_box_here","_law_program","_law_f","_law_args","_law_cells_here","_law_most","_law_g","_law_params","_law_body_here","_law_numbers","_law_others","_law_other","_law_none"] (defScope sLaw) Xn ["_law_x","_law_box_here"] 1 [2]:=csc
noncomputable def Xo:Scope:=⟨.function,[(".0",.local),("_law_one",.local)],false,false,[]⟩
theorem nd_law2:(["_law_one"]:List Str).Nodup:=by decide+kernel
theorem cs_law2:CompSc ["_law_script","_law_k","_law_box_here","_law_program","_law_f","_law_args","_law_cells_here","_law_most","_law_g","_law_params","_law_body_here","_law_numbers","_law_others","_law_other","_law_none"] (defScope sLaw) Xo ["_law_one"] 1 []:=csc
theorem ok_law{f:Addr}{fd:FuncData}{fT fB fU fC fA fR fO:Addr}{fdT fdB fdU fdC fdA fdR fdO:FuncData}(F:Fun K "law" "law" sLaw f fd)(GT:FnOk P w K mg base CX0 1 fT fdT ["_law_box_here","_law_wide"] spTake)(bT:Binds K fdT ["_law_box_here","_law_wide"] [])(kT:keepIn K (.ref fT)=true)(mT:mg "_law_take"=some (.ref fT))(GB:FnOk P w K mg base CX0 1 fB fdB ["_law_script","_law_k"] (spBox K))(bB:Binds K fdB ["_law_script","_law_k"] [])(kB:keepIn K (.ref fB)=true)(mB:mg "_law_box"=some (.ref fB))(GU:FnOk P w K mg base CX0 2 fU fdU ["_law_box_here"] spNum)(bU:Binds K fdU ["_law_box_here"] [])(kU:keepIn K (.ref fU)=true)(mU:mg "_law_number"=some (.ref fU))(GC:FnOk P w K mg base CX0 3 fC fdC ["_law_box_here"] spCells)(bC:Binds K fdC ["_law_box_here"] [])(kC:keepIn K (.ref fC)=true)(mC:mg "_law_cells"=some (.ref fC))(GA:FnOk P w K mg base CX0 23 fA fdA ["_law_box_here"] spCase)(bA:Binds K fdA ["_law_box_here"] [])(kA:keepIn K (.ref fA)=true)(mA:mg "_law_case"=some (.ref fA))(GR:FnOk P w K mg base CX0 219 fR fdR ["_law_program","_law_f","_law_args","_law_cells_here","_law_most"] spRight)(bR:Binds K fdR ["_law_program","_law_f","_law_args","_law_cells_here","_law_most"] [])(kR:keepIn K (.ref fR)=true)(mR:mg "_law_right"=some (.ref fR))(GO:FnOk P w K mg base CX0 60 fO fdO ["_law_program","_law_f","_law_args","_law_cells_here","_law_most"] spTold)(bO:Binds K fdO ["_law_program","_law_f","_law_args","_law_cells_here","_law_most"] [])(kO:keepIn K (.ref fO)=true)(mO:mg "_law_told"=some (.ref fO))(mr:mg "range"=none)(mi:mg "int"=none)(ml:mg "len"=none)(mtu:mg "tuple"=none):FnOk P w K mg base CX0 220 f fd ["_law_script"] (spLaw K):=by
 refine F.ok scLaw (fun vs H Q E h=>?_) (fun cdv A outer s H vs Q E hr h=>?_)
 ·refine opq fun Gq kq=>?_
  obtain⟨a,is,rfl,_⟩:=h
  refine kq ?_
  clear kq
  rfl
 refine opq fun Gq kq=>?_
 obtain⟨a,is,rfl,hS,h63,q⟩:=h
 refine kq ?_
 clear kq
 refine⟨_,(jd (@zJ _ _ _ _ _ _ _ _ PassesOwn.never rfl (@kQ _ _ _ _ _ _ rfl mr (ja jc jb) (by rfl)) (jx (i:=1) scLaw.nd rfl (Or.inl rfl)) (jd (jo (i:=2) scLaw.nd rfl (Or.inr rfl) (jh GB hr.m rfl mB kB bB .nil pass0 (ja (pv 0) (ja (jw kG jc (pv 1)) jb)))) (jd (@kE _ _ _ _ _ _ (jh GA hr.m rfl mA kA bA .nil pass0 (ja (pv 2) jb)) (@zX _ _ _ _ _ (3) rfl (jE (jx (i:=3) scLaw.nd rfl (Or.inl rfl)) (jE (jx (i:=4) scLaw.nd rfl (Or.inl rfl)) (jE (jx (i:=5) scLaw.nd rfl (Or.inl rfl)) zi))) (by rfl) (by rfl)) (by rfl) (by rfl) (by rfl)) (jd (jo (i:=2) scLaw.nd rfl (Or.inr rfl) (jh GB hr.m rfl mB kB bB .nil pass0 (ja (pv 0) (ja (jw jO (jw kG jc (pv 1)) jc) jb)))) (jd (jo (i:=6) scLaw.nd rfl (Or.inl rfl) (jh GC hr.m rfl mC kC bC .nil pass0 (ja (pv 2) jb))) (jd (jo (i:=7) scLaw.nd rfl (Or.inl rfl) (@jm _ _ _ _ _ _ _ jr (jH (ja (jh GT hr.m rfl mT kT bT .nil pass0 (ja (pv 2) (ja jc jb))) (ja jc jb))) (@jF _ _ _ _ _ _ _ _ _ jV rfl mi boot_int (ja (@j5 _ _ _ _ _ _ _ _ jD (jh GT hr.m rfl mT kT bT .nil pass0 (ja (pv 2) (ja jc jb))) jc (nomark _)) jb) (by decide) (by decide) (by rfl) (by rfl)) (fun _ _=>rfl))) (jd (@kE _ _ _ _ _ _ (@jm _ _ _ _ _ _ _ ju (pv 3) (jh GT hr.m rfl mT kT bT .nil pass0 (ja (pv 2) (ja (@jG _ _ _ _ _ _ _ _ _ jJ rfl ml PySem.boot_len (ja (pv 3) jb) (by decide) (by decide) (by rfl) (by rfl)) jb))) (fun _ _=>rfl)) (@zX _ _ _ _ _ (3) rfl (jE (jx (i:=8) scLaw.nd rfl (Or.inl rfl)) (jE (jx (i:=9) scLaw.nd rfl (Or.inl rfl)) (jE (jx (i:=10) scLaw.nd rfl (Or.inl rfl)) zi))) (by rfl) (by rfl)) (by rfl) (by rfl) (by rfl)) (jd (jo (i:=11) scLaw.nd rfl (Or.inl rfl) (@jF _ _ _ _ _ _ _ _ _ jL rfl mtu boot_tuple (ja (@zc _ _ _ _ _ _ _ (["_law_x","_law_box_here"]) (1) ([2]) _ _ _ _ rfl (@zI _ _ _ _ (pv 9)) cs_law1 (fun _ _ _ _ _=>(jx (i:=0) nd_law1 rfl (Or.inl rfl))) (fun _ _ _ _ _=>(@zw _)) (fun _ _ _ _ _=>(jh GU hr.m rfl mU kU bU .nil pass0 (ja (pv 1) jb))) (by intro _;rfl)) jb) (by decide) (by decide) (by rfl) (by rfl))) (jd (jo (i:=12) scLaw.nd rfl (Or.inl rfl) (jh GC hr.m rfl mC kC bC .nil pass0 (ja (pv 2) jb))) (jd (jy (@PW.pt _ _ _ (@Jp _ _ _ _ _ _ _ (@zp _ _ _ _ (@ky _ _ _ (jh GR hr.m rfl mR kR bR .nil pass0 (ja (pv 3) (ja (pv 4) (ja (pv 5) (ja (pv 6) (ja (pv 7) jb)))))) (by intro _;rfl))) (@qu _ _ _ _ (@zp _ _ _ _ (@ky _ _ _ (jh GR hr.m rfl mR kR bR .nil pass0 (ja (pv 3) (ja (pv 4) (ja (pv 5) (ja (pv 12) (ja (pv 7) jb)))))) (by intro _;rfl)))))) (@zY _ _) jq) (jd (jy (@PW.pt _ _ _ (@Jp _ _ _ _ _ _ _ (@zp _ _ _ _ (@ky _ _ _ (jh GR hr.m rfl mR kR bR .nil pass0 (ja (pv 3) (ja (pv 8) (ja (pv 11) (ja (pv 6) (ja (pv 7) jb)))))) (by intro _;rfl))) (@qu _ _ _ _ (@zp _ _ _ _ (@ky _ _ _ (jh GR hr.m rfl mR kR bR .nil pass0 (ja (@Yl _ _ _ _ _ _ _ _ _ _ _ (pv 3) (@zb _) (@zb _) (@pe_un _ _ _ _ _ _ un_neg jc) (by intro _ _;rfl)) (ja (pv 4) (ja (pv 5) (ja (pv 6) (ja (pv 7) jb)))))) (by intro _;rfl)))))) (@zY _ _) jq) (jd (jo (i:=13) scLaw.nd rfl (Or.inl rfl) (jw zh (@jR _ _ _ _ _ _ _ _ _ _ sl_str (pv 4) (@zb _) (@jN _ _ _ jc)) ji)) (jd (jo (i:=14) scLaw.nd rfl (Or.inl rfl) (@j5 _ _ _ _ _ _ _ _ q8 (pv 13) (@zc _ _ _ _ _ _ _ (["_law_one"]) (1) ([]) _ _ _ _ rfl (@zI _ _ _ _ (pv 3)) cs_law2 (fun _ _ _ _ _=>(jx (i:=0) nd_law2 rfl (Or.inl rfl))) (fun _ _ _ _ _=>(@zw _)) (fun _ _ _ _ _=>(@jm _ _ _ _ _ _ (rIxT K) ju (pv 0) jc (fun _ _=>rfl))) (by intro _;rfl)) rfl)) (jd (jy (@PW.pt _ _ _ (@Jd _ _ _ _ _ _ _ (@ky _ _ _ (pv 14) (by intro _;rfl)) (@qg _ _ _ _ (@jp _ _ _ _ _ _ _ _ (QT (jM hr)) (jh GO hr.m rfl mO kO bO .nil pass0 (ja (pv 3) (ja (pv 13) (ja (pv 5) (ja (pv 6) (ja jc jb)))))) (jk (ja ji (ja (pv 13) jb))) (nomark _))))) (@zY _ _) jq) (jd (jy (@jp _ _ _ _ _ _ _ _ (QT (jM hr)) (jh GO hr.m rfl mO kO bO .nil pass0 (ja (pv 3) (ja (pv 4) (ja (jw zq (pv 5) (jk (ja jc jb))) (ja (pv 6) (ja (jw kG (pv 7) (jw kH (pv 1) jc)) jb)))))) (jk (ja ji (ja (pv 4) jb))) (nomark _)) (@zY _ _) jq) (jj (jy (@PW.pt _ _ _ (@Jd _ _ _ _ _ _ _ (@jp _ _ _ _ _ _ _ _ qC (@jG _ _ _ _ _ _ _ _ _ jJ rfl ml PySem.boot_len (ja (pv 5) jb) (by decide) (by decide) (by rfl) (by rfl)) jc (nomark _)) (@qg _ _ _ _ (@jp _ _ _ _ _ _ _ _ (QT (jM hr)) (jh GO hr.m rfl mO kO bO .nil pass0 (ja (pv 3) (ja (pv 4) (ja (@jR _ _ _ _ _ _ _ _ _ _ XE (pv 5) (@jN _ _ _ jc) (@zb _)) (ja (pv 6) (ja (pv 7) jb)))))) (jk (ja ji (ja (pv 4) jb))) (nomark _))))) (@zY _ _) jq)))))))))))))))) (by intro _;rfl)) (jj (jv (@qm _ _ _ _)))),?_⟩
 try dsimp only[cxOf,Cx.nox,Cx.wish]
 have big:=line24
 refine seqF fun F1 f1=>forE fun J j=>⟨_,rfl,by decide,by decide,j _ _ ?_⟩
 clear j
 refine zS (lo:=0) (LI K a is) ⟨none,none,none,none,none,none,none,none,none,none,none,none,none,none,rfl,hS⟩ ?_ (fun σ H' h=>f1 _ _ ?_)
 ·clear f1 hS
  intro E0 _ k σ H0 hk fE Gq kq h
  obtain⟨o1,o2,o3,o4,o5,o6,o7,o8,o9,o10,o11,o12,o13,o14,rfl,hS⟩:=h
  refine kq ?_
  clear kq
  have hk2:(k:Int) < 2:=by have:(2:Int).toNat=2:=rfl;omega
  show tSeq (tAsg _ _) _ E0 _ _
  refine seqF fun F1 f1=>⟨_,rfl,_,rfl,_,_,rfl,rfl,.inl ⟨by decide,by decide⟩,a,is,_,rfl,hS,by omega,by omega,fun p H1 np B1 e1=>f1 _ _ ?_⟩
  clear f1
  have s1:Same H0 H1:=fun b o h=>by rw[e1 _ (jl h np)];exact h
  refine seqF fun F1 f1=>⟨_,rfl,p,rfl,B1,fun t0 pg ar f d ds xs js H2 ht0 hpg hds hl8 hsd hnd hf20 hfd har hjs hdl B2 k2=>⟨t0,_,rfl,SqT.of ht0,rfl,_,_,rfl,_,_,rfl,_,_,rfl,rfl,f1 _ _ ?_⟩⟩
  clear f1
  have s2:Same H0 H2:=fun b o h=>k2 _ _ (jl h np) (s1 _ _ h)
  refine seqF fun F1 f1=>⟨_,rfl,_,rfl,_,_,rfl,rfl,.inl ⟨by decide,by decide⟩,_,_,rfl,rfl,a,is,_,rfl,s2.seq hS,by omega,by omega,fun p3 H3 np3 B3 e3=>f1 _ _ ?_⟩
  clear f1
  refine seqF fun F1 f1=>⟨_,rfl,p3,rfl,B3,fun cA Ct H4 ncA hcA gC lC B4 k4=>f1 _ _ ?_⟩
  clear f1
  have s24:Same H2 H4:=fun b o h=>k4 _ _ (jl h np3) (by rw[e3 _ (jl h np3)];exact h)
  have np3':∀{b:Addr} {o:HO},H0 b=some o->b≠p3:=fun h=>jl (s2 _ _ h) np3
  have s04:Same H0 H4:=fun b o h=>s24 _ _ (s2 _ _ h)
  replace hpg:=s24 _ _ hpg
  replace hds:=hds.mono (Same.tm s24)
  replace har:=s24 _ _ har
  clear s24 s2 s1 k2 k4 e1 e3 B1 B2 B3 ht0 np np3 ncA
  have lxs:=hds.len
  have lds:0 < ds.length:=List.length_pos_of_mem (zd hfd)
  refine seqF fun F1 f1=>⟨_,rfl,p3,61,rfl,B4,by decide,by decide,fun m1 H5 m10 m11 B5 e5=>⟨sz2,fun l nl=>⟨_,rfl,p3,4,rfl,B5.upd_new nl,by decide,by decide,fun d6 H6 d60 d61 B6 e6=>⟨rfl,.inr ⟨_,rfl,?_⟩⟩⟩⟩⟩
  obtain⟨m,hm,m0,m3⟩:∃m:Int,atI [V.int m1,V.int 300] (if decide (V.int d6=V.int 0)=true then 1 else 0)=some (.int m)/\0<=m/\m<=300:=by
   cases decide (V.int d6=V.int 0)
   ·exact⟨m1,rfl,by omega,by omega⟩
   ·exact⟨300,rfl,by decide,by decide⟩
  refine⟨l,_,_,_,rfl,rfl,SqL.of (by rw[e6 _ (B5.ne nl)];exact je),hm,f1 _ _ ?_⟩
  clear f1
  have k6:But p3 H4 H6:=(But.of_eq e5).trans (((But.refl).upd_new nl).trans (But.of_eq e6))
  have tm6:=k6.tm B4
  refine seqF fun F1 f1=>⟨_,rfl,_,rfl,_,rfl,pg,_,rfl,.inr (SqT.of (tm6 _ _ hpg)),p3,_,rfl,B6,by omega,by omega,fun d7 H7 d70 d71 B7 e7=>?_⟩
  have k7:But p3 H4 H7:=k6.trans (But.of_eq e7)
  have tm7:=k7.tm B4
  obtain⟨dg,v,hat,hdg,q0,pa,pb,bs,rfl,hp,hpa,_⟩:=Zd (hds.mono tm7) d70 d71
  refine⟨pg,_,_,_,rfl,rfl,SqT.of (tm7 _ _ hpg),hat,q0,_,rfl,SqT.of hp,rfl,_,_,rfl,_,_,rfl,_,_,rfl,rfl,f1 _ _ ?_⟩
  clear f1
  clear e5 e6 e7 nl B5 B6 hm k6 tm6 hat hp
  have hgl:=(hsd dg hdg).1
  refine seqF fun F1 f1=>⟨_,rfl,pa,rfl,⟨_,SqT.of hpa⟩,?_⟩
  refine zv (K:=K) (xs:=dg.ps.map V.str) (by rw[List.length_map];omega) (fun i zs H8=>∃gs:List Int,zs=gs.map V.int/\gs.length=i/\(∀j∈gs,InT j)/\BoxAt H8 p3/\But p3 H7 H8) ⟨[],rfl,rfl,(fun _ h=>absurd h List.not_mem_nil),B7,But.refl⟩ (fun i zs H8 h8=>?_) (fun i x zs H8 hx h8=>?_) (fun zs H8 h8 l nl=>?_)
  ·obtain⟨gs,rfl,lj,_,B8,k8⟩:=h8
   exact⟨SqT.of (k8.tm B7 _ _ hpa),by rw[List.length_map,lj];exact Nat.le_refl _⟩
  ·refine opq fun Gq kq=>?_
   obtain⟨gs,rfl,lj,hj,B8,k8⟩:=h8
   refine kq ?_
   clear kq
   refine⟨_,rfl,p3,rfl,B8,fun e H9 e0 e1 B9 e9=>⟨gs++[e],by rw[List.map_append];rfl,by rw[List.length_append,lj];rfl,zO hj ⟨e0,e1⟩,B9,k8.trans (But.of_eq e9)⟩⟩
  obtain⟨gs,rfl,lgs,hgs,B8,k8⟩:=h8
  rw[List.length_map]at lgs
  refine⟨l,_,rfl,.inl ⟨SqL.of je,fun nu nnu=>f1 _ _ ?_⟩⟩
  clear f1
  have s9:Same H8 (upd (upd H8 l (.lst (gs.map V.int))) nu (.tup (gs.map V.int))):=(jg nl).trans (jg nnu)
  have hnu:upd (upd H8 l (.lst (gs.map V.int))) nu (.tup (gs.map V.int)) nu=some (.tup (gs.map V.int)):=je
  generalize upd (upd H8 l (.lst (gs.map V.int))) nu (.tup (gs.map V.int))=H9 at s9 hnu
  have B9:=B8.same s9
  have k9:But p3 H4 H9:=k7.trans (k8.trans (But.of_same s9))
  clear s9 nl nnu B8 k8 B7 k7 tm7 hpa
  refine seqF fun F1 f1=>⟨_,rfl,p3,rfl,B9,fun oA Co T noA hoA gO lO BT kT=>f1 _ _ ?_⟩
  clear f1
  have kk:But p3 H4 T:=k9.trans kT
  have tmT:=kk.tm B4
  obtain⟨ba,bb,_,_,_,hp4⟩:=B4.ob
  replace hpg:=tmT _ _ hpg
  replace hds:=hds.mono tmT
  replace har:=tmT _ _ har
  replace hcA:=kk _ _ (jz hcA hp4 (by intro z;cases z)) hcA
  replace hnu:=kT.tm B9 _ _ hnu
  have hST:SqL K T a (is.map V.int):=(show Same H0 T from fun b o h=>kk _ _ (np3' h) (s04 _ _ h)).seq hS
  clear kk tmT hp4 B4 B9 k9 kT noA BT s04 np3' hS
  have prA:∀{H':Hp},Kp T H'->Pr H' pg ds:=fun k=>⟨⟨xs,k _ _ km hpg,hds.mono k.tm⟩,Zf hsd⟩
  have k0:Kp T T:=Kp.of_same (Same.refl T)
  have hfg:=qP hnd hdg
  have hjl:js.length<=6:=by rw[<- hdl];exact(hsd d (zd hfd)).1
  refine seqF fun F1 f1=>ifG fun G' g'=>⟨_,rfl,_,rfl,_,rfl,_,rfl,_,rfl,Ct,ds,pg,ar,cA,f,d,js,m,rfl,prA k0,by omega,hsd,hfd,k0 _ _ km har,hjs,hdl,k0 _ _ Jt hcA,gC,by omega,m0,m3,fun Ta ka=>⟨_,rfl,iteF ⟨_,rfl,_,rfl,_,rfl,_,rfl,_,rfl,Co,ds,pg,ar,oA,f,d,js,m,rfl,prA ka,by omega,hsd,hfd,ka _ _ km har,hjs,hdl,ka _ _ Jt hoA,gO,by omega,m0,m3,fun Tb kb=>⟨_,rfl,g' _ _ (iteF (f1 _ _ ?_))⟩⟩⟩⟩
  clear f1 g'
  replace kb:=ka.trans kb
  clear ka
  refine seqF fun F1 f1=>ifG fun G' g'=>⟨_,rfl,_,rfl,_,rfl,_,rfl,_,rfl,Ct,ds,pg,nu,cA,dg.f,dg,gs,m,rfl,prA kb,by omega,hsd,hfg,kb _ _ km hnu,hgs,lgs.symm,kb _ _ Jt hcA,gC,by omega,m0,m3,fun Tc kc=>⟨_,rfl,iteF ⟨_,rfl,_,rfl,pg,_,_,rfl,rfl,by decide,by decide,SqT.of ((kb.trans kc) _ _ km hpg),(by rw[turnA (by omega),List.length_reverse];omega),fun rv nrv=>?_⟩⟩⟩
  rw[turnA (by omega)]
  replace kc:=(kb.trans kc).trans (Kp.of_same (jg (o:=.tup xs.reverse) nrv))
  have xrv:upd Tc rv (.tup xs.reverse) rv=some (.tup xs.reverse):=je
  generalize upd Tc rv (.tup xs.reverse)=Td at kc xrv
  clear kb nrv
  refine⟨_,rfl,_,rfl,_,rfl,_,rfl,Ct,ds.reverse,rv,ar,cA,f,d,js,m,rfl,⟨⟨_,xrv,(hds.mono kc.tm).rev⟩,Zf (Zg hsd hnd)⟩,(by rw[List.length_reverse];omega),(Zg hsd hnd),(Qz hfd hnd),kc _ _ km har,hjs,hdl,kc _ _ Jt hcA,gC,by omega,m0,m3,fun Te ke=>⟨_,rfl,g' _ _ (iteF (f1 _ _ ?_))⟩⟩
  clear f1 g'
  replace ke:=kc.trans ke
  clear kc xrv
  refine seqF fun F1 f1=>⟨_,rfl,_,rfl,f,rfl,by omega,fun z hz=>⟨_,_,rfl,rfl,(by show z.length+1<=sizeLine;omega),f1 _ _ ?_⟩⟩
  clear f1
  generalize z++("q":Str)=ot
  refine seqF fun F1 f1=>⟨_,rfl,_,rfl,pg,rfl,⟨_,SqT.of (ke _ _ km hpg)⟩,?_⟩
  refine zv (K:=K) (xs:=xs) (by omega) (fun i zs H'=>zs=(ds.take i).map (fun d=>V.str d.f)/\H'=Te) ⟨rfl,rfl⟩ (fun i zs H' h=>?_) (fun i x zs H' hx h=>?_) (fun zs H' h l nl=>?_)
  ·obtain⟨rfl,rfl⟩:=h
   exact⟨SqT.of (ke _ _ km hpg),by rw[List.length_map,List.length_take];omega⟩
  ·obtain⟨rfl,rfl⟩:=h
   obtain⟨e,he,q1,qa,qb,qs,rfl,h1,_⟩:=(hds.mono ke.tm).at i x hx
   refine⟨_,rfl,q1,_,_,_,rfl,rfl,SqT.of h1,rfl,?_,rfl⟩
   rw[List.take_add_one,he,List.map_append]
   rfl
  obtain⟨rfl,rfl⟩:=h
  rw[lxs,List.take_length]
  refine⟨l,_,rfl,.inl (SqL.of je),rfl,(by rw[List.all_eq_true];intro v hv;obtain⟨e,_,rfl⟩:=List.mem_map.mp hv;rfl),f1 _ _ ?_⟩
  clear f1
  have kf:Kp T (upd H' l (.lst (ds.map fun d=>V.str d.f))):=ke.trans (Kp.of_same (jg nl))
  generalize upd H' l (.lst (ds.map fun d=>V.str d.f))=Tf at kf
  clear ke nl
  refine seqF fun F1 f1=>?_
  have rest:∀(Tg:Hp),Kp T Tg->F1 [some (.ref a),some (.int (0+(k:Int))),some (.ref p3),some (.ref pg),some (.str f),some (.ref ar),some (.ref cA),some (.int m),some (.str dg.f),some (.ref pa),some (.ref pb),some (.ref nu),some (.ref oA),some (.str ot),some (.bl (!inV (V.str ot) (ds.map fun d=>V.str d.f)))] Tg:=by
   intro Tg kg
   refine f1 _ _ ?_
   clear f1
   refine seqF fun F1 f1=>⟨_,rfl,_,rfl,_,rfl,sz1,fun t3 nt3=>⟨ar,t3,_,_,rfl,rfl,keepN (kg _ _ km har) nt3,je,(by rw[List.length_map];show js.length+1<=sizeLine;omega),fun ar2 Th har2 sh=>⟨_,rfl,_,rfl,_,rfl,_,_,rfl,rfl,(show(0:Int) < 2 by decide),_,_,rfl,rfl,.inl ⟨by omega,by omega⟩,?_⟩⟩⟩
   have kh:Kp T Th:=kg.trans ((Kp.of_same (jg nt3)).trans (Kp.of_same sh))
   have e2:js.map V.int++[V.int 3]=(js++[3]).map V.int:=by rw[List.map_append];rfl
   rw[e2]at har2
   refine⟨pg,ar2,cA,f,_,Ct,ds,js++[3],rfl,prA kh,har2,zO hjs ⟨by decide,by decide⟩,kh _ _ Jt hcA,gC,?_,(fun d1 hf1 hl1=>?_),(fun hf1=>?_),(fun d1 hf1 hl1 rr Ti hrr ki=>⟨_,rfl,sz2,fun t2 nt2=>⟨rr,t2,_,_,rfl,rfl,SqT.of (keepN hrr nt2),SqT.of je,rfl,Qc,_,rfl,iteF (f1 _ _ ?_)⟩⟩)⟩
   ·rcases(by omega:((0:Int)+(k:Int)) % 2=0∨((0:Int)+(k:Int)) % 2=1) with e |e<;>rw[e]<;>omega
   ·rw[hfd]at hf1
    cases hf1
    rw[List.length_append,hdl]at hl1
    exact absurd hl1 (by show ¬js.length=js.length+1;omega)
   ·rw[hfd]at hf1
    cases hf1
   clear f1
   have kj:Kp T (upd Ti t2 (.tup [.str "count",.str f])):=kh.trans (ki.trans (Kp.of_same (jg nt2)))
   generalize upd Ti t2 (.tup [.str "count",.str f])=Tj at kj
   clear kh kg e2 har2 sh nt3 hrr ki nt2
   show tIfS _ _ _ E0 _ _
   refine ifE fun G1 kT kF=>⟨_,rfl,ar,_,rfl,.inr (SqT.of (kj _ _ km har)),_,_,rfl,rfl,_,rfl,?_⟩
   by_cases c0:0 < js.length
   ·refine ifY (decide_eq_true (by rw[List.length_map];omega)) ⟨_,rfl,_,rfl,_,rfl,_,rfl,ar,_,rfl,kj _ _ km har,fun ar3 Tk har3 sk=>?_⟩
    rw[YN c0]at har3
    have kl:Kp T Tk:=kj.trans (Kp.of_same sk)
    refine⟨_,rfl,_,rfl,pg,ar3,cA,f,m,Ct,ds,js.drop 1,rfl,prA kl,har3,(fun i hi=>hjs i (List.mem_of_mem_drop hi)),kl _ _ Jt hcA,gC,by omega,(fun d1 hf1 hl1=>?_),(fun hf1=>?_),(fun d1 hf1 hl1 rr Ti hrr ki=>⟨_,rfl,sz2,fun t2 nt2=>⟨rr,t2,_,_,rfl,rfl,SqT.of (keepN hrr nt2),SqT.of je,rfl,Qc,_,rfl,kF _ (fE _ _ ⟨_,_,_,_,_,_,_,_,_,_,_,_,_,_,rfl,(kl.trans (ki.trans (Kp.of_same (jg nt2)))).seq hST⟩)⟩⟩)⟩
    ·rw[hfd]at hf1
     cases hf1
     rw[List.length_drop]at hl1
     omega
    ·rw[hfd]at hf1
     cases hf1
   ·exact ifX (decide_eq_false (by rw[List.length_map];omega)) (kF _ (fE _ _ ⟨_,_,_,_,_,_,_,_,_,_,_,_,_,_,rfl,kj.seq hST⟩))
  clear f1
  refine ifG fun G' g'=>⟨_,rfl,_,rfl,?_⟩
  cases hb:(!inV (V.str ot) (ds.map fun d=>V.str d.f)) with
  |false=>
   exact ifX rfl (g' _ _ (iteF (rest _ kf)))
  |true=>
   have hn:=Z3 hb
   refine ifY rfl ⟨_,rfl,_,rfl,_,rfl,_,rfl,pg,ar,cA,ot,0,Ct,ds,js,rfl,prA kf,kf _ _ km har,hjs,kf _ _ Jt hcA,gC,by decide,(fun d1 hf1 hl1=>?_),(fun _ rr Ti hrr ki=>⟨_,rfl,sz2,fun t2 nt2=>⟨rr,t2,_,_,rfl,rfl,SqT.of (keepN hrr nt2),SqT.of je,rfl,Qc,_,rfl,g' _ _ (iteF (rest _ (kf.trans (ki.trans (Kp.of_same (jg nt2))))))⟩⟩),(fun d1 hf1 hl1=>?_)⟩
   ·rw[hn]at hf1;cases hf1
   ·rw[hn]at hf1;cases hf1
 exact q _
@[elab_as_elim] theorem us1 {P:List Value->Prop}:∀(us:List Value),us.length=1->(∀a,P [a])->P us
 | [a],_,q=>q a
theorem _root_.L2.Fun.b1{K:Frag}{x q:Str}{st:Stmt}{f:Addr}{fd:FuncData}{ps:List Str}(F:Fun K x q st f fd)(h:∀(kV doc pm:Value) (an:Option Addr) (cdv ct a:Value),bindArgs (fnOf x q (defArgs st) (defBody st) (defScope st) .none kV doc pm an cdv ct) ⟨[a],[]⟩=pure (ps.zip [a]):=by intros;rfl)(e:ps.length=1:=by rfl):Binds K fd ps []:=F.binds fun kV doc pm an cdv ct us hl=>us1 us (hl.trans e) fun a=>h kV doc pm an cdv ct a
@[elab_as_elim] theorem us2 {P:List Value->Prop}:∀(us:List Value),us.length=2->(∀a b,P [a,b])->P us
 | [a,b],_,q=>q a b
theorem _root_.L2.Fun.b2{K:Frag}{x q:Str}{st:Stmt}{f:Addr}{fd:FuncData}{ps:List Str}(F:Fun K x q st f fd)(h:∀(kV doc pm:Value) (an:Option Addr) (cdv ct a b:Value),bindArgs (fnOf x q (defArgs st) (defBody st) (defScope st) .none kV doc pm an cdv ct) ⟨[a,b],[]⟩=pure (ps.zip [a,b]):=by intros;rfl)(e:ps.length=2:=by rfl):Binds K fd ps []:=F.binds fun kV doc pm an cdv ct us hl=>us2 us (hl.trans e) fun a b=>h kV doc pm an cdv ct a b
@[elab_as_elim] theorem us3 {P:List Value->Prop}:∀(us:List Value),us.length=3->(∀a b c,P [a,b,c])->P us
 | [a,b,c],_,q=>q a b c
theorem _root_.L2.Fun.b3{K:Frag}{x q:Str}{st:Stmt}{f:Addr}{fd:FuncData}{ps:List Str}(F:Fun K x q st f fd)(h:∀(kV doc pm:Value) (an:Option Addr) (cdv ct a b c:Value),bindArgs (fnOf x q (defArgs st) (defBody st) (defScope st) .none kV doc pm an cdv ct) ⟨[a,b,c],[]⟩=pure (ps.zip [a,b,c]):=by intros;rfl)(e:ps.length=3:=by rfl):Binds K fd ps []:=F.binds fun kV doc pm an cdv ct us hl=>us3 us (hl.trans e) fun a b c=>h kV doc pm an cdv ct a b c
@[elab_as_elim] theorem us4 {P:List Value->Prop}:∀(us:List Value),us.length=4->(∀a b c d,P [a,b,c,d])->P us
 | [a,b,c,d],_,q=>q a b c d
theorem _root_.L2.Fun.b4{K:Frag}{x q:Str}{st:Stmt}{f:Addr}{fd:FuncData}{ps:List Str}(F:Fun K x q st f fd)(h:∀(kV doc pm:Value) (an:Option Addr) (cdv ct a b c d:Value),bindArgs (fnOf x q (defArgs st) (defBody st) (defScope st) .none kV doc pm an cdv ct) ⟨[a,b,c,d],[]⟩=pure (ps.zip [a,b,c,d]):=by intros;rfl)(e:ps.length=4:=by rfl):Binds K fd ps []:=F.binds fun kV doc pm an cdv ct us hl=>us4 us (hl.trans e) fun a b c d=>h kV doc pm an cdv ct a b c d
@[elab_as_elim] theorem us5 {P:List Value->Prop}:∀(us:List Value),us.length=5->(∀a b c d e,P [a,b,c,d,e])->P us
 | [a,b,c,d,e],_,q=>q a b c d e
theorem _root_.L2.Fun.b5{K:Frag}{x q:Str}{st:Stmt}{f:Addr}{fd:FuncData}{ps:List Str}(F:Fun K x q st f fd)(h:∀(kV doc pm:Value) (an:Option Addr) (cdv ct a b c d e:Value),bindArgs (fnOf x q (defArgs st) (defBody st) (defScope st) .none kV doc pm an cdv ct) ⟨[a,b,c,d,e],[]⟩=pure (ps.zip [a,b,c,d,e]):=by intros;rfl)(e:ps.length=5:=by rfl):Binds K fd ps []:=F.binds fun kV doc pm an cdv ct us hl=>us5 us (hl.trans e) fun a b c d e=>h kV doc pm an cdv ct a b c d e
theorem Zh{K:Frag}{C:Addr}{oc:Value}{od:Option Addr}{cd:ClassData}{sl:Array (Option Value)}(e:K.lookup C=some ⟨oc,od,.cls cd,sl⟩):clsIn K C=some cd:=by unfold clsIn;rw[e]
theorem tail_B{K:Frag}{B:Addr}(e:excIn K B bmVE "ValueError.__new__"=true):tailIn K bmVE (.ref B::bmVE)=true:=by
 obtain⟨nm,q,N,bs,bm,hdct,sn,sub,ab,col,dd,k0,k1,k2,k3,k5,hK,hT,hok,hni⟩:=KM e
 have h1:tailIn K bmVE bmVE=true:=by unfold tailIn;simp
 unfold tailIn
 dsimp only
 rw[hK]
 simp only[hok,hni,h1,beq_self_eq_true,Bool.and_self,Bool.or_true]
def FnAt(K:Frag)(py q:Str)(st:Stmt)(f:Addr):Prop:=∃(oc:Value) (od:Option Addr) (kV dc pm:Value) (an:Option Addr) (cd ct:Value) (sl:Array (Option Value)),K.lookup f=some ⟨oc,od,.func (fnOf py q (defArgs st) (defBody st) (defScope st) .none kV dc pm an cd ct),sl⟩/\codeIn K cd q=true/\keepIn K (.ref f)=true
def Top(K:Frag)(py:Str)(st:Stmt)(f:Addr):Prop:=nsIn K mainGlobals py=some (some (.ref f))/\FnAt K py py st f
def Kits(K:Frag)(C:Addr):List (Addr×Bool)->Prop
 | []=>True
 |p::r=>kitOne K (.ref C) (.ref p.1)=some p.2/\Kits K C r
section
variable {K:Frag}{py q:Str}{st:Stmt}{f:Addr}{oc:Value}{od:Option Addr}{kV dc pm:Value}{an:Option Addr}{cd ct:Value}{sl:Array (Option Value)}
theorem fnA(l:K.lookup f=some ⟨oc,od,.func (fnOf py q (defArgs st) (defBody st) (defScope st) .none kV dc pm an cd ct),sl⟩)(c:codeIn K cd q=true)(k:keepIn K (.ref f)=true):FnAt K py q st f:=⟨_,_,_,_,_,_,_,_,_,l,c,k⟩
theorem topA(a:nsIn K mainGlobals py=some (some (.ref f)))(l:K.lookup f=some ⟨oc,od,.func (fnOf py py (defArgs st) (defBody st) (defScope st) .none kV dc pm an cd ct),sl⟩)(c:codeIn K cd py=true)(k:keepIn K (.ref f)=true):Top K py st f:=⟨a,fnA l c k⟩
theorem FnAt.go(h:FnAt K py q st f):∃fd,Fun K py q st f fd/\keepIn K (.ref f)=true:=by
 obtain⟨oc,od,kV,dc,pm,an,cd,ct,sl,l,c,k⟩:=h
 exact⟨_,Y1 l c k,k⟩
theorem Top.go{h:Heap}{mg:Str->Option Value}(t:Top K py st f)(X:K.In h)(G:h.Ns mainGlobals mg):∃fd,Fun K py py st f fd/\keepIn K (.ref f)=true/\mg py=some (.ref f):=by
 obtain⟨fd,F,k⟩:=t.2.go
 exact⟨fd,F,k,mg_of X G t.1⟩
end
theorem all_mk{l:PySem.W.OpenLaw}{w:World}{K:Frag}{h:Heap}{mg:Str->Option Value}{fa fJo fWo fNa fBe fDe fBa fPl fBx fTk fNu fNm fTm fSp fCe fRf fWh fTo fSt fBo fAn fOp fIn fLo fTi fBu fCa fLw fLt fLr fDr fBr fFr fLp fRt fZ fTI fTT fTN fPI fPA fPC fPD fIN fIC clsC clsT xT xW xN xC xL xD xS xR xB:Addr}(X:K.In h)(G:h.Ns mainGlobals mg)(hfa:mg "law"=some (.ref fa))
  {tD tTop:Tok} {cdE:ClassData} {ocE:Value} {odE:Option Addr} {slE:Array (Option Value)} {nmxN qnxN:Str} {nsAxN:Addr} {bsxN subxN:List Value} {snxN:List Str} {abxN:Bool} {colxN:Option Bool} {ddxN:Option Addr} {k0xN k1xN k2xN k3xN k5xN:Option Value} {nmxC qnxC:Str} {nsAxC:Addr} {bsxC subxC:List Value} {snxC:List Str} {abxC:Bool} {colxC:Option Bool} {ddxC:Option Addr} {k0xC k1xC k2xC k3xC k5xC:Option Value}
  (tJo:Top K "joined" sJoined fJo)
  (tWo:Top K "worth" sWorth fWo)
  (tNa:Top K "named" sNamedF fNa)
  (tBe:Top K "begun" sBegun fBe)
  (tDe:Top K "deeper" sDeeper fDe)
  (tBa:Top K "behind_asking" sBehind fBa)
  (tPl:Top K "plain" sPlain fPl)
  (tBx:Top K "_law_box" sBox fBx)
  (tTk:Top K "_law_take" sTake fTk)
  (tNu:Top K "_law_number" sNumber fNu)
  (tNm:Top K "_law_names" sNames fNm)
  (tTm:Top K "_law_term" sTerm fTm)
  (tSp:Top K "_law_spot" sSpot fSp)
  (tCe:Top K "_law_cells" sCells fCe)
  (tRf:Top K "_law_refused" sRefused fRf)
  (tWh:Top K "_law_whole" sWhole fWh)
  (tTo:Top K "_law_told" sTold fTo)
  (tSt:Top K "_law_statement" sStm fSt)
  (tBo:Top K "_law_body" sBody fBo)
  (tAn:Top K "_law_any" sAny fAn)
  (tOp:Top K "_law_op" sOp fOp)
  (tIn:Top K "_law_inner" sInner fIn)
  (tLo:Top K "_law_looped" sLooped fLo)
  (tTi:Top K "_law_ticking" sTicking fTi)
  (tBu:Top K "_law_busy" sBusy fBu)
  (tCa:Top K "_law_case" sCase fCa)
  (tLw:Top K "_law_worth" sLW fLw)
  (tLt:Top K "_law_turn" sTurnL fLt)
  (tLr:Top K "_law_looped_run" sLR fLr)
  (tDr:Top K "_law_deed_run" sDR fDr)
  (tBr:Top K "_law_body_run" sBR fBr)
  (tFr:Top K "_law_def_run" sFR fFr)
  (tLp:Top K "_law_plain" sLP fLp)
  (tRt:Top K "_law_right" sRight fRt)
  (tZ:Top K "law" sLaw fZ)
  (vclsC:nsIn K mainGlobals "PlainRun"=some (some (.ref clsC)))
  (vclsT:nsIn K mainGlobals "Turns"=some (some (.ref clsT)))
  (vxT:nsIn K mainGlobals "NoText"=some (some (.ref xT)))
  (vxW:nsIn K mainGlobals "Twice"=some (some (.ref xW)))
  (vxN:nsIn K mainGlobals "NoName"=some (some (.ref xN)))
  (vxC:nsIn K mainGlobals "NoCount"=some (some (.ref xC)))
  (vxL:nsIn K mainGlobals "TooLong"=some (some (.ref xL)))
  (vxD:nsIn K mainGlobals "TooDeep"=some (some (.ref xD)))
  (vxS:nsIn K mainGlobals "NoStep"=some (some (.ref xS)))
  (vxR:nsIn K mainGlobals "NoRow"=some (some (.ref xR)))
  (vxB:nsIn K mainGlobals "BookError"=some (some (.ref xB)))
  (vD:nsIn K mainGlobals "DEEPEST"=some (some (.int 15 tD))) (vTop:nsIn K mainGlobals "TOP"=some (some (.int 1000000000000000000 tTop)))
  (lE:K.lookup xB=some ⟨ocE,odE,.cls cdE,slE⟩) (tpE:typeIn K (.ref xB)=some (.type "type")) (mbE:mroIn K xB (.type "BaseException")=some true)
  (excE:excIn K xB bmVE "ValueError.__new__"=true) (excxL:excIn K xL bmVE "ValueError.__new__"=true) (excxD:excIn K xD bmVE "ValueError.__new__"=true)
  (XcxN:XCls K xN)
  (XcxC:XCls K xC)
  (XcxL:XCls K xL)
  (XcxD:XCls K xD)
  (kpxN:keepIn K (.ref xN)=true) (mexN:mroIn K xN (.ref xB)=some true) (tpxN:typeIn K (.ref xN)=some (.type "type"))
  (kpxC:keepIn K (.ref xC)=true) (mexC:mroIn K xC (.ref xB)=some true) (tpxC:typeIn K (.ref xC)=some (.type "type"))
  (kpxL:keepIn K (.ref xL)=true) (mexL:mroIn K xL (.ref xB)=some true) (tpxL:typeIn K (.ref xL)=some (.type "type"))
  (kpxD:keepIn K (.ref xD)=true) (mexD:mroIn K xD (.ref xB)=some true) (tpxD:typeIn K (.ref xD)=some (.type "type"))
  (obxN:K.lookup xN=some (excClassObj nmxN qnxN xN nsAxN bsxN (.ref xB::bmVE) true snxN subxN abxN colxN ddxN k0xN k1xN k2xN k3xN k5xN "ValueError.__new__")) (noxN:findIn K (.ref xN) "name"=some none) (caxN:specialIn K (.ref xN) "__call__"=some (some (.builtin "type.__call__"))) (tyxN:PySem.W.instIn K (.ref xN) (.type "type")=some true)
  (obxC:K.lookup xC=some (excClassObj nmxC qnxC xC nsAxC bsxC (.ref xB::bmVE) true snxC subxC abxC colxC ddxC k0xC k1xC k2xC k3xC k5xC "ValueError.__new__")) (noxC:findIn K (.ref xC) "name"=some none) (caxC:specialIn K (.ref xC) "__call__"=some (some (.builtin "type.__call__"))) (tyxC:PySem.W.instIn K (.ref xC) (.type "type")=some true)
  (xIN:findIn K (.ref xN) "__init__"=some (some (.ref fIN))) (iIN:isFn K (.ref fIN)=true)
  (xIC:findIn K (.ref xC) "__init__"=some (some (.ref fIC))) (iIC:isFn K (.ref fIC)=true)
  (ck:CK K clsC) (mk:Mk K clsC fPI) (tm:ClsM K clsT "__init__" fTI) (meTT:Meth K clsC "take_turn" fTT) (meTN:Meth K clsC "number_in" fTN) (mePA:Meth K clsC "answer_of" fPA) (mePC:Meth K clsC "called" fPC) (mePD:Meth K clsC "do" fPD)
  (lTI:FnAt K "__init__" "Turns.__init__" sTIni fTI)
  (lTT:FnAt K "take_turn" "Turns.take_turn" sTTurn fTT)
  (lTN:FnAt K "number_in" "Turns.number_in" sTNum fTN)
  (lPI:FnAt K "__init__" "PlainRun.__init__" sPIni fPI)
  (lPA:FnAt K "answer_of" "PlainRun.answer_of" sPAns fPA)
  (lPC:FnAt K "called" "PlainRun.called" sPCall fPC)
  (lPD:FnAt K "do" "PlainRun.do" sPDo fPD)
  (lIN:FnAt K "__init__" "NoName.__init__" sInitN fIN)
  (lIC:FnAt K "__init__" "NoCount.__init__" sInitC fIC)
  (zmax:nsIn K mainGlobals "max"=some none)
  (zlen:nsIn K mainGlobals "len"=some none)
  (zint:nsIn K mainGlobals "int"=some none)
  (zrange:nsIn K mainGlobals "range"=some none)
  (zlist:nsIn K mainGlobals "list"=some none)
  (zreversed:nsIn K mainGlobals "reversed"=some none)
  (zisinstance:nsIn K mainGlobals "isinstance"=some none)
  (ztuple:nsIn K mainGlobals "tuple"=some none)
  (zdict:nsIn K mainGlobals "dict"=some none)
  (zzip:nsIn K mainGlobals "zip"=some none)
  (zall:nsIn K mainGlobals "all"=some none)
  (zbool:nsIn K mainGlobals "bool"=some none)
  (zValueError:nsIn K mainGlobals "ValueError"=some none)
  (kii:kitOne K (.type "int") (.type "int")=some true)
  (kib:kitOne K (.type "int") (.type "bool")=some false)
  (ktt:kitOne K (.type "tuple") (.type "tuple")=some true)
  (kdd:kitOne K (.type "dict") (.type "dict")=some true)
  (yvxN:kitOne K (.ref xN) (.type "ValueError")=some true)
  (yvxC:kitOne K (.ref xC) (.type "ValueError")=some true)
  (yvxL:kitOne K (.ref xL) (.type "ValueError")=some true)
  (yvxD:kitOne K (.ref xD) (.type "ValueError")=some true)
  (yxN:Kits K xN [(xW,false),(xN,true),(xC,false),(xL,false),(xD,false),(xT,false),(xS,false),(xR,false)])
  (yxC:Kits K xC [(xW,false),(xN,false),(xC,true),(xL,false),(xD,false),(xT,false),(xS,false),(xR,false)])
  (yxL:Kits K xL [(xW,false),(xN,false),(xC,false),(xL,true),(xD,false),(xT,false),(xS,false),(xR,false)])
  (yxD:Kits K xD [(xW,false),(xN,false),(xC,false),(xL,false),(xD,true),(xT,false),(xS,false),(xR,false)])
  :∃fd:FuncData,(∀(s:Shared) (v:Value),BindsTo s fd ⟨[v],[]⟩ [("_law_script",v)])/\∀base:Heap,K.In base->base.Ns mainGlobals mg->FnOk l.prog w K mg base CX0 220 fa fd ["_law_script"] (spLaw K):=by
 have e:=hfa.symm.trans (mg_of X G tZ.1)
 cases e
 obtain⟨dJo,FJo,kJo,mJo⟩:=tJo.go X G
 obtain⟨dWo,FWo,kWo,mWo⟩:=tWo.go X G
 obtain⟨dNa,FNa,kNa,mNa⟩:=tNa.go X G
 obtain⟨dBe,FBe,kBe,mBe⟩:=tBe.go X G
 obtain⟨dDe,FDe,kDe,mDe⟩:=tDe.go X G
 obtain⟨dBa,FBa,kBa,mBa⟩:=tBa.go X G
 obtain⟨dPl,FPl,kPl,mPl⟩:=tPl.go X G
 obtain⟨dBx,FBx,kBx,mBx⟩:=tBx.go X G
 obtain⟨dTk,FTk,kTk,mTk⟩:=tTk.go X G
 obtain⟨dNu,FNu,kNu,mNu⟩:=tNu.go X G
 obtain⟨dNm,FNm,kNm,mNm⟩:=tNm.go X G
 obtain⟨dTm,FTm,kTm,mTm⟩:=tTm.go X G
 obtain⟨dSp,FSp,kSp,mSp⟩:=tSp.go X G
 obtain⟨dCe,FCe,kCe,mCe⟩:=tCe.go X G
 obtain⟨dRf,FRf,kRf,mRf⟩:=tRf.go X G
 obtain⟨dWh,FWh,kWh,mWh⟩:=tWh.go X G
 obtain⟨dTo,FTo,kTo,mTo⟩:=tTo.go X G
 obtain⟨dSt,FSt,kSt,mSt⟩:=tSt.go X G
 obtain⟨dBo,FBo,kBo,mBo⟩:=tBo.go X G
 obtain⟨dAn,FAn,kAn,mAn⟩:=tAn.go X G
 obtain⟨dOp,FOp,kOp,mOp⟩:=tOp.go X G
 obtain⟨dIn,FIn,kIn,mIn⟩:=tIn.go X G
 obtain⟨dLo,FLo,kLo,mLo⟩:=tLo.go X G
 obtain⟨dTi,FTi,kTi,mTi⟩:=tTi.go X G
 obtain⟨dBu,FBu,kBu,mBu⟩:=tBu.go X G
 obtain⟨dCa,FCa,kCa,mCa⟩:=tCa.go X G
 obtain⟨dLw,FLw,kLw,mLw⟩:=tLw.go X G
 obtain⟨dLt,FLt,kLt,mLt⟩:=tLt.go X G
 obtain⟨dLr,FLr,kLr,mLr⟩:=tLr.go X G
 obtain⟨dDr,FDr,kDr,mDr⟩:=tDr.go X G
 obtain⟨dBr,FBr,kBr,mBr⟩:=tBr.go X G
 obtain⟨dFr,FFr,kFr,mFr⟩:=tFr.go X G
 obtain⟨dLp,FLp,kLp,mLp⟩:=tLp.go X G
 obtain⟨dRt,FRt,kRt,mRt⟩:=tRt.go X G
 obtain⟨dTI,FTI,kTI⟩:=lTI.go
 obtain⟨dTT,FTT,kTT⟩:=lTT.go
 obtain⟨dTN,FTN,kTN⟩:=lTN.go
 obtain⟨dPI,FPI,kPI⟩:=lPI.go
 obtain⟨dPA,FPA,kPA⟩:=lPA.go
 obtain⟨dPC,FPC,kPC⟩:=lPC.go
 obtain⟨dPD,FPD,kPD⟩:=lPD.go
 obtain⟨dIN,FIN,kIN⟩:=lIN.go
 obtain⟨dIC,FIC,kIC⟩:=lIC.go
 obtain⟨ocZ,odZ,kVZ,dcZ,pmZ,anZ,cdZ,ctZ,slZ,lZ,cZ,kZ⟩:=tZ.2
 have FZ:=Y1 (st:=sLaw) lZ cZ kZ
 have mclsC:=mg_of X G vclsC
 have mclsT:=mg_of X G vclsT
 have mxT:=mg_of X G vxT
 have mxW:=mg_of X G vxW
 have mxN:=mg_of X G vxN
 have mxC:=mg_of X G vxC
 have mxL:=mg_of X G vxL
 have mxD:=mg_of X G vxD
 have mxS:=mg_of X G vxS
 have mxR:=mg_of X G vxR
 have mxB:=mg_of X G vxB
 have mD:=mg_of X G vD
 have mTop:=mg_of X G vTop
 have nmax:=mg_none_of X G zmax
 have nlen:=mg_none_of X G zlen
 have nint:=mg_none_of X G zint
 have nrange:=mg_none_of X G zrange
 have nlist:=mg_none_of X G zlist
 have nreversed:=mg_none_of X G zreversed
 have nisinstance:=mg_none_of X G zisinstance
 have ntuple:=mg_none_of X G ztuple
 have ndict:=mg_none_of X G zdict
 have nzip:=mg_none_of X G zzip
 have nall:=mg_none_of X G zall
 have nbool:=mg_none_of X G zbool
 have nValueError:=mg_none_of X G zValueError
 have hE:clsIn K xB≠none:=by
  unfold clsIn
  rw[lE]
  intro z
  cases z
 have xmxL:XM K mg "TooLong" xL:=⟨excxL,kpxL,XcxL,tpxL,mxL⟩
 have xmxD:XM K mg "TooDeep" xD:=⟨excxD,kpxD,XcxD,tpxD,mxD⟩
 have TE:=tail_B excE
 let c:Cs:=⟨xT,xW,xN,xC,xL,xD,xS,xR,xB⟩
 have KRxN:KinR K c xN 1:=⟨XcxN,yxN.1,yxN.2.1,yxN.2.2.1,yxN.2.2.2.1,yxN.2.2.2.2.1,yxN.2.2.2.2.2.1,yxN.2.2.2.2.2.2.1,yxN.2.2.2.2.2.2.2.1,yvxN,mexN⟩
 have KRxC:KinR K c xC 2:=⟨XcxC,yxC.1,yxC.2.1,yxC.2.2.1,yxC.2.2.2.1,yxC.2.2.2.2.1,yxC.2.2.2.2.2.1,yxC.2.2.2.2.2.2.1,yxC.2.2.2.2.2.2.2.1,yvxC,mexC⟩
 have KRxL:KinR K c xL 3:=⟨XcxL,yxL.1,yxL.2.1,yxL.2.2.1,yxL.2.2.2.1,yxL.2.2.2.2.1,yxL.2.2.2.2.2.1,yxL.2.2.2.2.2.2.1,yxL.2.2.2.2.2.2.2.1,yvxL,mexL⟩
 have KRxD:KinR K c xD 4:=⟨XcxD,yxD.1,yxD.2.1,yxD.2.2.1,yxD.2.2.2.1,yxD.2.2.2.2.1,yxD.2.2.2.2.2.1,yxD.2.2.2.2.2.2.1,yxD.2.2.2.2.2.2.2.1,yvxD,mexD⟩
 refine⟨fnOf "law" "law" (defArgs sLaw) (defBody sLaw) (defScope sLaw) .none kVZ dcZ pmZ anZ cdZ ctZ,fun s v=>.of_eq rfl,fun base _ _=>?_⟩
 have GTk:FnOk l.prog w K mg base CX0 1 fTk _ _ spTake:=ok_take FTk
 have GBx:FnOk l.prog w K mg base CX0 1 fBx _ _ (spBox K):=ok_box FBx nlen nint
 have GNu:FnOk l.prog w K mg base CX0 2 fNu _ _ spNum:=Yu FNu GTk FTk.b2 kTk mTk
 have GNm:FnOk l.prog w K mg base CX0 2 fNm _ _ spNames:=ZF FNm GTk FTk.b2 kTk mTk nrange
 have TS:=terms (P:=l.prog) (w:=w) (base:=base) FTm FTm.b3 mTm GTk FTk.b2 kTk mTk GNu FNu.b1 kNu mNu nlen
 have GJo:FnOk l.prog w K mg base CX0 1 fJo _ _ spJoin:=Yx FJo mTop
 have GWo:FnOk l.prog w K mg base CX0 9 fWo _ _ (spWorth 8):=worths (P:=l.prog) (w:=w) (base:=base) FWo FWo.b2 mWo GJo FJo.b3 kJo mJo 8
 have GNa:FnOk l.prog w K mg base CX0 1 fNa _ _ spNamedF:=Yy FNa
 have GIN:FnOk l.prog w K mg base CX0 1 fIN _ _ (spInit xN "name"):=ZW FIN ⟨XcxN,noxN,_,Zh obxN,rfl,rfl⟩
 have GIC:FnOk l.prog w K mg base CX0 1 fIC _ _ (spInit xC "name"):=ZX FIC ⟨XcxC,noxC,_,Zh obxC,rfl,rfl⟩
 have MzN:XC l.prog w K mg base xN fIN _ "NoName":=⟨⟨⟨_,_,_,_,_,_,_,_,_,_,_,_,_,_,_,_,obxN,TE⟩,caxN,tyxN,kpxN⟩,xIN,iIN,GIN,FIN.b2,mxN,XcxN,tpxN⟩
 have MzC:XC l.prog w K mg base xC fIC _ "NoCount":=⟨⟨⟨_,_,_,_,_,_,_,_,_,_,_,_,_,_,_,_,obxC,TE⟩,caxC,tyxC,kpxC⟩,xIC,iIC,GIC,FIC.b2,mxC,XcxC,tpxC⟩
 have GN2:FnOk l.prog w K mg base (CX1 l.prog w) 3 fNa _ _ (spNamed2 xN):=YG FNa MzN
 have GBe:FnOk l.prog w K mg base (CX1 l.prog w) 4 fBe _ _ (spBegun2 xN xC):=YH FBe MzC GN2 FNa.b2 kNa mNa nlen
 have GDe:FnOk l.prog w K mg base (CX1 l.prog w) 1 fDe _ _ (spDeeper xD):=Yz FDe mD xmxD
 have GTI:FnOk l.prog w K mg base CX0 1 fTI _ _ (spTIni clsC):=ok_tini FTI ck
 have GTT:FnOk l.prog w K mg base (CX1 l.prog w) 1 fTT _ _ (spTurn clsC xL):=ZJ FTT ck xmxL
 have GTN:FnOk l.prog w K mg base CX0 1 fTN _ _ (spNumIn clsC):=ok_tnum FTN ck
 have GPI:FnOk l.prog w K mg base CX0 2 fPI _ _ (spPIni clsC):=ok_pini FPI ck GTI FTI.b3 mclsT tm
 have GBa:FnOk l.prog w K mg base CX0 10 fBa _ _ spBehind:=YB FBa GWo FWo.b2 kWo mWo nlist nreversed
 have GPA:FnOk l.prog w K mg base (CX1 l.prog w) 58 fPA _ _ (spAns clsC xL xD 16):=anss (P:=l.prog) (w:=w) (base:=base) ck FPA FPA.b4 mePA FPC FPC.b4 mePC FPD FPD.b5 mePD GWo FWo.b2 kWo mWo GNa FNa.b2 kNa mNa GTT FTT.b1 meTT GTN FTN.b2 meTN GDe FDe.b1 kDe mDe GBa FBa.b2 kBa mBa ntuple nlist nreversed ndict nzip 16
 have GPl:FnOk l.prog w K mg base (CX1 l.prog w) 59 fPl _ _ (spPlain2 clsC xL xD xN xC):=YI FPl ck mk GPI FPI.b4 mclsC GBe FBe.b3 kBe mBe GPA FPA.b4 mePA
 have GRf:FnOk l.prog w K mg base CX0 1 fRf _ _ (spRefused K c):=Xm (c:=c) FRf nisinstance nValueError mxT mxW mxN mxC mxL mxD mxS mxR
 have GWh:FnOk l.prog w K mg base CX0 1 fWh _ _ spWhole:=ZY FWh nisinstance nint nbool kii kib
 have GTo:FnOk l.prog w K mg base CX0 60 fTo _ _ spTold:=ok_told (c:=c) FTo GPl FPl.b5 kPl mPl GRf FRf.b1 kRf mRf KRxN noxN KRxC noxC KRxL KRxD GWh FWh.b1 kWh mWh mxB hE tpE mbE nisinstance ndict ntuple nlist nall nlen ktt kdd
 have GT2:=TS 2
 have GT4:=TS 4
 have GSp:FnOk l.prog w K mg base CX0 5 fSp _ _ spSpot:=ok_spot FSp GTk FTk.b2 kTk mTk GT2 FTm.b3 kTm mTm
 have GCe:FnOk l.prog w K mg base CX0 3 fCe _ _ spCells:=ZN FCe GTk FTk.b2 kTk mTk GNu FNu.b1 kNu mNu nrange
 have GST:=stms (P:=l.prog) (w:=w) (base:=base) FSt FBo GTk FTk.b2 kTk mTk GT4 FTm.b3 kTm mTm GSp FSp.b2 kSp mSp FSt.b5 mSt FBo.b5 mBo nlen ntuple nrange
 have GBo:FnOk l.prog w K mg base CX0 21 fBo _ _ (spBody 6):=(GST 6).2
 have GAn:FnOk l.prog w K mg base CX0 22 fAn _ _ spAny:=ok_any FAn GTk FTk.b2 kTk mTk GNm FNm.b2 kNm mNm GBo FBo.b5 kBo mBo nlen nrange ntuple nint
 have GOp:FnOk l.prog w K mg base CX0 2 fOp _ _ spOp:=ok_op FOp GTk FTk.b2 kTk mTk
 have GIn:FnOk l.prog w K mg base CX0 3 fIn _ _ (spDefn 2):=ZR FIn GTk FTk.b2 kTk mTk GOp FOp.b3 kOp mOp
 have GLo:FnOk l.prog w K mg base CX0 3 fLo _ _ (spDefn 1):=YD FLo GTk FTk.b2 kTk mTk GOp FOp.b3 kOp mOp nint ntuple
 have GTi:FnOk l.prog w K mg base CX0 3 fTi _ _ (spDefn 1):=Xk FTi GTk FTk.b2 kTk mTk GOp FOp.b3 kOp mOp nint ntuple
 have GBu:FnOk l.prog w K mg base CX0 4 fBu _ _ spBusy:=ok_busy FBu GTk FTk.b2 kTk mTk GOp FOp.b3 kOp mOp GNm FNm.b2 kNm mNm GLo FLo.b4 kLo mLo GTi FTi.b4 kTi mTi GIn FIn.b4 kIn mIn
 have GCa:FnOk l.prog w K mg base CX0 23 fCa _ _ spCase:=ok_case FCa GTk FTk.b2 kTk mTk GNu FNu.b1 kNu mNu GBu FBu.b1 kBu mBu GAn FAn.b3 kAn mAn nlen ntuple
 have GLw:FnOk l.prog w K mg base CX0 9 fLw _ _ (spLW 8):=lws (P:=l.prog) (w:=w) (base:=base) FLw FLw.b2 mLw nint nmax 8
 have GLt:FnOk l.prog w K mg base CX0 1 fLt _ _ spTurnL:=ZU FLt
 have GFr:FnOk l.prog w K mg base CX0 217 fFr _ _ (spFR 15):=frs (P:=l.prog) (w:=w) (base:=base) GLw FLw.b2 kLw mLw GLt FLt.b2 kLt mLt FBr FBr.b5 kBr mBr FLr FLr.b5 kLr mLr FDr FDr.b5 kDr mDr FFr FFr.b5 kFr mFr nint ntuple ndict nzip 15
 have GLp:FnOk l.prog w K mg base CX0 218 fLp _ _ spLP:=ok_lp FLp GFr FFr.b5 kFr mFr ndict
 have GRt:FnOk l.prog w K mg base CX0 219 fRt _ _ spRight:=Z2 FRt GLp FLp.b5 kLp mLp GTo FTo.b5 kTo mTo
 exact ok_law FZ GTk FTk.b2 kTk mTk GBx FBx.b2 kBx mBx GNu FNu.b1 kNu mNu GCe FCe.b1 kCe mCe GCa FCa.b1 kCa mCa GRt FRt.b5 kRt mRt GTo FTo.b5 kTo mTo nrange nint nlen ntuple
theorem walk{l:PySem.W.OpenLaw}{q:Program}{loose:List Str}{XP:(Str->Option Value)->Heap->Prop}{YP:World->Heap->Prop}{d:DefRec}{K:Params->Frag}(hn:l.most=some 63)(hdf:d.params.defaults=[])
  (hY:∀(w:World) (h:Heap),YP w h->(K w.params).In h)
  (F:∀(w:World) (mg:Str->Option Value) (fa:Addr) (h:Heap),(K w.params).In h->h.Ns mainGlobals mg->mg d.name=some (.ref fa)->
   ∃fd:FuncData,(∀(s:Shared) (u:Value),BindsTo s fd ⟨[u],[]⟩ [("_law_script",u)])/\∀base:Heap,(K w.params).In base->base.Ns mainGlobals mg->FnOk l.prog w (K w.params) mg base CX0 220 fa fd ["_law_script"] (spLaw (K w.params))):
  PySem.W.WalkO q loose XP YP l.row.toRowW d [] (fun f vs=>PySem.call f vs):=
 L2.walk_of (n:=63) (k:=220) (x:="_law_script") (CX:=fun _=>CX0) (sp:=fun w=>spLaw (K w.params)) hn (by decide) hdf ⟨rfl,by decide,by decide⟩ hY F (fun _ _ a ns hl _ hS=>⟨a,ns,rfl,hS,hl,fun _=>rfl⟩) fun _ _ _ _ _ z=>z
end K12
namespace PySem.W.Fast
def tw7975389914325280627:=0
def tw13505218920111484527:=0
def tw11392841729335174834:=0
def tw6409776592158259467:=0
def tw5111583574524828164:=0
def tw7622211995734407799:=0
def tw8787403650593452819:=0
def tw15450822137285535469:=0
def tw12208621369498479475:=0
def tw11911457957432504263:=0
def tw13544186187523773147:=0
def tw4566454518114180198:=0
def tw12148620041151942684:=0
def tw12923429361573904850:=0
def tw5329346093330153803:=0
def tw13826669591921162690:=0
def tw8941691063317555525:=0
def tw5845072783049859622:=0
def tw8648361770266807543:=0
def tw4286418079789445327:=0
def tw14293941515003361094:=0
def tw14594045811285198307:=0
def tw2099724609867476618:=0
def tw740860997742931003:=0
def tw454497701404917356:=0
def tw2434351295255557127:=0
def tw13761796944734620766:=0
def tw11593273951587985822:=0
def tw2267416946118618096:=0
def tw7765071881017290947:=0
def tw2928410251213739821:=0
def tw18256308540963365026:=0
def tw2144611150702030808:=0
def tw5663341168969189:=0
def tw13428540486036604940:=0
def tw9281424640990038223:=0
def tw1302673989294186294:=0
def tw896567606984619671:=0
def tw12050946496074514874:=0
def tw8091263958993219965:=0
def tw9445657427671876905:=0
def tw8029541826965236755:=0
def tw4739126467853780628:=0
def tw4345612081823909439:=0
def tw5597148441693659044:=0
def tw17344621416514795644:=0
def tw16812047676598117405:=0
def tw16512041679341804412:=0
def tw16546523057211832820:=0
def tw16639235003272829293:=0
def tw15042705867974028741:=0
def tw6966528864009730075:=0
def tw456952796251026968:=0
def tw15571979646943652616:=0
def tw16706486949306666171:=0
def tw7774673825862843734:=0
def tw9744803290842625974:=0
def tw8158129749052472869:=0
def tw706345856407879317:=0
def tw11422804737686270410:=0
def tw16524331001326309599:=0
def tw16612771228910233132:=0
def tw11372612534822433107:=0
def tw12874131578331658366:=0
def tw13891002016708895569:=0
def tw14633933973261832262:=0
def tw13732724254956572587:=0
def tw655249632340497732:=0
def tw15193040983279328030:=0
def tw3907991632510232449:=0
def tw12086604451221000698:=0
def tw17264132513848896631:=0
def tw3915724721359975630:=0
def tw14989009933694644555:=0
def tw18396555414490064512:=0
def tw599224515822059236:=0
def tw8544274672694267441:=0
def tw8309770393886338010:=0
def tw10034934567901001932:=0
def tw3765516885403426714:=0
def tw4530788980330262943:=0
def tw11780807004475725894:=0
def tw15690848782977871239:=0
def tw13313408923465158151:=0
def tw6256900126384238676:=0
def tw15860317585341157078:=0
def tw16559344297763126932:=0
def tw14812003575142803235:=0
def tw1269616852645672969:=0
def tw16694303294022162598:=0
def tw16492774730222533167:=0
def tw153453481719851231:=0
def tw775224470200285718:=0
def tw15484394104856723635:=0
def tw12696705247771213735:=0
def tw14626206986569058549:=0
def tw8246912569907640414:=0
def tw576842527572734706:=0
def tw12851234457976062302:=0
def tw7840331254122924970:=0
def tw9744979979947166446:=0
def tw14784271122572957802:=0
def tw2096954190112646332:=0
end PySem.W.Fast
open PySem PySem.W PyProof.Rows PySem.W.X
theorem K12.walkX {q : Program} {loose : List PySem.Str} {XP : (PySem.Str → Option Value) → Heap → Prop} {K : Params → Frag} {as : List Addr} {n t : Nat} {r : RowW} {d : DefRec} {kwd : List (PySem.Str × PySem.Expr)} {run : Value → List Value → Sem Value}
    (e : ∀ P, as = (K P).map (·.1)) (h : WalkO q loose XP (InK K) r d kwd run) : WalkX q loose XP (obsZ as) (valZ K n t) r d kwd run :=
  fun w s₀ s₁ mg mb G Y a o pm cd doc dV kV h1 h2 h3 h4 h5 h6 args vals as' L => h w s₀ s₁ mg mb G (InK.keeps w _ _ (z_facts e Y).2.1 L.keeps) a o pm cd doc dV kV h1 h2 h3 h4 h5 h6 args vals as'
set_option maxRecDepth 100000 in
set_option maxHeartbeats 0 in
theorem PySem.Challenge.cw_againbook_k12_whole_plain_runs_holds : PySem.Challenge.rw_againbook_k12_whole_plain_runs.Holds := by
  w_on; o_law; z_head; (case hw => w_witness2)
  refine K12.walkX (fun _ => by rfl) (K12.walk (l := PySem.Challenge.rw_againbook_k12_whole_plain_runs) rfl rfl (fun w h Y => Y) ?F)
  case F =>
    intro w mg fa h KX G hmg
    apply K12.all_mk KX G hmg
    iterate 35 (apply K12.topA;iterate 4 k_is)
    iterate 16 k_is
    iterate 3 k_exc
    iterate 4 (constructor<;>k_is)
    iterate 24 k_is
    refine ⟨⟨?_,?_,?_,?_⟩,?_,?_,?_,?_,?_⟩;iterate 4 k_is
    iterate 5 (unfold L2.NoAttr;k_is)
    iterate 2 (constructor;iterate 4 k_is)
    iterate 5 (constructor;iterate 3 k_is)
    iterate 9 (apply K12.fnA;iterate 3 k_is)
    iterate 13 k_is
    iterate 8 kit_is
    iterate 4 (refine ⟨?_,?_,?_,?_,?_,?_,?_,?_,trivial⟩;iterate 8 kit_is)
