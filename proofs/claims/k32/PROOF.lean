import PyProof.Rows.All
import Wide.All
import OpenK.AllK
import Wide.FinOn
import Lean
import PyProof.EqAt
import PyProof.EqKinds
import PyProof.TupleCall
import PySem.Challenge.RW_againbook_k32_turned_and_kept
set_option Elab.async false
set_option linter.all false
set_option maxRecDepth 100000
set_option genSizeOf false
theorem iK:0≤PySem.sizeLine:=by decide
theorem lY:1≤PySem.sizeLine:=by decide
theorem bM:2≤PySem.sizeLine:=by decide
theorem gE:3≤PySem.sizeLine:=by decide
theorem pU:4≤PySem.sizeLine:=by decide
set_option Elab.async false
set_option linter.all false
set_option maxRecDepth 100000
set_option maxHeartbeats 4000000
open PySem.W (keepIn Frag nsIn kitOne fnOf mg_of codeIn findIn mroIn isFn mg_none_of kia_one typeIn emptyDict clsIn instObj hasDictIn kitAny specialIn callWith_K excIn lookIn plainGet notCls tailIn)
theorem OF{p:Prop}(h:p:=by decide):p:=h
theorem OG{p:Prop}(h:p:=by omega):p:=h
theorem OH{p:Prop}(h:p:=by simp):p:=h
theorem OJ{p:Prop}(h:p:=by decide +kernel):p:=h
theorem OK{p:Prop}(h:p:=by rfl):p:=h
theorem Z{α:Sort u}{a:α}:a=a:=rfl
open PySem renaming wpAny_bind->HV,wpAny_pure->HY,wpAny_field->IE,wpAny_holding->IF,wpAny_callSpecial?_slot->IP,wpAny_newObj_type->IR,wpAny_call_entry->IU,builtinLookup_eq_fast->IY,wpAny_setField->IZ,wpAny_Call_Name_kw->I8,wpAny_seqItems->Lb,boot_len->Ld,wpAny_mono->Ln,typeLookup_type->Lx,codeAny_builtin->Lz,mem_of_lookup->LC,isSubtype_type->LI,wpAny_setState_of->LL,wpAny_specialOf->LN,wpAny_typeOf->LS,wpAny_rule->LX,plainId_quiet->Mf,wpAny_isInstance->Mh,wpAny_setField_rec->Mn,wpAny_passesOwn->Mo,wpAny_standAt->Ms,wpAny_truthy_bool->Mv,wpAny_askSetting->MD,codeAny_mono->MF,wpAny_setEntries_of->MK,wpAny_attempt->MM,wpAny_execs_nil->MS,wpAny_pyIter_tuple->MT,tupleKind_room_in1->Ng,wpAny_pyIter_list->Nq,wpAny_of_eq->Nr,fits_of_scanBound->Nt,entryFor_of_tree->ND,wpAny_updateSeq->NP,wpAny_fieldsOf->NV,sizeLine_eq->NW,isSubtype_stop->NY,entryFor_alias->NZ,call_meets->N9,wpAny_sequenceKey->Oi,wpAny_pyIter_slot->Oj,wpAny_execs_cons->Oq,noFill_tuple_add->Ot
open List renaming getElem?_eq_getElem->HW,length_map->HZ,length_append->Ia,size_toArray->Ic,getElem?_map->Ir,mem_append_right->Iw,mem_cons_self->Iz,mem_of_getElem?->IA,length_take->ID,length_cons->IH,mem_cons_of_mem->II,map_append->IJ,not_mem_nil->IL,append_nil->IS,mem_of_mem_take->Lc,take_length->Lj,lookup_cons->Lk,getElem?_eq_none->Ll,mem_append_left->Lv,length_drop->Lw,take_of_length_le->LA,take_add_one->LB,map_cons->LG,getElem_cons_drop->LJ,getElem?_append_right->LO,getElem?_append_left->LU,take_sublist->LZ,getElem?_set_ne->L9,mem_cons->Md,forIn_cons->Mi,length_singleton->Mj,reverse_cons->Mm,take_succ->Mq,getD_eq_getElem?_getD->Mr,map_map->Mu,mem_append->My,find?_cons->Mz,getElem?_set_self->MQ,take_append_drop->MU,length_filter_le->MV,getElem?_reverse->MW,getElem_mem->MY,forIn_nil->M7,length_range->M9,append_assoc->M',map_take->Nb,append_cancel_right->Nc,any_cons->Nf,all_eq_true->Nk,of_mem_zip->Nv,length_set->Nw,length_replicate->NC,nodup_nil->NE,drop_zero->NF,length_reverse->NM,filterMap_cons->NN,mem_singleton->NR,getElem?_drop->NT,eraseIdx_eq_take_drop_succ->N6,ext_getElem->N8,length_zip->Ob,length_nil->Oc,take_take->Om,length_eraseIdx_of_lt->On,getElem?_zip_eq_some->Op,all_cons->Ou,getElem?_replicate->OB,append_cancel_left->OD
open PySem.Heap renaming get?_push_of_some->HX,lt_size->Ie,get?_push_size->Ig,get?_update_other->Iv,get?_update_self->IQ,size_push->I0
open Nat renaming le_refl->Ib,ne_of_lt->Ij,le_trans->Ik,zero_le->Il,lt_of_lt_of_le->Ip,ne_of_gt->I9,lt_irrefl->Li,lt_succ_self->Ls,le_succ->Lu,succ_le_succ->LD,lt_of_le_of_lt->LF,min_eq_left->LW,le_of_lt->Mg,lt_succ_of_lt->Ml,le_add_right->Mt,zero_add->MP,le_max_right->MX,not_lt_zero->M1,le_max_left->M3,sub_self->M4,le_of_not_lt->Nj,lt_or_ge->No,sub_zero->N0,le_of_eq->N4,min_le_left->Oa
open Bool renaming false_ne_true->Ih,false_eq_true->Iq,and_eq_true->Lp,not_true->MZ,eq_iff_iff->Nx,and_false->NG,or_false->Ov
open PySem.F renaming plainAttrs_list->Ii,type_list_append->Ix,slot_list_append->Iy,slot_tuple_iterator_next->Lm,slot_zip_next->Lq,type_list_extend->Mb,slot_list_extend->Mc,args_tuple_iterator_next_1->MG,plain_list_iadd->MH,args_zip_next_1->MJ,entry_tuple_iterator_next->ML,entry_zip_next->MO,args_object_init_2->M6,args_tuple_add_2->Na,entry_tuple_add->Ni,slot_tuple_add->Nl,plainAttrs_str->Nn,type_str_join->Nz,slot_str_join->NA,slot_dict_get->NB,plain_proto_collect->Of,entry_proto_collect->Og,plain_extend_loop->Oo,plain_tuple_new->Ox,plainAttrs_dict->Oy,entry_list_iadd->Oz,args_dict_get_3->OA
open Array renaming length_toList->IC,getElem?_toList->LQ,getElem?_eq_getElem->LV,getElem?_eq_none->Np,size_append->N5
open PySem.PassesOwn renaming never->IK
open Ne renaming symm->IM
open PySem.Obj renaming data_mapFields->IN,isFreed_of_fields->Lo,cls_mapFields->M0
open PyProof.Rows renaming callWith_type1->IV,boot_tuple->LM,slot_tuple_getitem->Me
open Int renaming toNat_natCast->IW,emod_lt_of_pos->IX,emod_nonneg->Le,eq_ofNat_of_zero_le->OE
open Option.some renaming inj->J'
open PySem.Around renaming under_plainId->Lh
open PySem.AutoSeq1 renaming wpAny_loadPart'->LH
open PySem.Heap.SameBut renaming update->LP
open PySem.Calls renaming spliced_cons->Ma,spliced_nil->Mw,callWith_builtin->NO
open PySem.W renaming mg_none_of->Mp,methodCall_KW->Ny,plainGet_of->NH,callWith_K0->NJ,mg_of->Oe,callWith_K->Ol
open PyProof.Rows.F renaming plain_set_update_loop->Mx,entry_set_update_loop->NK
open PySem.Value renaming isStrOf_shape->M8
open Option renaming map_some->Nu,getD_none->N7
open PySem.W.KFB renaming if_not->NQ
open PySem.Heap.IsSliceOf renaming new->Od
open Iff renaming rfl->Oh
noncomputable def Im:=@decide_eq_false
noncomputable def Io:=@if_pos
noncomputable def Iu:=@if_neg
noncomputable def IB:=@decide_eq_true
noncomputable def IG:=@trivial
noncomputable def K':=@congrArg
noncomputable def La:=@of_decide_eq_true
noncomputable def Lr:=@if_false
noncomputable def LY:=@bne_self_eq_false
noncomputable def ME:=@of_decide_eq_false
noncomputable def MN:=@if_true
noncomputable def M5:=@or_false
noncomputable def Nh:=@beq_self_eq_true
local macro_rules|`(#[$x,*])=>`(⟨$x,*⟩)
local macro_rules|`(tactic|omega)=>`(tactic|lia)
namespace _L
open PySem PySem.Spec PyProof.Rows
abbrev bE:=Sum Int Str
noncomputable def iU:bE->Value->Bool
 | .inl k,v=>Value.isInt k v
 | .inr x,v=>Value.isStrOf x v
noncomputable def Gh(w:World):bE->Int
 | .inl k=>hashInt k
 | .inr x=>hashStr w x
theorem j4:∀{k:bE} {v:Value},iU k v=true->(∃i t,k=Sum.inl i/\v=Value.int i t)∨(∃x t,k=Sum.inr x/\v=Value.str x t)
 | .inl i,v,h=>by
  obtain⟨t,e⟩:=Value.isInt_shape (k:=i) (v:=v) h
  exact .inl #[i,t,Z,e]
 | .inr x,v,h=>by
  obtain⟨t,e⟩:=M8 (x:=x) (v:=v) h
  exact .inr #[x,t,Z,e]
theorem Zg(i:Int)(t:Tok):iU (.inl i) (.int i t)=true:=by simp [iU,Value.isInt]
theorem Zh(x:Str)(t:Tok):iU (.inr x) (.str x t)=true:=by simp [iU,Value.isStrOf]
theorem A8(a b:Int):decide ((Sum.inl a:bE)=Sum.inl b)=(a==b):=by
 by_cases e:a=b
 ·subst e;simp
 ·have h:¬(Sum.inl a:bE)=Sum.inl b:=λq=>e (Sum.inl.inj q)
  rw[Im h]
  exact(beq_eq_false_iff_ne.mpr e).symm
theorem Be(a b:Str):decide ((Sum.inr a:bE)=Sum.inr b)=decide (a=b):=by
 by_cases e:a=b
 ·subst e;simp
 ·have h:¬(Sum.inr a:bE)=Sum.inr b:=λq=>e (Sum.inr.inj q)
  rw[Im h,Im e]
theorem A9(a:Int)(b:Str):decide ((Sum.inl a:bE)=Sum.inr b)=false:=Im (λq=>nomatch q)
theorem Bc(a:Str)(b:Int):decide ((Sum.inr a:bE)=Sum.inl b)=false:=Im (λq=>nomatch q)
noncomputable def aR(p:Program)(w:World):PySem.KeyKind p w bE where
 is:=iU
 hash:=Gh w
 inj:=λv a b d c=>by
  rcases j4 d with ⟨i,t,rfl,rfl⟩ | ⟨x,t,rfl,rfl⟩
  ·rcases j4 c with ⟨j,u,rfl,e⟩ | ⟨y,u,rfl,e⟩
   ·injection e with E _;rw[E]
   ·exact nomatch e
  ·rcases j4 c with ⟨j,u,rfl,e⟩ | ⟨y,u,rfl,e⟩
   ·exact nomatch e
   ·injection e with E _;rw[E]
 byValue:=λk v h=>by
  rcases j4 h with ⟨i,t,rfl,rfl⟩ | ⟨x,t,rfl,rfl⟩<;>rfl
 pyHash:=λH h=>by
  rcases j4 H with ⟨i,t,rfl,rfl⟩ | ⟨x,t,rfl,rfl⟩
  ·exact wpAny_pyHash_int h
  ·exact wpAny_pyHash_str h
 eqBool:=λf H h=>by
  rcases j4 f with ⟨i,t,rfl,rfl⟩ | ⟨x,t,rfl,rfl⟩
  ·rcases j4 H with ⟨j,u,rfl,rfl⟩ | ⟨y,u,rfl,rfl⟩
   ·rw[A8]at h;exact wpAny_eqBool_int h
   ·rw[A9]at h;exact SeqAt.EqAt.int_str i t y u _ _ _ _ h
  ·rcases j4 H with ⟨j,u,rfl,rfl⟩ | ⟨y,u,rfl,rfl⟩
   ·rw[Bc]at h;exact SeqAt.EqAt.str_int x t j u _ _ _ _ h
   ·rw[Be]at h;exact wpAny_eqBool_str h
 «strs»:=λk x t v h=>by
  rcases j4 h with ⟨i,u,rfl,e⟩ | ⟨y,u,rfl,e⟩
  ·exact nomatch e
  ·injection e with E _
   subst E
   cases v<;>rfl
theorem Xy(p:Program)(w:World)(i:Int)(t:Tok):(aR p w).is (.inl i) (.int i t)=true:=Zg i t
theorem Xz(p:Program)(w:World)(x:Str)(t:Tok):(aR p w).is (.inr x) (.str x t)=true:=Zh x t
end _L
namespace _L
open PySem PySem.Spec PyProof.Rows
inductive V where
 |non |bl (b:Bool) |int (i:Int) |str (x:Str) |byt (b:Array UInt8) |flt (b:UInt64) |ref (a:Addr) |ty (n:String)
 deriving DecidableEq
set_option genInjectivity false
def aD:V->Value->Prop
 | .non,u=>u=Value.none
 | .bl b,u=>u=Value.bool b
 | .int i,u=>∃t,u=Value.int i t
 | .str x,u=>∃t,u=Value.str x t
 | .byt b,u=>∃t,u=Value.bytes b t
 | .flt b,u=>∃t,u=Value.float b t
 | .ref a,u=>u=Value.ref a
 | .ty n,u=>u=Value.type n
abbrev au:List V->List Value->Prop:=Paired aD
theorem au.length(r:au x u):x.length=u.length:=Paired.length r
theorem au.get:∀{X:List V} {U:List Value} {i:Nat} {x:V},au X U->X[i]?=some x->∃u,U[i]?=some u/\aD x u
 |_,_,_,_,.nil,e=>by simp at e
 |_,_,0,_,.cons r _,e=>by simp at e;subst e;exact#[_,Z,r]
 |_,_,i+1,x,.cons _ t,e=>by
  obtain⟨u,h,H⟩:=au.get (i:=i) (x:=x) t (by simpa using e)
  exact#[u,by simpa using h,H]
theorem au.set(r:aD x u):∀{X:List V} {U:List Value} (i:Nat),au X U->au (X.set i x) (U.set i u)
 |_,_,_,.nil=>.nil
 |_,_,0,.cons _ t=>.cons r t
 |_,_,i+1,.cons q t=>.cons q (au.set r i t)
theorem au.append:∀{x y:List V} {u w:List Value},au x u->au y w->au (x++y) (u++w)
 |_,_,_,_,.nil,s=>s
 |_,_,_,_,.cons r t,s=>.cons r (au.append t s)
theorem au.take:∀{x:List V} {u:List Value} (n:Nat),au x u->au (x.take n) (u.take n)
 |_,_,0,_=>.nil
 |_,_,_+1,.nil=>.nil
 |_,_,n+1,.cons r t=>.cons r (au.take n t)
theorem au.drop:∀{x:List V} {u:List Value} (n:Nat),au x u->au (x.drop n) (u.drop n)
 |_,_,0,r=>r
 |_,_,_+1,.nil=>.nil
 |_,_,n+1,.cons _ t=>au.drop n t
def dG:Option V->Option Value->Prop
 |some v,some u=>aD v u
 |none,none=>True
 |_,_=>False
def KV{a:Type}:List (a×V)->List (a×Value)->Prop:=Paired λ(p:a×V) (q:a×Value)=>p.1=q.1/\aD p.2 q.2
noncomputable def kV:bE->V
 | .inl i=>.int i
 | .inr x=>.str x
inductive HO where
 |lst (xs:List V)
 |tup (xs:List V)
 |dK (kvs:List (bE×V)) |dT (kvs:List (List bE×V))
 |set (S:Int->Bool) (n:Nat)
 |ins (C dx:Addr) (fs:List (Str×V))
 |own (x:Addr)
 |xd (fs:List (Str×V))
 |met (f x:Addr)
 |rng (lo hi:Int)
 |frz (o:Obj) (u:HO)
 |tbl (ps:Array Value)
 |ext (φ:Heap->Prop)
abbrev Hp:=Addr->Option HO
noncomputable def ah(H:Hp)(a:Addr)(o:HO):Hp:=λb=>if b=a then some o else H b
theorem jc:ah H a o a=some o:=by unfold ah;rw[Io Z]
theorem jh(h:b≠a):ah H a o b=H b:=by unfold ah;rw[Iu h]
theorem jO{H:Hp}(h:H a=some o)(c:H b=some u)(d:o≠u):a≠b:=by
 intro e;subst e;rw[h]at c;exact d (J' c)
theorem jk{H:Hp}(h:H a=some o)(c:H b=none):a≠b:=by
 intro e;subst e;rw[h]at c;cases c
section
variable (P:Program)(w:World)
def aQ(H:Hp)(h:Heap)(a:Addr):HO->Prop
 | .lst X=>X.length<=sizeLine/\∃(i:List Value) (n:Nat),au X i/\h.get? a=some { cls:=.type "list",data:=.seq i.toArray n }
 | .tup X=>X.length<=sizeLine/\∃i:List Value,au X i/\IsTup h a i.toArray
 | .dK k=>k.length<=sizeLine/\(a==sysModules)=false/\∃c,KV k c/\h.DictOf (aR P w) a c
 | .dT k=>k.length<=sizeLine/\(a==sysModules)=false/\∃X:List (List bE×Addr×Value),
   Paired (λ(p:List bE×V) (q:List bE×Addr×Value)=>p.1=q.1/\H q.2.1=some (.tup (p.1.map kV))/\aD p.2 q.2.2) k X/\
   ∃o e E,h.get? a=some o/\o.ExactDict/\o.data= .dict e E/\e.toList=X.map (entryOfKey (tupleKind (aR P w)))/\(X.map (·.1)).Nodup
 | .set S n=>h.SetOf (intKind P w) a S n
 | .ins C d F=>H d=some (.own a)/\F.length<=1000/\d≠a/\h.get? a=some (instObj C d)/\
   ∃m,h.Ns1 d m/\(∀f,dG (F.lookup f) (m f))/\PySem.Within m (F.map (·.1))
 | .own _=>∃o,h.get? a=some o
 | .xd F=>∃m,h.Ns1 a m/\∀f,dG (F.lookup f) (m f)
 | .rng lo l=>∃t u v,h.get? a=some { cls:=.type "range",data:=.fields (List.toArray [.int lo t,.int l u,.int 1 v]) }
 | .frz o u=>h.get? a=some o/\aQ H h a u
 | .tbl r=>h.get? a=some { cls:=.none,data:=.fields r }
 | .met f x=>h.get? a=some (PySem.W.methodObj (.ref f) (.ref x))
 | .ext b=>b h/\(∃o,h.get? a=some o)/\∀g j:Heap,b g->(∀o,g.get? a=some o->j.get? a=some o)->b j
def eL(H:Hp)(h:Heap):Prop:=∀a o,H a=some o->aQ P w H h a o
end
section
variable {P:Program}{w:World}{H H':Hp}{h h':Heap}{a:Addr}{o:HO}
theorem aQ.lt(x:aQ P w H h a o):a < h.objs.size:=by
 cases o with
 |lst X=>obtain⟨_,_,_,_,e⟩:=x;exact Ie e
 |tup X=>obtain⟨_,_,_,p⟩:=x;exact p.lt
 |dK k=>obtain⟨_,_,_,_,o,_,_,e,_⟩:=x;exact Ie e
 |dT k=>obtain⟨_,_,_,_,o,_,_,e,_⟩:=x;exact Ie e
 |set S n=>obtain⟨o,_,_,_,e,_⟩:=x;exact Ie e
 |ins C d F=>obtain⟨_,_,_,e,_⟩:=x;exact Ie e
 |own y=>obtain⟨_,e⟩:=x;exact Ie e
 |xd F=>obtain⟨_,⟨_,_,_,e,_⟩,_⟩:=x;exact Ie e
 |rng lo b=>obtain⟨_,_,_,e⟩:=x;exact Ie e
 |frz O u=>obtain⟨e,_⟩:=x;exact Ie e
 |tbl c=>exact Ie (show h.get? a=some _ from x)
 |met f y=>exact Ie (show h.get? a=some _ from x)
 |ext g=>obtain⟨_,⟨_,e⟩,_⟩:=x;exact Ie e
theorem Paired.mapP{c d:Type}{F G:c->d->Prop}:∀{l:List c} {L:List d},Paired F l L->(∀a b,F a b->G a b)->Paired G l L
 |_,_,.nil,_=>.nil
 |_,_,.cons r t,f=>.cons (f _ _ r) (Paired.mapP t f)
theorem aQ.stay(x:aQ P w H h a o)(k:∀b u,(b=a∨H b=some (.own a))->h.get? b=some u->h'.get? b=some u)
  (s:∀b,H b=some (.own a)->H' b=some (.own a)) (A:∀b X,H b=some (.tup X)->H' b=some (.tup X)):aQ P w H' h' a o:=by
 induction o with
 |lst X=>obtain⟨z,i,n,r,e⟩:=x;exact#[z,i,n,r,k _ _ (.inl Z) e]
 |tup X=>obtain⟨z,i,r,O,e,c⟩:=x;exact#[z,i,r,O,k _ _ (.inl Z) e,c]
 |dK K=>obtain⟨z,y,V,r,O,E,g,e,c⟩:=x;exact#[z,y,V,r,O,E,g,k _ _ (.inl Z) e,c]
 |dT K=>
  obtain⟨z,y,X,r,O,E,g,e,c⟩:=x
  exact#[z,y,X,Paired.mapP r λp q z=>#[z.1,A _ _ z.2.1,z.2.2],O,E,g,k _ _ (.inl Z) e,c]
 |set S n=>obtain⟨O,E,g,t,e,c⟩:=x;exact#[O,E,g,t,k _ _ (.inl Z) e,c]
 |ins C D F=>
  obtain⟨d,z,N,e,m,⟨j,E,g,B,c⟩,r⟩:=x
  exact#[s _ d,z,N,k _ _ (.inl Z) e,m,#[j,E,g,k _ _ (.inr d) B,c],r]
 |own y=>obtain⟨O,e⟩:=x;exact#[O,k _ _ (.inl Z) e]
 |xd F=>obtain⟨m,⟨j,E,g,e,c⟩,r⟩:=x;exact#[m,#[j,E,g,k _ _ (.inl Z) e,c],r]
 |rng lo G=>obtain⟨t,u,v,e⟩:=x;exact#[t,u,v,k _ _ (.inl Z) e]
 |frz O u I=>obtain⟨e,q⟩:=x;exact#[k _ _ (.inl Z) e,I q]
 |tbl l=>
  have e:h.get? a=some { cls:=.none,data:=.fields l }:=x
  show h'.get? a=some { cls:=.none,data:=.fields l }
  exact k a _ (.inl Z) e
 |met f y=>
  have e:h.get? a=some (PySem.W.methodObj (.ref f) (.ref y)):=x
  show h'.get? a=some (PySem.W.methodObj (.ref f) (.ref y))
  exact k a _ (.inl Z) e
 |ext J=>obtain⟨p,⟨o,e⟩,st⟩:=x;exact#[st _ _ p λo q=>k _ _ (.inl Z) q,#[o,k _ _ (.inl Z) e],st]
theorem eL.lt(x:eL P w H h)(e:H a=some o):a < h.objs.size:=(x a o e).lt
theorem eL.fresh(x:eL P w H h)(e:h.objs.size<=a):H a=none:=by
 cases q:H a with
 |none=>rfl
 |some u=>exact absurd (Ip (x.lt q) e) (Li _)
theorem eL.kept(x:eL P w H h)(k:∀b u,h.get? b=some u->h'.get? b=some u):eL P w H h':=λa o e=>
 (x a o e).stay (λb u _ q=>k b u q) (λ_ q=>q) λ_ _ q=>q
theorem eL.laid(x:eL P w H h)(k:∀b u,h.get? b=some u->h'.get? b=some u)(g:h.objs.size<=a)(n:aQ P w (ah H a o) h' a o):eL P w (ah H a o) h':=λb u e=>by
 have d:=x.fresh g
 by_cases f:b=a
 ·subst f;rw[jc]at e;cases e;exact n
 ·rw[jh f]at e
  exact(x b u e).stay (λc v _ q=>k c v q) (λc q=>by rw[jh (jk q d)];exact q) λc X q=>by rw[jh (jk q d)];exact q
end
def Rd(H:Hp)(a:Addr)(u:HO):Prop:=H a=some u∨∃o,H a=some (.frz o u)
theorem Rd.ok{P:Program}(r:Rd H a u)(x:eL P w H h):aQ P w H h a u:=by
 rcases r with r | ⟨o,r⟩
 ·exact x a u r
 ·obtain⟨_,q⟩:=x a _ r
  exact q
def DG:Option HO->Prop
 |some (.lst _)=>True
 |some (.dK _)=>True
 |some (.dT _)=>True
 |some (.set _ _)=>True
 |some (.ins _ _ _)=>True
 |some (.ext _)=>True
 |_=>False
section
variable {P:Program}{w:World}{H:Hp}{h h':Heap}{x e:Addr}{o':HO}
theorem eL.write(o:eL P w H h)(m:DG (H x))(i:e=x∨H e=some (.own x))(k:∀b u,b≠e->h.get? b=some u->h'.get? b=some u)(f:∃u,h'.get? e=some u)
  (g:aQ P w (ah H x o') h' x o'):eL P w (ah H x o') h':=λb u q=>by
 have n:∀c y,H c=some (.own y)->c≠x:=λc y r z=>by subst z;rw[r]at m;exact m
 have N:∀c X,H c=some (.tup X)->c≠x:=λc X r z=>by subst z;rw[r]at m;exact m
 by_cases d:b=x
 ·subst d;rw[jc]at q;cases q;exact g
 ·rw[jh d]at q
  by_cases a:b=e
  ·have Q:H b=some (.own x):=by
    rcases i with z |z
    ·exact absurd (a.trans z) d
    ·rw[a];exact z
   rw[q]at Q;cases Q
   obtain⟨v,j⟩:=f
   exact#[v,by rw[a];exact j]
  ·refine(o b u q).stay (λc v hc r=>k c v ?_ r) (λc r=>by rw[jh (n c b r)];exact r) λc X r=>by rw[jh (N c X r)];exact r
   rcases hc with rfl |hc
   ·exact a
   ·rintro rfl
    rcases i with z |z
    ·exact n c b hc z
    ·rw[hc]at z;cases z;exact d Z
end
structure Un(fs ex:List Addr)(H H':Hp)(h h':Heap):Prop where
 keep:∀b o,h.get? b=some o->H b=none->b∉fs->b∉ex->h'.get? b=some o
 slot:∀b o,h.get? b=some o->H b=none->b∈fs->b∉ex->∃sl,h'.get? b=some { o with slots:=sl }
 free:∀b o,h.get? b=some o->H b=none->b∉ex->H' b=none
 there:∀b o,h.get? b=some o->b∉ex->∃o',h'.get? b=some o'
 tups:∀b xs,H b=some (.tup xs)->H' b=some (.tup xs)
 frzs:∀b o u,H b=some (.frz o u)->H' b=some (.frz o u)
 tbls:∀b ps,H b=some (.tbl ps)->∃more,H' b=some (.tbl (ps++more))
section
variable {fs fs' ex ex':List Addr}{H H1 H2:Hp}{h h1 h2 h':Heap}{a x e:Addr}{o:HO}
theorem Un.any(u:Un fs ex H H1 h h1)(q:h.get? b=some O)(n:H b=none)(c:b∉ex):∃s,h1.get? b=some { O with slots:=s }:=by
 by_cases d:b∈fs
 ·exact u.slot b O q n d c
 ·exact#[O.slots,u.keep b O q n d c]
theorem Un.kept(k:∀b u,h.get? b=some u->h'.get? b=some u):Un fs ex H H h h':=
 #[λb O q _ _ _=>k b O q,λb O q _ _ _=>#[O.slots,k b O q],λ_ _ _ n _=>n,λb O q _=>#[O,k b O q],λ_ _ q=>q,λ_ _ _ q=>q,λ_ p q=>#[(List.toArray []),by rw[q];simp]]
theorem Un.refl:Un fs ex H H h h:=Un.kept λ_ _ q=>q
theorem Un.laid(k:∀b u,h.get? b=some u->h'.get? b=some u)(d:h.objs.size<=a)(c:H a=none):Un fs ex H (ah H a o) h h' where
 keep:=λb u q _ _ _=>k b u q
 slot:=λb u q _ _ _=>#[u.slots,k b u q]
 free:=λb u q n _=>by rw[jh (Ij (Ip (Ie q) d))];exact n
 there:=λb u q _=>#[u,k b u q]
 tups:=λb X q=>by rw[jh (jk q c)];exact q
 frzs:=λb u X q=>by rw[jh (jk q c)];exact q
 tbls:=λb p q=>#[(List.toArray []),by rw[jh (jk q c),q];simp]
theorem Un.write(m:DG (H x))(j:e=x∨H e=some (.own x))(k:∀b u,b≠e->h.get? b=some u->h'.get? b=some u)(d:∃u,h'.get? e=some u):Un fs ex H (ah H x o) h h':=by
 have g:∀b,H b=none->b≠x:=λb n z=>by subst z;rw[n]at m;exact m
 have i:∀b,H b=none->b≠e:=λb n z=>by
  subst z
  rcases j with r |r
  ·exact g b n r
  ·rw[n]at r;cases r
 have f:∀b u,H b=some u->¬DG (some u)->b≠x:=λb u q N z=>by subst z;rw[q]at m;exact N m
 refine#[λb u q n _ _=>k b u (i b n) q,λb u q n _ _=>#[u.slots,k b u (i b n) q],λb u q n _=>by rw[jh (g b n)];exact n,λb u q _=>?_,
  λb X q=>by rw[jh (f b _ q λz=>z)];exact q,λb u X q=>by rw[jh (f b _ q λz=>z)];exact q,λb p q=>#[(List.toArray []),by rw[jh (f b _ q λz=>z),q];simp]]
 by_cases c:b=e
 ·subst c;exact d
 ·exact#[u,k b u c q]
end
noncomputable def Fz(h:Heap)(H:Hp):List Addr:=(List.range h.objs.size).filter λa=>(H a).isSome
noncomputable def i7(h:Heap)(H:Hp):Heap:=PySem.W.hideAll h (Fz h H)
theorem Zi(h:Heap)(H:Hp):(i7 h H).objs.size=h.objs.size:=PySem.W.hideAll_size _ _
theorem rS{h:Heap}{H:Hp}(e:h.get? b=some o)(n:H b=none):(i7 h H).get? b=some o:=
 PySem.W.hideAll_get _ e λa=>by
  have q:(H b).isSome=true:=(List.mem_filter.mp a).2
  rw[n]at q;simp at q
theorem wL(e:(i7 h H).get? b=some o):h.get? b=some o/\H b=none:=by
 have E:h.get? b=some o:=PySem.W.of_hideAll (Fz h H) e
 refine#[E,?_]
 cases q:H b with
 |none=>rfl
 |some x=>
  have a:b∈Fz h H:=List.mem_filter.mpr #[List.mem_range.mpr (Ie E),by simp [q]]
  have z:(i7 h H).get? b=none:=PySem.W.hideAll_none (Fz h H) a
  rw[z]at e;cases e
end _L
namespace _L
open PySem PySem.Spec PyProof.Rows
structure Mod(K:Frag)(mg:Str->Option Value)(base:Heap):Prop where
 kin:K.In base
 glob:base.Ns mainGlobals mg
 blt:∃mb,base.Ns builtinsNs mb/\∀x:Str,x≠"__name__"->mb x=bootBuiltins x
 nolimit:base.NoLimit
structure Cx where
 prog:Program
 w:World
 K:Frag
 mg:Str->Option Value
 base:Heap
 A:Around
 N:List Str
 s₀:Shared
 H₀:Hp
 env:Env
 outer:List Env
 stack:List Env
 ex:List Addr
 fn:Str->Bool
 calm:Bool
 pn:List (Addr×Obj)
 xe:Value->Shared->Prop
noncomputable def iT(l:List Env):List Addr:=l.filterMap (·.frame)
noncomputable abbrev Cx.fs(X:Cx):List Addr:=iT X.outer
def Ft(s:Scope)(x:Str):Prop:=s.names.lookup x=some .local∨s.names.lookup x=some .cell∨s.names.lookup x=some .free
def pX(s:Scope)(x:Str):Prop:=s.names.lookup x=some .local∨s.names.lookup x=some .cell
def FK(e:Env)(h:Heap)(m:Str->Option Value)(x:Str)(u:Value):Prop:=
 (e.kindOf x=some .local/\m x=some u)∨((e.kindOf x=some .cell∨e.kindOf x=some .free)/\∃c,e.cells.lookup x=some c/\h.IsCell c (some u))
structure Cx.Ok(X:Cx):Prop where
 mod:Mod X.K X.mg X.base
 kind:X.env.scope.kind= .function
 glob:X.env.globals=mainGlobals
 blt:X.env.builtins=builtinsNs
 above:X.s₀.heap.objs.size<=X.env.locals
 inj:∀x y c,X.env.cells.lookup x=some c->X.env.cells.lookup y=some c->x=y
 has:∀x,(X.env.kindOf x=some .cell∨X.env.kindOf x=some .free)->∃c,X.env.cells.lookup x=some c
 cab:∀x c,X.fn x=true->X.env.cells.lookup x=some c->X.s₀.heap.objs.size<=c
 hd:X.calm=true->X.A.handled=none
 frames:X.A.frames=some X.stack
 stk:X.stack=X.outer∨(X.stack=X.env::X.outer/\X.env.frame=some X.env.locals)
 exf:∀b∈X.ex,b≠X.env.locals/\∀x c,X.env.cells.lookup x=some c->c≠b
 bs:∀b o,X.base.get? b=some o->X.s₀.heap.get? b=some o/\X.H₀ b=none
 bsz:X.base.objs.size<=X.s₀.heap.objs.size
 noex:∀b o,X.base.get? b=some o->b∉X.ex
 exfs:∀b∈X.ex,b∉X.fs
 funs:X.s₀.heap.FunFrames X.base X.outer
 frf:∀b∈X.fs,X.H₀ b=none
structure ap(X:Cx)(pins:List (Addr×Obj))(σ:List (Option V))(H:Hp)(s:Shared):Prop where
 ok:X.Ok
 os:s.os=X.s₀.os
 bare:AllBare s.gens
 base:Un X.fs X.ex X.H₀ H X.s₀.heap s.heap
 loc:∃m,s.heap.Ns X.env.locals m/\∀(i:Nat) (x:Str) (v:V),X.N[i]?=some x->σ[i]?=some (some v)->Ft X.env.scope x->∃u,aD v u/\FK X.env s.heap m x u
 cell:∀x c,X.env.cells.lookup x=some c->∃v,s.heap.IsCell c v
 free:H X.env.locals=none
 freeC:∀x c,X.env.cells.lookup x=some c->H c=none
 pin:∀p∈X.pn++pins,s.heap.get? p.1=some p.2/\H p.1=none/\p.1≠X.env.locals/\p.1∉X.fs/\∀v,p.2.data≠ .cell v
 hok:eL X.prog X.w H s.heap
 len:σ.length=X.N.length
section
variable {X:Cx}{pins:List (Addr×Obj)}{σ:List (Option V)}{H H':Hp}{s:Shared}{h':Heap}
theorem Cx.Ok.nofr(O:X.Ok)(e:X.base.get? b=some o):b∉X.fs:=λh=>by
 have:=(O.funs.mem h).1
 rw[e]at this;cases this
theorem ap.bs(I:ap X pins σ H s):∀b o,X.base.get? b=some o->s.heap.get? b=some o/\H b=none:=λb o e=>
 #[I.base.keep b o (I.ok.bs b o e).1 (I.ok.bs b o e).2 (I.ok.nofr e) (I.ok.noex b o e),I.base.free b o (I.ok.bs b o e).1 (I.ok.bs b o e).2 (I.ok.noex b o e)]
theorem ap.bk(I:ap X pins σ H s):∀b o,X.base.get? b=some o->s.heap.get? b=some o:=λb o e=>(I.bs b o e).1
theorem ap.mod(I:ap X pins σ H s):Mod X.K X.mg X.base:=I.ok.mod
theorem ap.kIn(I:ap X pins σ H s):X.K.In s.heap:=I.ok.mod.kin.keeps I.bk
theorem ap.lt(I:ap X pins σ H s):X.env.locals < s.heap.objs.size:=let #[_,h,_]:=I.loc;h.lt
theorem ap.sz(I:ap X pins σ H s):X.s₀.heap.objs.size<=s.heap.objs.size:=Ik I.ok.above (Mg I.lt)
theorem ap.nofs(I:ap X pins σ H s)(h:s.heap.objs.size<=a):a∉X.fs:=λb=>by
 obtain⟨_,o,c,_⟩:=I.ok.funs.mem b
 exact absurd (Ip (Ie c) (Ik I.sz h)) (Li _)
theorem ap.cne(I:ap X pins σ H s):∀x c,X.env.cells.lookup x=some c->c≠X.env.locals:=λx c e z=>by
 obtain⟨v,o,b,d⟩:=I.cell x c e
 obtain⟨m,⟨O,E,f,h,a,_⟩,_⟩:=I.loc
 rw[z,h]at b;cases b;rw[a]at d;cases d
theorem ap.funs(I:ap X pins σ H s):s.heap.FunFrames X.base X.outer:=by
 have all:∀(l:List Env),(∀b∈iT l,b∈X.fs)->X.s₀.heap.FunFrames X.base l->s.heap.FunFrames X.base l:=by
  intro l
  induction l with
  |nil=>intro _ _;trivial
  |cons E r i=>
   intro d f
   obtain⟨g,⟨L,o,h,j,k,m⟩,n⟩:=f
   have a:L∈X.fs:=d L (by unfold iT;rw[List.filterMap_cons,h];exact List.mem_cons_self)
   obtain⟨S,e⟩:=I.base.slot L o k (I.ok.frf L a) a λz=>I.ok.exfs L z a
   exact#[g,#[L,_,h,j,e,m],i (λb c=>d b (by unfold iT;rw[List.filterMap_cons,h];exact List.mem_cons_of_mem _ c)) n]
 exact all X.outer (λ_ c=>c) I.ok.funs
theorem ap.stack(I:ap X pins σ H s):s.heap.FunFrames X.base X.stack:=by
 rcases I.ok.stk with e | ⟨e,h⟩
 ·rw[e];exact I.funs
 ·rw[e]
  obtain⟨m,a,_⟩:=I.loc
  refine .cons (by rw[I.ok.kind];decide) h a ?_ I.funs
  exact Heap.get?_none_of_le (Ik I.ok.bsz I.ok.above)
theorem ap.stkSub(I:ap X pins σ H s):∀b∈iT X.stack,b∈X.env.locals::X.fs:=λb h=>by
 rcases I.ok.stk with e | ⟨e,a⟩
 ·rw[e]at h;exact II _ h
 ·rw[e]at h
  unfold iT at h
  rw[NN,a]at h
  exact h
theorem ap.stkFree(I:ap X pins σ H s):∀b∈iT X.stack,H b=none:=λb hb=>by
 rcases List.mem_cons.mp (I.stkSub b hb) with e |hb
 ·rw[e];exact I.free
 ·obtain⟨_,o,h,_⟩:=I.ok.funs.mem hb
  exact I.base.free b o h (I.ok.frf b hb) λz=>I.ok.exfs b z hb
theorem ap.step{g':Array GenState}{d':Drawn}{ch:List Addr}(I:ap X pins σ H s)
  (a:∀b∈ch,(b∈X.ex∨X.s₀.heap.objs.size<=b)/\b≠X.env.locals/\(∀x c,X.env.cells.lookup x=some c->c≠b)/\∀p∈X.pn++pins,p.1≠b)
  (K:∀b o,b≠X.env.locals->b∉X.fs->b∉ch->s.heap.get? b=some o->H b=none->h'.get? b=some o)
  (S:∀b o,b≠X.env.locals->b∈X.fs->b∉ch->s.heap.get? b=some o->H b=none->∃J,h'.get? b=some { o with slots:=J }) (f:∀b o,b∉ch->s.heap.get? b=some o->H b=none->H' b=none)
  (t:∀b o,b∉ch->s.heap.get? b=some o->∃O,h'.get? b=some O)
  (T:∀b j,H b=some (.tup j)->H' b=some (.tup j)) (F:∀b o u,H b=some (.frz o u)->H' b=some (.frz o u)) (B:∀b P,H b=some (.tbl P)->∃M,H' b=some (.tbl (P++M)))
  (ns:∀m,s.heap.Ns X.env.locals m->h'.Ns X.env.locals m) (L:eL X.prog X.w H' h') (hg:AllBare g'):
  ap X pins σ H' { s with heap:=h',gens:=g',drawn:=d',toks:=t' }:=by
 have D:∀b o,X.s₀.heap.get? b=some o->b≠X.env.locals:=λb o e=>Ij (Ip (Ie e) I.ok.above)
 have g:∀b o,X.s₀.heap.get? b=some o->b∉X.ex->b∉ch:=λb o e h y=>by
  rcases(a b y).1 with z |z
  ·exact h z
  ·exact absurd (Ip (Ie e) z) (Li _)
 have C:∀x c,X.env.cells.lookup x=some c->∀v,s.heap.IsCell c v->h'.IsCell c v:=λx c e v #[o,A,Q]=>by
  have N:c∉ch:=λz=>(a c z).2.2.1 x c e Z
  by_cases U:c∈X.fs
  ·obtain⟨J,q⟩:=S c o (I.cne x c e) U N A (I.freeC x c e)
   exact#[_,q,Q]
  ·exact#[o,K c o (I.cne x c e) U N A (I.freeC x c e),Q]
 refine#[I.ok,I.os,hg,#[λb o e n y h=>?_,λb o e n y h=>?_,λb o e n h=>?_,λb o e h=>?_,λb j e=>T b j (I.base.tups b j e),λb o j e=>F b o j (I.base.frzs b o j e),λb P e=>?_],?_,λx c e=>?_,?_,λx c e=>?_,λp W=>?_,L,I.len]
 ·exact K b o (D b o e) y (g b o e h) (I.base.keep b o e n y h) (I.base.free b o e n h)
 ·obtain⟨J,E⟩:=I.base.slot b o e n y h
  obtain⟨R,G⟩:=S b _ (D b o e) y (g b o e h) E (I.base.free b o e n h)
  exact#[R,G]
 ·obtain⟨O,E⟩:=I.base.there b o e h
  exact f b O (g b o e h) E (I.base.free b o e n h)
 ·obtain⟨O,E⟩:=I.base.there b o e h
  exact t b O (g b o e h) E
 ·obtain⟨m1,E⟩:=I.base.tbls b P e
  obtain⟨m2,G⟩:=B b _ E
  exact#[m1++m2,by rw[G,Array.append_assoc]]
 ·obtain⟨m,hn,hl⟩:=I.loc
  refine#[m,ns m hn,λi x v E G e3=>?_]
  obtain⟨u,r,l⟩:=hl i x v E G e3
  refine#[u,r,?_]
  rcases l with l | ⟨k,c,e,z⟩
  ·exact .inl l
  ·exact .inr #[k,c,e,C x c e _ z]
 ·obtain⟨v,z⟩:=I.cell x c e
  exact#[v,C x c e v z]
 ·obtain⟨m,⟨o,_,_,A,_⟩,_⟩:=I.loc
  exact f _ o (λz=>(a _ z).2.1 Z) A I.free
 ·obtain⟨v,o,A,Q⟩:=I.cell x c e
  exact f c o (λz=>(a c z).2.2.1 x c e Z) A (I.freeC x c e)
 ·obtain⟨e,n,Y,nf,d⟩:=I.pin p W
  have N:p.1∉ch:=λz=>(a p.1 z).2.2.2 p W Z
  exact#[K p.1 p.2 Y nf N e n,f p.1 p.2 N e n,Y,nf,d]
theorem ap.un{t':Nat}(I:ap X pins σ H s)(u:Un X.fs [] H H' s.heap h')(a:eL X.prog X.w H' h'):ap X pins σ H' { s with heap:=h',toks:=t' }:=by
 obtain⟨m,⟨o,j,k,f,r⟩,_⟩:=id I.loc
 obtain⟨S,g⟩:=u.any f I.free OH
 exact I.step (g':=s.gens) (d':=s.drawn) (ch:=[]) (λ_ z=>nomatch z) (λb o _ c _ e n=>u.keep b o e n c OH) (λb o _ c _ e n=>u.slot b o e n c OH) (λb o _ e n=>u.free b o e n OH) (λb o _ e=>u.there b o e OH) u.tups u.frzs u.tbls (λM i=>by
  obtain⟨O,E,d,h,R⟩:=i
  rw[f]at h;cases h
  exact#[_,E,d,g,R]) a I.bare
theorem ap.call{g':Array GenState}{t':Nat}{d':Drawn}{ch:List Addr}(I:ap X pins σ H s)(u:Un (iT X.stack) ch H H' s.heap h')(f:eL X.prog X.w H' h')(k:AllBare g')
  (a:∀b∈ch,(b∈X.ex∨X.s₀.heap.objs.size<=b)/\b≠X.env.locals/\(∀x c,X.env.cells.lookup x=some c->c≠b)/\∀p∈X.pn++pins,p.1≠b):
  ap X pins σ H' { s with heap:=h',gens:=g',drawn:=d',toks:=t' }:=by
 obtain⟨m,⟨o,t,v,j,r⟩,_⟩:=id I.loc
 obtain⟨S,g⟩:=u.any j I.free λz=>(a _ z).2.1 Z
 exact I.step (ch:=ch) a (λb o g l h e n=>u.keep b o e n (λz=>(List.mem_cons.mp (I.stkSub b z)).elim g l) h) (λb o _ _ h e n=>u.any e n h) (λb o h e n=>u.free b o e n h) (λb o h e=>u.there b o e h) u.tups u.frzs u.tbls (λM q=>by
  obtain⟨O,E,i,d,R⟩:=q
  rw[j]at d;cases d
  exact#[_,E,i,g,R]) f k
theorem ap.turned{t':Nat}{it:Addr}(I:ap X pins σ H s)(k:∀b o,b≠it->s.heap.get? b=some o->h'.get? b=some o)(d:H it=none)(a:it≠X.env.locals)
  (f:it∈X.ex∨X.s₀.heap.objs.size<=it) (g:∀x c,X.env.cells.lookup x=some c->c≠it) (i:∀p∈X.pn++pins,p.1≠it):ap X pins σ H { s with heap:=h',toks:=t' }:=by
 have N:∀b u,H b=some u->b≠it:=λb u e z=>by rw[z,d]at e;cases e
 refine I.step (g':=s.gens) (d':=s.drawn) (ch:=[it]) (λb j=>?_) (λb o _ _ h e _=>k b o (λz=>h (by simp [z])) e) (λb o _ _ h e _=>#[o.slots,k b o (λz=>h (by simp [z])) e]) (λ_ _ _ _ n=>n)
  (λb o h e=>#[o,k b o (λz=>h (by simp [z])) e]) (λ_ _ e=>e) (λ_ _ _ e=>e) (λb P e=>#[(List.toArray []),by rw[e];simp]) (λm l=>?_) (λb u e=>?_) I.bare
 ·have e:b=it:=by simpa using j
  subst e
  exact#[f,a,g,i]
 ·obtain⟨o,E,t,w,r⟩:=l
  exact#[o,E,t,k _ o (IM a) w,r]
 ·refine(I.hok b u e).stay (λc v h q=>k c v ?_ q) (λ_ q=>q) λ_ _ q=>q
  rcases h with z |z
  ·rw[z];exact N b u e
  ·exact N c _ z
theorem ap.tok(I:ap X pins σ H s)(t:Nat):ap X pins σ H { s with toks:=t }:=I.un (h':=s.heap) (t':=t) Un.refl I.hok
theorem ap.kept{t':Nat}(I:ap X pins σ H s)(k:∀b u,s.heap.get? b=some u->h'.get? b=some u):ap X pins σ H { s with heap:=h',toks:=t' }:=I.un (Un.kept k) (I.hok.kept k)
theorem ap.laid{a:Addr}{o:HO}{t':Nat}(I:ap X pins σ H s)(k:∀b u,s.heap.get? b=some u->h'.get? b=some u)(h:s.heap.objs.size<=a)(n:aQ X.prog X.w (ah H a o) h' a o):
  ap X pins σ (ah H a o) { s with heap:=h',toks:=t' }:=I.un (Un.laid k h (I.hok.fresh h)) (I.hok.laid k h n)
theorem ap.write{x e:Addr}{o:HO}{t':Nat}(I:ap X pins σ H s)(m:DG (H x))(a:e=x∨H e=some (.own x))(k:∀b u,b≠e->s.heap.get? b=some u->h'.get? b=some u)(h:∃u,h'.get? e=some u)
  (n:aQ X.prog X.w (ah H x o) h' x o):ap X pins σ (ah H x o) { s with heap:=h',toks:=t' }:=I.un (Un.write m a k h) (I.hok.write m a k h n)
theorem ap.pins_of{pins':List (Addr×Obj)}(I:ap X pins σ H s)(h:∀p∈pins',s.heap.get? p.1=some p.2/\H p.1=none/\p.1≠X.env.locals/\p.1∉X.fs/\∀v,p.2.data≠ .cell v):ap X pins' σ H s:=
 #[I.ok,I.os,I.bare,I.base,I.loc,I.cell,I.free,I.freeC,λp a=>(List.mem_append.mp a).elim (λz=>I.pin p (Lv _ z)) (h p),I.hok,I.len]
theorem Q5{N:List Str}(h:N.Nodup){i j:Nat}{x:Str}(a:N[i]?=some x)(b:N[j]?=some x):i=j:=by
 obtain⟨c,e⟩:=List.getElem?_eq_some_iff.mp a
 obtain⟨d,E⟩:=List.getElem?_eq_some_iff.mp b
 exact(List.getElem_inj h).mp (e.trans E.symm)
theorem K9{v:V}{Q:Unit->Shared->Prop}(I:ap X pins σ H s)(hN:X.N.Nodup)(L:X.N[i]?=some x)(l:pX X.env.scope x)(r:aD v u)
  (h:∀s',ap X pins (σ.set i (some v)) H s'->(∃a,Heap.SameBut a s.heap s'.heap/\(a=X.env.locals∨X.env.cells.lookup x=some a))->Q () s') (hf:X.fn x=true∨X.env.scope.names.lookup x=some .local:=by first |exact .inl Z |exact .inr Z |assumption):wpAny M A (storeName X.env x u) Q E s:=by
 obtain⟨m,hn,hl⟩:=id I.loc
 have O:(X.env.scope.kind== .class||(X.env.scope.kind== .module&&X.env.locals != X.env.globals))=false:=by rw[I.ok.kind];rfl
 have D:i < σ.length:=by rw[I.len];exact(List.getElem?_eq_some_iff.mp L).1
 have F:=I.cne
 have t:∀{a:Addr} {h':Heap},(∃o,s.heap.get? a=some o/\H a=none)->Heap.SameBut a s.heap h'->eL X.prog X.w H h':=λ{a h'} ha f b ob e=>by
  obtain⟨_,_,B⟩:=ha
  refine(I.hok b ob e).stay (λc W hc q=>(f.2 c ?_).trans q) (λ_ q=>q) λ_ _ q=>q
  rintro rfl
  rcases hc with rfl |hc
  ·rw[B]at e;cases e
  ·rw[B]at hc;cases hc
 rcases l with hk |hk
 ·refine wpAny_storeName_local hk hn (λh' h0 f=>?_) O
  obtain⟨oL,_,_,h1,_⟩:=id hn
  refine h _ #[I.ok,I.os,I.bare,#[λb o e n G l=>?_,λb o e n G l=>?_,I.base.free,λb o e l=>?_,I.base.tups,I.base.frzs,I.base.tbls],#[_,h0,λj y v' g C e3=>?_],λy c e=>?_,I.free,I.freeC,λp hp=>?_,t #[oL,h1,I.free] f,by simpa using I.len] #[_,f,.inl Z]
  ·exact(f.2 b (Ij (Ip (Ie e) I.ok.above))).trans (I.base.keep b o e n G l)
  ·obtain⟨sl,g⟩:=I.base.slot b o e n G l
   exact#[sl,(f.2 b (Ij (Ip (Ie e) I.ok.above))).trans g]
  ·obtain⟨o',g⟩:=I.base.there b o e l
   exact#[o',(f.2 b (Ij (Ip (Ie e) I.ok.above))).trans g]
  ·by_cases J:j=i
   ·subst J
    rw[L]at g;cases g
    rw[MQ D]at C
    cases C
    exact#[u,r,.inl #[hk,OH]]
   ·rw[L9 (IM J)]at C
    obtain⟨u',r',q⟩:=hl j y v' g C e3
    refine#[u',r',?_]
    rcases q with ⟨k,e⟩ | ⟨k,c,e,z⟩
    ·refine .inl #[k,?_]
     have:y≠x:=λe=>J (Q5 hN g (e▸L))
     simp [this,e]
    ·exact .inr #[k,c,e,z.sameBut f (F y c e)]
  ·obtain⟨W,z⟩:=I.cell y c e
   exact#[W,z.sameBut f (F y c e)]
  ·obtain⟨e,n,U,nf,d⟩:=I.pin p hp
   exact#[(f.2 p.1 U).trans e,n,U,nf,d]
 ·have K:X.fn x=true:=by
   rcases hf with z |z
   ·exact z
   ·rw[z]at hk;cases hk
  obtain⟨c,hc⟩:=I.ok.has x (.inl hk)
  obtain⟨W,z⟩:=I.cell x c hc
  refine wpAny_storeName_cell I.ok.kind hk hc z (λh' P f=>?_)
  obtain⟨oc,R,S⟩:=id z
  refine h { s with heap:=h' } #[I.ok,I.os,I.bare,#[λb o e n G l=>?_,λb o e n G l=>?_,I.base.free,λb o e l=>?_,I.base.tups,I.base.frzs,I.base.tbls],#[m,hn.sameBut f (IM (F x c hc)),λj y v' g C e3=>?_],λy Y e=>?_,I.free,I.freeC,λp hp=>?_,t #[oc,R,I.freeC x c hc] f,by simpa using I.len] #[c,f,.inr hc]
  ·exact(f.2 b (Ij (Ip (Ie e) (I.ok.cab x c K hc)))).trans (I.base.keep b o e n G l)
  ·obtain⟨sl,g⟩:=I.base.slot b o e n G l
   exact#[sl,(f.2 b (Ij (Ip (Ie e) (I.ok.cab x c K hc)))).trans g]
  ·obtain⟨o',g⟩:=I.base.there b o e l
   exact#[o',(f.2 b (Ij (Ip (Ie e) (I.ok.cab x c K hc)))).trans g]
  ·by_cases J:j=i
   ·subst J
    rw[L]at g;cases g
    rw[MQ D]at C
    cases C
    exact#[u,r,.inr #[.inl hk,c,hc,P]]
   ·rw[L9 (IM J)]at C
    obtain⟨u',r',q⟩:=hl j y v' g C e3
    refine#[u',r',?_]
    rcases q with q | ⟨k,Y,e,z'⟩
    ·exact .inl q
    ·refine .inr #[k,Y,e,z'.sameBut f ?_]
     rintro rfl
     exact J (Q5 hN g (I.ok.inj _ _ _ e hc▸L))
  ·by_cases T:Y=c
   ·subst T;exact#[_,P]
   ·obtain⟨w2,z2⟩:=I.cell y Y e
    exact#[w2,z2.sameBut f T]
  ·obtain⟨e,n,U,nf,d⟩:=I.pin p hp
   refine#[(f.2 p.1 ?_).trans e,n,U,nf,d]
   intro q
   rw[q,R]at e
   have q':oc=p.2:=J' e
   exact d W (by rw[<- q'];exact S)
theorem zr{Q:Unit->Shared->Prop}(I:ap X pins σ H s)(a:X.N.Nodup)(b:X.N[i]?=some x)(c:pX X.env.scope x)(r:aD v u)
  (h:∀S,ap X pins (σ.set i (some v)) H S->Q () S) (d:X.fn x=true∨X.env.scope.names.lookup x=some .local:=by first |exact .inl Z |exact .inr Z |assumption):wpAny M A (storeName X.env x u) Q E s:=
 K9 I a b c r (λS e _=>h S e) d
theorem ap.call'{S:Shared}{ch:List Addr}(I:ap X pins σ H s)(d:S.os=s.os)(u:Un (iT X.stack) ch H H' s.heap S.heap)(h:eL X.prog X.w H' S.heap)(f:AllBare S.gens)
  (a:∀b∈ch,(b∈X.ex∨X.s₀.heap.objs.size<=b)/\b≠X.env.locals/\(∀x c,X.env.cells.lookup x=some c->c≠b)/\∀p∈X.pn++pins,p.1≠b):ap X pins σ H' S:=by
 obtain⟨h',g',d',t',o⟩:=S
 have e:o=s.os:=d
 subst e
 exact I.call (g':=g') (t':=t') (d':=d') u h f a
end
abbrev XK:=Value->Option Addr->Hp->Prop
abbrev St:=List (Option V)
abbrev VK:=V->Hp->Prop
abbrev TE:=St->Hp->VK->Prop
abbrev TT:=St->Hp->(Bool->Hp->Prop)->Prop
abbrev TA:=St->Hp->(List V->Hp->Prop)->Prop
structure aZ where
 nx:St->Hp->Prop
 rt:VK
 bk:St->Hp->Prop:=λ_ _=>False
 ct:St->Hp->Prop:=λ_ _=>False
abbrev TS:=aZ->St->Hp->Prop
inductive EP(X:Cx)(a:List (Addr×Obj))(d:St)(Q:VK)(u:Value)(c:Shared):Prop
 |mk(v b:_)(_:ap X a d b c)(_:aD v u)(_:Q v b)
inductive TP(X:Cx)(a:List (Addr×Obj))(e:St)(Q:Bool->Hp->Prop)(b:Bool)(d:Shared):Prop
 |mk(c:_)(_:ap X a e c d)(_:Q b c)
inductive AP(X:Cx)(a:List (Addr×Obj))(f:St)(Q:List V->Hp->Prop)(d:List Value)(c:Shared):Prop
 |mk(e b:_)(_:ap X a f b c)(_:au e d)(_:Q e b)
def SP(X:Cx)(p:List (Addr×Obj))(D:aZ)(f:Flow)(s:Shared):Prop:=
 match f with
 | .next=>∃a H,ap X p a H s/\D.nx a H
 | .brk=>∃a H,ap X p a H s/\D.bk a H
 | .cont=>∃a H,ap X p a H s/\D.ct a H
 | .ret u=>∃v a H,ap X p a H s/\aD v u/\D.rt v H
def PE(X:Cx)(e:Expr)(t:TE):Prop:=
 ∀(p:List (Addr×Obj)) (s:Shared) (a:St) (H:Hp) (Q:VK),ap X p a H s->t a H Q->wpAny (model X.prog X.w) X.A (eval e X.env) (EP X p a Q) X.xe s
def PT(X:Cx)(e:Expr)(t:TT):Prop:=
 ∀(p:List (Addr×Obj)) (s:Shared) (a:St) (H:Hp) (Q:Bool->Hp->Prop),ap X p a H s->t a H Q->wpAny (model X.prog X.w) X.A (isTrue e X.env (eval e X.env)) (TP X p a Q) X.xe s
def PW(X:Cx)(e:Expr)(t:TT):Prop:=
 ∀(W:Sem Value) (p:List (Addr×Obj)) (s:Shared) (a:St) (H:Hp) (Q:Bool->Hp->Prop),ap X p a H s->t a H Q->wpAny (model X.prog X.w) X.A (isTrue e X.env W) (TP X p a Q) X.xe s
theorem PW.pt{X:Cx}{e:Expr}{t:TT}(h:PW X e t):PT X e t:=h _
def PA(X:Cx)(e:List Expr)(t:TA):Prop:=
 ∀(P:Pos) (p:List (Addr×Obj)) (s:Shared) (a:St) (H:Hp) (Q:List V->Hp->Prop),ap X p a H s->t a H Q->wpAny (model X.prog X.w) X.A (spliced (backTo P (starEach e X.env))) (AP X p a Q) X.xe s
def PS(X:Cx)(st:Stmt)(t:TS):Prop:=
 ∀(p:List (Addr×Obj)) (s:Shared) (a:St) (H:Hp) (D:aZ),ap X p a H s->t D a H->wpAny (model X.prog X.w) X.A (exec st X.env) (SP X p D) X.xe s
def me(X:Cx)(st:List Stmt)(t:TS):Prop:=
 ∀(p:List (Addr×Obj)) (s:Shared) (a:St) (H:Hp) (D:aZ),ap X p a H s->t D a H->wpAny (model X.prog X.w) X.A (execs st X.env) (SP X p D) X.xe s
theorem aL{b:Type}{t:Sem b}{Q q:b->Shared->Prop}{M:Model}{A:Around}{E:Value->Shared->Prop}{s:Shared}(h:wpAny M A t Q E s)(H:∀a s,Q a s->q a s):wpAny M A t q E s:=Ln h H λ_ _ x=>x
section
variable {X:Cx}
inductive aW(i:Nat)(a:St)(H:Hp)(Q:VK):Prop
 |mk(v:_)(_:a[i]?=some (some v))(_:Q v H)
def tC(v:V):TE:=λ_ H Q=>Q v H
theorem Cn(j:X.N[i]?=some x)(k:Ft X.env.scope x)(b:(x==("__debug__":Str))=false:=by decide)(d:(x==("__classdict__":Str))=false:=by decide):PE X (.Name x n) (aW i):=by
 intro p s o H Q I h
 obtain⟨v,e,h⟩:=h
 obtain⟨m,q,t⟩:=I.loc
 obtain⟨u,r,l⟩:=t i x v j e k
 have f:EP X p o Q u s:=#[v,H,I,r,h]
 rcases l with ⟨hk,w⟩ | ⟨hk,c,g,a⟩
 ·exact wpAny_Name (wpAny_loadName_local I.ok.kind hk q w f) b
 ·rcases hk with hk |hk
  ·exact wpAny_Name (wpAny_loadName_cell I.ok.kind hk g a f) b
  ·exact wpAny_Name (wpAny_loadName_free I.ok.kind hk g a f d) b
theorem jf{i j p}:PE X (.Constant (.int i) j p) (tC (.int i)):=λ_ _ _ H _ I h=>wpAny_Constant_int #[.int i,H,I.tok _,#[_,Z],h]
theorem Q1{b j p}:PE X (.Constant (.bool b) j p) (tC (.bl b)):=λ_ _ _ H _ I h=>Constant_bool #[.bl b,H,I,Z,h]
theorem J4{j p}:PE X (.Constant .none j p) (tC .non):=λ_ _ _ H _ I h=>Constant_none #[.non,H,I,Z,h]
theorem jm{x j p}:PE X (.Constant (.str x) j p) (tC (.str x)):=λ_ _ _ H _ I h=>Calls.Constant_str #[.str x,H,I.tok _,#[_,Z],h]
def Gl(X:Cx)(x:Str):Prop:=X.env.kindOf x=some .globalImplicit
theorem zD{Q:Value->Shared->Prop}(I:ap X p e H s)(a:Gl X x)(b:X.mg x=some u)(h:Q u s)
  (c:(x==("__debug__":Str))=false:=by decide):wpAny (model X.prog X.w) X.A (eval (.Name x d) X.env) Q E s:=
 Calls.Name_function_global I.ok.kind a (Calls.loadGlobal_global (by rw[I.ok.glob];exact I.mod.glob.keeps I.bk) b h) c
theorem zI{Q:Value->Shared->Prop}(I:ap X p j H s)(a:Gl X x)(b:X.mg x=none)(c:bootBuiltins x=some u)(h:Q u s)
  (d:x≠"__name__":=by decide) (e:(x==("__debug__":Str))=false:=by decide):wpAny (model X.prog X.w) X.A (eval (.Name x f) X.env) Q E s:=by
 obtain⟨m,g,i⟩:=I.mod.blt
 exact Calls.Name_function_global I.ok.kind a (Calls.loadGlobal_builtin (by rw[I.ok.glob];exact I.mod.glob.keeps I.bk) b (by rw[I.ok.blt];exact g.keeps I.bk) ((i x d).trans c) h) e
theorem qN{v:V}(a:Gl X x)(b:X.mg x=some u)(r:aD v u)(c:(x==("__debug__":Str))=false:=by decide):PE X (.Name x p) (tC v):=
 λ_ _ _ H _ I h=>zD I a b #[v,H,I,r,h] c
variable {a b:Expr}{ta tb:TE}{pos:Pos}
def PC(X:Cx)(o:CmpOp)(a b:Expr)(t:TE):Prop:=
 ∀(p:List (Addr×Obj)) (s:Shared) (d:St) (H:Hp) (Q:VK),ap X p d H s->t d H Q->
  wpAny (model X.prog X.w) X.A (eval a X.env) (λv S=>wpAny (model X.prog X.w) X.A (eval b X.env) (λu c=>wpAny (model X.prog X.w) X.A (compareOp o v u) (EP X p d Q) X.xe c) X.xe S) X.xe s
def GJ(ta:TE):TE:=λc H Q=>ta c H λx h=>Q (.bl (decide (x= .non))) h
theorem aD.none_iff(r:aD x v):(v==Value.none)=decide (x= .non):=by
 cases x with
 |non=>cases r;rfl
 |bl _=>cases r;rfl
 |int _=>obtain⟨t,rfl⟩:=r;rfl
 |str _=>obtain⟨t,rfl⟩:=r;rfl
 |byt _=>obtain⟨t,rfl⟩:=r;rfl
 |flt _=>obtain⟨t,rfl⟩:=r;rfl
 |ref _=>cases r;rfl
 |ty _=>cases r;rfl
theorem Qx{j p}(c:PE X a ta):PC X .Is a (.Constant .none j p) (GJ ta):=by
 intro P s d H Q I h
 refine aL (c P s d H _ I h) λv S z=>?_
 obtain⟨x,e,i,r,q⟩:=z
 exact Constant_none (is_none_gen #[.bl _,e,i,by rw[r.none_iff];rfl,q])
inductive Hq(Q:Bool->Hp->Prop)(x:V)(a:Hp):Prop
 |mk(c:_)(_:x= .bl c)(_:Q c a)
def tB(t:TE):TT:=λc H Q=>t c H (Hq Q)
theorem J5(h:PC X o a b t)(e:behindInMarks o b=false:=by first |exact n _ OF OF |rfl):PT X (.Compare a [o] [b] pos) (tB t):=by
 intro p s f H Q I g
 refine wpAny_isTrue_Compare1 (aL (h p s f H _ I g) λv S e=>aL e λu m i=>aL i λc w z=>?_) e
 obtain⟨x,j,k,r,l⟩:=z
 obtain⟨d,rfl,q⟩:=l
 cases r
 exact Mv #[j,k,q]
theorem Cr(h:PE X e t)(c:∀w,isTrue e X.env w=(do let v <- w;standAt e.pos;holding [v] (truthy v)):=by intro _;rfl):PT X e (tB t):=by
 intro p s f H Q I g
 refine isTrue_plain (aL (h p s f H _ I g) λv S z=>?_) (c _)
 obtain⟨x,i,j,r,k⟩:=z
 obtain⟨d,rfl,q⟩:=k
 cases r
 exact Mv #[i,j,q]
variable {tA tB':TT}{rest:List Expr}
def Gy(t u:TT):TT:=λd H Q=>t d H λc h=>if c=true then u d h Q else Q false h
def HK(t u:TT):TT:=λd H Q=>t d H λc h=>if c=true then Q true h else u d h Q
def GK(t:TT):TT:=λd H Q=>t d H λc h=>Q (!c) h
theorem JH(d:PT X a tA):PW X (.BoolOp .And [a] pos) tA:=by
 intro w p s f H Q I h
 refine isTrue_and (aL (d p s f H Q I h) λc S e=>?_)
 cases c with
 |true=>exact isTrue_and_nil e
 |false=>exact e
theorem J6(d:PT X a tA):PW X (.BoolOp .Or [a] pos) tA:=by
 intro w p s f H Q I h
 refine isTrue_or (aL (d p s f H Q I h) λc S e=>?_)
 cases c with
 |false=>exact isTrue_or_nil e
 |true=>exact e
theorem Qy(f:PT X a tA)(g:PW X (.BoolOp .And (b::rest) pos) tB'):PW X (.BoolOp .And (a::b::rest) pos) (Gy tA tB'):=by
 intro w p s d H Q I h
 refine isTrue_and (aL (f p s d H _ I h) λc S z=>?_)
 obtain⟨e,i,q⟩:=z
 cases c with
 |true=>exact g w p S d e Q i q
 |false=>exact#[e,i,q]
theorem Q2(f:PT X a tA)(g:PW X (.BoolOp .Or (b::rest) pos) tB'):PW X (.BoolOp .Or (a::b::rest) pos) (HK tA tB'):=by
 intro w p s d H Q I h
 refine isTrue_or (aL (f p s d H _ I h) λc S z=>?_)
 obtain⟨e,i,q⟩:=z
 cases c with
 |true=>exact#[e,i,q]
 |false=>exact g w p S d e Q i q
theorem Cq(e:PT X a tA):PT X (.UnaryOp .Not a pos) (GK tA):=by
 intro p s f H Q I h
 exact isTrue_not (aL (e p s f H (λc d=>Q (!c) d) I h) λc S #[d,i,q]=>#[d,i,q])
inductive Au(b:TE)(d:St)(Q:VK)(x:V)(a:Hp):Prop
 |mk(c:_)(_:x= .bl c)(_:if c=true then Q (.bl true) a else b d a Q)
def GN(ta tb:TE):TE:=λc H Q=>ta c H (Au tb c Q)
inductive uV(Q:VK)(x:V)(a:Hp):Prop
 |mk(c:_)(_:x= .bl c)(_:Q (.bl (!c)) a)
def Ff(ta:TE):TE:=λc H Q=>ta c H (uV Q)
theorem Cm(h:PE X a t):PE X (.BoolOp o [a] pos) t:=λp s c H Q I d=>BoolOp_one (h p s c H Q I d)
theorem Et(f:PE X a ta)(g:PE X (.BoolOp .Or (b::rest) pos) tb):PE X (.BoolOp .Or (a::b::rest) pos) (GN ta tb):=by
 intro p s d H Q I h
 refine BoolOp_or (aL (f p s d H _ I h) λv S z=>?_)
 obtain⟨x,e,i,r,q⟩:=z
 obtain⟨c,rfl,q⟩:=q
 cases r
 refine Mv ?_
 cases c with
 |false=>exact g p S d e Q i q
 |true=>exact#[.bl true,e,i,Z,q]
theorem Ck(d:PE X a ta):PE X (.UnaryOp .Not a pos) (Ff ta):=by
 intro p s e H Q I h
 refine UnaryOp_ (aL (d p s e H _ I h) λv S z=>?_)
 obtain⟨x,f,i,r,q⟩:=z
 obtain⟨c,rfl,q⟩:=q
 cases r
 exact not_of (Mv #[.bl (!c),f,i,Z,q])
def HJ(t:TT)(ta tb:TE):TE:=λd H Q=>t d H λc h=>if c=true then ta d h Q else tb d h Q
theorem kM(g:PT X c tA)(j:PE X a ta)(k:PE X b tb):PE X (.IfExp c a b pos) (HJ tA ta tb):=by
 intro p s e H Q I h
 refine wpAny_IfExp (aL (g p s e H _ I h) λd S z=>?_)
 obtain⟨f,i,q⟩:=z
 cases d with
 |true=>exact j p S e f Q i q
 |false=>exact k p S e f Q i q
end
def aG(K:Frag)(H:Hp)(a:Addr)(x:List V):Prop:=
 Rd H a (.lst x)∨
  ∃(o:Obj) (i:Array Value) (n:Nat),K.lookup a=some o/\o.cls= .type "list"/\o.dict=none/\o.data= .seq i n/\i.size<=sizeLine/\au x i.toList
def ay(K:Frag)(H:Hp)(a:Addr)(x:List V):Prop:=
 Rd H a (.tup x)∨
  ∃(o:Obj) (i:Array Value) (n:Nat),K.lookup a=some o/\o.cls= .type "tuple"/\o.data= .seq i n/\i.size<=sizeLine/\au x i.toList
noncomputable def FX:Value->Option V
 | .none=>some .non
 | .bool b=>some (.bl b)
 | .int i _=>some (.int i)
 | .str x _=>some (.str x)
 | .bytes b _=>some (.byt b)
 | .float b _=>some (.flt b)
 | .ref a=>some (.ref a)
 | .type n=>some (.ty n)
 |_=>none
theorem aD.abs(r:aD x u):FX u=some x:=by
 cases x with
 |non=>cases r;rfl
 |bl _=>cases r;rfl
 |int _=>obtain⟨t,rfl⟩:=r;rfl
 |str _=>obtain⟨t,rfl⟩:=r;rfl
 |byt _=>obtain⟨t,rfl⟩:=r;rfl
 |flt _=>obtain⟨t,rfl⟩:=r;rfl
 |ref _=>cases r;rfl
 |ty _=>cases r;rfl
theorem aD.inj{x:V}(r:aD x u)(q:aD y u):x=y:=J' (r.abs.symm.trans q.abs)
theorem au.inj:∀{x y:List V} {u:List Value},au x u->au y u->x=y
 |_,_,_,.nil,.nil=>rfl
 |_,_,_,.cons r t,.cons R T=>by rw[r.inj R,au.inj t T]
section
variable {X:Cx}{pins:List (Addr×Obj)}{σ:St}{H:Hp}{s:Shared}{a:Addr}{xs ys:List V}
theorem aG.of{K:Frag}(h:H a=some (.lst xs)):aG K H a xs:=.inl (.inl h)
theorem ay.of{K:Frag}(h:H a=some (.tup xs)):ay K H a xs:=.inl (.inl h)
theorem ap.list(I:ap X pins σ H s)(h:aG X.K H a xs):∃i:List Value,au xs i/\PlainL s.heap a i.toArray/\xs.length<=sizeLine:=by
 rcases h with h | ⟨o,i,n,b,c,d,f,g,r⟩
 ·obtain⟨z,i,n,r,e⟩:=h.ok I.hok
  exact#[i,r,#[_,n,e,Z,Z,Z],z]
 ·refine#[i.toList,r,#[o,n,I.kIn a o b,c,d,by simpa using f],?_]
  have e:=r.length
  simp only[IC]at e
  omega
theorem ap.tuple(I:ap X pins σ H s)(h:ay X.K H a xs):∃i:List Value,au xs i/\IsTup s.heap a i.toArray/\xs.length<=sizeLine:=by
 rcases h with h | ⟨o,i,n,b,c,d,f,r⟩
 ·obtain⟨z,i,r,p⟩:=h.ok I.hok
  exact#[i,r,p,z]
 ·refine#[i.toList,r,#[o,I.kIn a o b,c,n,by simpa using d],?_]
  have e:=r.length
  simp only[IC]at e
  omega
theorem ap.list_inj(I:ap X pins σ H s)(h:aG X.K H a xs)(c:aG X.K H a ys):xs=ys:=by
 obtain⟨b,r,⟨o,n,e,_,_,d⟩,_⟩:=I.list h
 obtain⟨i,R,⟨O,N,E,_,_,D⟩,_⟩:=I.list c
 rw[e]at E;cases E
 rw[d]at D
 injection D with f _
 have:b=i:=by simpa using K' Array.toList f
 subst this
 exact r.inj R
theorem ap.tuple_inj(I:ap X pins σ H s)(h:ay X.K H a xs)(c:ay X.K H a ys):xs=ys:=by
 obtain⟨b,r,⟨o,e,_,n,d⟩,_⟩:=I.tuple h
 obtain⟨i,R,⟨O,E,_,N,D⟩,_⟩:=I.tuple c
 rw[e]at E;cases E
 rw[d]at D
 injection D with f _
 have:b=i:=by simpa using K' Array.toList f
 subst this
 exact r.inj R
end
noncomputable abbrev Cx.wish(X:Cx)(E:Value->Shared->Prop):Cx:={ X with xe:=E }
noncomputable abbrev Cx.nox(X:Cx):Cx:=X.wish λ_ _=>False
theorem Cx.Ok.wish{X:Cx}(o:X.Ok)(E:Value->Shared->Prop):(X.wish E).Ok:=
 #[o.mod,o.kind,o.glob,o.blt,o.above,o.inj,o.has,o.cab,o.hd,o.frames,o.stk,o.exf,o.bs,o.bsz,o.noex,o.exfs,o.funs,o.frf]
theorem Cx.Ok.unwish{X:Cx}(o:(X.wish E).Ok):X.Ok:=
 #[o.mod,o.kind,o.glob,o.blt,o.above,o.inj,o.has,o.cab,o.hd,o.frames,o.stk,o.exf,o.bs,o.bsz,o.noex,o.exfs,o.funs,o.frf]
section
variable {X:Cx}{pins:List (Addr×Obj)}{σ:St}{H:Hp}{s:Shared}{E:Value->Shared->Prop}
theorem ap.wish(I:ap X pins σ H s)(E:Value->Shared->Prop):ap (X.wish E) pins σ H s:=#[I.ok.wish E,I.os,I.bare,I.base,I.loc,I.cell,I.free,I.freeC,I.pin,I.hok,I.len]
theorem ap.unwish(I:ap (X.wish E) pins σ H s):ap X pins σ H s:=#[I.ok.unwish,I.os,I.bare,I.base,I.loc,I.cell,I.free,I.freeC,I.pin,I.hok,I.len]
theorem SP.unwish(h:SP (X.wish E) pins D f c):SP X pins D f c:=by
 cases f with
 |next=>obtain⟨a,b,I,q⟩:=h;exact#[a,b,I.unwish,q]
 |brk=>obtain⟨a,b,I,q⟩:=h;exact#[a,b,I.unwish,q]
 |cont=>obtain⟨a,b,I,q⟩:=h;exact#[a,b,I.unwish,q]
 |ret u=>obtain⟨v,a,b,I,r,q⟩:=h;exact#[v,a,b,I.unwish,r,q]
theorem me.nox{st:List Stmt}(h:me X.nox st t):me X st t:=λpins s σ H D I a=>
 Ln (h pins s σ H D (I.wish _) a) (λ_ _ q=>q.unwish) λ_ _ z=>False.elim z
end
section
variable {X:Cx}{st:Stmt}{rest:List Stmt}{t u:TS}{e:Expr}{te:TE}{pos:Pos}
def uU:TS:=λD a H=>D.nx a H
def dC(t u:TS):TS:=λD a H=>t { D with nx:=u D } a H
theorem jp:me X [] uU:=λ_ _ a H _ I h=>MS #[a,H,I,h]
theorem jd(b:PS X st t)(c:me X rest u):me X (st::rest) (dC t u):=by
 intro p s d H D I h
 refine Oq (aL (b p s d H { D with nx:=u D } I h) λf S q=>?_)
 cases f with
 |next=>
  obtain⟨a,g,i,q⟩:=q
  exact c p S a g D i q
 |ret v=>exact q
 |brk=>exact q
 |cont=>exact q
theorem jg(a:PS X st t):me X [st] t:=by
 intro p s b H D I h
 refine Oq (aL (a p s b H D I h) λf S q=>?_)
 cases f with
 |next=>exact MS q
 |ret v=>exact q
 |brk=>exact q
 |cont=>exact q
theorem ap.quiet(I:ap X p a H s):interactive X.env=false:=by simp [interactive,I.ok.kind]
def px(te:TE):TS:=λD a H=>te a H λ_ h=>D.nx a h
theorem jJ(b:PE X e te)(c:swapsWith e none pos.line X.env=pure false:=by rfl):PS X (.Expr e pos) (px te):=by
 intro p s a H D I h
 exact wpAny_Expr_any (aL (b p s a H _ I h) λv S #[x,d,i,r,q]=>#[a,d,i,q]) I.quiet c
def gn(te:TE):TS:=λD a H=>te a H D.rt
theorem jo(b:PE X e te):PS X (.Return (some e) pos) (gn te):=by
 intro p s a H D I h
 exact wpAny_Return_some (aL (b p s a H _ I h) λv S #[x,c,i,r,q]=>#[x,a,c,i,r,q])
def gF(c:TT)(t u:TS):TS:=λD a H=>c a H λb h=>if b=true then t D a h else u D a h
theorem jx{c:Expr}{a b:List Stmt}{T:TT}(j:PT X c T)(k:me X a t)(l:me X b u):PS X (.If c a b pos) (gF T t u):=by
 intro p s f H D I h
 refine wpAny_If (aL (j p s f H _ I h) λd S z=>?_)
 obtain⟨g,i,q⟩:=z
 cases d with
 |true=>exact k p S f g D i q
 |false=>exact l p S f g D i q
end
abbrev TG:=V->St->Hp->(St->Hp->Prop)->Prop
abbrev vP:=List V->St->Hp->(St->Hp->Prop)->Prop
def PG(X:Cx)(T:Expr)(t:TG):Prop:=
 ∀(p:List (Addr×Obj)) (s:Shared) (b:St) (H:Hp) (v:V) (u:Value) (Q:St->Hp->Prop),ap X p b H s->aD v u->t v b H Q->
  wpAny (model X.prog X.w) X.A (assign T X.env u) (λ_ S=>∃a h,ap X p a h S/\Q a h) X.xe s
def Dm(X:Cx)(T:List Expr)(t:vP):Prop:=
 ∀(p:List (Addr×Obj)) (s:Shared) (b:St) (H:Hp) (v:List V) (u:List Value) (Q:St->Hp->Prop),ap X p b H s->au v u->t v b H Q->
  wpAny (model X.prog X.w) X.A (assignInOrder ((assignEach T X.env).map (·.2)) u) (λ_ S=>∃a h,ap X p a h S/\Q a h) X.xe s
abbrev AC:=V->V->V->Hp->(Hp->Prop)->Prop
def DJ(X:Cx)(t:AC):Prop:=
 ∀(p:List (Addr×Obj)) (s:Shared) (a:St) (H:Hp) (o i v:V) (O I u:Value) (Q:Hp->Prop),ap X p a H s->aD o O->aD i I->aD v u->t o i v H Q->
  wpAny (model X.prog X.w) X.A (setItem O I u) (λ_ S=>∃h,ap X p a h S/\Q h) X.xe s
abbrev FP:=V->V->Hp->VK->Prop
def Hh(X:Cx)(o:Operator)(t:FP):Prop:=
 ∀(p:List (Addr×Obj)) (s:Shared) (a:St) (H:Hp) (x y:V) (v u:Value) (Q:VK),ap X p a H s->aD x v->aD y u->t x y H Q->
  wpAny (model X.prog X.w) X.A (inplaceOp o v u) (EP X p a Q) X.xe s
section
variable {X:Cx}{pos:Pos}
def bq(i:Nat):TG:=λv a H Q=>Q (a.set i (some v)) H
theorem jv{i:Nat}{x:Str}(a:X.N.Nodup)(b:X.N[i]?=some x)(c:pX X.env.scope x)(d:X.fn x=true∨X.env.scope.names.lookup x=some .local:=by first |exact .inl Z |exact .inr Z |assumption):PG X (.Name x pos) (bq i):=by
 intro p s f H v u Q I r h
 exact wpAny_assign_Name (zr I a b c r (λS e=>#[_,H,e,h]) d)
def rQ:vP:=λv a H Q=>v=[]/\Q a H
inductive di(t:TG)(u:vP)(a:List V)(b:St)(H:Hp)(Q:St->Hp->Prop):Prop
 |mk(v r:_)(_:a=v::r)(_:t v b H λσ' H'=>u r σ' H' Q)
theorem ki:Dm X [] rQ:=by
 intro p s a H v u Q I r h
 obtain⟨e,h⟩:=h
 subst e
 cases r
 exact assignInOrder_nil #[a,H,I,h]
theorem jA(b:PG X e t)(c:Dm X E u)
  (d:(assignEach (e::E) X.env).map (·.2)=assign e X.env::(assignEach E X.env).map (·.2):=by rfl):Dm X (e::E) (di t u):=by
 intro p s f H V U Q I r h
 obtain⟨v,k,g,h⟩:=h
 subst g
 cases r with
 |cons r R=>
  rw[d]
  refine assignInOrder_cons (aL (b p s f H _ _ _ I r h) λ_ S z=>?_)
  obtain⟨a,i,j,q⟩:=z
  exact c p S a i _ _ Q j R q
inductive pK(K:Frag)(n:Nat)(t:vP)(v:V)(c:St)(H:Hp)(Q:St->Hp->Prop):Prop
 |mk(a b:_)(_:v= .ref a)(_:ay K H a b)(_:b.length=n)(_:t b c H Q)
theorem zn{n:Nat}(g:X.calm=true)(h:Dm X E t)
  (i:(assignEach E X.env).length=n:=by rfl) (c:(assignEach E X.env).findIdx? (·.1)=none:=by rfl):PG X (.Tuple E k pos) (pK X.K n t):=by
 intro p s f H v u Q I r d
 obtain⟨a,x,j,l,m,d⟩:=d
 subst j
 cases r
 obtain⟨q,R,w,B⟩:=I.tuple l
 refine assign_Tuple_tuple (I.ok.hd g) w (by simp [i,<- m,R.length]) c λy z=>?_
 have A:ap X p f H { s with heap:=y }:=I.kept (t':=s.toks) λb o e=>z b o (Ij (Ie e)) e
 exact h p _ f H x _ Q A (by simpa using R) d
def A1(T b:TE)(t:AC):TG:=λv a H Q=>T a H λo h=>b a h λi c=>t o i v c λd=>Q a d
theorem qF{o i:Expr}{T c:TE}{t:AC}(d:PE X o T)(e:PE X i c)(f:DJ X t)
  (g:∀v,assign (.Subscript o i pos) X.env v=(do
   let O <- holding [v] (eval o X.env)
   let a <- holding [v,O] (eval i X.env)
   standAt pos
   holding [v,O,a] (setItem O a v)
   release [v,O,a] []):=by intro _;rfl):PG X (.Subscript o i pos) (A1 T c t):=by
 intro p s b H v u Q I r h
 rw[g]
 refine HV (IF (aL (d p s b H _ I h) λO S z=>?_))
 obtain⟨x,j,k,R,q⟩:=z
 refine HV (IF (aL (e p S b j _ k q) λa l z=>?_))
 obtain⟨y,m,n,w,A⟩:=z
 refine HV (Ms (HV (IF (aL (f p l b m x y v O a u _ n R w r A) λ_ E z=>?_))))
 obtain⟨B,C,D⟩:=z
 exact wpAny_release #[b,B,C,D]
def du(t:TE)(g:TG):TS:=λD a H=>t a H λx h=>g x a h D.nx
theorem zg{t e:Expr}{T:TE}{g:TG}(b:PE X e T)(c:PG X t g)(d:swapsWithSole [t] e pos.line X.env=pure false:=by rfl)(f:swappedStores [t] e X.env=pure none:=by rfl)
  (i:(assignEach [t] X.env).map (·.2)=[assign t X.env]:=by rfl):PS X (.Assign [t] e pos) (du T g):=by
 intro p s a H D I h
 refine wpAny_Assign_stores (aL (b p s a H _ I h) λv S z=>?_) d f
 obtain⟨x,j,k,r,Q⟩:=z
 rw[i]
 exact aL (c p S a j x v _ k r Q) λ_ l q=>q
theorem kY{i:Nat}{x:Str}{e:Expr}{t:TE}{p:Pos}(a:X.N.Nodup)(b:X.N[i]?=some x)(c:pX X.env.scope x)(d:PE X e t)(f:swapsWith e (some (.Name x p)) pos.line X.env=pure false:=by rfl)(g:X.fn x=true∨X.env.scope.names.lookup x=some .local:=by first |exact .inl Z |exact .inr Z |assumption):
  PS X (.Assign [.Name x p] e pos) (du t (bq i)):=by
 intro P s j H D I h
 refine wpAny_Assign_Name (aL (d P s j H _ I h) λv S z=>?_) f
 obtain⟨y,k,l,r,q⟩:=z
 exact zr l a b c r (λn m=>#[_,k,m,q]) g
inductive Fb(i:Nat)(a:TE)(b:FP)(D:aZ)(c:St)(H:Hp):Prop
 |mk(x:_)(_:c[i]?=some (some x))(_:a c H λy H1=>b x y H1 λz H2=>D.nx (c.set i (some z)) H2)
theorem Cp{i:Nat}(q:X.N.Nodup)(g:X.N[i]?=some x)(f:pX X.env.scope x)(t:PE X e T)(B:Hh X o C)(E:X.fn x=true∨X.env.scope.names.lookup x=some .local:=by first |exact .inl Z |exact .inr Z |assumption):
  PS X (.AugAssign (.Name x j) o e pos) (Fb i T C):=by
 intro p s n H D I h
 obtain⟨v,F,h⟩:=h
 obtain⟨m,J,K⟩:=I.loc
 have V:Ft X.env.scope x:=by rcases f with k |k;exact .inl k;exact .inr (.inl k)
 obtain⟨u,r,l⟩:=K i x v g F V
 refine wpAny_AugAssign_Name ?_
 have G:wpAny (model X.prog X.w) X.A (eval e X.env) (λw S=>wpAny (model X.prog X.w) X.A (inplaceOp o u w) (λr d=>wpAny (model X.prog X.w) X.A (storeName X.env x r) (λ_=>SP X p D .next) X.xe d) X.xe S) X.xe s:=by
  refine aL (t p s n H _ I h) λw L a=>?_
  obtain⟨y,M,O,R,Q⟩:=a
  refine aL (B p L n M v y u w _ O r R Q) λz s2 a=>?_
  obtain⟨zv,P,U,W,Y⟩:=a
  exact zr U q g f W (λs3 I3=>#[_,P,I3,Y]) E
 rcases l with ⟨hk,hm⟩ | ⟨hk,c,hc,b⟩
 ·exact wpAny_loadName_local I.ok.kind hk J hm G
 ·rcases hk with hk |hk
  ·exact wpAny_loadName_cell I.ok.kind hk hc b G
  ·rcases f with k |k
   ·have:X.env.scope.names.lookup x=some .free:=hk
    rw[k]at this;cases this
   ·have:X.env.scope.names.lookup x=some .free:=hk
    rw[k]at this;cases this
inductive Hm(f:Int->Int->Int)(x y:V)(H:Hp)(Q:VK):Prop
 |mk(i j:_)(_:x= .int i)(_:y= .int j)(_:Q (.int (f i j)) H)
theorem A6:Hh X .Add (Hm λi j=>i+j):=by
 intro p s a H x y v u Q I r R h
 obtain⟨i,j,e,E,q⟩:=h
 subst e;subst E
 obtain⟨t,rfl⟩:=r
 obtain⟨T,rfl⟩:=R
 exact iadd_int #[.int _,H,I.tok _,#[_,Z],q]
end
section
variable {X:Cx}{pos:Pos}
def uY(c:TT)(t:TS):TS:=λD a H=>∃W:Nat->St->Hp->Prop,(∃m,W m a H)/\∀m a H,W m a H->
 c a H λb h=>if b=true then ∃N:St->Hp->Prop,(∀d e,N d e->∃M,M < m/\W M d e)/\t { D with nx:=N,ct:=N,bk:=D.nx } a h else D.nx a h
theorem Q6(o:PassesOwn (model X.prog X.w) X.A X.env X.xe)(E:PT X c T)(F:me X B G):PS X (.While c B [] pos) (uY T G):=by
 intro p s J H D I h
 obtain⟨W,⟨M,K⟩,t⟩:=h
 refine wpAny_While (codeAny_whileLoop (λn S=>∃e r,ap X p e r S/\W n e r) ?_ M #[J,H,I,K])
 rintro n L ⟨d,u,O,P⟩
 refine Mo o (aL (E p L d u _ O (t n d u P)) λb R z=>?_)
 obtain⟨x,y,q⟩:=z
 cases b with
 |true=>
  obtain⟨N,C,q⟩:=q
  rw[Io Z]
  refine Mo o (aL (F p R d x _ y q) λf U Q=>?_)
  cases f with
  |next=>
   obtain⟨a,g,i,j⟩:=Q
   obtain⟨m,k,l⟩:=C a g j
   exact#[m,k,a,g,i,l]
  |cont=>
   obtain⟨a,g,i,j⟩:=Q
   obtain⟨m,k,l⟩:=C a g j
   exact#[m,k,a,g,i,l]
  |brk=>exact Q
  |ret v=>exact Q
 |false=>
  rw[Iu Ih]
  exact MS #[d,x,y,q]
end
structure It where
 go:Nat->Hp->Prop
 yld:Nat->Hp->V->Hp->Prop
 stop:Nat->Hp->Prop
def fc(X:Cx)(P:List (Addr×Obj))(H:Hp)(b:Addr):Prop:=
 H b=none/\b≠X.env.locals/\b∉X.fs/\(b∈X.ex∨X.s₀.heap.objs.size<=b)/\(∀x c,X.env.cells.lookup x=some c->c≠b)/\∀p∈X.pn++P,p.1≠b
theorem ap.fpOk{X:Cx}{d:Hp}(I:ap X a i H s)(h:s.heap.objs.size<=b)(f:d b=none):fc X a d b:=by
 refine#[f,I9 (Ip I.lt h),I.nofs h,.inr (Ik I.sz h),λx c e z=>?_,λp g z=>?_]
 ·obtain⟨v,q⟩:=I.cell x c e
  exact absurd (Ip q.lt (by rw[z];exact h)) (Li _)
 ·exact absurd (Ip (Ie (I.pin p g).1) (by rw[z];exact h)) (Li _)
structure nL(P:Program)(w:World)(K:Frag)(tg:Expr)(J:It)(fp:List Addr)(it:Addr)(tn:Nat->Heap->Prop):Prop where
 mem:it∈fp
 obj:∀i h,tn i h->∀b∈fp,∃o,h.get? b=some o/\∀v,o.data≠ .cell v
 keep:∀i h h',tn i h->(∀b∈fp,∀o,h.get? b=some o->h'.get? b=some o)->tn i h'
 item:∀(X:Cx),X.prog=P->X.w=w->X.K=K->X.calm=true->∀(i:Nat) (pins:List (Addr×Obj)) (s:Shared) (σ:St) (H:Hp) (E:Value->Shared->Prop),ap X pins σ H s->(∀b∈fp,fc X pins H b)->tn i s.heap->J.go i H->
  wpAny (model P w) X.A (pyNext (.ref it)) (λr s1=>∃u,r=some u/\
   wpAny (model P w) X.A (letOwnedTupleGo tg (.ref it) u) (λ_ s2=>∃x H',ap X pins σ H' s2/\aD x u/\J.yld i H x H'/\tn (i+1) s2.heap/\∀b∈fp,H' b=none) E s1) E s
 done:∀(X:Cx),X.prog=P->X.w=w->X.K=K->X.calm=true->∀(i:Nat) (pins:List (Addr×Obj)) (s:Shared) (σ:St) (H:Hp) (E:Value->Shared->Prop),ap X pins σ H s->(∀b∈fp,fc X pins H b)->tn i s.heap->J.stop i H->
  wpAny (model P w) X.A (pyNext (.ref it)) (λr s1=>r=none/\ap X pins σ H s1) E s
 self:∀(A:Around) (i:Nat) (s:Shared) (Q:Value->Shared->Prop) (E:Value->Shared->Prop),tn i s.heap->Q (.ref it) s->wpAny (model P w) A (pyIter (.ref it)) Q E s
abbrev TI:=St->Hp->(It->Hp->Prop)->Prop
def Hg(X:Cx)(p:List (Addr×Obj))(a:St)(T:Expr)(R:It->Hp->Prop)(i:Value)(s:Shared):Prop:=
 ∃(I:Addr) (f:List Addr) (t:Nat->Heap->Prop) (J:It) (H:Hp),i= .ref I/\ap X p a H s/\nL X.prog X.w X.K T J f I t/\t 0 s.heap/\(∀b∈f,fc X p H b)/\R J H
def PI(X:Cx)(t iter:Expr)(W:TI):Prop:=
 ∀(p:List (Addr×Obj)) (s:Shared) (a:St) (H:Hp) (R:It->Hp->Prop),ap X p a H s->W a H R->
  wpAny (model X.prog X.w) X.A (eval iter X.env) (λv S=>wpAny (model X.prog X.w) X.A (pyIter v) (Hg X p a t R) X.xe S) X.xe s
theorem Yz{s : Shared}{n : String}{Q : Unit -> Shared -> Prop}(a : s.heap.get? i = some o)(b : o.cls = .type n)(c : o.data = .fields v)
    (d : ["enumerate", "zip", "dict_itemiterator", "dict_reverseitemiterator", "odict_iterator", "itertools.zip_longest", "itertools.pairwise"].contains n = false) (H : Q () s) : wpAny M A (letOwnedTupleGo t (.ref i) u) Q E s := by
  unfold letOwnedTupleGo
  cases t <;> first
    | exact HY H
    | (cases u <;> first
        | exact HY H
        | (refine HV (wpAny_load a ?_)
           rw [b, c]
           show wpAny M A (if (["enumerate", "zip", "dict_itemiterator", "dict_reverseitemiterator", "odict_iterator", "itertools.zip_longest", "itertools.pairwise"].contains n && v[0]? == some (rawInt _)) = true then _ else _) Q E s
           rw [Iu (by intro h; rw [d, Bool.false_and] at h; cases h)]
           exact HY H))
noncomputable def vI(K:Frag)(a:Addr):It:=
 #[λi H=>∃X x,aG K H a X/\X[i]?=some x,λi H x h=>h=H/\∀X,aG K H a X->X[i]?=some x,λi H=>∃X,aG K H a X/\X.length<=i]
noncomputable def vJ(K:Frag)(a:Addr):It:=
 #[λi H=>∃X x,ay K H a X/\X[i]?=some x,λi H x h=>h=H/\∀X,ay K H a X->X[i]?=some x,λi H=>∃X,ay K H a X/\X.length<=i]
noncomputable def vt(lo:Int)(n:Nat):It:=#[λi _=>i < n,λi H x h=>h=H/\x= .int (lo+i),λi _=>n<=i]
theorem Zj{P:Program}{K:Frag}(a g:Addr):nL P w K tg (vI K a) [g] g (λi h=>h.IsListIter g a i) where
 mem:=by simp
 obj:=λi h st b j=>by
  have e:b=g:=by simpa using j
  subst e
  obtain⟨o,e,c,d⟩:=st
  exact#[o,e,λv z=>by rw[d]at z;cases z]
 keep:=λi h l st k=>st.at λo e=>k g OH o e
 item:=by
  intro X q r t L i f s M H E I m st y
  subst q r t
  obtain⟨N,x,n,A⟩:=y
  obtain⟨B,R,p,O⟩:=I.list n
  obtain⟨u,Q,T⟩:=R.get A
  obtain⟨F,C,U,D,G,J⟩:=m g OH
  refine wpAny_pyNext_list_item st p.isList (x:=u) (by simpa using Q) λl S V=>?_
  have W:ap X f M H { s with heap:=l }:=I.turned (t':=s.toks) (λb o j e=>(V.2 b j).trans e) F C D G J
  obtain⟨o,e,c,d⟩:=id S
  exact#[u,Z,Yz (s:={ s with heap:=l }) e c d OF #[x,H,W,T,#[Z,λys Y=>by rw[I.list_inj Y n];exact A],S,λb j=>(m b j).1]]
 done:=by
  intro X q r t L i f s M H E I m st y
  subst q r t
  obtain⟨N,n,A⟩:=y
  obtain⟨B,R,p,O⟩:=I.list n
  obtain⟨F,C,U,D,G,J⟩:=m g OH
  have hl:=R.length
  exact wpAny_pyNext_list_end (I.ok.hd L) st p.isList (by simp;omega) λl eb=>#[Z,I.turned (t':=s.toks) (λb o j e=>eb b o j e) F C D G J]
 self:=λ_ _ _ _ _ st h=>wpAny_pyIter_listiter st h
theorem X0{P:Program}{K:Frag}(a g:Addr):nL P w K tg (vJ K a) [g] g (λi h=>h.IsTupleIter g a i) where
 mem:=by simp
 obj:=λi h st b j=>by
  have e:b=g:=by simpa using j
  subst e
  obtain⟨o,e,c,d⟩:=st
  exact#[o,e,λv z=>by rw[d]at z;cases z]
 keep:=λi h m st k=>st.at λo e=>k g OH o e
 item:=by
  intro X r t y L i f s M H E I n st A
  subst r t y
  obtain⟨N,x,q,B⟩:=A
  obtain⟨l,R,p,O⟩:=I.tuple q
  obtain⟨u,Q,T⟩:=R.get B
  obtain⟨F,C,U,D,G,J⟩:=n g OH
  refine wpAny_pyNext_tuple_item st (show s.heap.IsTuple a l.toArray from p) (x:=u) (by simpa using Q) λm S V=>?_
  have W:ap X f M H { s with heap:=m }:=I.turned (t':=s.toks) (λb o j e=>(V.2 b j).trans e) F C D G J
  obtain⟨o,e,c,d⟩:=id S
  exact#[u,Z,Yz (s:={ s with heap:=m }) e c d OF #[x,H,W,T,#[Z,λys Y=>by rw[I.tuple_inj Y q];exact B],S,λb j=>(n b j).1]]
 done:=by
  intro X r t y L i f s M H E I n st A
  subst r t y
  obtain⟨N,q,B⟩:=A
  obtain⟨l,R,p,O⟩:=I.tuple q
  obtain⟨F,C,U,D,G,J⟩:=n g OH
  have hl:=R.length
  exact wpAny_pyNext_tuple_end (I.ok.hd L) st (show s.heap.IsTuple a l.toArray from p) (by simp;omega) λm eb=>#[Z,I.turned (t':=s.toks) (λb o j e=>eb b o j e) F C D G J]
 self:=λ_ _ _ _ _ st h=>wpAny_pyIter_tupleiter st h
theorem X1{P:Program}{K:Frag}(a:Addr)(lo:Int)(n:Nat):nL P w K M (vt lo n) [a] a (λi h=>IsRangeIter h a (lo+(i:Nat)*1) ((n:Int) - (i:Nat)) 1) where
 mem:=by simp
 obj:=λi h st b c=>by
  have e:b=a:=by simpa using c
  subst e
  exact#[_,st,λv z=>by
   have B:Data.fields _=Data.cell v:=z
   cases B]
 keep:=λi h d st k=>k a OH _ st
 item:=by
  intro X g j l m i p s A H E I f st q
  subst g j l
  obtain⟨F,r,C,u,x,y⟩:=f a OH
  have W:=Walks.range (prog:=X.prog) (w:=X.w) (I.ok.hd m) a lo 1 n
  refine W.item i s _ _ q st λv d T D S G=>?_
  obtain⟨t,rfl⟩:=D
  have J:ap X p A H { s with heap:=d,toks:=T }:=I.turned (λb o c e=>G b o (by simpa using c) e) F r u x y
  refine#[_,Z,Yz (s:={ s with heap:=d,toks:=T }) (n:="range_iterator") S Z Z OF #[.int (lo+i),H,J,#[t,?_],#[Z,Z],S,λb c=>(f b c).1]]
  rw[Int.mul_one]
 done:=by
  intro X g j l m i p s A H E I f st q
  subst g j l
  obtain⟨F,r,C,u,x,y⟩:=f a OH
  exact wpAny_pyNext_range_end (I.ok.hd m) st (by have:n<=i:=q;omega) λd L=>#[Z,I.turned (t':=s.toks) (λb o c e=>L b o c e) F r u x y]
 self:=λ_ _ _ _ _ st h=>wpAny_pyIter_rangeiter st h
section
variable {X:Cx}{tg:Expr}
inductive rV(K:Frag)(R:It->Hp->Prop)(x:V)(b:Hp):Prop
 |mk(a:_)(_:x= .ref a)(_:∃xs,aG K b a xs)(_:R (vI K a) b)
def y8(K:Frag)(t:TE):TI:=λa H R=>t a H (rV K R)
inductive Aa(K:Frag)(R:It->Hp->Prop)(x:V)(b:Hp):Prop
 |mk(a:_)(_:x= .ref a)(_:∃xs,ay K b a xs)(_:R (vJ K a) b)
def Gg(K:Frag)(t:TE):TI:=λa H R=>t a H (Aa K R)
theorem zE(c:PE X l t):PI X tg l (y8 X.K t):=by
 intro P s d H R I h
 refine aL (c P s d H _ I h) λv S z=>?_
 obtain⟨x,f,i,r,Q⟩:=z
 obtain⟨a,e,⟨m,g⟩,q⟩:=Q
 subst e
 cases r
 obtain⟨j,n,p,u⟩:=i.list g
 refine Nq p.isList ?_
 refine#[S.heap.objs.size,[S.heap.objs.size],_,_,f,Z,i.kept (t':=S.toks) λb o e=>HX _ e,Zj a _,#[_,Ig _ Z,Z,Z],λb k=>?_,q]
 have e:b=S.heap.objs.size:=by simpa using k
 subst e
 exact i.fpOk (Ib _) (i.hok.fresh (Ib _))
theorem zJ(d:PE X l t):PI X tg l (Gg X.K t):=by
 intro P s f H R I h
 refine aL (d P s f H _ I h) λv S z=>?_
 obtain⟨x,g,i,r,Q⟩:=z
 obtain⟨a,e,⟨m,j⟩,q⟩:=Q
 subst e
 cases r
 obtain⟨c,n,p,u⟩:=i.tuple j
 refine MT (show S.heap.IsTuple a c.toArray from p) ?_
 refine#[S.heap.objs.size,[S.heap.objs.size],_,_,g,Z,i.kept (t':=S.toks) λb o e=>HX _ e,X0 a _,#[_,Ig _ Z,Z,Z],λb k=>?_,q]
 have e:b=S.heap.objs.size:=by simpa using k
 subst e
 exact i.fpOk (Ib _) (i.hok.fresh (Ib _))
theorem Q7{R:It->Hp->Prop}{lo:Int}(I:ap X p a H s)(c: -(2 ^ 62)<=lo)(d:lo < 2 ^ 62)(f: -(2 ^ 62)<=h)(g:h < 2 ^ 62)
  (q:R (vt lo (h - lo).toNat) H):wpAny (model X.prog X.w) X.A (pyIter (.ref s.heap.objs.size)) (Hg X p a tg R) E { s with heap:=s.heap.push { cls:=.type "range",data:=.fields (List.toArray [.int lo t,.int h u,.int 1 v]) },toks:=T }:=by
 refine wpAny_pyIter_range (IsRange.new ..) (small_one c d f g) ?_
 have i:ap X p a H { s with heap:=s.heap.push { cls:=.type "range",data:=.fields (List.toArray [.int lo t,.int h u,.int 1 v]) },toks:=T }:=I.kept λb o e=>HX _ e
 refine#[(s.heap.push { cls:=.type "range",data:=.fields (List.toArray [.int lo t,.int h u,.int 1 v]) }).objs.size,[(s.heap.push { cls:=.type "range",data:=.fields (List.toArray [.int lo t,.int h u,.int 1 v]) }).objs.size],_,_,H,Z,
  i.kept (t':=T) λb o e=>HX _ e,X1 _ lo (h - lo).toNat,?_,λb j=>?_,q]
 ·have k:lo+((0:Nat):Int)*1=lo:=by simp
  have l:(((h - lo).toNat:Nat):Int) - ((0:Nat):Int)=Builtin.Range.rangeSize lo h 1:=by rw[rangeSize_one];split<;>omega
  show IsRangeIter _ _ (lo+((0:Nat):Int)*1) ((((h - lo).toNat:Nat):Int) - ((0:Nat):Int)) 1
  rw[k,l]
  exact Ig _ Z
 ·have e:b=(s.heap.push { cls:=.type "range",data:=.fields (List.toArray [.int lo t,.int h u,.int 1 v]) }).objs.size:=by simpa using j
  subst e
  exact i.fpOk (Ib _) (i.hok.fresh (Ib _))
inductive rW(R:It->Hp->Prop)(b:List V)(a:Hp):Prop
 |mk(j:Int)(_:b=[.int j])(_:-(2 ^ 62)<=j)(_:j < 2 ^ 62)(_:R (vt 0 j.toNat) a)
def D8(t:TA):TI:=λa H R=>t a H (rW R)
inductive rX(R:It->Hp->Prop)(b:List V)(a:Hp):Prop
 |mk(i j:Int)(_:b=[.int i,.int j])(_:-(2 ^ 62)<=i/\i < 2 ^ 62/\ -(2 ^ 62)<=j/\j < 2 ^ 62)(_:R (vt i (j - i).toNat) a)
def D9(t:TA):TI:=λa H R=>t a H (rX R)
theorem kW{a:Expr}{T:TA}{p P:Pos}(c:Gl X "range")(d:X.mg "range"=none)(f:PA X [a] T)(g:starEach [a] X.env=[(false,eval a X.env)]:=by rfl):PI X tg (.Call (.Name "range" p) [a] [] P) (D8 T):=by
 intro b s i H R I h
 refine Call_ (zI I c d boot_range (IV (aL (f P b s i H _ I h) λu S z=>?_) g Z))
 obtain⟨v,o,k,l,Q⟩:=z
 obtain⟨j,e,Q,m,q⟩:=Q
 subst e
 cases l with
 |cons r n=>
  cases n
  obtain⟨t,rfl⟩:=r
  exact call_range_1 (Q7 k OG OG Q m (by simpa using q))
theorem Jn(g:Gl X "range")(k:X.mg "range"=none)(l:PA X [a,b] T)(m:starEach [a,b] X.env=[(false,eval a X.env),(false,eval b X.env)]:=by rfl)(c:starEach [b] X.env=[(false,eval b X.env)]:=by rfl):
  PI X tg (.Call (.Name "range" p) [a,b] [] d) (D9 T):=by
 intro P s n H R I h
 refine Call_ (zI I g k boot_range (IV (aL (l d P s n H _ I h) λU S #[V,z,o,u,Q]=>?_) (by rw[m,c]) (by rw[c];rfl)))
 obtain⟨i,j,e,⟨Q,v,w,x⟩,q⟩:=Q
 subst e
 cases u with
 |cons r f=>
  cases f with
  |cons y f=>
   cases f
   obtain⟨t,rfl⟩:=r
   obtain⟨A,rfl⟩:=y
   exact call_range_2 (Q7 o Q v w x q)
def yq(w:TI)(g:TG)(t:TS):TS:=λD a H=>w a H λJ d=>∃W:Nat->Nat->St->Hp->Prop,(∃m,W 0 m a d)/\∀i m a H,W i m a H->
 (J.stop i H/\D.nx a H)∨(J.go i H/\∃N:St->Hp->Prop,(∀b h,N b h->∃M,M < m/\W (i+1) M b h)/\∀x h,J.yld i H x h->g x a h λc e=>t { D with nx:=N,ct:=N,bk:=D.nx } c e)
noncomputable def j'(f:List Addr)(h:Heap):List (Addr×Obj):=f.filterMap λb=>(h.get? b).map λo=>(b,o)
theorem zd{h:Heap}(H:b∈f)(e:h.get? b=some o):(b,o)∈j' f h:=List.mem_filterMap.mpr #[b,H,by rw[e];rfl]
theorem Zk(H:p∈j' f h):p.1∈f/\h.get? p.1=some p.2:=by
 obtain⟨b,a,e⟩:=List.mem_filterMap.mp H
 cases q:h.get? b with
 |none=>rw[q]at e;cases e
 |some o=>
  rw[q]at e
  have E:(b,o)=p:=J' e
  subst E
  exact#[a,q]
theorem ap.pinned(I:ap X a c H s)(g:∀b∈f,fc X a H b)(i:∀b∈f,∃o,s.heap.get? b=some o/\∀v,o.data≠ .cell v):ap X (a++j' f s.heap) c H s:=
 I.pins_of λp j=>(List.mem_append.mp j).elim (λz=>I.pin p (Iw _ z)) λz=>by
  obtain⟨h,e⟩:=Zk z
  obtain⟨F,k,l,_⟩:=g p.1 h
  obtain⟨o,E,d⟩:=i p.1 h
  rw[e]at E;cases E
  exact#[e,F,k,l,d]
theorem ap.unpinned(I:ap X (a++c) b H s):ap X a b H s:=I.pins_of λp h=>I.pin p (Iw _ (Lv _ h))
theorem jX{iter:Expr}{B:List Stmt}{wi:TI}{g:TG}{tb:TS}{P:Pos}(C:PassesOwn (model X.prog X.w) X.A X.env X.xe)(hc:X.calm=true)(hi:PI X tg iter wi)(hg:PG X tg g)(c:me X B tb)
  (hs:∀x,foldedSetIterable iter X.env x=pure x:=by intro _;rfl):PS X (.For tg iter B [] P) (yq wi g tb):=by
 intro p s σ H D I h
 refine wpAny_For (aL (hi p s σ H _ I h) λv s1 h1=>aL h1 λi0 s2 h2=>?_) hs
 obtain⟨it,F,tn,J,H2,e,I2,T,O,f2,W,⟨m0,w0⟩,E⟩:=h2
 subst e
 have S:∀{t:Hp},(∀b∈F,t b=none)->∀b∈F,fc X p t b:=λhn b c=>#[hn b c,(f2 b c).2]
 refine codeAny_forLoop_any (λn s'=>∃i j t,ap X p j t s'/\tn i s'.heap/\(∀b∈F,t b=none)/\W i n j t) ?_ m0 #[0,σ,H2,I2,O,λb c=>(f2 b c).1,w0]
 rintro n s3 ⟨i,k,M,I3,G,K,w3⟩
 rcases E i n k M w3 with ⟨stop,qn⟩ | ⟨go,N,hN,step⟩
 ·refine Mo C (aL (T.done X Z Z Z hc i p s3 k M X.xe I3 (S K) G stop) λr s4 z=>?_)
  obtain⟨R,I4⟩:=z
  subst R
  exact MS #[k,M,I4,qn]
 ·refine Mo C (aL (T.item X Z Z Z hc i p s3 k M X.xe I3 (S K) G go) λr s4 z=>?_)
  obtain⟨u,R,h4⟩:=z
  subst R
  refine Mo C (aL h4 λ_ s5 z=>?_)
  obtain⟨x,H5,I5,r5,y5,y,U⟩:=z
  have V:=I5.pinned (S U) (T.obj _ _ y)
  refine Mo C (aL (hg _ s5 k H5 x u _ V r5 (step x H5 y5)) λ_ s6 z=>?_)
  obtain⟨Y,H6,I6,q6⟩:=z
  refine Mo C (aL (c _ s6 Y H6 _ I6 q6) λf s7 Q=>?_)
  have again:∀{a:St} {l:Hp},ap X (p++j' F s5.heap) a l s7->N a l->∃m,m < n/\∃i j t,ap X p j t s7/\tn i s7.heap/\(∀b∈F,t b=none)/\W i m j t:=λ{a l} q L=>by
   obtain⟨m',hm,w7⟩:=hN a l L
   refine#[m',hm,i+1,a,l,q.unpinned,T.keep _ _ _ y λb c o e=>(q.pin (b,o) (Iw _ (Iw _ (zd c e)))).1,λb c=>?_,w7]
   obtain⟨o,e,d⟩:=T.obj _ _ y b c
   exact(q.pin (b,o) (Iw _ (Iw _ (zd c e)))).2.1
  cases f with
  |next=>obtain⟨a,l,q,L⟩:=Q;exact again q L
  |cont=>obtain⟨a,l,q,L⟩:=Q;exact again q L
  |brk=>obtain⟨a,l,q,Q⟩:=Q;exact#[a,l,q.unpinned,Q]
  |ret v=>obtain⟨x7,a,l,q,r7,Q⟩:=Q;exact#[x7,a,l,q.unpinned,r7,Q]
end
theorem rM{K:Frag}{a:Addr}{X:List V}{g:TG}{t:TS}{D:aZ}{b:St}{H:Hp}(Pv:Nat->St->Hp->Prop)(k:Pv 0 b H)(l:∀i b H,i<=X.length->Pv i b H->aG K H a X)
  (n:∀i x b H,X[i]?=some x->Pv i b H->g x b H λc j=>t { D with nx:=Pv (i+1),ct:=Pv (i+1),bk:=D.nx } c j) (o:∀b H,Pv X.length b H->D.nx b H):
  ∃W:Nat->Nat->St->Hp->Prop,(∃m,W 0 m b H)/\∀i m b H,W i m b H->
   ((vI K a).stop i H/\D.nx b H)∨((vI K a).go i H/\∃N:St->Hp->Prop,(∀d h,N d h->∃M,M < m/\W (i+1) M d h)/\∀x h,(vI K a).yld i H x h->g x b h λc j=>t { D with nx:=N,ct:=N,bk:=D.nx } c j):=by
 refine#[λi m b H=>m=X.length - i/\i<=X.length/\Pv i b H,#[X.length,OH,Il _,k],?_]
 rintro i m b H ⟨rfl,r,p⟩
 have q:=l i b H r p
 by_cases f:i < X.length
 ·refine .inr #[#[X,X[i],q,by simp [f]],Pv (i+1),λd h P=>#[X.length - (i+1),OG,Z,f,P],λx h y=>?_]
  obtain⟨e,y⟩:=y
  subst e
  exact n i x b _ (y X q) p
 ·have e:i=X.length:=by omega
  subst e
  exact .inl #[#[X,q,Ib _],o b H p]
theorem wn{K:Frag}{a:Addr}{X:List V}{g:TG}{t:TS}{D:aZ}{b:St}{H:Hp}(Pv:Nat->St->Hp->Prop)(k:Pv 0 b H)(l:∀i b H,i<=X.length->Pv i b H->ay K H a X)
  (n:∀i x b H,X[i]?=some x->Pv i b H->g x b H λc j=>t { D with nx:=Pv (i+1),ct:=Pv (i+1),bk:=D.nx } c j) (o:∀b H,Pv X.length b H->D.nx b H):
  ∃W:Nat->Nat->St->Hp->Prop,(∃m,W 0 m b H)/\∀i m b H,W i m b H->
   ((vJ K a).stop i H/\D.nx b H)∨((vJ K a).go i H/\∃N:St->Hp->Prop,(∀d h,N d h->∃M,M < m/\W (i+1) M d h)/\∀x h,(vJ K a).yld i H x h->g x b h λc j=>t { D with nx:=N,ct:=N,bk:=D.nx } c j):=by
 refine#[λi m b H=>m=X.length - i/\i<=X.length/\Pv i b H,#[X.length,OH,Il _,k],?_]
 rintro i m b H ⟨rfl,r,p⟩
 have q:=l i b H r p
 by_cases f:i < X.length
 ·refine .inr #[#[X,X[i],q,by simp [f]],Pv (i+1),λd h P=>#[X.length - (i+1),OG,Z,f,P],λx h y=>?_]
  obtain⟨e,y⟩:=y
  subst e
  exact n i x b _ (y X q) p
 ·have e:i=X.length:=by omega
  subst e
  exact .inl #[#[X,q,Ib _],o b H p]
theorem Qa{lo:Int}{n:Nat}{g:TG}{t:TS}{D:aZ}{a:St}{H:Hp}(Pv:Nat->St->Hp->Prop)(j:Pv 0 a H)
  (k:∀i a H,i < n->Pv i a H->g (.int (lo+i)) a H λb f=>t { D with nx:=Pv (i+1),ct:=Pv (i+1),bk:=D.nx } b f) (l:∀a H,Pv n a H->D.nx a H):
  ∃W:Nat->Nat->St->Hp->Prop,(∃m,W 0 m a H)/\∀i m a H,W i m a H->
   ((vt lo n).stop i H/\D.nx a H)∨((vt lo n).go i H/\∃N:St->Hp->Prop,(∀c h,N c h->∃M,M < m/\W (i+1) M c h)/\∀x h,(vt lo n).yld i H x h->g x a h λb f=>t { D with nx:=N,ct:=N,bk:=D.nx } b f):=by
 refine#[λi m a H=>m=n - i/\i<=n/\Pv i a H,#[n,OH,Il _,j],?_]
 rintro i m a H ⟨rfl,o,p⟩
 by_cases d:i < n
 ·refine .inr #[d,Pv (i+1),λc h P=>#[n - (i+1),OG,Z,d,P],λx h y=>?_]
  obtain⟨e,y⟩:=y
  subst e y
  exact k i a _ d p
 ·have e:i=n:=by omega
  subst e
  exact .inl #[Ib _,l a H p]
abbrev R2:=V->V->Hp->VK->Prop
def eY(X:Cx)(f:Value->Value->Sem Value)(r:R2):Prop:=
 ∀(p:List (Addr×Obj)) (s:Shared) (a:St) (H:Hp) (x y:V) (v u:Value) (Q:VK),ap X p a H s->aD x v->aD y u->r x y H Q->
  wpAny (model X.prog X.w) X.A (f v u) (EP X p a Q) X.xe s
def FT(X:Cx)(f:Value->Sem Value)(r:V->Hp->VK->Prop):Prop:=
 ∀(p:List (Addr×Obj)) (s:Shared) (a:St) (H:Hp) (x:V) (v:Value) (Q:VK),ap X p a H s->aD x v->r x H Q->
  wpAny (model X.prog X.w) X.A (f v) (EP X p a Q) X.xe s
def eJ(X:Cx)(f:Value)(r:List V->Hp->VK->Prop):Prop:=
 ∀(p:List (Addr×Obj)) (s:Shared) (a:St) (H:Hp) (x:List V) (u:List Value) (Q:VK),ap X p a H s->au x u->r x H Q->
  wpAny (model X.prog X.w) X.A (call f u) (EP X p a Q) X.xe s
def FR(X:Cx)(r:V->Hp->(Bool->Hp->Prop)->Prop):Prop:=
 ∀(p:List (Addr×Obj)) (s:Shared) (a:St) (H:Hp) (x:V) (v:Value) (Q:Bool->Hp->Prop),ap X p a H s->aD x v->r x H Q->
  wpAny (model X.prog X.w) X.A (truthy v) (TP X p a Q) X.xe s
def dR(r:R2)(t T:TE):TE:=λa H Q=>t a H λx h=>T a h λy b=>r x y b Q
def HL(r:V->Hp->VK->Prop)(t:TE):TE:=λa H Q=>t a H λx h=>r x h Q
inductive rI(C:Int->Int->Prop)(g:Int->Int->V)(x y:V)(H:Hp)(Q:VK):Prop
 |mk(i j:_)(_:x= .int i)(_:y= .int j)(_:C i j)(_:Q (g i j) H)
inductive vC(g:Int->Int->V)(x y:V)(H:Hp)(Q:VK):Prop
 |mk(i j:_)(_:x= .int i)(_:y= .int j)(_:Q (g i j) H)
inductive rU(g:Int->V)(x:V)(H:Hp)(Q:VK):Prop
 |mk(i:_)(_:x= .int i)(_:Q (g i) H)
section
variable {X:Cx}{a b c:Expr}{ta tb tc:TE}{pos:Pos}
theorem AM(k:PE X a ta)(l:PE X b tb){R:V->V->Hp->Prop}(I:ap X p e H s)
  (h:ta e H λx j=>tb e j λy d=>R x y d)  {f:Value->Value->Sem Value}
  (m:∀v u i x y d,ap X p e d i->aD x v->aD y u->R x y d->wpAny (model X.prog X.w) X.A (f v u) Q X.xe i):
  wpAny (model X.prog X.w) X.A (eval a X.env) (λv S=>wpAny (model X.prog X.w) X.A (eval b X.env) (λu g=>wpAny (model X.prog X.w) X.A (f v u) Q X.xe g) X.xe S) X.xe s:=by
 refine aL (k p s e H _ I h) λv n z=>?_
 obtain⟨x,j,o,r,q⟩:=z
 refine aL (l p n e j _ o q) λu i z=>?_
 obtain⟨y,d,t,B,C⟩:=z
 exact m v u i x y d t r B C
theorem jw{o:Operator}{r:R2}(d:eY X (binaryOp o) r)(e:PE X a ta)(f:PE X b tb):PE X (.BinOp a o b pos) (dR r ta tb):=by
 intro p s g H Q I h
 exact wpAny_BinOp (AM e f I h λv u S x y i j R k q=>d p S g i x y v u Q j R k q)
theorem YA(e:FT X (unaryOp o) r)(f:PE X a ta):PE X (.UnaryOp o a pos) (HL r ta):=by
 intro p s d H Q I h
 exact UnaryOp_ (aL (f p s d H _ I h) λv S #[x,g,i,R,q]=>e p S d g x v Q i R q)
theorem Fv{f:Value->Value->Sem Value}{C:Int->Int->Prop}{g:Int->Int->Int}
  (rule:∀(i j:Int) (t u:Tok) (s:Shared) (Q:Value->Shared->Prop) (E:Value->Shared->Prop),C i j->Q (.int (g i j) s.toks) { s with toks:=s.toks+1 }->wpAny (model X.prog X.w) X.A (f (.int i t) (.int j u)) Q E s):
  eY X f (rI C λi j=>.int (g i j)):=by
 intro p s e H x y v u Q I r R h
 obtain⟨i,j,rfl,rfl,d,q⟩:=h
 obtain⟨t,rfl⟩:=r
 obtain⟨T,rfl⟩:=R
 exact rule i j t T s _ _ d #[.int (g i j),H,I.tok _,#[_,Z],q]
theorem Ep{f:Value->Value->Sem Value}{g:Int->Int->Int}
  (rule:∀(i j:Int) (t u:Tok) (s:Shared) (Q:Value->Shared->Prop) (E:Value->Shared->Prop),Q (.int (g i j) s.toks) { s with toks:=s.toks+1 }->wpAny (model X.prog X.w) X.A (f (.int i t) (.int j u)) Q E s):
  eY X f (vC λi j=>.int (g i j)):=by
 intro p s d H x y v u Q I r R h
 obtain⟨i,j,rfl,rfl,q⟩:=h
 obtain⟨t,rfl⟩:=r
 obtain⟨T,rfl⟩:=R
 exact rule i j t T s _ _ #[.int (g i j),H,I.tok _,#[_,Z],q]
theorem BX{f:Value->Value->Sem Value}{g:Int->Int->Bool}
  (rule:∀(i j:Int) (t u:Tok) (s:Shared) (Q:Value->Shared->Prop) (E:Value->Shared->Prop),Q (.bool (g i j)) s->wpAny (model X.prog X.w) X.A (f (.int i t) (.int j u)) Q E s):
  eY X f (vC λi j=>.bl (g i j)):=by
 intro p s d H x y v u Q I r R h
 obtain⟨i,j,rfl,rfl,q⟩:=h
 obtain⟨t,rfl⟩:=r
 obtain⟨T,rfl⟩:=R
 exact rule i j t T s _ _ #[.bl (g i j),H,I,Z,q]
def FE(i j:Int):Prop:=0<=j/\j<=1000000/\i.natAbs < 2 ^ 64
def vF(i j:Int):Prop:=(-(2 ^ 64) < i/\i < 2 ^ 64)∨(-(2 ^ 64) < j/\j < 2 ^ 64)
theorem vF.ok(h:vF i j):IntMulOk i j:=by
 rcases h with ⟨H,d⟩ | ⟨H,d⟩
 ·exact .of_left (intBits_le_64 H d)
 ·exact .of_right (intBits_le_64 H d)
theorem jY:eY X (binaryOp .Add) (vC λi j=>.int (i+j)):=Ep λ_ _ _ _ _ _ _ q=>add_int q
theorem kU:eY X (binaryOp .Sub) (vC λi j=>.int (i - j)):=Ep λ_ _ _ _ _ _ _ q=>sub_int q
theorem zo:eY X (binaryOp .Mult) (rI vF λi j=>.int (i*j)):=Fv λ_ _ _ _ _ _ _ h q=>mul_int q h.ok
theorem zb:eY X (binaryOp .Mod) (rI (λ_ j=>0 < j) λi j=>.int (i % j)):=Fv λi j _ _ _ _ _ h q=>by
 have H:(0:Int) < j:=h
 exact mod_int' OG (by rw[Int.fmod_eq_emod_of_nonneg i OG];exact q)
theorem Jg:eY X (binaryOp .Pow) (rI FE λi j=>.int (i ^ j.toNat)):=Fv λ_ _ _ _ _ _ _ h q=>pow_int_small h.1 h.2.1 h.2.2 q
theorem HN{f:Value->Sem Value}{g:Int->Int}
  (rule:∀(i:Int) (t:Tok) (s:Shared) (Q:Value->Shared->Prop) (E:Value->Shared->Prop),Q (.int (g i) s.toks) { s with toks:=s.toks+1 }->wpAny (model X.prog X.w) X.A (f (.int i t)) Q E s):
  FT X f (rU λi=>.int (g i)):=by
 intro p s d H x v Q I r h
 obtain⟨i,rfl,q⟩:=h
 obtain⟨t,rfl⟩:=r
 exact rule i t s _ _ #[.int (g i),H,I.tok _,#[_,Z],q]
theorem Qz:FT X (unaryOp .USub) (rU λi=>.int (-i)):=HN λ_ _ _ _ _ q=>neg_int q
end
noncomputable def EQ:V->V->Bool
 | .non,.non=>true | .non,.int _=>true | .int _,.non=>true | .non,.bl _=>true | .bl _,.non=>true | .non,.str _=>true | .str _,.non=>true
 | .int _,.int _=>true | .bl _,.bl _=>true | .str _,.str _=>true | .byt _,.byt _=>true
 | .int _,.str _=>true | .str _,.int _=>true | .bl _,.str _=>true | .str _,.bl _=>true
 |_,_=>false
def Cu:R2:=λx y H Q=>EQ x y=true/\Q (.bl (decide (x=y))) H
def HE:R2:=λx y H Q=>EQ x y=true/\Q (.bl (!decide (x=y))) H
theorem YG:decide (V.int i=V.int j)=(i==j):=by
 rw[Nx]
 simp
theorem Z9:decide (V.bl i=V.bl j)=(i==j):=by
 rw[Nx]
 simp
theorem YH:decide (V.str i=V.str j)=(i==j):=by
 rw[Nx]
 simp
theorem YI:decide (V.byt i=V.byt j)=(i.toList==j.toList):=by
 rw[Nx]
 cases i
 cases j
 simp
section
variable {X:Cx}{a b c:Expr}{ta tb tc:TE}{pos:Pos}
theorem jQ{Q:VK}(I:ap X p d H s)(q:Q (.bl k) H)(e:k=f):EP X p d Q (.bool f) s:=by
 subst e
 exact#[.bl k,H,I,Z,q]
theorem qw:eY X (compareOp .Eq) Cu:=by
 intro p s e H x y v u Q I R r h
 obtain⟨d,q⟩:=h
 cases x with
 |non=>
  cases R
  cases y with
  |non=>cases r;exact PySem.EqNone.eq_none_none (jQ I q OH)
  |bl j=>cases r;exact PySem.EqNone.eq_none_bool (jQ I q OH)
  |int j=>obtain⟨T,rfl⟩:=r;exact PySem.EqNone.eq_none_int (jQ I q OH)
  |str j=>obtain⟨T,rfl⟩:=r;exact PySem.EqNone.eq_none_str (jQ I q OH)
  |_=>exact absurd (show false=true from d) Ih
 |bl i=>
  cases R
  cases y with
  |non=>cases r;exact PySem.EqNone.eq_bool_none (jQ I q OH)
  |bl j=>cases r;exact eq_bool (jQ I q Z9)
  |str j=>obtain⟨T,rfl⟩:=r;exact PySem.EqMixed.eq_bool_str (jQ I q OH)
  |_=>exact absurd (show false=true from d) Ih
 |int i=>
  obtain⟨t,rfl⟩:=R
  cases y with
  |non=>cases r;exact PySem.EqNone.eq_int_none (jQ I q OH)
  |int j=>obtain⟨T,rfl⟩:=r;exact eq_int (jQ I q YG)
  |str j=>obtain⟨T,rfl⟩:=r;exact PySem.EqMixed.eq_int_str (jQ I q OH)
  |_=>exact absurd (show false=true from d) Ih
 |str i=>
  obtain⟨t,rfl⟩:=R
  cases y with
  |non=>cases r;exact PySem.EqNone.eq_str_none (jQ I q OH)
  |bl j=>cases r;exact PySem.EqMixed.eq_str_bool (jQ I q OH)
  |int j=>obtain⟨T,rfl⟩:=r;exact PySem.EqMixed.eq_str_int (jQ I q OH)
  |str j=>obtain⟨T,rfl⟩:=r;exact eq_str (jQ I q YH)
  |_=>exact absurd (show false=true from d) Ih
 |byt i=>
  obtain⟨t,rfl⟩:=R
  cases y with
  |byt j=>obtain⟨T,rfl⟩:=r;exact PySem.W.eq_bytes (jQ I q YI)
  |_=>exact absurd (show false=true from d) Ih
 |_=>cases y<;>exact absurd (show false=true from d) Ih
theorem YB:eY X (compareOp .NotEq) HE:=by
 intro p s e H x y v u Q I R r h
 obtain⟨d,q⟩:=h
 cases x with
 |non=>
  cases R
  cases y with
  |non=>cases r;exact PySem.EqNone.ne_none_none (jQ I q OH)
  |bl j=>cases r;exact PySem.EqNone.ne_none_bool (jQ I q OH)
  |int j=>obtain⟨T,rfl⟩:=r;exact PySem.EqNone.ne_none_int (jQ I q OH)
  |str j=>obtain⟨T,rfl⟩:=r;exact PySem.EqNone.ne_none_str (jQ I q OH)
  |_=>exact absurd (show false=true from d) Ih
 |bl i=>
  cases R
  cases y with
  |non=>cases r;exact PySem.EqNone.ne_bool_none (jQ I q OH)
  |bl j=>cases r;exact ne_bool (jQ I q (K' not Z9))
  |str j=>obtain⟨T,rfl⟩:=r;exact PySem.EqMixed.ne_bool_str (jQ I q OH)
  |_=>exact absurd (show false=true from d) Ih
 |int i=>
  obtain⟨t,rfl⟩:=R
  cases y with
  |non=>cases r;exact PySem.EqNone.ne_int_none (jQ I q OH)
  |int j=>obtain⟨T,rfl⟩:=r;exact ne_int (jQ I q (K' not YG))
  |str j=>obtain⟨T,rfl⟩:=r;exact PySem.EqMixed.ne_int_str (jQ I q OH)
  |_=>exact absurd (show false=true from d) Ih
 |str i=>
  obtain⟨t,rfl⟩:=R
  cases y with
  |non=>cases r;exact PySem.EqNone.ne_str_none (jQ I q OH)
  |bl j=>cases r;exact PySem.EqMixed.ne_str_bool (jQ I q OH)
  |int j=>obtain⟨T,rfl⟩:=r;exact PySem.EqMixed.ne_str_int (jQ I q OH)
  |str j=>obtain⟨T,rfl⟩:=r;exact ne_str (jQ I q (K' not YH))
  |_=>exact absurd (show false=true from d) Ih
 |byt i=>
  obtain⟨t,rfl⟩:=R
  cases y with
  |byt j=>obtain⟨T,rfl⟩:=r;exact PySem.W.ne_bytes (jQ I q (K' not YI))
  |_=>exact absurd (show false=true from d) Ih
 |_=>cases y<;>exact absurd (show false=true from d) Ih
theorem K2:eY X (compareOp .Lt) (vC λi j=>.bl (decide (i < j))):=BX λ_ _ _ _ _ _ _ q=>lt_int q
theorem Js:eY X (compareOp .Gt) (vC λi j=>.bl (decide (j < i))):=BX λ_ _ _ _ _ _ _ q=>gt_int q
theorem Z1:eY X (compareOp .GtE) (vC λi j=>.bl (decide (j<=i))):=BX λ_ _ _ _ _ _ _ q=>ge_int q
theorem aH(b:Expr)(h:o≠ .In:=by decide)(H:o≠ .NotIn:=by decide):behindInMarks o b=false:=by
 have e:(o==CmpOp.In)=false:=by cases o<;>first |rfl |exact absurd Z h
 have E:(o==CmpOp.NotIn)=false:=by cases o<;>first |rfl |exact absurd Z H
 cases b<;>simp [behindInMarks,e,E]
theorem qO(d:eY X (compareOp o) r)(e:PE X a ta)(f:PE X b tb)(g:behindInMarks o b=false):PE X (.Compare a [o] [b] pos) (dR r ta tb):=by
 intro p s i H Q I h
 exact wpAny_Compare1 (AM e f I h λv u S x y j k R l q=>d p S i j x y v u Q k R l q) g
inductive uX(Q:Bool->Hp->Prop)(x:V)(a:Hp):Prop
 |mk(k:_)(_:x= .bl k)(_:Q k a)
def i6(t:TE):TT:=λd H Q=>t d H (uX Q)
theorem jC{o:CmpOp}{r:R2}(f:eY X (compareOp o) r)(g:PE X a ta)(i:PE X b tb)(j:behindInMarks o b=false):PT X (.Compare a [o] [b] pos) (i6 (dR r ta tb)):=by
 intro p s d H Q I h
 refine wpAny_isTrue_Compare1 (aL (g p s d H _ I h) λv S #[x,l,m,R,q]=>aL (i p S d l _ m q) λu n #[y,t,w,A,B]=>
  aL (f p n d t x y v u _ w R A B) λc G #[z,C,D,E,k,e,F]=>?_) j
 subst e
 cases E
 exact Mv #[C,D,F]
def DL(K:Frag)(x:V)(H:Hp)(k:Bool):Prop:=
 match x with
 | .non=>k=false
 | .bl b=>k=b
 | .int i=>k=(i != 0)
 | .str y=>y.length<=sizeLine/\k=((y.length:Int) != 0)
 | .byt y=>y.size<=sizeLine/\k=((y.size:Int) != 0)
 | .ref p=>(∃d,aG K H p d/\k=!d.isEmpty)∨(∃d,ay K H p d/\k=!d.isEmpty)∨∃e,H p=some (.dK e)/\k=!e.isEmpty
 |_=>False
theorem X2{d:Type}{k:List (d×V)}{v:List (d×Value)}(r:KV k v):(!v.isEmpty)=!k.isEmpty:=by
 cases r<;>rfl
theorem Kq(r:au x i):(!i.toArray.isEmpty)=!x.isEmpty:=by
 cases r<;>simp
theorem dY:(sizeLine:Nat) < 2 ^ 63:=by rw[NW];decide
theorem C9:FR X (λx H Q=>∃k,DL X.K x H k/\Q k H):=by
 intro o s B H x v Q I R h
 obtain⟨k,e,q⟩:=h
 have C:=dY
 have D:sizeLine=16777216:=NW
 cases x with
 |non=>
  cases R
  have E:k=false:=e
  subst E
  exact truthy_none #[H,I,q]
 |bl b=>
  cases R
  have E:k=b:=e
  subst E
  exact Mv #[H,I,q]
 |int i=>
  obtain⟨t,rfl⟩:=R
  have E:k=(i != 0):=e
  subst E
  exact PySem.P.truthy_int #[H,I,q]
 |str y=>
  obtain⟨t,rfl⟩:=R
  obtain⟨z,E⟩:y.length<=sizeLine/\k=((y.length:Int) != 0):=e
  subst E
  exact PySem.P.truthy_str OG #[H,I.tok _,q]
 |byt y=>
  obtain⟨t,rfl⟩:=R
  obtain⟨z,E⟩:y.size<=sizeLine/\k=((y.size:Int) != 0):=e
  subst E
  exact PySem.W.truthy_bytes OG #[H,I.tok _,q]
 |ref p=>
  cases R
  have E:(∃g,aG X.K H p g/\k=!g.isEmpty)∨(∃g,ay X.K H p g/\k=!g.isEmpty)∨∃d,H p=some (.dK d)/\k=!d.isEmpty:=e
  rcases E with ⟨g,j,E⟩ | ⟨g,j,E⟩ | ⟨d,j,E⟩
  ·subst E
   obtain⟨l,r,n,u⟩:=I.list j
   have f:=r.length
   exact wpAny_truthy_list n.isList (by simp only[Ic];omega) #[H,I.tok _,by rw[Kq r];exact q]
  ·subst E
   obtain⟨l,r,n,u⟩:=I.tuple j
   have f:=r.length
   exact truthy_tuple n (by simp only[Ic];omega) #[H,I.tok _,by rw[Kq r];exact q]
  ·subst E
   obtain⟨u,A,V,r,m⟩:d.length<=sizeLine/\(p==sysModules)=false/\∃V,KV d V/\s.heap.DictOf (aR X.prog X.w) p V:=I.hok p _ j
   have f:d.length=V.length:=Paired.length r
   exact wpAny_truthy_dict A m OG #[H,I.tok _,by rw[X2 r];exact q]
 |_=>exact(show False from e).elim
theorem tE(f:PE X a ta)(g:∀w,isTrue a X.env w=(do let v <- w;standAt a.pos;holding [v] (truthy v))):
  PT X a (λd H Q=>ta d H λx e=>∃k,DL X.K x e k/\Q k e):=by
 intro p s d H Q I h
 exact isTrue_plain (aL (f p s d H _ I h) λv S #[x,i,j,r,q]=>C9 p S d i x v Q j r q) (g _)
theorem zC:eY X (binaryOp .Add) (λx y H Q=>∃i j,x= .str i/\y= .str j/\i.length+j.length<=sizeLine/\Q (.str (i++j)) H):=by
 intro p s e H x y v u Q I r R h
 obtain⟨i,j,rfl,rfl,d,q⟩:=h
 obtain⟨t,rfl⟩:=r
 obtain⟨T,rfl⟩:=R
 exact add_str (λT f=>#[.str (i++j),H,I.tok _,#[_,Z],q]) d
theorem eP(r:au [x] U):∃u,U=[u]/\aD x u:=by
 cases r with
 |cons R d=>cases d;exact#[_,Z,R]
theorem qr:eJ X (.type "int") (λx H Q=>(∃i,x=[.int i]/\Q (.int i) H)∨∃k,x=[.bl k]/\Q (.int (if k then 1 else 0)) H):=by
 intro p s d H x U Q I r h
 rcases h with ⟨i,rfl,q⟩ | ⟨k,rfl,q⟩
 ·obtain⟨u,rfl,t,rfl⟩:=eP r
  exact call_int_int #[.int i,H,I,#[_,Z],q]
 ·obtain⟨u,rfl,R⟩:=eP r
  cases R
  exact call_int_bool #[.int (if k then 1 else 0),H,I.tok _,#[_,Z],q]
end
structure nK(h:Heap)(x dx C:Addr)(mA:Str->Option Value):Prop where
 obj:h.get? x=some (instObj C dx)
 ns:h.Ns1 dx mA
 ne:dx≠x
theorem Zl{h:Heap}(n:h.Ns1 d m):∃O,h.get? d=some O/\∀name,lookIn name O=some (m name):=by
 obtain⟨o,E,j,b,c,f,_,g⟩:=n
 refine#[o,b,λname=>?_]
 have e:=g name
 unfold nsFind findBy at e
 rw[<- Array.find?_toList]at e
 unfold lookIn
 rw[c]
 dsimp only
 split
 ·rename_i y q
  rw[q]at e
  exact K' some e
 ·rename_i q
  rw[q]at e
  have a:E.toList.any (·.refKey)=false:=by
   rw[List.any_eq_false]
   intro y i
   obtain⟨z,t,H⟩:=f y (Array.mem_toList_iff.mp i)
   simp [DictEntry.refKey,H]
  have A:¬E.toList.any (·.refKey)=true:=by rw[a];exact Ih
  rw[Iu A]
  exact K' some e
theorem nK.look(I:nK h x d C m):∃o,PySem.W.InstAt h x (instObj C d) C (some o)/\∀name,lookIn name o=some (m name):=
 let #[o,H,a]:=Zl I.ns
 #[o,#[I.obj,Z,Z,H],a]
section
variable {prog:Program}{w:World}{A:Around}{E:Value->Shared->Prop}{s:Shared}{K:Frag}{x dx C f:Addr}{mA:Str->Option Value}{name:Str}{v:Value}
theorem wq{Q:Value->Shared->Prop}(X:K.In s.heap)(I:nK s.heap x dx C mA)(a:plainGet K C name=true)(b:hasDictIn K C=true)
  (c:findIn K (.ref C) name=some none) (d:mA name=some v) (H:PySem.W.handedIn v=true) (h:Q v { s with toks:=s.toks+1 }):
  wpAny (model prog w) A (getAttr (.ref x) name e) Q E s:=by
 obtain⟨o,J,g⟩:=I.look
 exact PySem.W.get_value X J (NH a).1 (PySem.W.findObj_own b c Z (by rw[g,d])) H h
theorem rR{Q:Value×List Value->Shared->Prop}(X:K.In s.heap)(I:nK s.heap x dx C mA)(H:plainGet K C name=true)
  (a:findIn K (.ref C) name=some (some (.ref f))) (b:isFn K (.ref f)=true) (c:mA name=none) (h:Q (.ref f,[.ref x]) s):
  wpAny (model prog w) A (getMethod (.ref x) name p) Q E s:=by
 obtain⟨o,J,d⟩:=I.look
 exact PySem.W.method_fn X J (NH H).1 (NH H).2 a (beq_iff_eq.mp b) (by show(lookIn name o).map (·.isSome)=some false;rw[d,c];rfl) h
theorem yg{Q:Unit->Shared->Prop}(X:K.In s.heap)(I:nK s.heap x dx C mA)
  (k:findIn K (.ref C) "__setattr__"=some (some (.builtin "object.__setattr__"))) (l:PySem.W.plainOver K C=true) (m:PySem.W.takerIn K C name=some none) (n:hasDictIn K C=true)
  (o:PySem.Within mA N) (p:N.length<=sizeLine)
  (h:∀d,nK d x dx C (λy=>if y=name then some v else mA y)->Heap.SameBut dx s.heap d->Q () { s with heap:=d,toks:=s.toks+2 }):
  wpAny (model prog w) A (setAttr (.ref x) name v) Q E s:=by
 obtain⟨O,J,B⟩:=I.look
 refine PySem.W.set_plain X J k (PySem.W.osa_open (s:={ s with toks:=s.toks+1 }) (r:=none) X J l m λb=>?_)
 obtain⟨D,q,e⟩:=PySem.W.any_some n
 have t:s.heap.get? x=some #[.ref C,some dx,.plain,(List.toArray [])]:=I.obj
 refine HV (HY (HV (HV (wpAny_loadPart t (HV (PySem.W.Looks.here (s:={ s with toks:=s.toks+1 }) (PySem.W.looks_clsIn X q) ?_))))))
 rw[e]
 refine HY (a:=some dx) (HV (HY (HV ?_)))
 refine wpAny_nsSet1 (s:={ s with toks:=s.toks+1 }) I.ns λd H c=>?_
 obtain⟨F,u,z,g,i,j⟩:=H.count (PySem.Within.cons name v o)
 refine HV (wpAny_lookBehind g (by rw[i];exact pastItsLine_dict (Ik j (by rw[IH];omega))) ?_)
 exact HY (h _ #[(c.2 _ (IM I.ne)).trans I.obj,H,I.ne] c)
theorem sq{R:Result->Shared->Prop}(X:K.In s.heap)(H:PySem.W.makesIn K C=true)
  (b:findIn K (.ref C) "__init__"=some (some (.ref f))) (c:typeIn K (.ref f)=some (.type "function"))
  (h:codeAny (model prog w) (A.under (.builtin "type.__call__" #[.ref C::a,k])) (.call (.ref f) #[.ref (s.heap.objs.size+1)::a,k]) (PySem.W.InitBack (s.heap.objs.size+1) R)
   { s with heap:=(s.heap.push emptyDict).push (instObj C s.heap.objs.size) }):
  codeAny (model prog w) A (.call (.ref C) #[a,k]) R s:=by
 obtain⟨e,g,d,t,os⟩:=s
 exact PySem.W.make_core (PySem.W.makes_of X H) (PySem.W.looks_findIn X b) (λS=>PySem.W.bind_fn X S c) (.inl Z) h
end
noncomputable def eh(f:Str)(v:V):List (Str×V)->List (Str×V)
 | []=>[(f,v)]
 | (g,x)::r=>if g=f then (g,v)::r else (g,x)::eh f v r
theorem Jv(f g:Str)(v:V):∀F:List (Str×V),(eh f v F).lookup g=if g=f then some v else F.lookup g
 | []=>by
  show List.lookup g [(f,v)]=_
  by_cases h:g=f
  ·have H:(g==f)=true:=beq_iff_eq.mpr h
   simp only[List.lookup,H,Io h]
  ·have H:(g==f)=false:=beq_eq_false_iff_ne.mpr h
   simp only[List.lookup,H,Iu h]
 | (k,x)::r=>by
  have i:=Jv f g v r
  rw[show eh f v ((k,x)::r)=(if k=f then (k,v)::r else (k,x)::eh f v r) from Z]
  by_cases a:k=f
  ·rw[Io a]
   by_cases h:g=k
   ·have H:(g==k)=true:=beq_iff_eq.mpr h
    simp only[List.lookup,H,Io (h.trans a)]
   ·have H:(g==k)=false:=beq_eq_false_iff_ne.mpr h
    simp only[List.lookup,H,Iu (λe:g=f=>h (e.trans a.symm))]
  ·rw[Iu a]
   by_cases h:g=k
   ·have H:(g==k)=true:=beq_iff_eq.mpr h
    simp only[List.lookup,H,Iu (λe:g=f=>a (h.symm.trans e))]
   ·have H:(g==k)=false:=beq_eq_false_iff_ne.mpr h
    simp only[List.lookup,H]
    exact i
theorem Jo(f:Str)(v:V):∀F:List (Str×V),f∈(eh f v F).map (·.1)/\∀g,g∈F.map (·.1)->g∈(eh f v F).map (·.1)
 | []=>#[by simp [eh],λg h=>by simp at h]
 | (k,x)::r=>by
  obtain⟨i,I⟩:=Jo f v r
  rw[show eh f v ((k,x)::r)=(if k=f then (k,v)::r else (k,x)::eh f v r) from Z]
  by_cases H:k=f
  ·rw[Io H]
   subst H
   exact#[OH,λg h=>by simpa using h]
  ·rw[Iu H]
   refine#[?_,λg h=>?_]
   ·rw[LG]
    exact II _ i
   ·rw[LG]at h ⊢
    rcases List.mem_cons.mp h with e |e
    ·exact List.mem_cons.mpr (.inl e)
    ·exact II _ (I g e)
theorem Jw(f:Str)(v:V):∀F:List (Str×V),(eh f v F).length<=F.length+1
 | []=>by simp [eh]
 | (k,x)::r=>by
  have i:=Jw f v r
  rw[show eh f v ((k,x)::r)=(if k=f then (k,v)::r else (k,x)::eh f v r) from Z]
  by_cases h:k=f
  ·rw[Io h,IH,IH];omega
  ·rw[Iu h,IH,IH];omega
theorem dG.some_of{v:V}{o:Option Value}(r:dG (some v) o):∃u,o=some u/\aD v u:=by
 cases o with
 |none=>exact(show False from r).elim
 |some u=>exact#[u,Z,r]
theorem dG.none_of(r:dG none o):o=none:=by
 cases o with
 |none=>rfl
 |some u=>exact(show False from r).elim
theorem Zm(r:aD v u):PySem.W.handedIn u=true:=by
 cases v with
 |non=>cases (show u=Value.none from r);rfl
 |bl b=>cases (show u=Value.bool b from r);rfl
 |int i=>obtain⟨t,e⟩:=(show ∃t,u=Value.int i t from r);cases e;rfl
 |str x=>obtain⟨t,e⟩:=(show ∃t,u=Value.str x t from r);cases e;rfl
 |byt b=>obtain⟨t,e⟩:=(show ∃t,u=Value.bytes b t from r);cases e;rfl
 |flt b=>obtain⟨t,e⟩:=(show ∃t,u=Value.float b t from r);cases e;rfl
 |ref a=>cases (show u=Value.ref a from r);rfl
 |ty n=>cases (show u=Value.type n from r);rfl
section
variable {P:Program}{w:World}{H H':Hp}{h h':Heap}{a C dx:Addr}{fs fs':List (Str×V)}
theorem QJ(b:eL P w H h)(e:H a=some (.ins C dx fs)):∃m,nK h a dx C m/\(∀f,dG (fs.lookup f) (m f))/\PySem.Within m (fs.map (·.1))/\fs.length<=1000/\H dx=some (.own a):=by
 obtain⟨d,z,N,o,m,n,r,q⟩:=(show aQ P w H h a (.ins C dx fs) from b a _ e)
 exact#[m,#[o,n,N],r,q,z,d]
end
structure pF(K:Frag)(C:Addr):Prop where
 pg:plainGet K C Str.empty=true
 hd:hasDictIn K C=true
 po:PySem.W.plainOver K C=true
 sa:findIn K (.ref C) "__setattr__"=some (some (.builtin "object.__setattr__"))
theorem pF.get{K:Frag}(c:pF K C)(f:Str):plainGet K C f=true:=c.pg
def aX(K:Frag)(C:Addr)(f:Str):Prop:=findIn K (.ref C) f=some none
theorem aX.taker{K:Frag}(n:aX K C f):PySem.W.takerIn K C f=some none:=by
 unfold PySem.W.takerIn
 rw[show findIn K (.ref C) f=some none from n]
 rfl
structure a9(K:Frag)(C:Addr)(m:Str)(f:Addr):Prop where
 at_:findIn K (.ref C) m=some (some (.ref f))
 fn:isFn K (.ref f)=true
 kp:keepIn K (.ref f)=true
section
variable {X:Cx}{pins:List (Addr×Obj)}{σ:St}{H:Hp}{s:Shared}{a C dx:Addr}{fs:List (Str×V)}{f:Str}{v:V}{A:Around}{E:Value->Shared->Prop}
theorem Kr{Q:Value->Shared->Prop}(I:ap X pins σ H s)(e:H a=some (.ins C dx fs))(c:pF X.K C)(n:aX X.K C f)(l:fs.lookup f=some v)
  (h:∀u S,ap X pins σ H S->aD v u->Q u S):wpAny (model X.prog X.w) A (getAttr (.ref a) f b) Q E s:=by
 obtain⟨m,O,r,_,_,_⟩:=QJ I.hok e
 obtain⟨u,d,R⟩:=dG.some_of (v:=v) (o:=m f) (by rw[<- l];exact r f)
 exact wq I.kIn O (c.get f) c.hd n d (Zm R) (h u _ (I.tok _) R)
theorem Ks{Q:Value×List Value->Shared->Prop}(I:ap X pins σ H s)(e:H a=some (.ins C dx fs))(c:pF X.K C)(k:a9 X.K C m g)(l:fs.lookup m=none)
  (h:Q (.ref g,[.ref a]) s):wpAny (model X.prog X.w) A (getMethod (.ref a) m p) Q E s:=by
 obtain⟨M,O,r,_,_,_⟩:=QJ I.hok e
 have b:M m=none:=dG.none_of (by rw[<- l];exact r m)
 exact rR I.kIn O (c.get m) k.at_ k.fn b h
theorem Kt{Q:Unit->Shared->Prop}(I:ap X pins σ H s)(e:H a=some (.ins C dx fs))(c:pF X.K C)(n:aX X.K C f)(F:fs.length < 1000)(R:aD y u)
  (h:∀S,ap X pins σ (ah H a (.ins C dx (eh f y fs))) S->Q () S):wpAny (model X.prog X.w) A (setAttr (.ref a) f u) Q E s:=by
 obtain⟨m,O,r,W,_,i⟩:=QJ I.hok e
 have j:(fs.map (·.1)).length<=sizeLine:=by rw[HZ,NW];omega
 refine yg I.kIn O c.sa c.po n.taker c.hd W j λk d l=>h _ ?_
 have p:∃o,k.get? dx=some o:=let #[o,_,_,t,_]:=d.ns;#[o,t]
 refine I.write (x:=a) (e:=dx) (by rw[e];exact True.intro) (.inr i) (λb q B z=>(l.2 b B).trans z) p ?_
 refine#[by rw[jh O.ne];exact i,?_,O.ne,d.obj,_,d.ns,λg=>?_,λg D=>?_]
 ·have:=Jw f y fs;omega
 ·show dG ((eh f y fs).lookup g) (if g=f then some u else m g)
  rw[Jv]
  by_cases q:g=f
  ·rw[Io q,Io q];exact R
  ·rw[Iu q,Iu q];exact r g
 ·by_cases q:g=f
  ·rw[q];exact(Jo f y fs).1
  ·refine(Jo f y fs).2 g (W g λz=>D ?_)
   show(if g=f then some u else m g)=none
   rw[Iu q];exact z
theorem ap.made(I:ap X pins σ H s):ap X pins σ (ah (ah H s.heap.objs.size (.own (s.heap.objs.size+1))) (s.heap.objs.size+1) (.ins C s.heap.objs.size []))
  { s with heap:=(s.heap.push emptyDict).push (instObj C s.heap.objs.size) }:=by
 have c:(s.heap.push emptyDict).get? s.heap.objs.size=some emptyDict:=Ig s.heap Z
 have d:((s.heap.push emptyDict).push (instObj C s.heap.objs.size)).get? (s.heap.objs.size+1)=some (instObj C s.heap.objs.size):=by
  have:=Ig (s.heap.push emptyDict) (o:=instObj C s.heap.objs.size) Z
  rwa [I0]at this
 have g:(s.heap.push emptyDict).Ns s.heap.objs.size (λ_=>none):=#[emptyDict,(List.toArray []),_,c,Z,(λe h=>absurd h OH),λ_=>Z]
 have i:=I.laid (a:=s.heap.objs.size) (o:=.own (s.heap.objs.size+1)) (h':=s.heap.push emptyDict) (t':=s.toks) (λb u q=>HX _ q) (Ib _) #[_,c]
 refine i.laid (a:=s.heap.objs.size+1) (o:=.ins C s.heap.objs.size []) (t':=s.toks) (λb u q=>HX _ q) (N4 (I0 _ _)) ?_
 have n:s.heap.objs.size≠s.heap.objs.size+1:=Ij (Ls _)
 refine#[by rw[jh n,jc],Il _,n,d,λ_=>none,(Heap.Ns1.of_empty g).at λo q=>HX _ q,λ_=>True.intro,λy j=>absurd Z j]
theorem vV{f:Str}{s:Shared}(c:attributeBase e f b (eval e b)=eval e b)
  (h:wpAny (model p w) A (eval e b) (λo S=>wpAny (model p w) A (getAttr o f true) Q E S) E s):wpAny (model p w) A (eval (.Attribute e f d) b) Q E s:=
 Attribute_any_ h (by rw[arm_eval_Attribute,c])
end
inductive As(K:Frag)(f:Str)(Q:VK)(x:V)(b:Hp):Prop
 |mk(a C c d v:_)(_:x= .ref a)(_:b a=some (.ins C c d))(_:pF K C)(_:aX K C f)(_:d.lookup f=some v)(_:Q v b)
def GH(K:Frag)(t:TE)(f:Str):TE:=λa H Q=>t a H (As K f Q)
inductive Ak(K:Frag)(f:Str)(D:aZ)(e:St)(y x:V)(b:Hp):Prop
 |mk(a C c d:_)(_:x= .ref a)(_:b a=some (.ins C c d))(_:pF K C)(_:aX K C f)(_:d.length < 1000)(_:D.nx e (ah b a (.ins C c (eh f y d))))
def Gp(K:Frag)(t T:TE)(f:Str):TS:=λD a H=>T a H λy h=>t a h (Ak K f D a y)
def DC(X:Cx)(o:Operator)(r:V->V->Hp->VK->Prop):Prop:=
 ∀(p:List (Addr×Obj)) (s:Shared) (a:St) (H:Hp) (x y:V) (u v:Value) (Q:VK),ap X p a H s->aD x u->aD y v->r x y H Q->wpAny (model X.prog X.w) X.A (inplaceOp o u v) (EP X p a Q) X.xe s
inductive mx(K:Frag)(g:TE)(e:V->V->Hp->VK->Prop)(f:Str)(D:aZ)(h:St)(x:V)(b:Hp):Prop
 |mk(a C c d v:_)(_:x= .ref a)(_:b a=some (.ins C c d))(_:pF K C)(_:aX K C f)(_:d.lookup f=some v)(_:g h b λy H2=>e v y H2 λz H3=>∃dx' fs',H3 a=some (.ins C dx' fs')/\fs'.length < 1000/\D.nx h (ah H3 a (.ins C dx' (eh f z fs'))))
def xS(K:Frag)(t T:TE)(r:V->V->Hp->VK->Prop)(f:Str):TS:=λD a H=>t a H (mx K T r f D a)
section
variable {X:Cx}{o e value:Expr}{f:Str}{pos pos' tpos:Pos}{ta tv:TE}
theorem j5(b:PE X e ta)(d:attributeBase e f X.env (eval e X.env)=eval e X.env):PE X (.Attribute e f pos) (GH X.K ta f):=by
 intro p s g H Q I h
 refine vV d (aL (b p s g H _ I h) λu S z=>?_)
 obtain⟨x,i,j,r,a,C,D,F,v,E,k,c,n,l,q⟩:=z
 subst E
 obtain rfl:u=Value.ref a:=r
 exact Kr j k c n l λU t m R=>#[v,i,m,R,q]
theorem zp(d:PE X o ta)(g:PE X value tv)(i:swapsWith value (some (.Attribute o f pos')) pos.line X.env=pure false):PS X (.Assign [.Attribute o f pos'] value pos) (Gp X.K ta tv f):=by
 intro p s b H D I h
 refine plainObj_wpAny_Assign_Attribute (aL (g p s b H _ I h) λu S #[y,j,k,r,q]=>aL (d p S b j _ k q) λO w z=>?_) i
 obtain⟨x,A,m,R,a,C,B,F,E,t,c,n,l,Q⟩:=z
 subst E
 obtain rfl:O=Value.ref a:=R
 exact Kt m t c n l r λG v=>#[b,_,v,Q]
theorem Zn{O:Operator}{r:V->V->Hp->VK->Prop}(i:PE X o ta)(j:PE X value tv)(g:DC X O r):PS X (.AugAssign (.Attribute o f tpos) O value pos) (xS X.K ta tv r f):=by
 intro p s d H D I h
 refine wpAny_AugAssign_AttributeAny (aL (i p s d H _ I h) λk s1 b=>?_)
 obtain⟨x,m,t,R,a,C,dx,fs,v,w,A,c,n,l,q⟩:=b
 subst w
 obtain rfl:k=Value.ref a:=R
 refine Kr t A c n l λu S B F=>aL (j p S d m _ B q) λW G #[y,J,L,M,Q]=>aL (g p G d J v y u W _ L F M Q) λw4 s4 b=>?_
 obtain⟨z,H3,N,P,T,U,E,Y,q4⟩:=b
 exact Kt N E c n Y P λs5 I5=>#[d,_,I5,q4]
inductive Ez(x y:V)(H:Hp)(Q:VK):Prop
 |mk(i j:_)(_:x= .int i)(_:y= .int j)(_:Q (.int (i+j)) H)
theorem A5:DC X .Add Ez:=by
 rintro p s a H x y u v Q I r R ⟨i,j,rfl,rfl,q⟩
 obtain⟨t,rfl⟩:=(show ∃t,u=Value.int i t from r)
 obtain⟨T,rfl⟩:=(show ∃T,v=Value.int j T from R)
 exact PyProof.Rows.iadd_int #[.int (i+j),H,I.tok _,#[_,Z],q]
end
structure bH(k:Nat)(A:Around):Prop where
 hd:A.handled=none
 dp:A.depth+3*k+5 < recursionLimit
 un:A.units+16*k+200 < cLine
theorem bH.mono(r:bH k A)(h:j<=k):bH j A:=#[r.hd,by have:=r.dp;omega,by have:=r.un;omega]
theorem bH.deeper(r:bH (k+1) A)(e:Env):bH k (A.deeper e):=
 #[r.hd,by have:=r.dp;show A.depth+1+3*k+5 < _;omega,by have:=r.un;show A.units+3+16*k+200 < _;omega]
theorem X3{A:Around}:(A.under (.builtin "type.__call__" #[.ref C::u,k])).depth=A.depth+1:=by
 first |rfl |simp [Around.under,Code.weight,Code.isCreation,Code.isGuard,Code.isCaller,Code.frames,Code.isFrame,guardIds]
theorem X4{A:Around}:(A.under (.builtin "type.__call__" #[.ref C::u,k])).units=A.units+1:=by
 first |rfl |simp [Around.under,Code.cUnits,Code.frames,Code.isFrame]
theorem bH.make(r:bH (k+1) A)(C:Addr)(u:List Value)(K:List (Str×Value)):bH k (A.under (.builtin "type.__call__" #[.ref C::u,K])):=
 #[r.hd,by have:=r.dp;rw[X3];omega,by have:=r.un;rw[X4];omega]
theorem bH.depth(r:bH k A):A.depth < recursionLimit:=by have:=r.dp;omega
theorem bH.units(r:bH k A):A.units+64 < cLine:=by have:=r.un;omega
def aK:TA:=λ_ H Q=>Q [] H
def am(t:TE)(T:TA):TA:=λa H Q=>t a H λx h=>T a h λX b=>Q (x::X) b
section
variable {X:Cx}{e:Expr}{es:List Expr}{te:TE}{t:TA}{pos:Pos}
theorem jb:PA X [] aK:=λ_ _ _ _ H Q I h=>Mw #[[],H,I,.nil,h]
theorem ja(b:PE X e te)(c:PA X es t)(d:starEach (e::es) X.env=(false,eval e X.env)::starEach es X.env:=by rfl):PA X (e::es) (am te t):=by
 intro pos p s a H Q I h
 rw[d]
 show wpAny _ _ (spliced ((false,eval e X.env)::backTo pos (starEach es X.env))) _ _ s
 refine Ma (aL (b p s a H _ I h) λu S z=>?_)
 obtain⟨x,f,i,r,q⟩:=z
 exact aL (c pos p S a f _ i q) λU m #[g,j,k,R,l]=>#[x::g,j,k,.cons r R,l]
def bV(t:TA):TE:=λa H Q=>t a H λx h=>x.length<=sizeLine/\∀p,h p=none->Q (.ref p) (ah h p (.tup x))
def mX(t:TA):TE:=λa H Q=>t a H λx h=>x.length<=sizeLine/\∀p,h p=none->Q (.ref p) (ah h p (.lst x))
theorem ji{x}(h:PA X es t):PE X (.Tuple es x pos) (bV t):=by
 intro p s c H Q I d
 refine wpAny_Tuple_spliced (aL (h pos p s c H _ I d) λU S #[f,a,i,r,z,q]=>#[by rw[<- r.length];exact z,?_])
 have g:a S.heap.objs.size=none:=i.hok.fresh (Ib _)
 refine#[.ref S.heap.objs.size,ah a S.heap.objs.size (.tup f),i.laid (t':=S.toks) (λb u e=>HX _ e) (Ib _) ?_,Z,q _ g]
 exact#[z,U,r,#[_,Ig _ Z,Z,_,Z]]
theorem jG(h:PA X es t):PE X (.List es pos) (mX t):=by
 intro p s c H Q I d
 refine wpAny_List_spliced (aL (h pos p s c H _ I d) λU S #[x,a,i,r,z,q]=>#[by rw[<- r.length];exact z,?_])
 have f:a S.heap.objs.size=none:=i.hok.fresh (Ib _)
 refine#[.ref S.heap.objs.size,ah a S.heap.objs.size (.lst x),i.laid (t':=S.toks) (λb u e=>HX _ e) (Ib _) ?_,Z,q _ f]
 exact#[z,U,0,r,Ig _ Z]
end
abbrev Sp:=List V->Hp->VK->XK->Prop
abbrev pE:=List Env->Hp->Shared->XK->Value->Shared->Prop
structure nG(P:Program)(w:World)(K:Frag)(mg:Str->Option Value)(base:Heap)(A:Around)(outer:List Env)(s:Shared)(H:Hp):Prop where
 frames:A.frames=some outer
 mod:Mod K mg base
 bs:∀b o,base.get? b=some o->s.heap.get? b=some o/\H b=none
 bsz:base.objs.size<=s.heap.objs.size
 funs:s.heap.FunFrames base outer
 frf:∀b∈iT outer,H b=none
 hok:eL P w H s.heap
 bare:AllBare s.gens
def CE(o:List Env)(P:Program)(w:World)(H:Hp)(s:Shared)(Q:VK)(u:Value)(S:Shared):Prop:=
 ∃v h,S.os=s.os/\AllBare S.gens/\Un (iT o) [] H h s.heap S.heap/\eL P w h S.heap/\aD v u/\Q v h
def CR(C:pE)(o:List Env)(P:Program)(w:World)(H:Hp)(s:Shared)(Q:VK)(E:XK)(r:Result)(S:Shared):Prop:=
 match r with
 | .ok (.ret u)=>CE o P w H s Q u S
 | .ok _=>False
 | .error e=>C o H s E e S
structure af(P:Program)(w:World)(K:Frag)(mg:Str->Option Value)(base:Heap)(CX:pE)(k:Nat)(f:Addr)(fd:FuncData)(ps:List Str)(sp:Sp):Prop where
 len:∀vs H Q E,sp vs H Q E->vs.length=ps.length
 run:∀(A:Around) (outer:List Env) (s:Shared) (H:Hp) (args:Args) (us:List Value) (vs:List V) (Q:VK) (E:XK),bH k A->nG P w K mg base A outer s H->BindsTo s fd args (ps.zip us)->au vs us->sp vs H Q E->
  codeAny (model P w) A (.call (.ref f) args) (CR CX outer P w H s Q E) s
theorem nG.make{P:Program}{K:Frag}(e:nG P w K m b A o s H)(C:Addr)(u:List Value)(k:List (Str×Value)):
  nG P w K m b (A.under (.builtin "type.__call__" #[.ref C::u,k])) o s H:=#[by first |exact e.frames | (simpa [Around.under,Code.envs,Code.isFrame,pushEnvs] using e.frames),e.mod,e.bs,e.bsz,e.funs,e.frf,e.hok,e.bare]
section
variable {X:Cx}{pins:List (Addr×Obj)}{σ:St}{H:Hp}{s s':Shared}
theorem ap.env0(I:ap X pins σ H s):nG X.prog X.w X.K X.mg X.base X.A X.stack s H:=
 #[I.ok.frames,I.ok.mod,I.bs,Ik I.ok.bsz I.sz,I.stack,I.stkFree,I.hok,I.bare]
theorem ap.after(I:ap X pins σ H s)(h:CE X.stack X.prog X.w H s Q u s'):EP X pins σ Q u s':=by
 obtain⟨v,c,os,B,U,a,r,q⟩:=h
 obtain⟨e,g,d,t,o⟩:=s'
 obtain rfl:o=s.os:=os
 exact#[v,c,I.call (h':=e) (g':=g) (d':=d) (t':=t) (ch:=[]) U a B (λb z=>absurd z OH),r,q]
end
def dQ(s:Sp)(d:List V)(E:XK)(t:TA):TE:=λa H Q=>t a H λv h=>s (v++d) h Q E
inductive uT(C:Addr)(m:Str)(f:Sp)(b:List V)(E:XK)(t:TA)(g:St)(Q:VK)(x:V)(c:Hp):Prop
 |mk(a d e:_)(_:x= .ref a)(_:c a=some (.ins C d e))(_:e.lookup m=none)(_:t g c λvs H2=>f (x::(vs++b)) H2 Q E)
def uS(C:Addr)(m:Str)(s:Sp)(d:List V)(E:XK)(T:TE)(t:TA):TE:=λa H Q=>T a H (uT C m s d E t a Q)
def At(C:Addr)(s:Sp)(D:List V)(E:XK)(t:TA):TE:=λa H Q=>t a H λb h=>∀x d,h x=none->h d=none->d≠x->
 s (.ref x::(b++D)) (ah (ah h d (.own x)) x (.ins C d [])) (λv c=>v= .non/\Q (.ref x) c) E
def ax(K:Frag)(f:FuncData)(p:List Str)(d:List Value):Prop:=
 ∀(s:Shared) (u:List Value),K.In s.heap->(u++d).length=p.length->BindsTo s f #[u,[]] (p.zip (u++d))
theorem ax.all{K:Frag}{p:List Str}(h:∀u:List Value,u.length=p.length->bindArgs f #[u,[]]=pure (p.zip u)):ax K f p []:=λs u _ H=>by
 rw[IS]at H ⊢
 exact .of_eq (h u H)
def cV(C:pE)(X:Cx)(E:XK):Prop:=∀(p:List (Addr×Obj)) (a:St) (H:Hp) (s:Shared) (e:Value) (S:Shared),ap X p a H s->C X.stack H s E e S->X.xe e S
section
variable {X:Cx}{CX:pE}{k:Nat}{f C:Addr}{fd:FuncData}{ps:List Str}{sp:Sp}{dvs:List V}{ds:List Value}{E:XK}{x m:Str}{p pos apos:Pos}{e o:Expr}{es:List Expr}{ta:TE}{t:TA}
theorem QA{us:List Value}{vs:List V}(F:af X.prog X.w X.K X.mg X.base CX k f fd ps sp)(d:bH k X.A)(g:ax X.K fd ps ds)(i:au dvs ds)(j:cV CX X E)
  (I:ap X a c H s) (r:au vs us) (h:sp (vs++dvs) H Q E):wpAny (model X.prog X.w) X.A (call (.ref f) us) (EP X a c Q) X.xe s:=by
 have R:au (vs++dvs) (us++ds):=r.append i
 have l:(us++ds).length=ps.length:=by rw[<- R.length];exact F.len _ _ _ _ h
 refine wpAny_call (MF (F.run X.A X.stack s H #[us,[]] (us++ds) (vs++dvs) Q E d I.env0 (g s us I.kIn l) R h) λr S b=>?_)
 cases r with
 |error e=>exact j a c H s e S I b
 |ok n=>
  cases n with
  |ret u=>exact I.after b
  |next=>exact False.elim b
  |brk=>exact False.elim b
  |cont=>exact False.elim b
theorem kN(F:af X.prog X.w X.K X.mg X.base CX k f fd ps sp)(c:bH k X.A)(d:Gl X x)(g:X.mg x=some (.ref f))(j:keepIn X.K (.ref f)=true)(l:ax X.K fd ps ds)(n:au dvs ds)(u:cV CX X E)
  (v:PA X (e::es) t) (a:(x==("__debug__":Str))=false:=by decide) (y:starEach (e::es) X.env=(false,eval e X.env)::starEach es X.env:=by rfl) (b:(backTo pos (starEach es X.env)).any (·.1)=false:=by rfl):
  PE X (.Call (.Name x p) (e::es) [] pos) (dQ sp dvs E t):=by
 intro P s z H Q I h
 refine I8 (zD I d g ?_ a)
 refine Ol (h₀:=X.base) I.ok.mod.kin j (aL (v pos P s z H _ I h) λU S #[B,D,i,r,q]=>#[i.kIn,?_]) y b
 exact QA F c l n u i r q
theorem j6(v:PE X o ta)(c:pF X.K C)(g:a9 X.K C m f)(F:af X.prog X.w X.K X.mg X.base CX k f fd ps sp)(y:bH k X.A)(B:ax X.K fd ps ds)(D:au dvs ds)(G:cV CX X E)(J:PA X (e::es) t)
  (b:starEach (e::es) X.env=(false,eval e X.env)::starEach es X.env:=by rfl) (d:(backTo pos (starEach es X.env)).any (·.1)=false:=by rfl)
  (L:eval (.Call (.Attribute o m apos) (e::es) [] pos) X.env=(do
   let O <- eval o X.env
   standAt apos.atName
   let (f,first) <- holding [O] (getMethod O m pl)
   callWith pos f first (backTo pos (starEach (e::es) X.env)) (backToKw pos (keywordEach [] X.env))):=by rfl):
  PE X (.Call (.Attribute o m apos) (e::es) [] pos) (uS C m sp dvs E ta t):=by
 intro P s i H Q I h
 refine Ny (pl:=pl) (aL (v P s i H _ I h) λu S z=>?_) L
 obtain⟨x,M,j,R,a,W,Y,N,T,l,q⟩:=z
 subst N
 obtain rfl:u=Value.ref a:=R
 refine Ks j T c g l ?_
 refine Ol (first:=[.ref a]) (h₀:=X.base) I.ok.mod.kin g.kp (aL (J pos P S i M _ j q) λus s2 #[vs,H2,n,r,U]=>#[n.kIn,?_]) b d
 exact QA (us:=.ref a::us) (vs:=.ref a::vs) F y B D G n (.cons Z r) U
theorem sV(d:PE X o ta)(c:pF X.K C)(b:a9 X.K C m f)(F:af X.prog X.w X.K X.mg X.base CX k f fd ps sp)(g:bH k X.A)(j:ax X.K fd ps ds)(n:au dvs ds)(r:cV CX X E)
  (v:eval (.Call (.Attribute o m apos) [] [] pos) X.env=(do
   let O <- eval o X.env
   standAt apos.atName
   let (f,first) <- holding [O] (getMethod O m pl)
   callWith pos f first (backTo pos (starEach [] X.env)) (backToKw pos (keywordEach [] X.env))):=by rfl):
  PE X (.Call (.Attribute o m apos) [] [] pos) (uS C m sp dvs E ta aK):=by
 intro P s y H Q I h
 refine Ny (pl:=pl) (aL (d P s y H _ I h) λu S z=>?_) v
 obtain⟨x,G,i,R,a,J,L,B,D,l,q⟩:=z
 subst B
 obtain rfl:u=Value.ref a:=R
 refine Ks i D c b l ?_
 exact NJ (first:=[.ref a]) i.kIn b.kp (QA (us:=[.ref a]) (vs:=[.ref a]) F g j n r i (.cons Z .nil) q)
structure Mk(K:Frag)(C f:Addr):Prop where
 makes:PySem.W.makesIn K C=true
 init:findIn K (.ref C) "__init__"=some (some (.ref f))
 fn:isFn K (.ref f)=true
 kp:keepIn K (.ref C)=true
theorem Q8{us:List Value}(M:Mk X.K C f)(F:af X.prog X.w X.K X.mg X.base CX k f fd ps sp)(l:bH (k+1) X.A)(n:ax X.K fd ps ds)(q:au dvs ds)
  (y:cV CX X E) (I:ap X b c H s) (r:au g us)
  (h:∀x d,H x=none->H d=none->d≠x->sp (.ref x::(g++dvs)) (ah (ah H d (.own x)) x (.ins C d [])) (λv z=>v= .non/\Q (.ref x) z) E):
  wpAny (model X.prog X.w) X.A (call (.ref C) us) (EP X b c Q) X.xe s:=by
 have j:=h (s.heap.objs.size+1) s.heap.objs.size (I.hok.fresh (Lu _)) (I.hok.fresh (Ib _)) (Ij (Ls _))
 have i:=ap.made (C:=C) I
 have R:au (V.ref (s.heap.objs.size+1)::(g++dvs)) (Value.ref (s.heap.objs.size+1)::(us++ds)):=.cons Z (r.append q)
 have B:(Value.ref (s.heap.objs.size+1)::us++ds).length=ps.length:=by
  have e:=R.length
  rw[F.len _ _ _ _ j]at e
  exact e.symm
 refine wpAny_call (sq (f:=f) I.kIn M.makes M.init (beq_iff_eq.mp M.fn) (MF (F.run _ X.stack _ _ #[Value.ref (s.heap.objs.size+1)::us,[]] (Value.ref (s.heap.objs.size+1)::(us++ds)) _ _ E (l.make C us [])
  (i.env0.make C us []) (n _ (Value.ref (s.heap.objs.size+1)::us) i.kIn B) R j) λr S a=>?_))
 cases r with
 |error e=>exact y b c _ _ e S i a
 |ok D=>
  cases D with
  |ret u=>
   obtain⟨v,G,J,L,N,O⟩:=i.after a
   subst N
   exact#[L,#[V.ref (s.heap.objs.size+1),G,J,Z,O]]
  |next=>exact False.elim a
  |brk=>exact False.elim a
  |cont=>exact False.elim a
theorem YJ(M:Mk X.K C f)(F:af X.prog X.w X.K X.mg X.base CX k f fd ps sp)(c:bH (k+1) X.A)(d:Gl X x)(g:X.mg x=some (.ref C))(j:ax X.K fd ps ds)(l:au dvs ds)(n:cV CX X E)
  (u:PA X (e::es) t) (a:(x==("__debug__":Str))=false:=by decide) (v:starEach (e::es) X.env=(false,eval e X.env)::starEach es X.env:=by rfl) (b:(backTo pos (starEach es X.env)).any (·.1)=false:=by rfl):
  PE X (.Call (.Name x p) (e::es) [] pos) (At C sp dvs E t):=by
 intro P s y H Q I h
 refine I8 (zD I d g ?_ a)
 refine Ol (h₀:=X.base) I.ok.mod.kin M.kp (aL (u pos P s y H _ I h) λU S #[z,B,i,r,q]=>#[i.kIn,?_]) v b
 exact Q8 M F c j l n i r q
theorem sU(M:Mk X.K C f)(F:af X.prog X.w X.K X.mg X.base CX k f fd ps sp)(b:bH (k+1) X.A)(c:Gl X x)(d:X.mg x=some (.ref C))(g:ax X.K fd ps ds)(i:au dvs ds)(j:cV CX X E)
  (a:(x==("__debug__":Str))=false:=by decide):PE X (.Call (.Name x p) [] [] pos) (At C sp dvs E aK):=by
 intro P s l H Q I h
 refine I8 (zD I c d ?_ a)
 exact NJ I.kIn M.kp (Q8 (us:=[]) M F b g i j I .nil h)
end
structure ai(N P:List Str)(sc:Scope):Prop where
 kind:sc.kind= .function
 co:sc.isCoroutine=false
 gen:sc.isGenerator=false
 nd:N.Nodup
 pre:N.take P.length=P
 par:∀x∈P,sc.names.lookup x=some .local∨sc.names.lookup x=some .cell
 nofree:∀y∈sc.names,y.2≠ .free
theorem Qb{kindOf:Str->Option NameKind}:∀{b:List (Str×Value)} {m:Str->Option Value},(∀v,(x,v)∉b)->bindL kindOf b m x=m x
 | [],_,_=>rfl
 | (n,v)::r,m,h=>by
  unfold bindL
  rw[Qb λw H=>h w (II _ H)]
  split
  ·have:x≠n:=by rintro rfl;exact h v Iz
   simp [this]
  ·rfl
theorem Qc{kindOf:Str->Option NameKind}:∀{b:List (Str×Value)} {m:Str->Option Value},(∀v,(x,v)∉b)->bindC kindOf b m x=m x
 | [],_,_=>rfl
 | (n,v)::r,m,h=>by
  unfold bindC
  rw[Qc λw H=>h w (II _ H)]
  split
  ·rfl
  ·have:x≠n:=by rintro rfl;exact h v Iz
   simp [this]
theorem Qd{kindOf:Str->Option NameKind}:∀{P:List Str} {V:List Value} {i:Nat} {m:Str->Option Value},P.Nodup->P[i]?=some x->V[i]?=some v->kindOf x=some .local->
  bindL kindOf (P.zip V) m x=some v
 | [],_,_,_,_,h,_,_=>by simp at h
 |_::_,[],_,_,_,_,h,_=>by simp at h
 |p::P,w::V,0,m,n,H,a,b=>by
  simp at H a;subst H;subst a
  show bindL kindOf ((p,w)::P.zip V) m p=_
  unfold bindL
  rw[Qb λv c=>(List.nodup_cons.mp n).1 (Nv c).1,Io b]
  simp
 |p::P,w::V,i+1,m,n,H,a,b=>by
  show bindL kindOf ((p,w)::P.zip V) m x=_
  unfold bindL
  exact Qd (i:=i) (List.nodup_cons.mp n).2 (by simpa using H) (by simpa using a) b
theorem Qe{kindOf:Str->Option NameKind}:∀{P:List Str} {V:List Value} {i:Nat} {m:Str->Option Value},P.Nodup->P[i]?=some x->V[i]?=some v->kindOf x≠some .local->
  bindC kindOf (P.zip V) m x=some v
 | [],_,_,_,_,h,_,_=>by simp at h
 |_::_,[],_,_,_,_,h,_=>by simp at h
 |p::P,w::V,0,m,n,H,a,b=>by
  simp at H a;subst H;subst a
  show bindC kindOf ((p,w)::P.zip V) m p=_
  unfold bindC
  rw[Qc λv c=>(List.nodup_cons.mp n).1 (Nv c).1,Iu b]
  simp
 |p::P,w::V,i+1,m,n,H,a,b=>by
  show bindC kindOf ((p,w)::P.zip V) m x=_
  unfold bindC
  exact Qe (i:=i) (List.nodup_cons.mp n).2 (by simpa using H) (by simpa using a) b
noncomputable def gm(N:List Str)(v:List V):St:=v.map some++List.replicate (N.length - v.length) none
noncomputable def fe(C:pE)(P:Program)(w:World)(K:Frag)(mg:Str->Option Value)(base:Heap)(N:List Str)(q:Str)(S:Scope)(f:Addr)(c:Value)(A:Around)(outer:List Env)(s:Shared)(H:Hp)(E:XK):Cx where
 prog:=P
 w:=w
 K:=K
 mg:=mg
 base:=base
 A:=A.deeper (envOfC q S s.heap.objs.size f c)
 N:=N
 s₀:=s
 H₀:=H
 env:=envOfC q S s.heap.objs.size f c
 outer:=outer
 stack:=envOfC q S s.heap.objs.size f c::outer
 ex:=[]
 calm:=true
 fn:=λ_=>true
 pn:=[]
 xe:=λe b=>wpAny (model P w) (A.deeper (envOfC q S s.heap.objs.size f c)) (leaving (envOfC q S s.heap.objs.size f c) e) (λ_ a=>C outer H s E e a) (λd a=>C outer H s E d a) b
theorem Q9{s:Scope}{n:Nat}(h:s.names.lookup x=some .cell):∃c,(cellsFrom n s.names []).lookup x=some c:=by
 have q:=PySem.W.cellsFrom_some s.names n [] (.inl h)
 exact Option.isSome_iff_exists.mp q
theorem Zo{P:Program}{K:Frag}{A:Around}{l:List V}
  (S:ai N t d) (O:A.handled=none) (j:nG P w K M B A o s H) (hl:l.length=t.length) (r:au l U)
  (x:InCallC s s.heap.objs.size (bindL (envOfC Q d s.heap.objs.size f I).kindOf (t.zip U) λ_=>none) (cellsFrom (s.heap.objs.size+1) d.names []) (bindC (envOfC Q d s.heap.objs.size f I).kindOf (t.zip U) λ_=>none) T):
  ap (fe Y P w K M B N Q d f I A o s H E) [] (gm N l) H T:=by
 have R:t.length<=N.length:=by have:=K' List.length S.pre;rw[ID]at this;omega
 obtain⟨F,tk,rfl,J⟩:=x.done
 have m:∀b:Addr,b∉(fe Y P w K M B N Q d f I A o s H E).ex:=λb z=>absurd (show b∈([]:List Addr) from z) OH
 refine#[#[j.mod,S.kind,Z,Z,Ib _,λy z c F g=>?_,λy hy=>?_,λy c _ h=>?_,λ_=>O,Around.frames_deeper j.frames,.inr #[Z,Z],λb z=>absurd z (m b),j.bs,j.bsz,λb _ _=>m b,λb z=>absurd z (m b),j.funs,j.frf],
  rfl,j.bare,Un.kept J,#[_,x.toInCall.ns,λi y v F g h3=>?_],λy c h=>#[_,x.cell y c h],j.hok.fresh (Ib _),λy c h=>?_,λp C=>absurd (show p∈([]:List (Addr×Obj)) from C) OH,j.hok.kept J,?_]
 ·exact name_of_addr x.apart (LC F) (LC g)
 ·have hy:d.names.lookup y=some .cell∨d.names.lookup y=some .free:=hy
  rcases hy with hy |hy
  ·exact Q9 hy
  ·exact absurd Z (S.nofree _ (LC hy))
 ·exact Mg (x.above y c (LC h))
 ·have G:i < l.length:=by
   unfold gm at g
   by_cases G:i < l.length
   ·exact G
   ·rw[LO (by simpa using G)]at g
    rw[OB]at g
    split at g<;>cases g
  have W:l[i]?=some v:=by
   unfold gm at g
   rw[LU (by simpa using G),Ir]at g
   cases e:l[i]? with
   |none=>rw[e]at g;cases g
   |some a=>rw[e]at g;cases g;rfl
  obtain⟨u,L,X⟩:=r.get W
  have C:t[i]?=some y:=by
   rw[<- S.pre,List.getElem?_take_of_lt OG];exact F
  have D:t.Nodup:=by rw[<- S.pre];exact S.nd.sublist (LZ _ _)
  refine#[u,X,?_]
  rcases S.par y (IA C) with k |k
  ·exact .inl #[k,Qd D C L k]
  ·obtain⟨c,e⟩:=Q9 (n:=s.heap.objs.size+1) k
   refine .inr #[.inl k,c,e,?_]
   have q:=x.cell y c e
   rw[Qe D C L (by show d.names.lookup y≠_;rw[k];decide)]at q
   exact q
 ·exact j.hok.fresh (Mg (x.above y c (LC h)))
 ·unfold gm
  show _=N.length
  rw[Ia,HZ,NC]
  omega
theorem yZ{P:Program}{K:Frag}{kV:Value}
    {G:Sp} (lk:K.lookup f=some #[oc,od,.func (fnOf name c p h a dV kV L pm an C ct),o0]) (M:codeIn K C c=true) (S:ai N T a)
  (len:∀d H Q E,G d H Q E->d.length=T.length)
  (j:∀(A:Around) (O:List Env) (s:Shared) (H:Hp) (d:List V) (Q:VK) (E:XK),bH k (A.deeper (envOfC c a s.heap.objs.size f C))->G d H Q E->
   ∃t,me (fe U P w K Y B N c a f C A O s H E) h t/\t { nx:=λ_ i=>Q .non i,rt:=Q } (gm N d) H):
  af P w K Y B U (k+1) f (fnOf name c p h a dV kV L pm an C ct) T G:=by
 refine#[len,λA O s H a0 us d Q E R z hb r D=>?_]
 have hl:=len _ _ _ _ D
 have KX:K.In s.heap:=z.mod.kin.keeps λb o e=>(z.bs b o e).1
 have X:s.heap.NoLimit:=z.mod.nolimit.keeps λb o e=>(z.bs b o e).1
 have l:∀y∈T.zip us,a.names.lookup y.1=some .local∨(a.names.lookup y.1=some .cell/\((cellsFrom (s.heap.objs.size+1) a.names []).lookup y.1).isSome=true):=λ#[n,v] hy=>by
  rcases S.par n (Nv hy).1 with q |q
  ·exact .inl q
  ·exact .inr #[q,PySem.W.cellsFrom_some _ _ _ (.inl q)]
 refine codeAny_call_function R.depth (KX _ _ lk) Z S.co S.gen Z (PySem.W.codeRec_of KX M) (hb _ _ _ _ ?_)
 refine wpAny_newFunctionEnv_cells S.kind l λe1 he s1 x=>?_
 subst he
 refine#[X.keeps x.toInCall.keep,codeAny_func ?_]
 obtain⟨t,ht,hq⟩:=j A O s H d Q E (R.deeper _) D
 have I:ap (fe U P w K Y B N c a f C A O s H E) [] (gm N d) H s1:=Zo S R.hd z hl r x
 refine Ln (ht [] s1 (gm N d) H _ I hq) (λfl s' m=>?_) λe s' m=>m
 have F:∀{g:St} {i:Hp} {v:V} {u:Value},ap (fe U P w K Y B N c a f C A O s H E) [] g i s'->aD v u->Q v i->CE O P w H s Q u s':=
  λ{g i v u} J rv q=>#[v,i,J.os,J.bare,J.base,J.hok,rv,q]
 cases fl with
 |ret u=>
  obtain⟨v,g,i,J,rv,q⟩:=m
  exact F J rv q
 |next=>
  obtain⟨g,i,J,q⟩:=m
  exact F (v:=V.non) (u:=Value.none) J Z q
 |brk=>
  obtain⟨_,_,_,q⟩:=m
  exact False.elim q
 |cont=>
  obtain⟨_,_,_,q⟩:=m
  exact False.elim q
section
variable {X:Cx}{x:Str}{p pos:Pos}{e:Expr}{es:List Expr}{t:TA}{id T:String}{r:List V->Hp->VK->Prop}
def Fx(r:List V->Hp->VK->Prop)(t:TA):TE:=λa H Q=>t a H λv h=>r v h Q
theorem jS(d:eJ X (.builtin id) r)(f:Gl X x)(g:X.mg x=none)(i:bootBuiltins x=some (.builtin id))(j:PA X (e::es) t)(k:x≠"__name__":=by decide)(a:(x==("__debug__":Str))=false:=by decide)
  (l:starEach (e::es) X.env=(false,eval e X.env)::starEach es X.env:=by rfl) (b:(backTo pos (starEach es X.env)).any (·.1)=false:=by rfl):PE X (.Call (.Name x p) (e::es) [] pos) (Fx r t):=by
 intro P s c H Q I h
 refine I8 (zI I f g i ?_ k a)
 exact PyProof.Rows.callWith_builtin1 (aL (j pos P s c H _ I h) λu S #[v,m,n,R,q]=>d P S c m v u Q n R q) l b
theorem jE(d:eJ X (.type T) r)(f:Gl X x)(g:X.mg x=none)(i:bootBuiltins x=some (.type T))(j:PA X (e::es) t)(k:x≠"__name__":=by decide)(a:(x==("__debug__":Str))=false:=by decide)
  (l:starEach (e::es) X.env=(false,eval e X.env)::starEach es X.env:=by rfl) (b:(backTo pos (starEach es X.env)).any (·.1)=false:=by rfl):PE X (.Call (.Name x p) (e::es) [] pos) (Fx r t):=by
 intro P s c H Q I h
 refine I8 (zI I f g i ?_ k a)
 exact IV (aL (j pos P s c H _ I h) λu S #[v,m,n,R,q]=>d P S c m v u Q n R q) l b
end
end _L
namespace HT
open PySem PyProof.Rows
section
variable {prog:Program}{w:World}{A:Around}{E:Value->Shared->Prop}{s:Shared}
theorem cat_tup{v W:List Value}{Q:Value->Shared->Prop}(m:IsTup s.heap t v.toArray)(o:IsTup s.heap b W.toArray)(i:v≠[])
  (p:W=[]->Q (.ref t) s) (q:W≠[]->Q (.ref s.heap.objs.size) { s with heap:=s.heap.push { cls:=.type "tuple",data:=.seq (v++W).toArray } })
  (g:v.length+W.length<=sizeLine):wpAny (model prog w) A (binaryOp .Add (.ref t) (.ref b)) Q E s:=by
 obtain⟨⟨cls,D,data,j⟩,c,k,n,l⟩:=id m
 obtain⟨⟨C,d,data2,S⟩,h,H,N,a⟩:=id o
 simp only at k l H a
 subst k l H a
 have e:v.toArray++W.toArray=(v++W).toArray:=by simp
 by_cases f:W=[]
 ·exact concat_meets #[_,c,Z] #[_,h,Z] Ot seq_tuple_add Nl Ni (Na _ _)
   (tuple_addW1 t b v.toArray W.toArray n N D d j S (by simpa using i) (by simp [f])) #[c,h,p f]
 ·refine concat_meets #[_,c,Z] #[_,h,Z] Ot seq_tuple_add Nl Ni (Na _ _)
   (tuple_addW2 t b v.toArray W.toArray n N D d j S (by simpa using i) (by simpa using f) (by rw[Ic,Ic];exact g)) #[c,h,?_]
  rw[e]
  exact q f
noncomputable def sIx(n d:Nat):Option Int->Nat
 |none=>d
 |some v=>if v < 0 then (v+(n:Int)).toNat else min v.toNat n
theorem sIx_none(n d:Nat):sIx n d none=d:=rfl
theorem sIx_nat(n d k:Nat):sIx n d (some (k:Int))=min k n:=by
 show(if (k:Int) < 0 then ((k:Int)+(n:Int)).toNat else min (k:Int).toNat n)=min k n
 rw[Iu OG,IW]
theorem CH(n d:Nat)(H:d<=n)(o:Option Int):sIx n d o<=n:=by
 cases o with
 |none=>exact H
 |some v=>
  show(if v < 0 then (v+(n:Int)).toNat else min v.toNat n)<=n
  by_cases h:v < 0
  ·rw[Io h];omega
  ·rw[Iu h];exact Nat.min_le_right _ _
theorem YK(v:Int)(n d:Nat):(if v < 0 then max (v+(n:Int)) 0 else min v (n:Int))=((sIx n d (some v):Nat):Int):=by
 show(if v < 0 then max (v+(n:Int)) 0 else min v (n:Int))=(((if v < 0 then (v+(n:Int)).toNat else min v.toNat n):Nat):Int)
 by_cases h:v < 0
 ·simp only[Io h];omega
 ·simp only[Iu h];omega
theorem X5(lo h:Option Int)(n:Nat):Builtin.Slice.sliceAdjust lo h 1 (n:Int)=(((sIx n 0 lo:Nat):Int),((sIx n n h:Nat):Int)):=by
 have H:¬((1:Int) < 0):=by omega
 unfold Builtin.Slice.sliceAdjust
 simp only[H,Lr]
 refine Prod.ext ?_ ?_
 ·cases lo with
  |none=>rfl
  |some v=>exact YK v n 0
 ·cases h with
  |none=>rfl
  |some v=>exact YK v n n
theorem X6(i j:Nat):Builtin.Slice.slicePlaces (i:Int) (j:Int) 1=j - i:=by
 unfold Builtin.Slice.slicePlaces
 have h:(1:Int) > 0:=by omega
 simp only[h,MN,Int.ediv_one]
 split<;>omega
theorem Ku{Q:Option Int->Shared->Prop}(p:IsPart v o)(h:Q o s):wpAny (model prog w) A (Builtin.Slice.slicePartIndex v) Q E s:=by
 cases p with
 |none=>exact slicePart_none h
 |int i t=>exact slicePart_int h
theorem sliceApplied_gen{lo:Option Int}{Q:Int×Int×Nat->Shared->Prop}(d:s.heap.IsSliceOf e v c .none)(p:IsPart v lo)(P:IsPart c b)
  (h:Q (((sIx n 0 lo:Nat):Int),1,sIx n n b - sIx n 0 lo) s):wpAny (model prog w) A (Builtin.Slice.sliceApplied (.ref e) (pure (n:Int))) Q E s:=by
 obtain⟨os,H,f,a⟩:=id d
 unfold Builtin.Slice.sliceApplied Builtin.Slice.sliceFields
 refine HV (HV (IE H a (x:=v) Z (HV (IE H a (x:=c) Z (HV (IE H a (x:=.none) Z (HY ?_)))))))
 refine HV (slicePart_none ?_)
 show wpAny _ _ (if ((1:Int)==0)=true then _ else _) _ _ s
 rw[Iu OF]
 refine HV (Ku p (HV (Ku P (HV (HY ?_)))))
 show wpAny _ _ (match Builtin.Slice.sliceAdjust lo b 1 (n:Int) with | (lo,b)=>pure (lo,(1:Int),Builtin.Slice.slicePlaces lo b 1)) _ _ s
 rw[X5 lo b n]
 show wpAny _ _ (pure (((sIx n 0 lo:Nat):Int),(1:Int),Builtin.Slice.slicePlaces ((sIx n 0 lo:Nat):Int) ((sIx n n b:Nat):Int) 1)) _ _ s
 rw[X6]
 exact HY h
theorem sZ(X:Array Value)(i k:Nat):((List.range k).filterMap λ(m:Nat)=>X[((i:Int)+(m:Int)*1).toNat]?).toArray=((X.toList.drop i).take k).toArray:=by
 have e:(λ(m:Nat)=>X[((i:Int)+(m:Int)*1).toNat]?)=λm=>X[i+m]?:=by
  funext m
  have:((i:Int)+(m:Int)*1).toNat=i+m:=by omega
  rw[this]
 rw[e]
 have:=pick_run X i k
 rw[List.filterMap_map]at this
 have a:((λx=>X[x]?) ∘ λx=>i+x)=λm=>X[i+m]?:=rfl
 rw[a]at this
 rw[this]
theorem getItem_tuple_cut{lo:Option Int}{Q:Value->Shared->Prop}(ht:IsTup s.heap t items)(hs:s.heap.IsSliceOf sl vl vu .none)(pl:IsPart vl lo)(pu:IsPart vu hi)
  (hw:¬(sIx items.size 0 lo=0/\sIx items.size items.size hi=items.size))
  (h:Q (.ref s.heap.objs.size) { s with heap:=s.heap.push { cls:=.type "tuple",data:=.seq ((items.toList.drop (sIx items.size 0 lo)).take (sIx items.size items.size hi - sIx items.size 0 lo)).toArray } })
  (hsz:items.size<=sizeLine):wpAny (model prog w) A (getItem (.ref t) (.ref sl)) Q E s:=by
 have htake:sizeOk (.seq ((items.toList.drop (sIx items.size 0 lo)).take (sIx items.size items.size hi - sIx items.size 0 lo)).toArray):=by
  show((items.toList.drop (sIx items.size 0 lo)).take (sIx items.size items.size hi - sIx items.size 0 lo)).toArray.size<=sizeLine
  rw[Ic,ID,Lw,IC]
  omega
 have hj:sIx items.size items.size hi<=items.size:=CH _ _ (Ib _) hi
 obtain⟨os,hos,hcs,hds⟩:=id hs
 have hTs:s.TypeIs (.ref sl) "slice":=#[os,hos,hcs]
 unfold getItem
 try with_reducible refine IF ?_
 first |refine HV (HY ?_) |skip
 refine HV (Oi ht.typeIs OF ?_)
 refine HV (IP (name:=Str.ofString "__getitem__") ht.typeIs Me
  (IU Me ht.typeIs entry_tuple_getitem ?_ (args_tuple_getitem _ _)))
 show wpAny _ _ (Builtin.Tuple.tupleItemsOf (.ref t) >>= _) _ _ s
 refine HV (tupleItemsOf_ ht ?_)
 refine HV (LS hTs ?_)
 rw[Io OF]
 refine HV (sliceApplied_gen hs pl pu ?_)
 have hno:¬((((sIx items.size 0 lo:Nat):Int)==0&&(1:Int)==1&&(sIx items.size items.size hi - sIx items.size 0 lo)==items.size)=true):=by
  intro q
  rw[Lp,Lp]at q
  have q1:((sIx items.size 0 lo:Nat):Int)=0:=eq_of_beq q.1.1
  have q2:sIx items.size items.size hi - sIx items.size 0 lo=items.size:=eq_of_beq q.2
  exact hw #[OG,OG]
 show wpAny _ _ (if (((sIx items.size 0 lo:Nat):Int)==0&&(1:Int)==1&&(sIx items.size items.size hi - sIx items.size 0 lo)==items.size)=true then _ else _) _ _ s
 rw[Iu hno,sZ]
 first
  |exact HV (m:=Builtin.Tuple.tupleExact _) (IR (HY #[_,Z,HY h]) htake)
  |exact HV (m:=Builtin.Tuple.tupleExact _) (IR (HV (HY (HY #[_,Z,HY h]))) htake)
  |exact HV (HV (m:=Builtin.Tuple.tupleExact _) (IR (HY (HY #[_,Z,HY h])) htake))
  |exact HV (HV (m:=Builtin.Tuple.tupleExact _) (IR (HY #[_,Z,HY h]) htake))
end
end HT
namespace _L
open PySem PySem.Spec PyProof.Rows
abbrev TO:=St->Hp->(Option Int->Hp->Prop)->Prop
def PO(X:Cx)(e:Option Expr)(t:TO):Prop:=
 ∀(p:List (Addr×Obj)) (s:Shared) (a:St) (H:Hp) (Q:Option Int->Hp->Prop),ap X p a H s->t a H Q->
  wpAny (model X.prog X.w) X.A (evalPart e X.env) (λu S=>∃o h,ap X p a h S/\IsPart u o/\Q o h) X.xe s
def l9:TO:=λ_ H Q=>Q none H
inductive uW(Q:Option Int->Hp->Prop)(x:V)(a:Hp):Prop
 |mk(i:_)(_:x= .int i)(_:Q (some i) a)
def mY(t:TE):TO:=λa H Q=>t a H (uW Q)
section
variable {X:Cx}{e:Expr}{te:TE}{lo hi:Option Expr}{tl th:TO}{pos p2:Pos}
theorem jR:PO X none l9:=by
 intro p s a H Q I h
 rw[evalPart_none]
 exact HY #[none,H,I,.none,h]
theorem jF(h:PE X e te):PO X (some e) (mY te):=by
 intro p s a H Q I b
 rw[evalPart_some]
 refine aL (h p s a H _ I b) λu S z=>?_
 obtain⟨x,c,d,r,f⟩:=z
 obtain⟨i,rfl,q⟩:=f
 obtain⟨t,rfl⟩:=r
 exact#[some i,c,d,.int i t,q]
def Fq(X:Cx)(r:V->Option Int->Option Int->Hp->VK->Prop):Prop:=
 ∀(p:List (Addr×Obj)) (s:Shared) (a:St) (H:Hp) (x:V) (v b c:Value) (lo hi:Option Int) (S:Addr) (Q:VK),ap X p a H s->aD x v->s.heap.IsSliceOf S b c .none->IsPart b lo->IsPart c hi->r x lo hi H Q->
  ∃T id,typeLookup (.type T) "__getitem__"=pure (some (.builtin id))/\s.TypeIs v T/\wpAny (model X.prog X.w) X.A (getItem v (.ref S)) (EP X p a Q) X.xe s
def Fy(r:V->Option Int->Option Int->Hp->VK->Prop)(te:TE)(tl th:TO):TE:=λa H Q=>te a H λx h=>tl a h λl b=>th a b λu c=>r x l u c Q
theorem jH{r:V->Option Int->Option Int->Hp->VK->Prop}(g:Fq X r)(i:PE X e te)(j:PO X lo tl)(k:PO X hi th):PE X (.Subscript e (.Slice lo hi none p2) pos) (Fy r te tl th):=by
 intro p s a H Q I h
 refine Subscript_ (aL (i p s a H _ I h) λv m z=>?_)
 obtain⟨x,n,o,R,t⟩:=z
 refine wpAny_Slice (aL (j p m a n _ o t) λc y #[l,B,C,P,D]=>aL (k p y a B _ C D) λd S z=>?_)
 obtain⟨u,f,E,F,G⟩:=z
 rw[evalPart_none]
 refine HY ?_
 have J:ap X p a f { S with heap:=S.heap.push { cls:=.type "slice",data:=.fields (List.toArray [c,d,.none]) } }:=E.kept (t':=S.toks) λb O q=>HX _ q
 obtain⟨T,id,K,L,M⟩:=g p { S with heap:=S.heap.push { cls:=.type "slice",data:=.fields (List.toArray [c,d,.none]) } } a f x v c d l u S.heap.objs.size Q J R (Od ..) P F G
 show wpAny (model X.prog X.w) X.A (subscriptTail e (.Slice lo hi none p2) v (.ref S.heap.objs.size)) (EP X p a Q) X.xe { S with heap:=S.heap.push { cls:=.type "slice",data:=.fields (List.toArray [c,d,.none]) } }
 exact tail_any (ops:=[.ref S.heap.objs.size,v]) L K M (by with_unfolding_all rfl)
noncomputable def aM(x:List V)(lo hi:Option Int):List V:=(x.drop (HT.sIx x.length 0 lo)).take (HT.sIx x.length x.length hi - HT.sIx x.length 0 lo)
theorem zf(x:List V)(lo hi:Option Int):(aM x lo hi).length<=x.length:=by
 unfold aM
 rw[ID,Lw]
 omega
inductive EE(K:Frag)(x:V)(c b:Option Int)(H:Hp)(Q:VK):Prop
 |mk(a d:_)(_:x= .ref a)(_:ay K H a d)(_:¬(HT.sIx d.length 0 c=0/\HT.sIx d.length d.length b=d.length))(_:∀p,H p=none->Q (.ref p) (ah H p (.tup (aM d c b))))
theorem C1:Fq X (EE X.K):=by
 intro p s n H x v V t lo hi S Q I R j P k h
 obtain⟨a,d,rfl,l,m,q⟩:=h
 cases R
 obtain⟨i,r,f,g⟩:=I.tuple l
 have c:i.toArray.size=d.length:=by rw[Ic];exact r.length.symm
 refine#["tuple",_,PyProof.Rows.slot_tuple_getitem.lookup,f.typeIs,?_]
 refine HT.getItem_tuple_cut f j P k (by rw[c];exact m) ?_ (by rw[c];exact g)
 rw[c]
 refine#[.ref s.heap.objs.size,_,I.laid (t':=s.toks) (o:=.tup (aM d lo hi)) (λb O q=>HX _ q) (Ib _) ?_,Z,q _ (I.hok.fresh (Ib _))]
 exact#[Ik (zf d lo hi) g,_,(r.drop (HT.sIx d.length 0 lo)).take (HT.sIx d.length d.length hi - HT.sIx d.length 0 lo),IsTup.new _ _]
inductive Ah(K:Frag)(x y:V)(H:Hp)(Q:VK):Prop
 |mk(a b c d:_)(_:x= .ref a)(_:y= .ref b)(_:ay K H a c)(_:ay K H b d)(_:c≠[])(_:c.length+d.length<=sizeLine)(_:d=[]->Q (.ref a) H)(_:d≠[]->∀p,H p=none->Q (.ref p) (ah H p (.tup (c++d))))
theorem au.nil_iff(r:au x u):u=[]↔x=[]:=by
 cases r with
 |nil=>simp
 |cons _ _=>simp
theorem xq:eY X (binaryOp .Add) (Ah X.K):=by
 intro p s A H x y v u Q I d f h
 obtain⟨a,b,g,Y,rfl,rfl,j,k,l,c,m,n⟩:=h
 cases d
 cases f
 obtain⟨t,R,P,_⟩:=I.tuple j
 obtain⟨i,r,p2,_⟩:=I.tuple k
 refine HT.cat_tup P p2 (λz=>l (R.nil_iff.mp z)) (λz=>#[.ref a,H,I,Z,m (r.nil_iff.mp z)]) (λz=>?_) (by rw[<- R.length,<- r.length];exact c)
 refine#[.ref s.heap.objs.size,_,I.laid (t':=s.toks) (o:=.tup (g++Y)) (λb O q=>HX _ q) (Ib _) ?_,Z,n (λw=>z (r.nil_iff.mpr w)) _ (I.hok.fresh (Ib _))]
 exact#[by rw[Ia];exact c,_,R.append r,IsTup.new _ _]
end
noncomputable def nQ(n:Nat)(i:Int):Option Nat:=if 0<=i then (if i < n then some i.toNat else none) else if -(n:Int)<=i then some (i+n).toNat else none
noncomputable def dD{a:Type}(x:List a)(i:Int):Option a:=(nQ x.length i).bind λj=>x[j]?
theorem YL(h:nQ n i=some j):seqIndex? i n=some j/\j < n/\ -(n:Int)<=i/\i < n:=by
 unfold nQ at h
 by_cases a:0<=i
 ·rw[Io a]at h
  by_cases H:i < n
  ·rw[Io H]at h
   have e:i.toNat=j:=J' h
   exact#[by rw[seqIndex_of a H,e],OG,OG,H]
  ·rw[Iu H]at h;cases h
 ·rw[Iu a]at h
  by_cases H: -(n:Int)<=i
  ·rw[Io H]at h
   have e:(i+n).toNat=j:=J' h
   exact#[by rw[seqIndex_neg OG H,e],OG,H,OG]
  ·rw[Iu H]at h;cases h
theorem QK{a:Type}{x:List a}{v:a}(h:dD x i=some v):∃j,seqIndex? i x.length=some j/\x[j]?=some v/\j < x.length/\ -(x.length:Int)<=i/\i < x.length:=by
 unfold dD at h
 cases e:nQ x.length i with
 |none=>rw[e]at h;cases h
 |some j=>
  rw[e]at h
  obtain⟨H,b,c,d⟩:=YL e
  exact#[j,H,h,b,c,d]
theorem jK{a:Type}{x:List a}{j:Nat}{v:a}(h:x[j]?=some v):dD x (j:Int)=some v:=by
 have H:j < x.length:=(List.getElem?_eq_some_iff.mp h).1
 have e:nQ x.length (j:Int)=some j:=by
  unfold nQ
  rw[Io OG,Io OG];simp
 unfold dD;rw[e];exact h
def vO(b:Expr):Prop:=∀o i,subscripted b false o i=operate [o,i] (getItem o i)
def Fo(X:Cx)(r:R2):Prop:=
 ∀(a S:Expr) (p:List (Addr×Obj)) (s:Shared) (b:St) (H:Hp) (x y:V) (v u:Value) (Q:VK),ap X p b H s->aD x v->aD y u->r x y H Q->
  subscripted S false v u=operate [v,u] (getItem v u)->wpAny (model X.prog X.w) X.A (subscriptTail a S v u) (EP X p b Q) X.xe s
def FM(X:Cx)(id:String)(r:V->List V->Hp->VK->Prop):Prop:=
 ∀(p:List (Addr×Obj)) (s:Shared) (a:St) (H:Hp) (x:V) (b:List V) (v:Value) (u:List Value) (Q:VK),ap X p a H s->aD x v->au b u->r x b H Q->
  wpAny (model X.prog X.w) X.A (call (.builtin id) (v::u)) (EP X p a Q) X.xe s
section
variable {X:Cx}{a b:Expr}{ta tb:TE}{pos:Pos}
theorem jr{r:R2}(c:Fo X r)(d:PE X a ta)(e:PE X b tb)(f:vO b):PE X (.Subscript a b pos) (dR r ta tb):=by
 intro p s g H Q I h
 exact Subscript_ (AM d e I h λv u S x y i j R k q=>c a b p S g i x y v u Q j R k q (f _ _))
inductive iP(K:Frag)(x y:V)(H:Hp)(Q:VK):Prop
 |mk(p a i v:_)(_:x= .ref p)(_:y= .int i)(_:aG K H p a)(_:dD a i=some v)(_:Q v H)
inductive fh(K:Frag)(x y:V)(H:Hp)(Q:VK):Prop
 |mk(p a i v:_)(_:x= .ref p)(_:y= .int i)(_:ay K H p a)(_:dD a i=some v)(_:Q v H)
inductive xM(x y:V)(H:Hp)(Q:VK):Prop
 |mk(z i c:_)(_:x= .str z)(_:y= .int i)(_:z.length<=sizeLine)(_:dD z.cps.toList i=some c)(_:Q (.str #[(List.toArray [c])]) H)
theorem jq:Fo X (iP X.K):=by
 intro V S P s k H x y v u Q I n o h l
 obtain⟨p,L,i,z,rfl,rfl,A,B,q⟩:=h
 cases n
 obtain⟨t,rfl⟩:=o
 obtain⟨d,r,e,M⟩:=I.list A
 obtain⟨j,c,C,N,D,F⟩:=QK B
 obtain⟨w,E,R⟩:=r.get C
 have G:=r.length
 have O:=dY
 have f:EP X P k Q w s:=#[z,H,I,R,q]
 by_cases m:0<=i
 ·have g:i.toNat=j:=by
   rw[seqIndex_of m F]at c
   exact J' c
  exact item_listR e.isList m OG (by rw[g];simpa using E) f l
 ·have g:(i+(d.toArray.size:Int)).toNat=j:=by
   rw[seqIndex_neg OG D]at c
   rw[Ic,<- G]
   exact J' c
  exact subscriptTail_builtinR (x:=w) e.isList.typeIs slot_list_getitem.lookup
   (wpAny_getItem_list_neg (Q:=λr J=>r=w/\EP X P k Q r J) e.isList OG (by rw[Ic]<;>omega) OG (by rw[g];simpa using E) #[Z,f]) l
theorem jN:Fo X (fh X.K):=by
 intro V S P s c H x y v u Q I e g h k
 obtain⟨p,D,i,z,rfl,rfl,l,m,q⟩:=h
 cases e
 obtain⟨t,rfl⟩:=g
 obtain⟨n,r,d,F⟩:=I.tuple l
 obtain⟨j,o,A,G,J,L⟩:=QK m
 obtain⟨w,E,R⟩:=r.get A
 have B:=r.length
 have M:=dY
 have f:EP X P c Q w s:=#[z,H,I,R,q]
 exact subscriptTail_builtinR (x:=w) d.typeIs slot_tuple_getitem.lookup
  (getItem_tuple (j:=j) (Q:=λr C=>r=w/\EP X P c Q r C) d OG OG (by rw[Ic,<- B];exact o) (by simpa using E) #[Z,f]) k
theorem J7:Fo X xM:=by
 intro V S p s o H x y v u Q I r R h e
 obtain⟨z,i,c,rfl,rfl,w,f,q⟩:=h
 obtain⟨t,rfl⟩:=r
 obtain⟨T,rfl⟩:=R
 obtain⟨j,d,g,A,k,l⟩:=QK f
 have m:z.cps.toList.length=z.length:=by simp [Str.length]
 rw[m]at d k l
 have B:=dY
 exact tail_any (typeIs_str s z t) slot_str_getitem.lookup (getItem_str (c:=c) (by
  have E:decide (i < -(2 ^ 63:Int))=false:=Im OG
  have n:decide (i≥2 ^ 63)=false:=Im OG
  rw[E,n,Ov]) (by rw[d];simpa using g) #[.str #[(List.toArray [c])],H,I.tok _,#[_,Z],q]) e
theorem X7(i:List Value)(n j:Nat)(u:Value):Obj.mapSeq (·.setIfInBounds j u) { cls:=.type "list",data:=.seq i.toArray n }={ cls:=.type "list",data:=.seq (i.set j u).toArray n }:=by
 simp [Obj.mapSeq]
theorem ap.lst(I:ap X c d H s)(h:H p=some (.lst x)):
  ∃(i:List Value) (n:Nat),au x i/\s.heap.get? p=some { cls:=.type "list",data:=.seq i.toArray n }/\x.length<=sizeLine:=by
 obtain⟨z,i,n,r,e⟩:=I.hok p _ h
 exact#[i,n,r,e,z]
theorem ap.lstUpd{c i:List Value}{f:Obj->Obj}(I:ap X d j H s)(h:H p=some (.lst o))
  (k:s.heap.get? p=some { cls:=.type "list",data:=.seq c.toArray n }) (g:f { cls:=.type "list",data:=.seq c.toArray n }={ cls:=.type "list",data:=.seq i.toArray N }) (r:au y i) (l:y.length<=sizeLine) (t:Nat):
  ap X d j (ah H p (.lst y)) { s with heap:=s.heap.update p f,toks:=t }:=by
 have e:(s.heap.update p f).get? p=some { cls:=.type "list",data:=.seq i.toArray N }:=by
  rw[Heap.get?_update_self f k (by rw[g]<;>rfl),g]
 refine I.write (x:=p) (e:=p) (by rw[h];trivial) (.inl Z) (λb u m q=>(Heap.get?_update_other _ _ (Ne.symm m)).trans q) #[_,e] ?_
 exact#[l,i,N,r,e]
inductive oC(o i v:V)(H:Hp)(Q:Hp->Prop):Prop
 |mk(p a k j:_)(_:o= .ref p)(_:i= .int k)(_:H p=some (.lst a))(_:nQ a.length k=some j)(_:Q (ah H p (.lst (a.set j v))))
theorem zu:DJ X oC:=by
 intro P s z H o i v O F u Q I R A B h
 obtain⟨p,C,k,j,rfl,rfl,l,D,q⟩:=h
 cases R
 obtain⟨t,rfl⟩:=A
 obtain⟨c,n,r,e,E⟩:=I.lst l
 obtain⟨d,G,m,w⟩:=YL D
 have f:=r.length
 have J:=dY
 have x:ap X P z (ah H p (.lst (C.set j v))) { s with heap:=s.heap.update p (Obj.mapSeq (·.setIfInBounds j u)) }:=
  I.lstUpd l e (X7 c n j u) (r.set B j) (by rw[Nw];exact E) s.toks
 by_cases y:0<=k
 ·have g:k.toNat=j:=by
   rw[seqIndex_of y w]at d
   exact J' d
  exact PySem.W.ki_setAt e y OG (by rw[Ic,<- f];exact w) (by rw[g];exact#[_,x,q])
 ·have g:(k+(c.toArray.size:Int)).toNat=j:=by
   rw[seqIndex_neg OG m]at d
   rw[Ic,<- f]
   exact J' d
  exact PySem.W.ki_setBack e OG (by rw[Ic,<- f];exact m) OG (by rw[g];exact#[_,x,q])
theorem QS(lo H:Option Int)(n:Nat):(sliceBounds lo H none n).1=((HT.sIx n 0 lo:Nat):Int)/\(sliceBounds lo H none n).2.1=((HT.sIx n n H:Nat):Int)/\(sliceBounds lo H none n).2.2=1:=by
 refine#[?_,?_,Z]
 ·cases lo with
  |none=>simp [sliceBounds,HT.sIx]
  |some i=>
   simp only[sliceBounds,HT.sIx,N7,show(1:Int) > 0 by decide,MN]
   by_cases h:i < 0
   ·simp only[h,MN]<;>omega
   ·simp only[h,Lr]<;>omega
 ·cases H with
  |none=>simp [sliceBounds,HT.sIx]
  |some i=>
   simp only[sliceBounds,HT.sIx,N7,show(1:Int) > 0 by decide,MN]
   by_cases h:i < 0
   ·simp only[h,MN]<;>omega
   ·simp only[h,Lr]<;>omega
theorem qx(i:List Value)(lo h:Option Int):slicePick i.toArray lo h none=((i.drop (HT.sIx i.length 0 lo)).take (HT.sIx i.length i.length h - HT.sIx i.length 0 lo)).toArray:=by
 obtain⟨H,c,d⟩:=QS lo h i.toArray.size
 unfold slicePick
 rw[H,c,d]
 simp only[sliceRange_one,pick_run,Ic]<;>rfl
inductive xN(K:Frag)(x:V)(c b:Option Int)(H:Hp)(Q:VK):Prop
 |mk(a d:_)(_:x= .ref a)(_:aG K H a d)(_:∀p,H p=none->Q (.ref p) (ah H p (.lst (aM d c b))))
theorem kG:Fq X (xN X.K):=by
 intro p s m H x v V n lo e S Q I R g P i h
 obtain⟨a,c,rfl,j,q⟩:=h
 cases R
 obtain⟨k,r,f,l⟩:=I.list j
 have d:=r.length
 refine#["list",_,slot_list_getitem.lookup,f.isList.typeIs,?_]
 refine wpAny_getItem_list_slice f.isList g P i .none OH ?_ (by rw[Ic]<;>omega)
 rw[qx,<- d]
 refine#[.ref s.heap.objs.size,_,I.laid (t':=s.toks) (o:=.lst (aM c lo e)) (λb O q=>HX _ q) (Ib _) ?_,Z,q _ (I.hok.fresh (Ib _))]
 exact#[Ik (zf c lo e) l,_,0,(r.drop (HT.sIx c.length 0 lo)).take (HT.sIx c.length c.length e - HT.sIx c.length 0 lo),Ig _ Z]
noncomputable def cw:V->Bool
 | .non=>true
 | .bl _=>true
 | .int _=>true
 | .str _=>true
 |_=>false
noncomputable def nj:V->V->Bool
 | .non,.non=>true
 | .bl a,.bl b=>a==b
 | .bl a,.int b=>(if a then 1 else 0)==b
 | .int a,.bl b=>a==(if b then 1 else 0)
 | .int a,.int b=>a==b
 | .str a,.str b=>a==b
 |_,_=>false
theorem rG(R:aD y u)(r:aD x v)(F:cw y=true)(f:cw x=true):SeqAt.EqAt A s u v (nj y x):=by
 cases y with
 |non=>
  cases R
  cases x with
  |non=>cases r;exact SeqAt.EqAt.same _
  |bl b=>cases r;exact SeqAt.EqAt.none_bool b
  |int b=>obtain⟨t,rfl⟩:=r;exact SeqAt.EqAt.none_int b t
  |str b=>obtain⟨t,rfl⟩:=r;exact SeqAt.EqAt.none_str b t
  |_=>exact absurd (show false=true from f) Ih
 |bl a=>
  cases R
  cases x with
  |non=>cases r;exact SeqAt.EqAt.bool_none a
  |bl b=>cases r;exact SeqAt.EqAt.bool_bool a b
  |int b=>obtain⟨t,rfl⟩:=r;exact SeqAt.EqAt.bool_int a b t
  |str b=>obtain⟨t,rfl⟩:=r;exact SeqAt.EqAt.bool_str a b t
  |_=>exact absurd (show false=true from f) Ih
 |int a=>
  obtain⟨T,rfl⟩:=R
  cases x with
  |non=>cases r;exact SeqAt.EqAt.int_none a T
  |bl b=>cases r;exact SeqAt.EqAt.int_bool a T b
  |int b=>obtain⟨t,rfl⟩:=r;exact SeqAt.EqAt.int_int a T b t
  |str b=>obtain⟨t,rfl⟩:=r;exact SeqAt.EqAt.int_str a T b t
  |_=>exact absurd (show false=true from f) Ih
 |str a=>
  obtain⟨T,rfl⟩:=R
  cases x with
  |non=>cases r;exact SeqAt.EqAt.str_none a T
  |bl b=>cases r;exact SeqAt.EqAt.str_bool a T b
  |int b=>obtain⟨t,rfl⟩:=r;exact SeqAt.EqAt.str_int a T b t
  |str b=>obtain⟨t,rfl⟩:=r;exact SeqAt.EqAt.str_str a T b t
  |_=>exact absurd (show false=true from f) Ih
 |_=>exact absurd (show false=true from F) Ih
noncomputable def nO(x:V)(u:Value):Bool:=match u with
 | .none=>nj .non x
 | .bool b=>nj (.bl b) x
 | .int i _=>nj (.int i) x
 | .str z _=>nj (.str z) x
 |_=>false
theorem rJ(r:aD y u)(f:cw y=true):nO x u=nj y x:=by
 cases y with
 |non=>cases r;rfl
 |bl b=>cases r;rfl
 |int i=>obtain⟨t,rfl⟩:=r;rfl
 |str z=>obtain⟨t,rfl⟩:=r;rfl
 |_=>exact absurd (show false=true from f) Ih
theorem qP:∀{c:List V} {U:List Value},au c U->c.all cw=true->U.any (nO x)=c.any λy=>nj y x
 |_,_,.nil,_=>rfl
 |y::c,u::U,.cons r t,f=>by
  rw[Ou,Lp]at f
  rw[Nf,Nf,rJ r f.1,qP t f.2]
theorem qi(R:aD x v)(F:cw x=true):∀{c:List V} {U:List Value},au c U->c.all cw=true->∀u∈U,SeqAt.EqAt A s u v (nO x u)
 |_,_,.nil,_=>λu hu=>by cases hu
 |y::c,u::U,.cons r t,f=>λd hu=>by
  rw[Ou,Lp]at f
  rcases List.mem_cons.mp hu with rfl |hu
  ·rw[rJ r f.1];exact rG r R f.1 F
  ·exact qi R F t f.2 d hu
noncomputable def ou(x:V)(c:List V):Bool:=c.any λy=>nj y x
inductive EB(K:Frag)(a:Bool)(x y:V)(H:Hp)(Q:VK):Prop
 |mk(p b:_)(_:y= .ref p)(_:aG K H p b∨ay K H p b)(_:cw x=true)(_:b.all cw=true)(_:Q (.bl (if a then !ou x b else ou x b)) H)
theorem zc:eY X (compareOp .In) (EB X.K false):=by
 intro d s j H x y v u Q I R e h
 obtain⟨p,k,rfl,hq,F,f,q⟩:=h
 cases e
 rcases hq with hq |hq
 ·obtain⟨i,r,P,g⟩:=I.list hq
  refine SeqAt.in_listAt (nO x) P.isList (λw c=>qi R F r f w (by simpa using c)) #[.bl _,H,I,Z,?_]
  rw[show i.toArray.any (nO x)=i.any (nO x) by simp,qP r f]
  exact q
 ·obtain⟨i,r,P,g⟩:=I.tuple hq
  refine SeqAt.in_tupleAt (nO x) P (λw c=>qi R F r f w (by simpa using c)) #[.bl _,H,I,Z,?_]
  rw[show i.toArray.any (nO x)=i.any (nO x) by simp,qP r f]
  exact q
theorem q8:eY X (compareOp .NotIn) (EB X.K true):=by
 intro d s j H x y v u Q I R e h
 obtain⟨p,k,rfl,hq,F,f,q⟩:=h
 cases e
 rcases hq with hq |hq
 ·obtain⟨i,r,P,g⟩:=I.list hq
  refine SeqAt.notIn_listAt (nO x) P.isList (λw c=>qi R F r f w (by simpa using c)) #[.bl _,H,I,Z,?_]
  rw[show i.toArray.any (nO x)=i.any (nO x) by simp,qP r f]
  exact q
 ·obtain⟨i,r,P,g⟩:=I.tuple hq
  refine SeqAt.notIn_tupleAt (nO x) P (λw c=>qi R F r f w (by simpa using c)) #[.bl _,H,I,Z,?_]
  rw[show i.toArray.any (nO x)=i.any (nO x) by simp,qP r f]
  exact q
theorem jL:eJ X (.builtin "len") (λx H Q=>∃p y,x=[.ref p]/\(aG X.K H p y∨ay X.K H p y)/\Q (.int y.length) H):=by
 intro d s g H x U Q I r h
 obtain⟨p,y,rfl,hq,q⟩:=h
 obtain⟨u,rfl,e⟩:=eP r
 cases e
 have j:=dY
 rcases hq with hq |hq
 ·obtain⟨i,R,P,f⟩:=I.list hq
  have c:=R.length
  exact Calls.call_len_list P.isList (by simp only[Ic]<;>omega) #[.int y.length,H,I.tok _,#[s.toks+1,by rw[Ic,c]],q]
 ·obtain⟨i,R,P,f⟩:=I.tuple hq
  have c:=R.length
  exact len_tuple P (by simp only[Ic]<;>omega) #[.int y.length,H,I.tok _,#[s.toks+1,by rw[Ic,c]],q]
theorem q9:eJ X (.type "list") (λx H Q=>∃p y,x=[.ref p]/\(aG X.K H p y∨ay X.K H p y)/\∀l,H l=none->Q (.ref l) (ah H l (.lst y))):=by
 intro P s z H x U Q I r h
 obtain⟨p,y,rfl,hq,q⟩:=h
 obtain⟨u,rfl,A⟩:=eP r
 cases A
 have f:∀(i:List Value),au y i->y.length<=sizeLine->∀(c:Heap) (C:Nat),(∀b O,s.heap.get? b=some O->c.get? b=some O)->
   c.get? s.heap.objs.size=some { cls:=.type "list",dict:=none,data:=.seq i.toArray C,slots:=(List.toArray []) }->EP X P z Q (.ref s.heap.objs.size) { s with heap:=c }:=λi R d c C k e=>
  #[.ref s.heap.objs.size,_,I.laid (t':=s.toks) k (Ib _) (show aQ X.prog X.w _ c _ (.lst y) from #[d,i,C,R,e]),Z,q _ (I.hok.fresh (Ib _))]
 rcases hq with hq |hq
 ·obtain⟨i,R,j,d⟩:=I.list hq
  have g:=R.length
  obtain⟨o,m,t,n,v⟩:=j.isList
  exact call_list_seq p (.inl Z) m t v (λc C k e=>f i R d c C k e) (by simp only[Ic]<;>omega)
 ·obtain⟨i,R,j,d⟩:=I.tuple hq
  have g:=R.length
  obtain⟨o,m,t,n,v⟩:=j
  exact call_list_seq p (.inr Z) m t v (λc C k e=>f i R d c C k e) (by simp only[Ic]<;>omega)
theorem jI:eJ X (.type "tuple") (λx H Q=>∃p y,x=[.ref p]/\((aG X.K H p y/\∀l,H l=none->Q (.ref l) (ah H l (.tup y)))∨(ay X.K H p y/\Q (.ref p) H))):=by
 intro P s g H x U Q I r h
 obtain⟨p,y,rfl,h⟩:=h
 obtain⟨u,rfl,n⟩:=eP r
 cases n
 rcases h with ⟨d,q⟩ | ⟨d,q⟩
 ·obtain⟨i,R,f,j⟩:=I.list d
  have k:=R.length
  refine call_tuple_list f.isList (λc t=>?_) (by simp only[Ic]<;>omega)
  have m:ap X P g H { s with heap:=c }:=I.kept (t':=s.toks) t
  have v:ap X P g (ah H c.objs.size (.tup y)) { s with heap:=c.push { cls:=.type "tuple",data:=.seq i.toArray } }:=
   m.laid (t':=s.toks) (λb o e=>HX _ e) (Ib _) (show aQ X.prog X.w _ _ _ (.tup y) from #[j,i,R,IsTup.new _ _])
  exact#[.ref c.objs.size,_,v,Z,q _ (m.hok.fresh (Ib _))]
 ·obtain⟨i,R,f,j⟩:=I.tuple d
  exact call_tuple_same f #[.ref p,H,I,Z,q]
def GU(K:Frag)(T:String)(x:V)(H:Hp):Prop:=match x with
 | .str _=>T="str"
 | .int _=>T="int"
 | .ref p=>(T="list"/\∃c,aG K H p c)∨(T="tuple"/\∃o,K.lookup p=some o/\o.cls= .type "tuple"/\o.dict=none)∨
   (T="dict"/\((∃k,H p=some (.dK k))∨∃k,H p=some (.dT k)))∨(T="set"/\∃S n,H p=some (.set S n))
 |_=>False
theorem vb(I:ap X j u H s)(r:aD x v)(d:GU X.K T x H):
  s.TypeIs v T/\∀a,v= .ref a->∃O,s.heap.get? a=some O/\O.dict=none:=by
 cases x with
 |str z=>
  obtain⟨t,rfl⟩:=r
  cases (show T="str" from d)
  exact#[typeIs_str s z t,λ_ e=>nomatch e]
 |int i=>
  obtain⟨t,rfl⟩:=r
  cases (show T="int" from d)
  exact#[typeIs_int s i t,λ_ e=>nomatch e]
 |ref p=>
  cases r
  rcases d with ⟨rfl,w,l⟩ | ⟨rfl,o,h,m,f⟩ | ⟨rfl,h⟩ | ⟨rfl,S,n,h⟩
  ·obtain⟨q,_,P,_⟩:=I.list l
   refine#[P.isList.typeIs,λa e=>?_]
   cases e
   obtain⟨o,n,e,c,f,_⟩:=P
   exact#[o,e,f]
  ·refine#[#[o,I.kIn p o h,m],λa e=>?_]
   cases e
   exact#[o,I.kIn _ o h,f]
  ·have z:∃o,s.heap.get? p=some o/\o.ExactDict:=by
    rcases h with ⟨k,h⟩ | ⟨k,h⟩
    ·obtain⟨_,_,_,_,o,_,_,e,E,_⟩:=I.hok p _ h
     exact#[o,e,E]
    ·obtain⟨_,_,_,_,o,_,_,e,E,_⟩:=I.hok p _ h
     exact#[o,e,E]
   obtain⟨o,e,E⟩:=z
   refine#[#[o,e,E.1],λa g=>?_]
   cases g
   exact#[o,e,E.2.1]
  ·obtain⟨o,_,_,_,e,E,_⟩:=I.hok p _ h
   refine#[#[o,e,E.1],λa g=>?_]
   cases g
   exact#[o,e,E.2.1]
 |_=>exact False.elim d
def GF(K:Frag)(T:String)(r:V->List V->Hp->VK->Prop)(t:TE):TE:=λc H Q=>t c H λx h=>GU K T x h/\r x [] h Q
def Gz(K:Frag)(T:String)(r:V->List V->Hp->VK->Prop)(d:TE)(t:TA):TE:=λc H Q=>d c H λx h=>GU K T x h/\t c h λe f=>r x e f Q
variable {o e:Expr}{es:List Expr}{to:TE}{t:TA}{name:Str}{apos cpos:Pos}{T id:String}{r:V->List V->Hp->VK->Prop}
theorem Ci(P:PlainAttrs T)(S:Slot T name id)(f:typeOf (.builtin id)=pure (.type "method_descriptor"))(j:FM X id r)(k:PE X o to)
  (c:attributeBase o name X.env (eval o X.env)=eval o X.env:=by rfl) (d:(apos.endLine==cpos.line)=true:=by rfl):PE X (.Call (.Attribute o name apos) [] [] cpos) (GF X.K T r to):=by
 intro p s g H Q I h
 refine wpAny_Call_method0_late c d (aL (k p s g H _ I h) λv l z=>?_)
 obtain⟨x,m,i,R,n,q⟩:=z
 obtain⟨u,w⟩:=vb i R n
 exact#[T,id,P,S,f,u,w,NO Z (PySem.evalArgs_none (j p l g m x [] v [] Q i R .nil q))]
theorem j9(P:PlainAttrs T)(S:Slot T name id)(i:typeOf (.builtin id)=pure (.type "method_descriptor"))(m:FM X id r)(n:PE X o to)(q:PA X (e::es) t)
  (d:attributeBase o name X.env (eval o X.env)=eval o X.env:=by rfl)
  (g:((backTo cpos (starEach (e::es) X.env)).all (λx=>!x.1)&&(backToKw cpos (keywordEach [] X.env)).all (λx=>x.1.isSome)
   &&decide ((e::es).length+([]:List Keyword).length+(if ([]:List Keyword).isEmpty then 0 else 1) < 30))=true:=by rfl)
  (f:(apos.endLine==cpos.line)=true:=by rfl) (u:starEach (e::es) X.env=(false,eval e X.env)::starEach es X.env:=by rfl) (c:(backTo cpos (starEach es X.env)).any (·.1)=false:=by rfl):
  PE X (.Call (.Attribute o name apos) (e::es) [] cpos) (Gz X.K T r to t):=by
 intro p s j H Q I h
 refine wpAny_Call_method_late d g f Z (aL (n p s j H _ I h) λv w z=>?_)
 obtain⟨x,y,k,R,A,B⟩:=z
 obtain⟨C,D⟩:=vb k R A
 refine#[T,id,P,S,i,C,D,?_]
 have l:=q cpos p w j y _ k B
 rw[u]at l ⊢
 refine NO (by show(false||(backTo cpos (starEach es X.env)).any (·.1))=false;rw[c]<;>rfl) (Calls.evalArgs_plain ?_)
 exact aL l λU E #[F,G,J,L,M]=>m p E j G x F v U Q J R L M
end
def DE(X:Cx)(id:String)(r:V->List V->Hp->VK->Prop):Prop:=
 ∀(p:List (Addr×Obj)) (s:Shared) (a:St) (H:Hp) (x:V) (b:List V) (v:Value) (u:List Value) (Q:VK),ap X p a H s->aD x v->au b u->r x b H Q->
  wpAny (model X.prog X.w) X.A (call (.builtin id) (v::u)) (EP X p a Q) X.xe s
theorem au.one:∀{x:V} {U:List Value},au [x] U->∃u,U=[u]/\aD x u
 |_,_,.cons r .nil=>#[_,Z,r]
theorem au.zero:∀{u:List Value},au [] u->u=[]
 |_,.nil=>rfl
theorem au.dropLast(h:au x u):au x.dropLast u.dropLast:=by
 induction h with
 |nil=>exact .nil
 |cons r t i=>
  cases t with
  |nil=>exact .nil
  |cons q T=>exact .cons r i
theorem au.reverse(h:au x u):au x.reverse u.reverse:=by
 induction h with
 |nil=>exact .nil
 |cons r t i=>rw[Mm,Mm];exact au.append i (.cons r .nil)
theorem X8{c:Type}(l:List c):l.eraseIdx (l.length - 1)=l.dropLast:=by
 induction l with
 |nil=>rfl
 |cons a r i=>
  cases r with
  |nil=>rfl
  |cons b r=>
   have e:(a::b::r).length - 1=((b::r).length - 1)+1:=by
    have h:(a::b::r).length=r.length+2:=rfl
    have H:(b::r).length=r.length+1:=rfl
    omega
   rw[e,List.eraseIdx_cons_succ,i]
   all_goals rfl
section
variable {X:Cx}{pins:List (Addr×Obj)}{σ:St}{H:Hp}{s:Shared}{l b:Addr}{xs ys zs:List V}
theorem ap.lset{i its':List Value}{f:Array Value->Array Value}{t':Nat}(I:ap X pins σ H s)(h:H l=some (.lst xs))
  (e:s.heap.get? l=some { cls:=.type "list",data:=.seq i.toArray n }) (a:f i.toArray=its'.toArray) (c:au ys its') (d:ys.length<=sizeLine):
  ap X pins σ (ah H l (.lst ys)) { s with heap:=s.heap.update l (Obj.mapSeq f),toks:=t' }:=by
 have q:=PySem.IsL.update e f
 rw[a]at q
 refine I.write (x:=l) (e:=l) (by rw[h];exact IG) (.inl Z) (λB u g j=>(Iv s.heap (Obj.mapSeq f) (IM g)).trans j) #[_,q] ?_
 exact#[d,its',_,c,q]
theorem ap.lnew{t':Nat}(I:ap X pins σ H s)(h:au ys i)(a:ys.length<=sizeLine):
  ap X pins σ (ah H s.heap.objs.size (.lst ys)) { s with heap:=s.heap.push { cls:=.type "list",data:=.seq i.toArray },toks:=t' }:=
 I.laid (λ_ _ q=>HX _ q) (Ib _) #[a,i,0,h,Ig _ Z]
theorem ap.fresh(I:ap X pins σ H s):H s.heap.objs.size=none:=I.hok.fresh (Ib _)
theorem ap.lstM(I:ap X pins σ H s)(h:H l=some (.lst xs)):xs.length<=sizeLine/\∃(i:List Value) (n:Nat),au xs i/\xs.length=i.length/\s.heap.get? l=some { cls:=.type "list",data:=.seq i.toArray n }:=by
 obtain⟨z,i,n,r,e⟩:=I.hok l _ h
 exact#[z,i,n,r,r.length,e]
theorem fg(h:n<=sizeLine):Builtin.List.listTooLong n=false:=by
 unfold Builtin.List.listTooLong
 exact Im OG
end
section
variable {X:Cx}
inductive le(x:V)(a:List V)(H:Hp)(Q:VK):Prop
 |mk(l b y:_)(_:x= .ref l)(_:a=[y])(_:H l=some (.lst b))(_:b.length < sizeLine)(_:Q .non (ah H l (.lst (b++[y]))))
theorem jP:DE X "list.append" le:=by
 intro p s d H x V v U Q I R b h
 obtain⟨l,f,y,rfl,rfl,a,g,q⟩:=h
 cases R
 obtain⟨u,rfl,c⟩:=b.one
 obtain⟨z,i,n,r,j,e⟩:=I.lstM a
 refine N9 F.slot_list_append #[_,e,Z] F.entry_list_append (F.args_list_append_2 _ _) (PySem.list_append l i.toArray n u (by rw[Ic];omega)) #[e,?_]
 refine#[.non,_,I.lset (its':=i++[u]) a e OH (r.append (.cons c .nil)) ?_,Z,q]
 rw[Ia,Mj]
 omega
inductive oB(x:V)(a:List V)(H:Hp)(Q:VK):Prop
 |mk(l b c d:_)(_:x= .ref l)(_:a=[.ref b])(_:H l=some (.lst c))(_:H b=some (.lst d))(_:c.length+d.length<=sizeLine)(_:Q .non (ah H l (.lst (c++d))))
theorem qt:DE X "list.extend" oB:=by
 intro p s t H x V v U Q I R g h
 obtain⟨l,b,w,y,rfl,rfl,f,j,A,q⟩:=h
 cases R
 obtain⟨u,rfl,k⟩:=g.one
 cases k
 obtain⟨z,a,n,r,B,e⟩:=I.lstM f
 obtain⟨C,i,N,m,o,E⟩:=I.lstM j
 have d:a.toArray.size+i.toArray.size<=sizeLine:=by rw[Ic,Ic];omega
 have c:¬(!a.toArray.isEmpty&&Builtin.List.listTooLong (a.toArray.size+i.toArray.size))=true:=by
  rw[fg d,NG]
  exact Ih
 refine N9 F.slot_list_extend #[_,e,Z] F.entry_list_extend (F.args_list_extend_2 _ _)
  (AutoSeq1.list_extend_list_list_0 l a.toArray n b i.toArray N c (by rw[Ic];omega) OG) #[e,E,?_]
 refine#[.non,_,I.lset (its':=a++i) f e OH (r.append m) ?_,Z,q]
 rw[Ia]
 omega
inductive ED(x:V)(a:List V)(H:Hp)(Q:VK):Prop
 |mk(l b y:_)(_:x= .ref l)(_:a=[])(_:H l=some (.lst b))(_:b[b.length - 1]?=some y)(_:Q y (ah H l (.lst b.dropLast)))
theorem Bl:DE X "list.pop" ED:=by
 intro p s m H x V v U Q I R d h
 obtain⟨l,o,y,rfl,rfl,c,f,q⟩:=h
 cases R
 have a:=d.zero
 subst a
 obtain⟨z,i,n,r,g,e⟩:=I.lstM c
 obtain⟨u,j,k⟩:=r.get f
 have b:i.toArray[i.toArray.size - 1]?=some u:=by
  show i.toArray[i.length - 1]?=some u
  rw[<- LQ,<- g]
  exact j
 refine N9 F.slot_list_pop #[_,e,Z] F.entry_list_pop (F.args_list_pop_1 _) (MeetsSeq.list_pop_last l i.toArray n u b (by rw[Ic];omega)) #[e,?_]
 refine#[y,_,I.lset (its':=i.dropLast) c e ?_ r.dropLast ?_,k,q]
 ·show i.toArray.eraseIdxIfInBounds (i.toArray.size - 1)=i.dropLast.toArray
  rw[Ic,List.eraseIdxIfInBounds_toArray,X8]
 ·rw[List.length_dropLast]
  omega
inductive xJ(x y:V)(H:Hp)(Q:VK):Prop
 |mk(l b a c:_)(_:x= .ref l)(_:y= .ref b)(_:H l=some (.lst a))(_:H b=some (.lst c))(_:a.length+c.length<=sizeLine)(_:∀p,H p=none->Q (.ref p) (ah H p (.lst (a++c))))
theorem qf:eY X (binaryOp .Add) xJ:=by
 intro p s m H x y v u Q I R c h
 obtain⟨l,b,o,t,rfl,rfl,d,f,w,q⟩:=h
 cases R
 cases c
 obtain⟨z,a,n,r,A,e⟩:=I.lstM d
 obtain⟨B,i,N,g,j,E⟩:=I.lstM f
 refine PySem.P.add_list e E ?_ (by rw[Ic,Ic];omega)
 have k:a.toArray++i.toArray=(a++i).toArray:=by simp
 rw[k]
 exact#[.ref _,_,I.lnew (t':=s.toks) (r.append g) (by rw[Ia];omega),Z,q _ I.fresh]
end
section
variable {prog:Program}{w:World}{A:Around}{E:Value->Shared->Prop}{s:Shared}
theorem Zp(i I : List Value)(a c : Nat) : i.toArray.extract 0 a ++ I.toArray ++ i.toArray.extract c i.toArray.size = (i.take a ++ I ++ i.drop c).toArray := by
  apply Array.toList_inj.mp
  first
    | (simp
       exact LA OH)
    | simp [LA]
    | simp
theorem X9{a c n:Nat}(hac:a<=c)(hc:c<=n):sliceBounds (some (a:Int)) (some (c:Int)) none n=((a:Int),(c:Int),1):=by
 simp only[sliceBounds,N7]
 have h1:¬((a:Int) < 0):=by omega
 have h2:¬((c:Int) < 0):=by omega
 simp only[h1,h2,Lr,show(1:Int) > 0 by decide,MN]
 congr 1
 ·omega
 ·congr 1;omega
set_option maxRecDepth 100000 in
theorem KL{a c : Nat}{Q : Unit -> Shared -> Prop}
    (e : s.heap.get? l = some { cls := .type "list", data := .seq i n }) (y : s.heap.get? b = some { cls := .type "list", data := .seq N I }) (q : l ≠ b)
    (C : s.heap.IsSliceOf p z B .none) (P : IsPart z (some (a : Int))) (D : IsPart B (some (c : Int))) (r : a <= c) (F : c <= i.size)
    (f : i.size + N.size <= sizeLine) (h : Q () { s with heap := s.heap.update l (Obj.mapSeq λX => X.extract 0 a ++ N ++ X.extract c X.size) }) :
    wpAny (model prog w) A (setItem (.ref l) (.ref p) (.ref b)) Q E s := by
  have t : s.heap.IsList l i := PySem.IsL.isList e
  have G : s.heap.IsList b N := PySem.IsL.isList y
  obtain ⟨os, d, u, g⟩ := id C
  have k : s.TypeIs (.ref p) "slice" := #[os, d, u]
  have j : ¬ ((rawPart none == rawInt 0) = true) := Ih
  have H : Builtin.List.listSameRef (.ref l) (.ref b) = false := by
    unfold Builtin.List.listSameRef
    exact beq_eq_false_iff_ne.mpr q
  have o : (max (a : Int) (c : Int)).toNat = c := by omega
  have v : ((λX : Array Value => X.extract 0 a ++ N ++ X.extract c X.size) i).size <= sizeLine + 1 := by
    simp only [N5, Array.size_extract]
    omega
  unfold setItem
  try with_reducible refine IF ?_
  first | refine HV (HY ?_) | skip
  refine HV (Oi t.typeIs OF ?_)
  refine HV (IP (name := Str.ofString "__setitem__") t.typeIs slot_list_setitem
    (IU slot_list_setitem t.typeIs entry_list_setitem ?_ (args_list_setitem _ _ _)))
  show wpAny _ _ (Builtin.List.listSubscript? (.ref p) >>= _) _ _ s
  refine HV ?_
  unfold Builtin.List.listSubscript?
  refine HV (LN k slice_no_index ?_)
  simp only [Option.isNone_none, MN]
  refine HY ?_
  show wpAny _ _ (typeOf (.ref p) >>= _) _ _ s
  refine HV (LS k ?_)
  first
    | rw [Iu OF]
    | refine NQ OF ?_
  rw [listSliceParts_eq]
  refine HV (HV (IE d g (x := .none) Z (HV (wpAny_listPart .none ?_))))
  rw [Iu j]
  refine HV (IE d g (x := z) Z (HV (wpAny_listPart P ?_)))
  refine HV (IE d g (x := B) Z (HV (wpAny_listPart D (HY ?_))))
  first
    | simp only [H, Iq, Lr]
    | refine NQ H ?_
    | (dsimp only
       rw [Iu (by rw [H]; exact Ih)])
  refine HV (m := Builtin.List.listAllItems (.ref b) "must assign iterable to extended slice") ?_
  unfold Builtin.List.listAllItems
  refine HV (LS G.typeIs ?_)
  first
    | refine PySem.W.KFB.if_so OF ?_
    | rw [Io OF]
    | simp only [Nh, Bool.true_or, MN]
  unfold Builtin.List.listItems
  refine HV (Lb y Z (HY ?_))
  refine HV (HV (Lb e Z (HY ?_)))
  refine HV (Nr ((sliceIndices_raw (some (a : Int)) (some (c : Int)) none i.size OH).trans (K' (pure : Int × Int × Int -> Sem (Int × Int × Int)) (X9 r F))) ?_)
  show wpAny _ _ (if ((1 : Int) == 1) = true then _ else _) _ _ s
  rw [Io OF]
  refine HV (LX ?_)
  first
    | simp only [fg f, Iq, Lr]
    | refine NQ (fg f) ?_
  first | refine HV (HY ?_) | skip
  show wpAny _ _ (updateSeq l (λX => X.extract 0 ((a : Int)).toNat ++ N ++ X.extract (max (a : Int) (c : Int)).toNat X.size) >>= _) _ _ s
  rw [o, IW]
  refine HV (NP (hz := Ik (Mt _ _) f) (_hz' := v) e Z ?_)
  refine HV (wpAny_letGo ?_)
  first
    | exact HV (HY (HY #[.none, Z, HY h]))
    | exact HY #[.none, Z, HY h]
end
section
variable {X:Cx}
theorem Zq{Q:Unit->Shared->Prop}(I:ap X p o H s)
  (k:H l=some (.lst x)) (q:H b=some (.lst y)) (f:l≠b) (t:s.heap.IsSliceOf u v B .none) (R:aD (.int a) v) (D:aD (.int c) B) (m:0<=a) (g:a<=c) (J:c<=x.length)
  (K:x.length+y.length<=sizeLine) (h:∀S,ap X p o (ah H l (.lst (x.take a.toNat++y++x.drop c.toNat))) S->Q () S):
  wpAny (model X.prog X.w) X.A (setItem (.ref l) (.ref u) (.ref b)) Q X.xe s:=by
 obtain⟨T,rfl⟩:=R
 obtain⟨L,rfl⟩:=D
 obtain⟨z,d,n,r,M,e⟩:=I.lstM k
 obtain⟨N,i,O,E,F,G⟩:=I.lstM q
 obtain⟨j,rfl⟩:=OE m
 obtain⟨C,rfl⟩:=OE (Int.le_trans m g)
 simp only[IW]at h
 refine KL (a:=j) (c:=C) e G f t (.int _ _) (.int _ _) OG (by rw[Ic];omega) (by rw[Ic,Ic];omega) (h _ ?_)
 refine I.lset (its':=d.take j++i++d.drop C) (t':=s.toks) k e ?_ (au.append (au.append (r.take _) E) (r.drop _)) ?_
 ·exact Zp d i j C
 ·rw[Ia,Ia,ID,Lw]
  omega
end
end _L
namespace Att
open PySem PySem.W PySem.Calls PyProof.Rows
theorem JC{P:Params}:∀(N:List Int) (v:List Value),WellAll P h v (N.map WData.int)->IntsAre v N:=by
 intro N
 induction N with
 |nil=>
  intro v w
  rw[List.map_nil]at w
  cases w
  exact .nil
 |cons n N i=>
  intro v w
  rw[LG]at w
  cases w with
  |cons a b=>
   cases a
   exact .cons _ _ (i _ b)
theorem Zr{l:OpenLaw}(k:l.most=some n){P:Params}
  (H:l.row.toRowW.claim.pre args=true) (g:WellAll P h v args):
  ∃a V N,v=[Value.ref a]/\args=[WData.list (N.map WData.int)]/\h.get? a=some { cls:=.type "list",data:=.seq V.toArray }/\IntsAre V N/\N.length<=n:=by
 have i:WShape.hasAll [] args [.list .int]=true:=(pre_splitW H).1
 have j:l.pre.holds [] { args:=args }=true:=(pre_splitW H).2
 obtain⟨d,r,rfl,m,o⟩:=hasAllW_cons i
 obtain rfl:=hasAllW_nil o
 obtain⟨x,rfl,p⟩:=hasW_list m
 obtain⟨N,rfl⟩:=items_int p
 have b:N.length<=n:=by
  unfold OpenLaw.pre at j
  have e:(WTm.not (.lt (.lit (.int (n:Int))) (.len (.arg 0)))).holds [] { args:=[.list (N.map .int)] }=true:=by
   have e:=(holds_andW j).1
   rw[k]at e
   exact e
  have f:=condW_of e (w_not (w_lt w_lit (w_len_list (w_arg Z))))
  rw[HZ]at f
  refine Nj λq=>?_
  have Q:(n:Int) < ((N.length:Nat):Int):=by omega
  first
   | (rw[IB Q]at f;exact absurd f OF)
   | (simp at f;omega)
 cases g with
 |cons w W=>
  cases W
  cases w with
  |list s c=>exact#[_,_,N,Z,Z,s,JC N _ c,b]
theorem Zs(l:OpenLaw)(args:List WData):l.row.toRowW.claim.post args (.bool true) args=true:=
 postW_of (r:=l.row.toRowW) (X:=(true==true))
  (show WShape.has [] (.bool true) .bool=true by first |rfl |decide |simp [WShape.has,WShape.arms,WShape.armsAll])
  (show(WTm.eq .res (.lit (.bool true))).value [] { args:=args,res:=some (.bool true),after:=args }=some (.bool (true==true)) from w_eq_bool (w_res Z) w_lit) Z
theorem attach_call{l:OpenLaw}{y:World->Heap->Prop}{d:DefRec}
  (x:l.most=some n) (g:d.params.defaults=[])
  (call:∀(w:World) (S s:Shared) (m M:Str->Option Value) (F:Addr) (o:Obj) (p C D:Value) (a:Addr) (v:List Value) (N:List Int),
   Ground q L [] z w S m M s.heap->y w s.heap->
   s.heap.get? F=some o->o.data= .func (docDef d.name d.params d.body d.scope p C D)->s.heap.CodeRec C d.name->m d.name=some (.ref F)->
   s.heap.get? a=some { cls:=.type "list",data:=.seq v.toArray }->IntsAre v N->N.length<=n->s.gens=(List.toArray [])->
   codeAny (model l.prog w) callerA (.call (.ref F) #[[.ref a],[]]) (λr e=>r= .ok (.ret (.bool true))/\OldK s.heap e.heap/\e.os=s.os/\AllBare e.gens) s):
  WalkO q L z y l.row.toRowW d [] (λf v=>PySem.call f v):=by
 intro w S s m M G Y F o p C D B kV E I i t j J A V W H u K k O
 obtain rfl:B= .none:=Dflts.none t g
 obtain rfl:kV= .none:=Dflts.noKw t
 obtain⟨a,v,N,rfl,rfl,b,h,c⟩:=Zr x H k
 refine enter_call (MF (call w S s m M F o p C D a v N G Y E (fd_plain I) i j b h c J) λr e P=>?_)
 obtain⟨rfl,Q,R,T⟩:=P
 exact#[.inl #[.bool true,.bool true,[],Z,λ_=>Z,.bool true,Zs l _,λ_=>#[List.Pairwise.nil,λ_ U=>(nomatch U)]],Q,R,T]
end Att
namespace _L
open PySem PySem.Spec PyProof.Rows
theorem Qg:∀{v:List Value} {N:List Int},IntsAre v N->au (N.map V.int) v
 |_,_,.nil=>.nil
 |_,_,.cons n t h=>.cons #[t,Z] (Qg h)
def AB(H:Hp):Prop:=∀b,H b=none∨∃o x,H b=some (.frz o (.lst x))
theorem se{P:Program}{K:Frag}{S:Shared}{i:List Value}
  (Y:K.In S.heap) (l:S.heap.Ns mainGlobals M) (c:S.heap.Ns builtinsNs mb) (Q:∀x:Str,x≠"__name__"->mb x=bootBuiltins x) (p:S.heap.NoLimit) (hg:S.gens=(List.toArray []))
  (J:S.heap.get? a=some { cls:=.type "list",data:=.seq i.toArray }) (hi:IntsAre i O) (hl:O.length<=sizeLine) (hr:bH k callerA)
  (F:∀f:Heap,K.In f->f.Ns mainGlobals M->af P w K M f CX k fa fd [x] sp) (j:∀(s:Shared) (u:Value),BindsTo s fd #[[u],[]] [(x,u)])
  (R:∀H:Hp,AB H->aG K H a (O.map V.int)->sp [.ref a] H (λv _=>v= .bl true) λ_ _ _=>False)
  (T:∀H e g,CX [] H S (λ_ _ _=>False) e g->False):
  codeAny (model P w) callerA (.call (.ref fa) #[[.ref a],[]]) (λr g=>r= .ok (.ret (.bool true))/\OldK S.heap g.heap/\g.os=S.os/\AllBare g.gens) S:=by
 have rv:=Qg hi
 have L:=hi.length
 have C:∀H:Hp,AB H->aG K H a (O.map V.int)->eL P w H S.heap->(∀b,H b≠none->b=a)->(H a≠none->K.lookup a=none)->
   codeAny (model P w) callerA (.call (.ref fa) #[[.ref a],[]]) (λr g=>r= .ok (.ret (.bool true))/\OldK S.heap g.heap/\g.os=S.os/\AllBare g.gens) S:=by
  intro H hO hS t hA hK
  have B:∀{b:Addr} {o:Obj},S.heap.get? b=some o->H b=none->(i7 S.heap H).get? b=some o:=λe n=>rS e n
  have U:∀{b:Addr} {o:Obj} {E:Array DictEntry} {y:Nat},S.heap.get? b=some o->o.data= .dict E y->H b=none:=λ{b o E y} e d=>by
   cases q:H b with
   |none=>rfl
   |some u=>
    have W:b=a:=hA b (by rw[q];simp)
    subst W
    rw[J]at e;cases e
    have d':Data.seq i.toArray _=Data.dict E y:=d
    cases d'
  have N:∀{b:Addr} {m:Str->Option Value},S.heap.Ns b m->(i7 S.heap H).Ns b m:=λ{b m} #[o,E,y,e,d,r]=>#[o,E,y,B e (U e d),d,r]
  have A:K.In (i7 S.heap H):=λb o e=>B (Y b o e) (by
   cases q:H b with
   |none=>rfl
   |some u=>
    have W:b=a:=hA b (by rw[q];simp)
    subst W
    rw[hK (by rw[q];simp)]at e;cases e)
  have hM:Mod K M (i7 S.heap H):=#[A,N l,#[mb,N c,Q],let #[mc,h1,h2]:=p;#[mc,N h1,h2]]
  have e0:nG P w K M (i7 S.heap H) callerA [] S H:=#[Z,hM,λb o e=>wL e,N4 (Zi _ _),IG,λb c=>absurd (show b∈([]:List Addr) from c) OH,t,.of_eq hg]
  refine MF ((F _ A (N l)).run callerA [] S H #[[.ref a],[]] [.ref a] [.ref a] _ _ hr e0 (j S (.ref a)) (.cons Z .nil) (R H hO hS)) λr g h=>?_
  cases r with
  |error e=>exact(T H e g h).elim
  |ok fl=>
   cases fl with
   |next=>exact False.elim h
   |brk=>exact False.elim h
   |cont=>exact False.elim h
   |ret u=>
    obtain⟨v,H',os,D,un,G,r',q⟩:=h
    have q':v= .bl true:=q
    subst q'
    obtain rfl:u=Value.bool true:=r'
    refine#[Z,OldK.of_keep λb o e=>?_,os,D]
    cases q:H b with
    |none=>exact un.keep b o e q (by intro z;exact absurd (show b∈([]:List Addr) from z) OH) OH
    |some u=>
     rcases hO b with z | ⟨ob,xs,z⟩
     ·rw[q]at z;cases z
     ·have z2:=un.frzs b ob _ z
      obtain⟨e1,_⟩:=t b _ z
      obtain⟨e2,_⟩:=G b _ z2
      rw[e]at e1;cases e1
      exact e2
 cases X:K.lookup a with
 |some o=>
  have e:=Y a o X
  rw[J]at e
  cases e
  refine C (λ_=>none) (λ_=>.inl Z) (.inr #[_,i.toArray,_,X,Z,Z,Z,by rw[Ic,L];exact hl,by simpa using rv]) (λb u z=>by have I:(none:Option HO)=some u:=z;cases I) (λb z=>absurd Z z) λz=>absurd Z z
 |none=>
  refine C (λb=>if b=a then some (.frz { cls:=.type "list",data:=.seq i.toArray } (.lst (O.map V.int))) else none) (λb=>?_) (.inl (.inr #[{ cls:=.type "list",data:=.seq i.toArray },Io Z])) (λb u z=>?_) (λb z=>?_) λ_=>X
  ·by_cases c:b=a
   ·exact .inr #[_,_,Io c]
   ·exact .inl (Iu c)
  ·by_cases c:b=a
   ·have I:=(Io c).symm.trans z
    cases I
    subst c
    exact#[J,by rw[HZ];exact hl,i,_,rv,J]
   ·have I:=(Iu c).symm.trans z
    cases I
  ·by_cases c:b=a
   ·exact c
   ·exact absurd (Iu c) z
theorem yw{l:PySem.W.OpenLaw}{n k:Nat}{E:World->Heap->Prop}{d:DefRec}{K:Params->Frag}{CX:World->pE}{sp:World->Sp}{x:Str}
  (O:l.most=some n) (r:n<=sizeLine) (t:d.params.defaults=[]) (P:bH k callerA)
  (Q:∀(w:World) (h:Heap),E w h->(K w.params).In h)
  (F:∀(w:World) (m:Str->Option Value) (p:Addr) (h:Heap),(K w.params).In h->h.Ns mainGlobals m->m d.name=some (.ref p)->
   ∃y:FuncData,(∀(s:Shared) (u:Value),BindsTo s y #[[u],[]] [(x,u)])/\
    ∀B:Heap,(K w.params).In B->B.Ns mainGlobals m->af l.prog w (K w.params) m B (CX w) k p y [x] (sp w))
  (z:∀(w:World) (H:Hp) (a:Addr) (N:List Int),N.length<=n->AB H->aG (K w.params) H a (N.map V.int)->sp w [.ref a] H (λv _=>v= .bl true) λ_ _ _=>False)
  (A:∀(w:World) (H:Hp) (s:Shared) (e:Value) (C:Shared),CX w [] H s (λ_ _ _=>False) e C->False):
  PySem.W.WalkO q L XP E l.row.toRowW d [] (λf I=>PySem.call f I):=by
 refine Att.attach_call O t λw J S m mb p o pm cd R a I N G Y ho hd U D j i c X=>?_
 have M:=Q w _ Y
 obtain⟨y,hb,hF⟩:=F w m p _ M G.T.g D
 exact se M G.T.g G.T.b G.T.builtins G.T.nolimit X j i (Ik c r) P hF hb (λH hO hS=>z w H a N c hO hS) λH e C=>A w H S e C
noncomputable def bg(s:Stmt)(j:Nat):Stmt:=match s with
 | .ClassDef _ _ _ b _ _ _ _ _ _ _=>b.getD j (.Pass #[0,0,0,0])
 |_=>.Pass #[0,0,0,0]
noncomputable def bJ(s:Stmt):Arguments:=match s with
 | .FunctionDef _ a _ _ _ _ _ _ _ _=>a
 |_=>{ posonlyargs:=[],args:=[],vararg:=none,kwonlyargs:=[],kw_defaults:=[],kwarg:=none,defaults:=[] }
noncomputable def bf(s:Stmt):List Stmt:=match s with
 | .FunctionDef _ _ b _ _ _ _ _ _ _=>b
 |_=>[]
noncomputable def aa(s:Stmt):Scope:=match s with
 | .FunctionDef _ _ _ _ _ _ S _ _ _=>S
 |_=>{ kind:=.function,names:=[],isGenerator:=false,isCoroutine:=false }
abbrev aA:pE:=λ_ _ _ _ _ _=>False
abbrev E0:XK:=λ_ _ _=>False
theorem aY{X:Cx}:cV aA X E0:=λ_ _ _ _ _ _ _ h=>h.elim
structure aI(K:Frag)(x qual:Str)(st:Stmt)(f:Addr)(fd:FuncData):Prop where
 ex:∃(oc:Value) (od:Option Addr) (kV doc pm:Value) (an:Option Addr) (cdv ct:Value) (osl:Array (Option Value)),
  fd=fnOf x qual (bJ st) (bf st) (aa st) .none kV doc pm an cdv ct/\K.lookup f=some #[oc,od,.func fd,osl]/\codeIn K cdv qual=true
 kp:keepIn K (.ref f)=true
section
variable {P:Program}{w:World}{K:Frag}{mg:Str->Option Value}{base:Heap}
theorem aI.ok{st:Stmt}{d:Sp}(F:aI K x a st f i)(S:ai N p (aa st))(len:∀v H Q E,d v H Q E->v.length=p.length)
  (b:∀(c:Value) (A:Around) (o:List Env) (s:Shared) (H:Hp) (v:List V) (Q:VK) (E:XK),bH k (A.deeper (envOfC a (aa st) s.heap.objs.size f c))->d v H Q E->
   ∃t,me (fe aA P w K mg base N a (aa st) f c A o s H E).nox (bf st) t/\t { nx:=λ_ j=>Q .non j,rt:=Q } (gm N v) H):af P w K mg base aA (k+1) f i p d:=by
 obtain⟨m,n,kV,D,r,u,c,C,O,rfl,lk,e⟩:=F.ex
 refine yZ lk e S len λA o s H v Q E l g=>?_
 obtain⟨t,h,q⟩:=b c A o s H v Q E l g
 exact#[t,h.nox,q]
theorem aI.binds{st:Stmt}{p:List Str}(F:aI K x q st f b)
  (h:∀(kV d a:Value) (A:Option Addr) (c C:Value) (u:List Value),u.length=p.length->bindArgs (fnOf x q (bJ st) (bf st) (aa st) .none kV d a A c C) #[u,[]]=pure (p.zip u)):ax K b p []:=by
 obtain⟨O,e,kV,d,a,A,c,C,o,rfl,lk,H⟩:=F.ex
 exact .all (h kV d a A c C)
theorem rP{st:Stmt}{kV:Value}(l:K.lookup f=some #[O,e,.func (fnOf x q (bJ st) (bf st) (aa st) .none kV d p a C b),o])
  (c:codeIn K C q=true) (k:keepIn K (.ref f)=true):aI K x q st f (fnOf x q (bJ st) (bf st) (aa st) .none kV d p a C b):=#[#[O,e,kV,d,p,a,C,b,o,Z,l,c],k]
end
theorem qd(h:bH k A):A.units+1 < cLine:=LF (Nat.add_le_add_left (by decide:1<=64) _) h.units
section
variable {X:Cx}
theorem pv(i:Nat){x:Str}{p:Pos}(H:X.N[i]?=some x:=by rfl)(a:Ft X.env.scope x:=by first |exact Or.inl Z |exact Or.inr (Or.inl Z) |exact Or.inr (Or.inr Z))(b:(x==("__debug__":Str))=false:=by decide)
  (h:(x==("__classdict__":Str))=false:=by decide):PE X (.Name x p) (aW i):=Cn H a b h
end
theorem pM{A B:Prop}(h:B):if false=true then A else B:=by
 rw[Iu Ih]
 exact h
theorem wA{A B:Prop}(h:A):if true=true then A else B:=by
 rw[Io Z]
 exact h
theorem bN{c A B:Prop}[Decidable c](H:c->A)(a:¬c->B):if c then A else B:=by
 by_cases h:c
 ·rw[Io h]
  exact H h
 ·rw[Iu h]
  exact a h
def ae(H h:Hp):Prop:=∀b o,H b=some o->h b=some o
theorem ae.refl(H:Hp):ae H H:=λ_ _ h=>h
theorem ae.trans(a:ae H d)(b:ae d e):ae H e:=λc o h=>b c o (a c o h)
theorem ae.free(e:ae H a)(h:a l=Option.none):H l=Option.none:=by
 cases q:H l with
 |none=>rfl
 |some o=>
  rw[e l o q]at h
  cases h
theorem ae.seq{K:Frag}(e:ae H b)(h:aG K H a x):aG K b a x:=by
 rcases h with (h | ⟨o,h⟩) |h
 ·exact .inl (.inl (e _ _ h))
 ·exact .inl (.inr #[o,e _ _ h])
 ·exact .inr h
section
variable {prog:Program}{w:World}{A:Around}{R:Result->Shared->Prop}{s:Shared}
abbrev yK:Value->Shared->Prop:=λ_ _=>False
theorem Zt{iter:Expr}(I:Nat->Shared->Prop)
  (T:∀n s,I n s->wpAny (model prog w) A (pyNext B) (λr S=>match r with
   |none=>R (.ok .next) S
   |some v=>wpAny (model prog w) A (letOwnedTupleGo t B v) (λ_ b=>wpAny (model prog w) A (assign t e v) (λ_ d=>
     wpAny (model prog w) A (forIn l true λc r=>if r=true then do let o <- isTrue c e (eval c e);pure (ForInStep.yield o) else pure (ForInStep.yield r)) (λo a=>
      if o=true then wpAny (model prog w) A (eval E e) (λx g=>
       wpAny (model prog w) A (call (.builtin "list.append") [p,x]) (λ_ i=>∃m,m < n/\I m i) yK g) yK a
      else ∃m,m < n/\I m a) yK d) yK b) yK S) yK s)
  (n:Nat) (h:I n s):
  codeAny (model prog w) A (.compLoop (.ListComp E [#[t,iter,l,0]] k C) 0 B p e) R s:=by
 refine codeAny_loop Z I (λn s D=>?_) n h
 show wpAny _ A ((compTurn (.ListComp E [#[t,iter,l,0]] k C) 0 B p e).onRaise (λx=>do noteFrame x e;theTreesLotGoes x)) _ _ s
 refine wpAny_noted ?_
 rw[compTurn_list]
 refine HV (Ms (HV (Ln (T n s D) (λr S H=>?_) λ_ _ f=>f.elim)))
 cases r with
 |none=>exact HY H
 |some v=>
  refine HV (Ln H (λ_ b q=>?_) λ_ _ f=>f.elim)
  refine HV (Ln q (λ_ d u=>HV (Ln u (λo a j=>?_) λ_ _ f=>f.elim)) λ_ _ f=>f.elim)
  cases o with
  |false=>exact HY #[Z,j]
  |true=>
   exact HV (HV (Ln j (λx g y=>HV (Ln y (λ_ i z=>HY (HY #[Z,z])) λ_ _ f=>f.elim)) λ_ _ f=>f.elim))
end
noncomputable def a7(X:Cx)(s:Scope)(M:List Str)(c:List (Str×Addr))(C:Addr)(f:List Addr)(S:Shared)(H:Hp):Cx where
 prog:=X.prog
 w:=X.w
 K:=X.K
 mg:=X.mg
 base:=X.base
 A:=X.A
 N:=M
 s₀:=S
 H₀:=H
 env:=compEnvC s c C X.env
 outer:=X.stack
 stack:=X.stack
 ex:=f
 fn:=λ_=>false
 calm:=X.calm
 pn:=[]
 xe:=λ_ _=>False
noncomputable def Dp(n:Nat)(I:List Nat)(a:St):St:=List.replicate n none++I.map λi=>(a[i]?).getD none
structure bG(N:List Str)(sc scope:Scope)(M:List Str)(nT:Nat)(ix:List Nat):Prop where
 cell:∀y∈scope.names,y.2≠ .cell
 kind:scope.kind= .function
 loc:∀y∈scope.names,y.2= .local->scope.names.lookup y.1=some .local
 fre:∀y∈scope.names,y.2= .free->sc.names.lookup y.1=some .cell
 nms:M.drop nT=ix.map λi=>N.getD i Str.empty
 len:M.length=nT+ix.length
 vis:∀i∈ix,scope.names.lookup (N.getD i Str.empty)=some .free
theorem Ja{E:Env}(c:E.scope.kind= .function):∀{N:List (Str×NameKind)} {y:Str},N.lookup y=some .free->E.kindOf y=some .cell->
  (N.map λ(n,k)=>if (k==NameKind.free&&E.scope.kind== .function&&E.kindOf n==some .cell) then (n,NameKind.cell) else (n,k)).lookup y=some .cell
 | [],_,h,_=>by simp at h
 | (n,k)::r,y,h,b=>by
  have i:=@Ja E c r y
  show List.lookup y ((if (k==NameKind.free&&E.scope.kind== .function&&E.kindOf n==some .cell)=true then (n,NameKind.cell) else (n,k))::_)=_
  cases H:y==n with
  |true=>
   simp only[Lk,H]at h
   cases h
   have e:y=n:=by simpa using H
   subst e
   rw[Io (by rw[c,b];rfl)]
   simp [Lk]
  |false=>
   simp only[Lk,H]at h
   by_cases a:(k==NameKind.free&&E.scope.kind== .function&&E.kindOf n==some .cell)=true
   ·rw[Io a];simp only[Lk,H];exact i h b
   ·rw[Iu a];simp only[Lk,H];exact i h b
theorem Kv{E:Env}:∀{N:List (Str×NameKind)} {y:Str} {K:NameKind},
  (N.map λ(n,k)=>if (k==NameKind.free&&E.scope.kind== .function&&E.kindOf n==some .cell) then (n,NameKind.cell) else (n,k)).lookup y=some K->
  ∃k,N.lookup y=some k/\(K=k∨k= .free)
 | [],_,_,h=>by simp at h
 | (n,k)::r,y,K,h=>by
  have i:=@Kv E r y K
  have h:List.lookup y ((if (k==NameKind.free&&E.scope.kind== .function&&E.kindOf n==some .cell)=true then (n,NameKind.cell) else (n,k))::_)=some K:=h
  cases a:y==n with
  |true=>
   refine#[k,by simp only[Lk,a],?_]
   by_cases H:(k==NameKind.free&&E.scope.kind== .function&&E.kindOf n==some .cell)=true
   ·right
    simp only[Lp]at H
    simpa using H.1.1
   ·rw[Iu H]at h;simp only[Lk,a]at h;left;exact(J' h).symm
  |false=>
   have b:List.lookup y (r.map λ(n,k)=>if (k==NameKind.free&&E.scope.kind== .function&&E.kindOf n==some .cell) then (n,NameKind.cell) else (n,k))=some K:=by
    by_cases H:(k==NameKind.free&&E.scope.kind== .function&&E.kindOf n==some .cell)=true
    ·rw[Io H]at h;simp only[Lk,a]at h;exact h
    ·rw[Iu H]at h;simp only[Lk,a]at h;exact h
   obtain⟨c,e,q⟩:=i b
   exact#[c,by simp only[Lk,a];exact e,q]
noncomputable def aT(e:Env):List (Str×NameKind)->List (Str×Addr)->List (Str×Addr)
 | [],a=>a
 | (n,k)::r,a=>if k== .free then aT e r ((n,(e.cells.lookup n).getD 0)::a) else aT e r a
theorem zV{E:Env}:∀{N:List (Str×NameKind)} {acc:List (Str×Addr)},(∀y∈N,y.2= .free->∃c,E.cells.lookup y.1=some c)->(∀x c,acc.lookup x=some c->E.cells.lookup x=some c)->
  ∀x c,(aT E N acc).lookup x=some c->E.cells.lookup x=some c
 | [],_,_,b,x,c,h=>b x c h
 | (n,k)::r,acc,f,b,x,c,h=>by
  unfold aT at h
  by_cases g:(k==NameKind.free)=true
  ·rw[Io g]at h
   refine zV (λy H=>f y (II _ H)) (λX j a=>?_) x c h
   obtain⟨C,d⟩:=f (n,k) Iz (by simpa using g)
   have d:E.cells.lookup n=some C:=d
   simp only[Lk]at a
   cases i:X==n with
   |true=>
    rw[i]at a
    have e:X=n:=by simpa using i
    subst e
    rw[d]at a
    rw[d]
    exact a
   |false=>rw[i]at a;exact b _ _ a
  ·rw[Iu g]at h
   exact zV (λy H=>f y (II _ H)) b x c h
theorem qo:∀{a:List (Str×Addr)},(∃c,(x,c)∈a)->∃c,a.lookup x=some c
 | [],h=>by obtain⟨_,h⟩:=h;cases h
 | (n,c)::r,h=>by
  simp only[Lk]
  cases H:x==n with
  |true=>exact#[c,Z]
  |false=>
   obtain⟨C,h⟩:=h
   rcases List.mem_cons.mp h with e |h
   ·injection e with E _
    subst E
    simp at H
   ·exact qo #[C,h]
theorem qI:∀{N:List (Str×NameKind)} {a:List (Str×Addr)},((∃c,(x,c)∈a)∨(x,NameKind.free)∈N)->∃c,(x,c)∈aT E N a
 | [],_,h=>by
  rcases h with h |h
  ·exact h
  ·cases h
 | (n,k)::r,a,h=>by
  unfold aT
  by_cases H:(k==NameKind.free)=true
  ·rw[Io H]
   refine qI ?_
   rcases h with ⟨c,h⟩ |h
   ·exact .inl #[c,II _ h]
   ·rcases List.mem_cons.mp h with e |h
    ·injection e with b _
     subst b
     exact .inl #[_,Iz]
    ·exact .inr h
  ·rw[Iu H]
   refine qI ?_
   rcases h with h |h
   ·exact .inl h
   ·rcases List.mem_cons.mp h with e |h
    ·injection e with _ d
     subst d
     exact absurd Z H
    ·exact .inr h
theorem qy{e:Env}:∀(N:List (Str×NameKind)) (A:List (Str×Addr)),(∀y∈N,y.2= .free->∃c,e.cells.lookup y.1=some c)->
  (forIn N A (λx r=>match x with | (name,K)=>if (K==NameKind.free)=true then (do let a <- cellOf e name;pure (ForInStep.yield ((name,a)::r))) else pure (ForInStep.yield r)):Sem (List (Str×Addr)))=pure (aT e N A)
 | [],A,_=>rfl
 | (n,k)::r,A,b=>by
  have i:=λA=>qy r A λy H=>b y (II _ H)
  rw[Mi]
  unfold aT
  by_cases h:(k==NameKind.free)=true
  ·obtain⟨C,E⟩:=b (n,k) Iz (by simpa using h)
   have E:e.cells.lookup n=some C:=E
   have d:cellOf e n=pure C:=by unfold cellOf;rw[E]
   rw[Io h]
   simp only[h,MN,d,E]
   exact i _
  ·rw[Iu h]
   simp only[h]
   exact i _
theorem qA{e:Env}{S:Scope}(H:∀y∈S.names,y.2= .free->∃c,e.cells.lookup y.1=some c):closureFor S e=pure (aT e S.names []):=by
 have h:=qy S.names [] H
 exact K' (λt:Sem (List (Str×Addr))=>t >>= λs=>pure s) h
section
variable {X:Cx}{pins:List (Addr×Obj)}{σ:St}{H:Hp}{s:Shared}
theorem qW(I:ap X pins σ H s)(S:bG X.N X.env.scope a M n i):∀y∈a.names,y.2= .free->∃c,X.env.cells.lookup y.1=some c:=
 λy h e=>I.ok.has y.1 (.inl (S.fre y h e))
theorem rg{g:Heap}(I:ap X pins σ H s)(F:∀b∈Y,fc X pins H b)(P:∀b∈Y,b < s.heap.objs.size)
  (S:bG X.N X.env.scope a M n G) (Q:s.heap.objs.size<=C) (O:∀b o,s.heap.get? b=some o->g.get? b=some o) (R:g.Ns C m):
  ap (a7 X a M (aT X.env a.names []) C Y s H) [] (Dp n G σ) H { s with heap:=g,toks:=tk }:=by
 have sub:∀x c,(aT X.env a.names []).lookup x=some c->X.env.cells.lookup x=some c:=zV (qW I S) (λx c h=>by simp at h)
 have j:∀x,a.names.lookup x=some .free->∃c,(aT X.env a.names []).lookup x=some c:=λx e=>qo (qI (.inr (LC e)))
 have hex:∀x K,(relabel a X.env).names.lookup x=some K->(K= .cell∨K= .free)->a.names.lookup x=some .free:=λx K e A=>by
  obtain⟨k,t,q⟩:=Kv e
  rcases q with q |q
  ·rcases A with z |z
   ·exact absurd (q.symm.trans z) (S.cell (x,k) (LC t))
   ·rw[t,<- q,z]
  ·rw[t,q]
 refine#[#[I.ok.mod,S.kind,I.ok.glob,I.ok.blt,Q,λx y c h1 h2=>I.ok.inj x y c (sub x c h1) (sub y c h2),λx hx=>?_,λx c hx=>?_,I.ok.hd,I.ok.frames,.inl Z,λb w=>#[λz=>?_,λx c e=>?_],I.bs,Ik I.ok.bsz I.sz,λb o e w=>?_,λb w hz=>?_,I.stack,I.stkFree],
  rfl,I.bare,Un.kept O,#[m,R,λk y v t E _=>?_],λx c e=>?_,I.hok.fresh Q,λx c e=>I.freeC x c (sub x c e),λp hp=>absurd (show p∈([]:List (Addr×Obj)) from hp) OH,I.hok.kept O,?_]
 ·rcases hx with hx |hx
  ·exact j x (hex x _ hx (.inl Z))
  ·exact j x (hex x _ hx (.inr Z))
 ·exact absurd (show false=true from hx) OF
 ·have z':b=C:=z
  have:=P b w
  rw[z']at this
  exact absurd this (Nat.not_lt.mpr Q)
 ·exact(F b w).2.2.2.2.1 x c (sub x c e)
 ·rcases(F b w).2.2.2.1 with z |z
  ·exact I.ok.noex b o e z
  ·exact absurd (Ip (Ie e) (Ik I.ok.bsz z)) (Li _)
 ·rcases List.mem_cons.mp (I.stkSub b hz) with z |z
  ·exact(F b w).2.1 z
  ·exact(F b w).2.2.1 z
 ·have E:(Dp n G σ)[k]?=some (some v):=E
  have t:M[k]?=some y:=t
  unfold Dp at E
  by_cases A:k < n
  ·rw[LU (by simpa using A),OB]at E
   simp [A]at E
  ·have B:n<=k:=Nj A
   rw[LO (by simpa using B),NC,Ir]at E
   cases J:G[k - n]? with
   |none=>rw[J]at E;cases E
   |some i=>
    rw[J]at E
    have L:(σ[i]?).getD none=some v:=J' E
    have V:σ[i]?=some (some v):=by
     cases W:σ[i]? with
     |none=>rw[W]at L;cases L
     |some o=>rw[W]at L;exact K' some L
    have hi:i < X.N.length:=by rw[<- I.len];exact(List.getElem?_eq_some_iff.mp V).1
    have e7:y=X.N.getD i Str.empty:=by
     have q:(M.drop n)[k - n]?=some y:=by rw[NT];rw[Nat.add_sub_cancel' B];exact t
     rw[S.nms,Ir,J]at q
     exact(J' q).symm
    have e8:X.N[i]?=some y:=by rw[e7,HW hi,Mr,HW hi];rfl
    have d:a.names.lookup y=some .free:=by rw[e7];exact S.vis i (IA J)
    have f:X.env.scope.names.lookup y=some .cell:=S.fre (y,.free) (LC d) Z
    obtain⟨m',_,hl⟩:=I.loc
    obtain⟨u,r,l⟩:=hl i y v e8 V (.inr (.inl f))
    refine#[u,r,?_]
    rcases l with ⟨l,_⟩ | ⟨_,c,ec,o,T,U⟩
    ·have l:X.env.scope.names.lookup y=some .local:=l
     rw[f]at l
     cases l
    ·obtain⟨c',D⟩:=j y d
     have q:=sub y c' D
     rw[ec]at q
     cases q
     exact .inr #[.inl (Ja I.ok.kind d f),c,D,o,O _ _ T,U]
 ·obtain⟨v,o,T,U⟩:=I.cell x c (sub x c e)
  exact#[v,o,O _ _ T,U]
 ·show(Dp n G σ).length=M.length
  rw[S.len]
  simp [Dp]
theorem ap.track(I:ap X pins σ H s)(f:fc X pins H D)(G:X.s₀.heap.objs.size<=D)(a:aQ X.prog X.w (ah H D o) s.heap D o):ap X pins σ (ah H D o) s:=by
 have n:=f.1
 have N:∀b u,H b=some u->b≠D:=λb u e=>jk e n
 refine#[I.ok,I.os,I.bare,#[I.base.keep,I.base.slot,λb O e q i=>?_,I.base.there,λb d e=>?_,λb O u e=>?_,λb P e=>?_],I.loc,I.cell,?_,λx c e=>?_,λp h=>?_,λb u e=>?_,I.len]
 ·rw[jh (Ij (Ip (Ie e) G))]
  exact I.base.free b O e q i
 ·have q:=I.base.tups b d e
  rw[jh (N _ _ q)]
  exact q
 ·have q:=I.base.frzs b O u e
  rw[jh (N _ _ q)]
  exact q
 ·obtain⟨m,q⟩:=I.base.tbls b P e
  exact#[m,by rw[jh (N _ _ q)];exact q]
 ·rw[jh (IM f.2.1)]
  exact I.free
 ·rw[jh (f.2.2.2.2.1 x c e)]
  exact I.freeC x c e
 ·obtain⟨e,q,r⟩:=I.pin p h
  exact#[e,by rw[jh (f.2.2.2.2.2 p h)];exact q,r]
 ·by_cases g:b=D
  ·subst g
   rw[jc]at e
   cases e
   exact a
  ·rw[jh g]at e
   exact(I.hok b u e).stay (λ_ _ _ q=>q) (λc q=>by rw[jh (N _ _ q)];exact q) λc d q=>by rw[jh (N _ _ q)];exact q
noncomputable abbrev iO(u:List Value):Obj:={ cls:=.type "list",data:=.seq u.toArray u.length }
theorem Zu(u:List Value)(y:Value):({ cls:=.type "list",data:=.seq (u.toArray.push y) (u.length+1) }:Obj)=iO (u++[y]):=by
 show({ cls:=.type "list",data:=.seq (u.toArray.push y) (u.length+1) }:Obj)={ cls:=.type "list",data:=.seq (u++[y]).toArray (u++[y]).length }
 rw[Ia,Mj,List.push_toArray]
def PF(X:Cx)(i:List Expr)(t:TT):Prop:=
 ∀(pins:List (Addr×Obj)) (s:Shared) (σ:St) (H:Hp) (Q:Bool->Hp->Prop),ap X pins σ H s->t σ H Q->
  wpAny (model X.prog X.w) X.A (forIn i true λc r=>if r=true then do let o <- isTrue c X.env (eval c X.env);pure (ForInStep.yield o) else pure (ForInStep.yield r)) (TP X pins σ Q) X.xe s
def l7:TT:=λ_ H Q=>Q true H
theorem zK:PF X [] l7:=λ_ _ _ H _ I h=>wpAny_tests_nil #[H,I,h]
theorem Co{c:Expr}{t:TT}(h:PT X c t):PF X [c] t:=λpins s σ H Q I q=>wpAny_tests_one (h pins s σ H Q I q)
noncomputable def oI(I:List Nat)(σ:St):St:=I.map λi=>(σ[i]?).getD none
def eK(J:It)(n:Nat)(t:St)(g:TG)(j:TT)(k:TE)(Q:List V->Hp->Prop)(H:Hp):Prop:=
 ∃W:Nat->Nat->List V->Hp->Prop,(∃m,W 0 m [] H)/\∀i m Y H,W i m Y H->
  (J.stop i H/\Q Y H)∨(J.go i H/\Y.length < sizeLine/\∃N:List V->Hp->Prop,(∀c h,N c h->∃M,M < m/\W (i+1) M c h)/\
   ∀x d (e:St),e.length=n->J.yld i H x d->g x (e++t) d λa h=>(∃T:St,T.length=n/\a=T++t)/\j a h λb f=>if b=true then k a f λy l=>N (Y++[y]) l else N Y f)
theorem Kw{iter:Expr}
  {RR:Value->Addr->Result->Shared->Prop} 
  (I:ap X pins σ H s) (hc:X.calm=true) (T:nL X.prog X.w X.K tg J k it tn) (st:tn 0 s.heap) (hf:∀b∈k,fc X pins H b) (S:bG X.N X.env.scope scope M nT ix)
  (hg:∀cl C k s H,PG (a7 X scope M cl C k s H) tg g) (hi:∀cl C k s H,PF (a7 X scope M cl C k s H) i0 tt) (he:∀cl C k s H,PE (a7 X scope M cl C k s H) e0 te)
  (h:eK J nT (oI ix σ) g tt te Qf H)
  (h':∀D C Y m t G,(∀b o u,H b=some (.frz o u)->t b=some (.frz o u))->t D=none->ap X pins σ (ah t D (.lst Y)) G->fc X pins (ah t D (.lst Y)) C->G.heap.Ns C m->Qf Y t->RR (.ref D) C (.ok .next) G):
  wpAny (model X.prog X.w) X.A (newList []) (λacc B=>wpAny (model X.prog X.w) X.A (newFunctionEnv scope X.env.globals (aT X.env scope.names []) [] X.env.qual none .none (some X.env)) (λc0 s0=>
   codeAny (model X.prog X.w) X.A (.compStart (.ListComp e0 [#[tg,iter,i0,0]] scope p1) 0 (.ref it) acc { c0 with scope:=relabel scope X.env }) (RR acc c0.locals) s0) E B) E s:=by
 obtain⟨W,⟨m0,w0⟩,t1⟩:=h
 have h3:∀b∈k,b < s.heap.objs.size:=λb a=>by
  obtain⟨o,e,_⟩:=T.obj 0 _ st b a
  exact Ie e
 refine IR (wpAny_newFunctionEnv S.cell (by intro y hy;simp at hy) (λF l f=>?_) S.kind)
 dsimp only at l f ⊢
 generalize h4:s.heap.push { cls:=.type "list",dict:=none,data:=.seq ([]:List Value).toArray }=H2 at l f ⊢
 have hC:H2.objs.size=s.heap.objs.size+1:=by rw[<- h4,I0]
 have P:s.heap.objs.size≠H2.objs.size:=by rw[hC];exact Ij (Ls _)
 have h0:s.heap.objs.size<=H2.objs.size:=by rw[hC];exact Lu _
 have b0:∀b,b < s.heap.objs.size->b≠H2.objs.size/\b≠s.heap.objs.size:=λb a=>#[by rw[hC];exact Ij (Ml a),Ij a]
 have o0:∀b o,s.heap.get? b=some o->F.get? b=some o:=λb o e=>f.extBut b o (b0 b (Ie e)).1 (HX _ (h4▸HX _ e))
 have h5:F.get? s.heap.objs.size=some (iO []):=f.extBut _ _ P (HX _ (h4▸Ig _ Z))
 have a0:H s.heap.objs.size=none:=I.hok.fresh (Ib _)
 have h6:s.heap.objs.size∉iT X.stack:=λa=>(List.mem_cons.mp (I.stkSub _ a)).elim (λe=>absurd I.lt (by rw[<- e];exact Li _)) (I.nofs (Ib _))
 generalize hD:s.heap.objs.size=D at*
 generalize b2:H2.objs.size=C at*
 have J0:∀tk,ap (a7 X scope M (aT X.env scope.names []) C k s H) [] (Dp nT ix σ) H { s with heap:=F,toks:=tk }:=λtk=>rg I hf (by rw[hD];exact h3) S (by rw[hD];exact h0) o0 l
 have c1:∀x c,(aT X.env scope.names []).lookup x=some c->c≠D:=λx c e z=>by
  have sub:=zV (qW I S) (acc:=[]) (λx c h=>by simp at h) x c e
  obtain⟨v,o,ho,_⟩:=I.cell x c sub
  have:=Ie ho
  rw[z,hD]at this
  exact Li _ this
 have p0:∀{σ0:St} {t:Hp} {G:Shared} {U:List Value},ap (a7 X scope M (aT X.env scope.names []) C k s H) [] σ0 t G->G.heap.get? D=some (iO U)->t D=none->
   ap (a7 X scope M (aT X.env scope.names []) C k s H) [(D,iO U)] σ0 t G:=λ{σ0 t G U} I' e n=>I'.pins_of λp hp=>by
  have ep:p=(D,iO U):=by simpa using hp
  subst ep
  exact#[e,n,P,h6,λv z=>by cases z]
 have L:∀{t:Hp} {U:List Value},(∀b∈k,t b=none)->∀b∈k,fc (a7 X scope M (aT X.env scope.names []) C k s H) [(D,iO U)] t b:=λ{t U} hn b a=>
  #[hn b a,((J0 0).ok.exf b a).1,(J0 0).ok.exfs b a,.inl a,((J0 0).ok.exf b a).2,λp hp z=>by
   have ep:p=(D,iO U):=by simpa [a7] using hp
   rw[ep]at z
   have:=h3 b a
   rw[<- z]at this
   exact Li _ this]
 have l0:∀B:Shared,(∃tk,B={ s with heap:=F,toks:=tk })->
   codeAny (model X.prog X.w) X.A (.compLoop (.ListComp e0 [#[tg,iter,i0,0]] scope p1) 0 (.ref it) (.ref D) (compEnvC scope (aT X.env scope.names []) C X.env)) (RR (.ref D) C) B:=by
  rintro B ⟨tk,rfl⟩
  refine Zt (λn G=>∃i Y U ts t,ts.length=nT/\ap (a7 X scope M (aT X.env scope.names []) C k s H) [(D,iO U)] (ts++oI ix σ) t G/\au Y U/\Y.length<=sizeLine/\tn i G.heap/\(∀b∈k,t b=none)/\W i n Y t) ?_ m0
   #[0,[],[],List.replicate nT none,H,NC,p0 (J0 tk) h5 a0,.nil,Il _,T.keep _ _ _ st λb a o e=>o0 b o e,λb a=>(hf b a).1,w0]
  rintro n s1 ⟨i,Y,U,ts,Q,a1,I1,rv,hz,s7,f0,w1⟩
  rcases t1 i n Y Q w1 with ⟨stop,q⟩ | ⟨go,a2,N,hN,step⟩
  ·refine aL (T.done (a7 X scope M (aT X.env scope.names []) C k s H) Z Z Z hc i _ s1 _ Q yK I1 (L f0) s7 stop) λr s2 j=>?_
   obtain⟨hr,I2⟩:=j
   subst hr
   have IO:ap X pins σ Q s2:=I.call' (ch:=k) I2.os I2.base I2.hok I2.bare λb a=>#[(hf b a).2.2.2.1,(hf b a).2.1,(hf b a).2.2.2.2.1,(hf b a).2.2.2.2.2]
   have pD:=I2.pin (D,iO U) (by simp [a7])
   have h8:Q D=none:=pD.2.1
   have fD:fc X pins Q D:=by rw[<- hD];exact I.fpOk (Ib _) (by rw[hD];exact h8)
   have IT:ap X pins σ (ah Q D (.lst Y)) s2:=IO.track fD (by rw[<- hD];exact I.sz) #[hz,U,U.length,rv,pD.1]
   obtain⟨mC,a3,_⟩:=I2.loc
   have a4:Q C=none:=I2.free
   exact h' D C Y mC Q s2 I2.base.frzs h8 IT (I.fpOk (by rw[hD];exact h0) (by rw[jh (IM P)];exact a4)) a3 q
  ·refine aL (T.item (a7 X scope M (aT X.env scope.names []) C k s H) Z Z Z hc i _ s1 _ Q yK I1 (L f0) s7 go) λr s2 j=>?_
   obtain⟨u,hr,h2⟩:=j
   subst hr
   refine aL h2 λ_ s3 j=>?_
   obtain⟨x,H3,I3,r3,y3,O,f1⟩:=j
   have a':=I3.pinned (L f1) (T.obj _ _ O)
   refine aL (hg _ _ _ _ _ _ s3 _ H3 x u _ a' r3 (step x H3 ts a1 y3)) λ_ s4 j=>?_
   obtain⟨σ1,H4,I4,⟨t0,h1,e4⟩,q4⟩:=j
   subst e4
   refine aL (hi _ _ _ _ _ _ s4 _ H4 _ I4 q4) λb s5 j=>?_
   obtain⟨H5,I5,q5⟩:=j
   cases b with
   |false=>
    obtain⟨m',hm,w'⟩:∃m',m' < n/\W (i+1) m' Y H5:=hN _ _ q5
    refine#[m',hm,i+1,Y,U,t0,H5,h1,I5.unpinned,rv,hz,T.keep _ _ _ O λb a o e=>(I5.pin (b,o) (Iw _ (Iw _ (zd a e)))).1,λb a=>?_,w']
    obtain⟨o,e,d⟩:=T.obj _ _ O b a
    exact(I5.pin (b,o) (Iw _ (Iw _ (zd a e)))).2.1
   |true=>
    refine aL (he _ _ _ _ _ _ s5 _ H5 _ I5 q5) λv s6 j=>?_
    obtain⟨y,H6,I6,r6,q6⟩:=j
    obtain⟨m',hm,w'⟩:=hN _ _ q6
    have pD:=I6.pin (D,iO U) (Iw _ (Lv _ Iz))
    have hl:=rv.length
    have R:∀b∈k,∀o,s3.heap.get? b=some o->s6.heap.get? b=some o:=λb a o e=>(I6.pin (b,o) (Iw _ (Iw _ (zd a e)))).1
    have V:∀b∈k,H6 b=none:=λb a=>by
     obtain⟨o,e,d⟩:=T.obj _ _ O b a
     exact(I6.pin (b,o) (Iw _ (Iw _ (zd a e)))).2.1
    refine append_at (hsz:=by rw[Ic,<- hl];exact hz) pD.1 λh7 sb b1=>?_
    have I7:ap (a7 X scope M (aT X.env scope.names []) C k s H) [] (t0++oI ix σ) H6 { s6 with heap:=h7 }:=
     (I6.pins_of (pins':=[]) λp hp=>absurd hp OH).turned (t':=s6.toks) (it:=D) (λb o a e=>(sb.2 b a).trans e) pD.2.1 P (.inr (by show s.heap.objs.size<=D;rw[hD];exact Ib _)) c1 λp hp=>absurd (show p∈([]:List (Addr×Obj)) from hp) OH
    refine#[m',hm,i+1,Y++[y],U++[v],t0,H6,h1,p0 I7 (b1.trans (K' some (Zu U v))) pD.2.1,rv.append (.cons r6 .nil),by rw[Ia,Mj];exact a2,
     T.keep _ _ _ (T.keep _ _ _ O R) λb a o e=>(sb.2 b λz=>?_).trans e,V,w']
    have:=h3 b a
    rw[z]at this
    exact Li _ this
 exact codeAny_compStart_list (l0 _ #[_,Z]) (T.self _ 0 _ _ _ (T.keep _ _ _ st λb a o e=>o0 b o e) (l0 _ #[_,Z]))
def uQ(w:TI)(n:Nat)(i:List Nat)(g:TG)(t:TT)(T:TE):TE:=λσ H Q=>w σ H λJ a=>eK J n (oI i σ) g t T (λy h=>∀p,h p=none->Q (.ref p) (ah h p (.lst y))) a
theorem zi{t E iter:Expr}{i:List Expr}{a:Scope}{p:Pos}{M:List Str}{k:Nat}{l:List Nat}{W:TI}{g:TG}{r:TT}{u:TE}(v:X.calm=true)(y:PI X t iter W)(S:bG X.N X.env.scope a M k l)
  (z:∀c C f s H,PG (a7 X a M c C f s H) t g) (B:∀c C f s H,PF (a7 X a M c C f s H) i r) (G:∀c C f s H,PE (a7 X a M c C f s H) E u)
  (K:∀x,foldedSetIterable iter X.env x=pure x:=by intro _;rfl):
  PE X (.ListComp E [#[t,iter,i,0]] a p) (uQ W k l g r u):=by
 intro pins s σ H Q I h
 rw[eval_ListComp]
 refine wpAny_comprehension_free (use:=none) Z K (qA (qW I S)) S.kind S.loc (aL (y pins s σ H _ I h) λxv s1 L=>aL L λO s2 P=>?_)
 obtain⟨it,f,tn,J,H2,e,U,T,d,V,R⟩:=P
 subst e
 refine Kw (RR:=λj C=>compPost (model X.prog X.w) X.A X.xe none (EP X pins σ Q) j C) U v T d V S z B G R ?_
 intro D C ys m H' Y _ n I' F ns q
 exact#[m,ns,λh' sb=>#[.ref D,_,I'.turned (t':=Y.toks) (λb o hb e=>(sb.2 b hb).trans e) F.1 F.2.1 F.2.2.2.1 F.2.2.2.2.1 F.2.2.2.2.2,Z,q D n]]
theorem YM{t E iter:Expr}{d:List Expr}{c:Scope}{p P f:Pos}{y:Str}{i:Nat}{M:List Str}{U:Nat}{V:List Nat}{W:TI}{g:TG}{Y:TT}{te:TE}(hN:X.N.Nodup)(hy:X.N[i]?=some y)(hx:pX X.env.scope y)
  (hc:X.calm=true) (hI:PI X t iter W) (S:bG X.N X.env.scope c M U V)
  (hg:∀l C j s H,PG (a7 X c M l C j s H) t g) (hi:∀l C j s H,PF (a7 X c M l C j s H) d Y) (he:∀l C j s H,PE (a7 X c M l C j s H) E te)
  (r:swapsWith (.ListComp E [#[t,iter,d,0]] c p) (some (.Name y P)) f.line X.env=pure true:=by rfl)
  (hf:X.fn y=true∨X.env.scope.names.lookup y=some .local:=by first |exact .inl Z |exact .inr Z |assumption)
  (hs:∀x,foldedSetIterable iter X.env x=pure x:=by intro _;rfl):
  PS X (.Assign [.Name y P] (.ListComp E [#[t,iter,d,0]] c p) f) (λD σ H=>uQ W U V g Y te σ H λv H1=>D.nx (σ.set i (some v)) H1):=by
 intro pins s σ H D I h
 rw[exec_Assign_Name_used _ _ _ _ r]
 refine HV (Ms (HV ?_))
 show wpAny _ X.A (do let _ <- comprehension (.ListComp E [#[t,iter,d,0]] c p) c X.env _ (newList []) false (eval iter X.env) (some (assign (.Name y P) X.env))) _ _ s
 refine HV (aL (wpAny_comprehension_free (use:=some (assign (.Name y P) X.env)) (Q:=λ_ k=>SP X pins D .next k) Z hs (qA (qW I S)) S.kind S.loc
  (aL (hI pins s σ H _ I h) λxv s1 h1=>aL h1 λi0 s2 h2=>?_)) λ_ k hq=>HY (HY hq))
 obtain⟨it,j,tn,J,H2,e,I2,T,u,f2,R⟩:=h2
 subst e
 refine Kw (RR:=λB C=>compPost (model X.prog X.w) X.A X.xe (some (assign (.Name y P) X.env)) (λ_ k=>SP X pins D .next k) B C) I2 hc T u f2 S hg hi he R ?_
 intro Dd C ys m H' k _ n I' F ns q
 show wpAny _ X.A (assign (.Name y P) X.env (.ref Dd)) _ _ k
 refine wpAny_assign_Name (K9 I' hN hy hx (v:=.ref Dd) Z (λG K hh=>?_) hf)
 obtain⟨a,sb,ha⟩:=hh
 have L:C≠a:=by
  rcases ha with z |z
  ·rw[z];exact F.2.1
  ·exact IM (F.2.2.2.2.1 _ _ z)
 exact#[m,ns.sameBut sb L,λh' O=>#[_,_,K.turned (t':=G.toks) (λb o hb e=>(O.2 b hb).trans e) F.1 F.2.1 F.2.2.2.1 F.2.2.2.2.1 F.2.2.2.2.2,q Dd n]]
end
section
variable {X:Cx}
def Du(i j:Int):Prop:=0 < j/\j<=1000000000000000000
theorem Kh:eY X (binaryOp .FloorDiv) (rI Du λi j=>.int (i / j)):=Fv λi j _ _ _ _ _ h q=>by
 have b:(0:Int) < j:=h.1
 have c:j<=1000000000000000000:=h.2
 refine floordiv_int OG (by rw[Int.fdiv_eq_ediv_of_nonneg i OG];exact q) (.inl (PyProof.noPylong_of_log2 ?_))
 have H:j.natAbs≠0:=by omega
 have a:j.natAbs < 2 ^ 60:=by omega
 have d:j.natAbs.log2 < 60:=(Nat.log2_lt H).mpr a
 omega
theorem zW:∀{Y:List Str} {U:List Value},au (Y.map V.str) U->StrsAre U Y
 | [],_,.nil=>.nil
 |y::r,_,.cons (b:=u) h t=>by
  obtain⟨T,e⟩:∃T,u=Value.str y T:=h
  subst e
  exact .cons y T (zW t)
theorem QL:FM X "str.join" (λx a H Q=>∃(z:Str) (p:Addr) (y:List Str),x= .str z/\a=[.ref p]/\aG X.K H p (y.map V.str)/\z.length<=16/\(y.map (·.length)).sum+y.length<=1048576/\Q (.str (Txt.join z y)) H):=by
 intro P s l H x a v U Q I r R h
 obtain⟨z,p,y,rfl,rfl,b,c,d,q⟩:=h
 obtain⟨u,rfl,e⟩:=eP R
 cases e
 obtain⟨t,rfl⟩:=r
 obtain⟨i,f,g,j⟩:=I.list b
 exact join_listW g.isList (by simpa using zW f) c d λT k=>#[.str _,H,I.tok k,#[_,Z],q]
noncomputable def rq:Expr->Option V
 | .Constant (.str x) _ _=>some (.str x)
 | .Constant (.int i) _ _=>some (.int i)
 |_=>none
theorem Cj(h:rq e=some v):PE X e (tC v):=by
 cases e with
 |Constant c j p=>
  cases c with
  |str x=>cases h;exact jm
  |int i=>cases h;exact jf
  |_=>cases h
 |_=>cases h
theorem uM(h:rq e=some v):starEach (e::a) E=(false,eval e E)::starEach a E:=by
 cases e with
 |Constant c j p=>rfl
 |_=>cases h
noncomputable def rZ(e:Expr):Bool:=(rq e).isSome
noncomputable def rn(e:Expr):V:=(rq e).getD .non
theorem QM:∀{E:List Expr},E.all rZ=true->PA X E (λ_ H Q=>Q (E.map rn) H)
 | [],_=>jb
 |e::E,h=>by
  rw[Ou,Lp]at h
  obtain⟨v,a⟩:=Option.isSome_iff_exists.mp (show(rq e).isSome=true from h.1)
  have b:rn e=v:=by unfold rn;rw[a];rfl
  rw[LG,b]
  exact ja (Cj a) (QM h.2) (uM a)
theorem Zv{E:List Expr}(h:E.all rZ=true):(E.map rn).all cw=true:=by
 rw[Nk]at h ⊢
 intro v H
 obtain⟨e,a,rfl⟩:=List.mem_map.mp H
 have q:=h e a
 unfold rZ at q
 unfold rn
 cases e with
 |Constant c j p=>
  cases c with
  |str x=>rfl
  |int i=>rfl
  |_=>exact absurd q Ih
 |_=>exact absurd q Ih
def Fe(t:TS):TS:=λD b H=>∃R:St->Hp->Prop,t { D with nx:=R } b H/\∀a h,R a h->D.nx a h
theorem j8{st:Stmt}{t:TS}(h:PS X st t):PS X st (Fe t):=by
 intro p s b H D I c
 obtain⟨R,d,e⟩:=c
 refine aL (h p s b H _ I d) λf S q=>?_
 cases f with
 |next=>obtain⟨a,g,i,q⟩:=q;exact#[a,g,i,e _ _ q]
 |brk=>exact q
 |cont=>exact q
 |ret v=>exact q
theorem wB{t:St}(h:t.length=1):∃v,t=[v]:=by
 cases t with
 |nil=>cases h
 |cons v r=>
  cases r with
  |nil=>exact#[v,Z]
  |cons _ _=>cases h
theorem XA{lo:Int}{t:TE}{Q:List V->Hp->Prop}(Pv:Nat->List V->Hp->Prop)(g:Pv 0 [] H)(j:n<=sizeLine)(b:∀i Y h,Pv i Y h->Y.length<=i)
  (k:∀i Y h,i < n->Pv i Y h->t (some (.int (lo+i))::c) h λy d=>Pv (i+1) (Y++[y]) d) (l:∀Y h,Pv n Y h->Q Y h):
  eK (vt lo n) 1 c (bq 0) l7 t Q H:=by
 refine#[λi m Y h=>m=n - i/\i<=n/\Pv i Y h,#[n,OH,Il _,g],?_]
 rintro i m Y h ⟨rfl,q,p⟩
 by_cases a:i < n
 ·refine .inr #[a,LF (b i Y h p) (Ip a j),Pv (i+1),λo d P=>#[n - (i+1),OG,Z,a,P],λx d T f y=>?_]
  obtain⟨e,y⟩:=y
  subst e y
  obtain⟨v,rfl⟩:=wB f
  exact#[#[[some _],Z,Z],k i Y _ a p]
 ·have e:i=n:=by omega
  subst e
  exact .inl #[Ib _,l Y h p]
end
section
variable {κ:Type}[DecidableEq κ]
noncomputable def bX(K:List (κ×V))(k:κ):Option V:=(K.find? λa=>decide (a.1=k)).map (·.2)
noncomputable def a5(K:List (κ×V))(k:κ)(v:V):List (κ×V):=
 if (K.any λa=>decide (a.1=k))=true then K.map (λa=>if a.1=k then (a.1,v) else a) else K++[(k,v)]
noncomputable def iS(K:List (κ×V))(k:κ):List (κ×V):=K.filter λa=>decide (a.1≠k)
theorem km{p:κ×V}(e:p.1=k):bX (p::r) k=some p.2:=by simp [bX,Mz,e]
theorem kn{p:κ×V}(e:¬p.1=k):bX (p::r) k=bX r k:=by simp [bX,Mz,e]
theorem qX(k:κ):∀K:List (κ×V),(K.any λa=>decide (a.1=k))=(bX K k).isSome
 | []=>rfl
 |p::r=>by
  rw[Nf]
  by_cases e:p.1=k
  ·simp only[km e,IB e,Bool.true_or,Option.isSome_some]
  ·rw[kn e,Im e,Bool.false_or];exact qX k r
theorem Xa(k j:κ)(y:V):∀K:List (κ×V),bX (K.map λa=>if a.1=k then (a.1,y) else a) j=(bX K j).map λx=>if j=k then y else x
 | []=>rfl
 |p::r=>by
  have i:=Xa k j y r
  rw[LG]
  by_cases h:p.1=k
  ·rw[Io h]
   by_cases e:p.1=j
   ·rw[km (p:=(p.1,y)) e,km e,Nu,Io (e.symm.trans h)]
   ·rw[kn (p:=(p.1,y)) e,kn e,i]
  ·rw[Iu h]
   by_cases e:p.1=j
   ·rw[km (p:=p) e,km e,Nu,Iu (λz=>h (e.trans z))]
   ·rw[kn (p:=p) e,kn e,i]
theorem Qh(k j:κ)(y:V):∀K:List (κ×V),bX K k=none->bX (K++[(k,y)]) j=if j=k then some y else bX K j
 | [],_=>by
  by_cases e:k=j
  ·rw[Io e.symm];exact km (p:=(k,y)) e
  ·rw[Iu (λz=>e z.symm)];exact kn (p:=(k,y)) e
 |p::r,h=>by
  rw[List.cons_append]
  have H:¬p.1=k:=λz=>by rw[km z]at h;cases h
  rw[kn H]at h
  have i:=Qh k j y r h
  by_cases e:p.1=j
  ·rw[km e,km e,Iu (λz=>H (e.trans z))]
  ·rw[kn e,kn e,i]
theorem vf(K:List (κ×V))(k j:κ)(y:V):bX (a5 K k y) j=if j=k then some y else bX K j:=by
 unfold a5
 by_cases a:(K.any λb=>decide (b.1=k))=true
 ·rw[Io a,Xa]
  rw[qX]at a
  by_cases e:j=k
  ·obtain⟨x,h⟩:=Option.isSome_iff_exists.mp a
   rw[Io e,e,h,Nu,Io Z]
  ·rw[Iu e]
   cases bX K j with
   |none=>rfl
   |some x=>rw[Nu,Iu e]
 ·rw[Iu a]
  refine Qh k j y K ?_
  rw[qX]at a
  cases q:bX K k with
  |none=>rfl
  |some x=>rw[q]at a;exact(a Z).elim
theorem qm(K:List (κ×V))(k:κ)(v:V):(a5 K k v).length<=K.length+1:=by
 unfold a5
 split
 ·rw[HZ];omega
 ·rw[Ia,IH,Oc];omega
theorem dG.isSome_eq(r:dG o u):o.isSome=u.isSome:=by
 cases o with
 |none=>cases u with
  |none=>rfl
  |some _=>exact(show False from r).elim
 |some _=>cases u with
  |none=>exact(show False from r).elim
  |some _=>rfl
theorem dG.getD(r:dG o u)(R:aD d D):aD (o.getD d) (u.getD D):=by
 cases o with
 |none=>cases u with
  |none=>exact R
  |some _=>exact(show False from r).elim
 |some _=>cases u with
  |none=>exact(show False from r).elim
  |some _=>exact r
theorem KV.val(r:KV a v)(k:κ):dG (bX a k) (valueAt v k):=by
 unfold KV at r
 induction r with
 |nil=>exact True.intro
 | @cons p q P Q h t i=>
  obtain⟨H,c⟩:=h
  by_cases e:p.1=k
  ·have E:q.1=k:=H.symm.trans e
   have b:valueAt (q::Q) k=some q.2:=by simp [valueAt,Mz,E]
   rw[km e,b];exact c
  ·have E:¬q.1=k:=λz=>e (H.trans z)
   have b:valueAt (q::Q) k=valueAt Q k:=by simp [valueAt,Mz,E]
   rw[kn e,b];exact i
theorem KV.any(r:KV a v)(k:κ):(a.any λK=>decide (K.1=k))=v.any λK=>decide (K.1=k):=by
 unfold KV at r
 induction r with
 |nil=>rfl
 |cons h t i=>rw[Nf,Nf,i,h.1]
theorem KV.repl(r:KV a v)(k:κ)(R:aD y u):
  KV (a.map λK=>if K.1=k then (K.1,y) else K) (v.map λK=>if K.1=k then (K.1,u) else K):=by
 unfold KV at r ⊢
 induction r with
 |nil=>exact .nil
 | @cons p q P Q h t i=>
  rw[LG,LG]
  refine .cons ?_ i
  obtain⟨H,b⟩:=h
  by_cases e:p.1=k
  ·rw[Io e,Io (H.symm.trans e)];exact#[H,R]
  ·rw[Iu e,Iu (λz=>e (H.trans z))];exact#[H,b]
theorem KV.put(r:KV a v)(k:κ)(R:aD y u):KV (a5 a k y) (stored v k u):=by
 unfold a5 stored
 rw[r.any k]
 by_cases e:(v.any λK=>decide (K.1=k))=true
 ·rw[Io e,Io e];exact r.repl k R
 ·rw[Iu e,Iu e];exact Paired.snoc r #[Z,R]
theorem KV.drop(r:KV c v)(k:κ):KV (iS c k) (without v k):=by
 unfold KV at r ⊢
 unfold iS without
 induction r with
 |nil=>exact .nil
 | @cons p q P Q h t i=>
  obtain⟨H,d⟩:=h
  rw[List.filter_cons,List.filter_cons]
  by_cases e:p.1=k
  ·have a:¬decide (p.1≠k)=true:=by simp [e]
   have b:¬decide (q.1≠k)=true:=by simp [H.symm.trans e]
   rw[Iu a,Iu b];exact i
  ·have E:¬q.1=k:=λz=>e (H.trans z)
   have a:decide (p.1≠k)=true:=by simp [e]
   have b:decide (q.1≠k)=true:=by simp [E]
   rw[Io a,Io b];exact .cons #[H,d] i
theorem KV.length(r:KV k v):k.length=v.length:=Paired.length r
theorem Xc(K:List (κ×V))(k:κ):(iS K k).length<=K.length:=MV _ _
end
theorem JU{P:Program}(r:aD (kV k) u):(aR P w).is k u=true:=by
 cases k with
 |inl i=>obtain⟨t,e⟩:=(show ∃t,u=Value.int i t from r);subst e;exact Xy P w i t
 |inr x=>obtain⟨t,e⟩:=(show ∃t,u=Value.str x t from r);subst e;exact Xz P w x t
theorem Qi{P:Program}:∀{K:List bE} {u:List Value},au (K.map kV) u->ItemsAre (aR P w) K u
 | [],_,r=>by rw[List.map_nil]at r;cases r;exact .nil
 |k::K,_,r=>by
  rw[LG]at r
  cases r with
  |cons h t=>exact .cons (JU h) (Qi t)
abbrev KT(H:Hp):List (List bE×V)->List (List bE×Addr×Value)->Prop:=Paired λp q=>p.1=q.1/\H q.2.1=some (.tup (p.1.map kV))/\aD p.2 q.2.2
theorem KT.val(r:KT H a x)(k:List bE):dG (bX a k) ((atKey x k).map (·.2)):=by
 induction r with
 |nil=>exact True.intro
 | @cons p q P Q h t i=>
  obtain⟨c,_,d⟩:=h
  by_cases e:p.1=k
  ·have E:q.1=k:=c.symm.trans e
   have b:atKey (q::Q) k=some q.2:=by simp [atKey,Mz,E]
   rw[km e,b];exact d
  ·have E:¬q.1=k:=λz=>e (c.trans z)
   have b:atKey (q::Q) k=atKey Q k:=by simp [atKey,Mz,E]
   rw[kn e,b];exact i
theorem KT.repl(r:KT H b x)(k:List bE)(R:aD y u):
  KT H (b.map λK=>if K.1=k then (K.1,y) else K) (x.map (putAt k u)):=by
 induction r with
 |nil=>exact .nil
 | @cons p q P Q h t i=>
  rw[LG,LG]
  refine .cons ?_ i
  obtain⟨a,c,d⟩:=h
  unfold putAt
  by_cases e:p.1=k
  ·rw[Io e,Io (a.symm.trans e)];exact#[a,c,R]
  ·rw[Iu e,Iu (λz=>e (a.trans z))];exact#[a,c,d]
theorem KT.put(r:KT H a x)(k:List bE)(h:H b=some (.tup (k.map kV)))(R:aD y u):
  KT H (a5 a k y) (storedH x k b u):=by
 have e:(a.any λK=>decide (K.1=k))=(atKey x k).isSome:=by
  rw[qX,(r.val k).isSome_eq,Option.isSome_map]
 unfold a5 storedH
 rw[e]
 by_cases q:(atKey x k).isSome=true
 ·rw[Io q,Io q];exact r.repl k R
 ·rw[Iu q,Iu q];exact Paired.snoc r #[Z,h,R]
theorem KT.keeps{h:Hp}(r:KT H k x)(a:∀b y,H b=some (.tup y)->h b=some (.tup y)):KT h k x:=
 Paired.mapP r λ_ _ z=>#[z.1,a _ _ z.2.1,z.2.2]
section
variable {P:Program}{w:World}{H:Hp}{h:Heap}{a:Addr}
theorem Ai(o:eL P w H h)(e:Rd H a u):aQ P w H h a u:=e.ok o
theorem JV(o:eL P w H h)(e:Rd H a (.dK k)):k.length<=sizeLine/\(a==sysModules)=false/\∃v,KV k v/\h.DictOf (aR P w) a v:=
 show aQ P w H h a (.dK k) from Ai o e
theorem yO(o:eL P w H h)(e:H a=some (.dK k)):k.length<=sizeLine/\(a==sysModules)=false/\∃v,KV k v/\h.DictOf (aR P w) a v:=JV o (.inl e)
theorem J8{k:List bE}(O:eL P w H h)(e:H a=some (.tup (k.map kV))):(tupleKind (aR P w)).is h k a:=by
 obtain⟨_,i,r,o,b,c,n,d⟩:=(show aQ P w H h a (.tup (k.map kV)) from O a _ e)
 exact#[o,i.toArray,n,b,c,d,by simpa using Qi r]
theorem K6(O:eL P w H h)(e:Rd H a (.dT k)):k.length<=sizeLine/\(a==sysModules)=false/\
  ∃X,KT H k X/\h.DictOfH (tupleKind (aR P w)) a X:=by
 obtain⟨z,y,X,r,o,E,c,d,f,g,i,j⟩:=(show aQ P w H h a (.dT k) from Ai O e)
 refine#[z,y,X,r,o,E,c,d,f,g,i,λx hx=>?_,j]
 have all:∀{l:List (List bE×V)} {m:List (List bE×Addr×Value)},KT H l m->∀x∈m,(tupleKind (aR P w)).is h x.1 x.2.1:=by
  intro l m q
  induction q with
  |nil=>intro x hx;exact nomatch hx
  | @cons p q n Q b t I=>
   intro x hx
   rcases List.mem_cons.mp hx with e |hx
   ·subst e
    exact J8 O (by rw[<- b.1];exact b.2.1)
   ·exact I x hx
 exact all r x hx
theorem DX(o:eL P w H h)(e:H a=some (.dT k)):k.length<=sizeLine/\(a==sysModules)=false/\
  ∃x,KT H k x/\h.DictOfH (tupleKind (aR P w)) a x:=K6 o (.inl e)
end
def fb(H:Hp)(a:Addr)(y:V)(r:Option V):Prop:=
 (∃K k,Rd H a (.dK K)/\y=kV k/\r=bX K k)∨∃K k b,Rd H a (.dT K)/\y= .ref b/\H b=some (.tup (k.map kV))/\r=bX K k
def nE(H:Hp)(a:Addr)(y v:V)(h:Hp):Prop:=
 (∃K k,H a=some (.dK K)/\y=kV k/\K.length < sizeLine/\h=ah H a (.dK (a5 K k v)))∨
 ∃K k b,H a=some (.dT K)/\y= .ref b/\H b=some (.tup (k.map kV))/\K.length < sizeLine/\h=ah H a (.dT (a5 K k v))
theorem fb.k{H:Hp}{k:bE}(e:H a=some (.dK b)):fb H a (kV k) (bX b k):=.inl #[b,k,.inl e,Z,Z]
theorem nE.k{H:Hp}{k:bE}(e:H a=some (.dK b))(h:b.length < sizeLine):nE H a (kV k) v (ah H a (.dK (a5 b k v))):=.inl #[b,k,e,Z,h,Z]
section
variable {X:Cx}{pins:List (Addr×Obj)}{σ:St}{H:Hp}{s:Shared}{a:Addr}{y v:V}{u r:Value}{o:Option V}{A:Around}{E:Value->Shared->Prop}
theorem ap.big(I:ap X pins σ H s):sysModules < s.heap.objs.size:=by
 have h:mainGlobals < s.heap.objs.size:=(I.mod.glob.keeps I.bk).lt
 exact Nat.lt_trans OF h
theorem Zw{Q:Value->Shared->Prop}(m:A.units+1 < cLine)(I:ap X pins σ H s)(g:fb H a y (some v))(j:aD y u)(h:∀W S,ap X pins σ H S->aD v W->Q W S):
  wpAny (model X.prog X.w) A (getItem (.ref a) u) Q E s:=by
 rcases g with ⟨K,k,e,d,l⟩ | ⟨K,k,b,e,d,n,l⟩
 ·subst d
  obtain⟨z,q,t,R,D⟩:=JV I.hok e
  obtain⟨W,f,c⟩:=dG.some_of (v:=v) (o:=valueAt t k) (by rw[l];exact R.val k)
  exact wpAny_getItem_of (JU j) D.mapOf f (h W _ (I.tok _) c)
 ·subst d
  cases (show u=Value.ref b from j)
  obtain⟨z,q,x,R,D⟩:=K6 I.hok e
  obtain⟨W,f,c⟩:=dG.some_of (v:=v) (o:=(atKey x k).map (·.2)) (by rw[l];exact R.val k)
  obtain⟨p,B,i⟩:=Option.map_eq_some_iff.mp f
  refine wpAny_getItem_heap (Ng m) (J8 I.hok n) D B ?_
  rw[i]
  exact h W _ (I.tok _) c
theorem Ga{Q:Value->Shared->Prop}(i:A.units+1 < cLine)(I:ap X pins σ H s)(g:fb H a y o)(f:aD y u)(h:∀S,ap X pins σ H S->Q (.bool o.isSome) S):
  wpAny (model X.prog X.w) A (compareOp .In u (.ref a)) Q E s:=by
 rcases g with ⟨K,k,e,c,l⟩ | ⟨K,k,b,e,c,j,l⟩
 ·subst c
  obtain⟨z,d,m,R,D⟩:=JV I.hok e
  refine wpAny_in_of (JU f) d D.mapOf ?_
  rw[<- (R.val k).isSome_eq,<- l]
  exact h _ (I.tok _)
 ·subst c
  cases (show u=Value.ref b from f)
  obtain⟨z,d,x,R,D⟩:=K6 I.hok e
  refine wpAny_in_heap (Ng i) (J8 I.hok j) d D ?_
  have q:=(R.val k).isSome_eq
  rw[Option.isSome_map]at q
  rw[<- q,<- l]
  exact h _ (I.tok _)
theorem QN(I:ap X pins σ H s)(m:DG (H a))(c:Heap.SameBut a s.heap h)(d:∃q,h.get? a=some q)(n:aQ X.prog X.w (ah H a O) h a O):
  ap X pins σ (ah H a O) { s with heap:=h,toks:=t }:=
 I.write (x:=a) (e:=a) m (.inl Z) (λb q f z=>(c.2 b f).trans z) d n
theorem QB{P:Program}{h:Heap}{k:List (bE×V)}(z:k.length<=sizeLine)(c:(a==sysModules)=false)(R:KV k b)(d:h.DictOf (aR P w) a b):
  aQ P w e h a (.dK k):=#[z,c,b,R,d]
theorem Zx{Q:Unit->Shared->Prop}(J:A.units+1 < cLine)(I:ap X pins σ H s)(g:nE H a y v L)(x:aD y u)(B:aD v r)(h:∀S,ap X pins σ L S->Q () S):
  wpAny (model X.prog X.w) A (setItem (.ref a) u r) Q E s:=by
 rcases g with ⟨K,k,e,i,l,j⟩ | ⟨K,k,b,e,i,C,l,j⟩
 ·subst i j
  obtain⟨z,m,M,R,D⟩:=yO I.hok e
  have n:M.length<=sizeLine:=by rw[<- R.length];exact z
  have p:(a5 K k v).length<=sizeLine:=by have:=qm K k v;omega
  refine wpAny_setItem_pairs (hsz:=n) (JU x) D λF d t=>h _ ?_
  have N:∃q,F.get? a=some q:=let #[q,_,_,f,_]:=d;#[q,f]
  exact QN I (by rw[e];exact True.intro) t N (QB p m (R.put k B) d)
 ·subst i j
  cases (show u=Value.ref b from x)
  obtain⟨z,m,O,R,D⟩:=DX I.hok e
  have n:O.length<=sizeLine:=by rw[<- Paired.length R];exact z
  have p:(a5 K k v).length<=sizeLine:=by have:=qm K k v;omega
  refine wpAny_setItem_heap (hsz:=n) (Ng J) (J8 I.hok C) D λF d t=>h _ ?_
  obtain⟨q,P,T,f,U,W,Y,_,h5⟩:=d
  refine QN I (by rw[e];exact True.intro) t #[q,f] #[p,m,_,(R.put k C B).keeps λc ys G=>?_,q,P,T,f,U,W,Y,h5]
  rw[jh (jO G e (λz=>nomatch z))]
  exact G
end
section
variable {X:Cx}{pins:List (Addr×Obj)}{σ:St}{H:Hp}{s:Shared}{a:Addr}{kvs:List (bE×V)}{k:bE}{u:Value}{A:Around}{E:Value->Shared->Prop}
theorem DS{Q:Value->Shared->Prop}(I:ap X pins σ H s)(e:H a=some (.dK kvs))(R:aD (kV k) u)(l:bX kvs k=some v)(c:m=[]∨∃x,m=[x])
  (h:∀W S,ap X pins σ (ah H a (.dK (iS kvs k))) S->aD v W->Q W S):wpAny (model X.prog X.w) A (call (.builtin "dict.pop") (.ref a::u::m)) Q E s:=by
 obtain⟨z,g,f,r,D⟩:=yO I.hok e
 obtain⟨W,j,b⟩:=dG.some_of (v:=v) (o:=valueAt f k) (by rw[<- l];exact r.val k)
 have n:(keyPart u).isSome=true:=by
  cases k with
  |inl i=>obtain⟨t,q⟩:=(show ∃t,u=Value.int i t from R);subst q;rfl
  |inr x=>obtain⟨t,q⟩:=(show ∃t,u=Value.str x t from R);subst q;rfl
 have p:argsOk "dict.pop" #[.ref a::u::m,[]]:=by
  rcases c with q | ⟨x,q⟩
  ·subst q;exact PySem.F.args_dict_pop_2 _ _
  ·subst q;exact PySem.F.args_dict_pop_3 _ _ _
 refine call_meetsIn PySem.F.slot_dict_pop D.typeIs PySem.F.entry_dict_pop p (meets_dict_pop_there (aR X.prog X.w) a (JU R) m c n)
  #[f,W,D,by rw[<- r.length];exact z,j,λy d B=>h W _ ?_ b]
 have C:∃q,y.get? a=some q:=let #[q,_,_,G,_]:=d;#[q,G]
 exact QN I (by rw[e];exact True.intro) B C (QB (Ik (Xc kvs k) z) g (r.drop k) d)
end
def DH(i:Expr):Prop:=∀o I,subscripted i false o I=operate [o,I] (getItem o I)
theorem yn{id:String}
  (k:typeLookup (.type T) "__getitem__"=pure (some (.builtin id))) (l:DH a)
  (h:wpAny (model p w) A (eval v e) (λo b=>wpAny (model p w) A (eval a e) (λi S=>S.TypeIs o T/\wpAny (model p w) A (getItem o i) Q E S) E b) E s):
  wpAny (model p w) A (eval (.Subscript v a m) e) Q E s:=by
 refine Subscript_ (Ln h (λo b d=>Ln d (λi S H=>?_) λ_ _ x=>x) λ_ _ x=>x)
 obtain⟨j,H⟩:=H
 unfold subscriptTail
 refine HV ?_
 rw[getitemInPython_of_ne j.not_modules]
 refine HV (LN j k ?_)
 have f:wpAny (model p w) A (subscripted a false o i) (λr c=>wpAny (model p w) A (letTemporaryGo v o r >>= λ_=>pure r) Q E c) E S:=by
  rw[l o i]
  exact wpAny_operating (Ln H (λr c g=>HV (wpAny_letTemporaryGo (HY g))) λ_ _ x=>x)
 first
  |exact HY (HV f)
  |exact HV (HY (HV f))
  |exact HV f
theorem XB{X:Cx}(I:ap X p c H s)(g:fb H a y o):s.TypeIs (.ref a) "dict":=by
 rcases g with ⟨K,k,e,_,_⟩ | ⟨K,k,b,e,_,_,_⟩
 ·obtain⟨_,_,v,_,d⟩:=JV I.hok e
  exact d.typeIs
 ·obtain⟨_,_,x,_,d⟩:=K6 I.hok e
  exact d.typeIs
inductive uR(Q:VK)(x y:V)(b:Hp):Prop
 |mk(a v:_)(_:x= .ref a)(_:fb b a y (some v))(_:Q v b)
def Fc(t T:TE):TE:=λa H Q=>t a H λx h=>T a h (uR Q x)
inductive Ar(Q:VK)(y x:V)(b:Hp):Prop
 |mk(a o:_)(_:x= .ref a)(_:fb b a y o)(_:Q (.bl o.isSome) b)
def GG(t T:TE):TE:=λa H Q=>t a H λy h=>T a h (Ar Q y)
inductive tK(D:aZ)(d:St)(v x y:V)(b:Hp):Prop
 |mk(a c:_)(_:x= .ref a)(_:nE b a y v c)(_:D.nx d c)
def tJ(t T b:TE):TS:=λD a H=>b a H λv h=>t a h λx c=>T a c (tK D a v x)
section
variable {X:Cx}{o i e value:Expr}{pos pos' tpos:Pos}{td ty tv:TE}
theorem xA(d:X.A.units+1 < cLine)(f:PE X o td)(j:PE X i ty)(k:DH i):PE X (.Subscript o i pos) (Fc td ty):=by
 intro p s b H Q I h
 refine yn PySem.F.slot_dict_getitem.lookup k (aL (f p s b H _ I h) λu S #[x,l,m,R,q]=>aL (j p S b l _ m q) λC D z=>?_)
 obtain⟨y,n,c,t,a,v,E,g,w⟩:=z
 subst E
 obtain rfl:u=Value.ref a:=R
 exact#[XB c g,Zw d c g t λW G B r=>#[v,n,B,r,w]]
theorem Cd(c:X.A.units+1 < cLine)(d:PE X i ty)(f:PE X o td):PC X .In i o (GG ty td):=by
 intro p s b H Q I h
 refine aL (d p s b H _ I h) λv S #[y,j,k,r,q]=>aL (f p S b j _ k q) λu w z=>?_
 obtain⟨x,l,m,R,a,O,E,g,n⟩:=z
 subst E
 obtain rfl:u=Value.ref a:=R
 exact Ga c m g r λB t=>#[.bl O.isSome,l,t,Z,n]
theorem qQ(c:X.A.units+1 < cLine)(d:PE X o td)(f:PE X i ty)(j:PE X value tv)(k:swapsWith value (some (.Subscript o i pos')) pos.line X.env=pure false):
  PS X (.Assign [.Subscript o i pos'] value pos) (tJ td ty tv):=by
 intro p s b H D I h
 refine wpAny_Assign_Subscript (aL (j p s b H _ I h) λr S #[v,l,m,R,q]=>aL (d p S b l _ m q) λu n #[x,t,w,B,Q]=>aL (f p n b t _ w Q) λL M z=>?_) k
 obtain⟨y,N,C,E,a,F,G,g,J⟩:=z
 subst G
 obtain rfl:u=Value.ref a:=B
 exact Zx c C g E R λO K=>#[b,F,K,J]
end
theorem rE{P:Program}(h:Heap)(a:sysModules < h.objs.size):aQ P w H (h.push { cls:=.type "dict",data:=.dict (List.toArray []) }) h.objs.size (.dK []):=
 #[Il _,beq_eq_false_iff_ne.mpr (IM (Ij a)),[],.nil,Heap.DictOf.new h]
def C7:TE:=λ_ H Q=>∀p,H p=none->Q (.ref p) (ah H p (.dK []))
section
variable {X:Cx}{pos:Pos}
theorem Xd:PE X (.Dict [] [] pos) C7:=λp s b H Q I h=>
 wpAny_Dict_empty #[.ref s.heap.objs.size,_,I.laid (a:=s.heap.objs.size) (o:=.dK []) (t':=s.toks) (λ_ _ q=>HX _ q) (Ib _) (rE s.heap I.big),Z,h _ (I.hok.fresh (Ib _))]
end
noncomputable def cX(k m:List (bE×V)):List (bE×V):=m.foldl (λa K=>a5 a K.1 K.2) k
theorem KV.merge:∀{m:List (bE×V)} {R:List (bE×Value)} {k:List (bE×V)} {v:List (bE×Value)},KV m R->KV k v->KV (cX k m) (merged v R):=by
 intro m R k v r
 unfold KV at r
 induction r generalizing k v with
 |nil=>intro q;exact q
 | @cons p q P Q h t i=>
  intro a
  have e:KV (a5 k p.1 p.2) (stored v q.1 q.2):=by
   have:=a.put p.1 h.2
   rw[<- h.1];exact this
  exact i e
theorem qB:∀(m k:List (bE×V)),(cX k m).length<=k.length+m.length
 | [],k=>by show k.length<=k.length+0;omega
 |p::r,k=>by
  have h:=qB r (a5 k p.1 p.2)
  have H:=qm k p.1 p.2
  show(cX (a5 k p.1 p.2) r).length<=_
  rw[IH];omega
structure M2(X:Cx)(o:Expr)(m:Str)(apos:Pos)(e f:Expr)(cpos:Pos):Prop where
 base:attributeBase o m X.env (eval o X.env)=eval o X.env
 few:((backTo cpos (starEach [e,f] X.env)).all (λx=>!x.1)&&(backToKw cpos (keywordEach [] X.env)).all (λx=>x.1.isSome)
  &&decide (([e,f]:List Expr).length+([]:List Keyword).length+(if ([]:List Keyword).isEmpty then 0 else 1) < 30))=true
 line:(apos.endLine==cpos.line)=true
 trees:backTo cpos (starEach [e,f] X.env)=[(false,eval e X.env),(false,eval f X.env)]
def Hd(H:Hp)(a:Addr):Prop:=(∃k,Rd H a (.dK k))∨∃k,Rd H a (.dT k)
theorem A7{X:Cx}(I:ap X p g H s)(d:Hd H a):
  s.TypeIs (.ref a) "dict"/\(∀b,Value.ref a= .ref b->∃o,s.heap.get? b=some o/\o.dict=none)/\(a==sysModules)=false:=by
 rcases d with ⟨k,e⟩ | ⟨k,e⟩
 ·obtain⟨_,h,v,_,D⟩:=JV I.hok e
  refine#[D.typeIs,λb q=>?_,h]
  cases q
  obtain⟨o,_,_,c,f,_⟩:=D
  exact#[o,c,f.2.1]
 ·obtain⟨_,h,x,_,D⟩:=K6 I.hok e
  refine#[D.typeIs,λb q=>?_,h]
  cases q
  obtain⟨o,_,_,c,f,_⟩:=D
  exact#[o,c,f.2.1]
section
variable {X:Cx}{pins:List (Addr×Obj)}{σ:St}{H:Hp}{s:Shared}{a:Addr}{y d:V}{u r:Value}{o:Option V}{A:Around}{E:Value->Shared->Prop}
theorem AS{Q:Value->Shared->Prop}(m:A.units+1 < cLine)(I:ap X pins σ H s)(g:fb H a y o)(i:aD y u)(j:aD d r)(h:∀W S,ap X pins σ H S->aD (o.getD d) W->Q W S):
  wpAny (model X.prog X.w) A (call (.builtin "dict.get") [.ref a,u,r]) Q E s:=by
 rcases g with ⟨K,k,e,c,l⟩ | ⟨K,k,b,e,c,n,l⟩
 ·subst c
  obtain⟨z,f,v,R,D⟩:=JV I.hok e
  refine call_meetsIn NB D.typeIs PySem.F.entry_dict_get (OA _ _ _) (meets_dict_get_default (aR X.prog X.w) a (JU i) f r) #[_,D.mapOf,h _ _ (I.tok _) ?_]
  rw[l]
  exact(R.val k).getD j
 ·subst c
  cases (show u=Value.ref b from i)
  obtain⟨z,f,x,R,D⟩:=K6 I.hok e
  refine call_meetsIn NB D.typeIs PySem.F.entry_dict_get (OA _ _ _) (meetsH_dict_get_default (tupleKind (aR X.prog X.w)) a b f r) #[Ng m,k,x,J8 I.hok n,D,h _ _ (I.tok _) ?_]
  rw[l]
  exact(R.val k).getD j
end
inductive pw(d c:TE)(e:St)(Q:VK)(x:V)(b:Hp):Prop
 |mk(a:_)(_:x= .ref a)(_:Hd b a)(_:d e b λy H2=>c e H2 λz H3=>∃o,fb H3 a y o/\Q (o.getD z) H3)
def C6(t T b:TE):TE:=λa H Q=>t a H (pw T b a Q)
section
variable {X:Cx}{o e f:Expr}{apos cpos:Pos}{td ty tx:TE}
theorem Ki(j:X.A.units+1 < cLine)(k:PE X o td)(l:PE X e ty)(n:PE X f tx)(m:M2 X o "get" apos e f cpos):PE X (.Call (.Attribute o "get" apos) [e,f] [] cpos) (C6 td ty tx):=by
 intro p s b H Q I h
 refine wpAny_Call_method m.base m.few m.line Oy NB PySem.F.type_dict_get (aL (k p s b H _ I h) λu S c=>?_)
 obtain⟨x,q,i,R,a,E,d,t⟩:=c
 subst E
 obtain rfl:u=Value.ref a:=R
 obtain⟨T,v,_⟩:=A7 i d
 refine#[T,v,?_]
 rw[m.trees]
 refine NO Z (Calls.evalArgs_plain (Ma (aL (l p S b q _ i t) λO w #[y,B,C,D,G]=>
  Ma (aL (n p w b B _ C G) λP U #[z,J,K,L,V,g,M]=>Mw ?_))))
 exact AS j K g D L λW Y N r=>#[_,J,N,r,M]
end
section
variable {X:Cx}{pins:List (Addr×Obj)}{σ:St}{H:Hp}{s:Shared}{a:Addr}{kvs:List (bE×V)}{A:Around}{E:Value->Shared->Prop}
theorem rB{Q:Value->Shared->Prop}(I:ap X pins σ H s)(e:Rd H a (.dK kvs))(h:∀p S,H p=none->ap X pins σ (ah H p (.dK kvs)) S->Q (.ref p) S):wpAny (model X.prog X.w) A (call (.type "dict") [.ref a]) Q E s:=by
 obtain⟨z,f,v,r,D⟩:=JV I.hok e
 refine kt_call_dict f D (by rw[<- r.length];exact z) λi d g=>?_
 refine h _ _ (I.hok.fresh (Ib _)) (I.laid (a:=s.heap.objs.size) (o:=.dK kvs) (t':=s.toks) (λb q c=>?_) (Ib _) (QB z (beq_eq_false_iff_ne.mpr (IM (Ij I.big))) r d))
 exact(g.2 b (Ij (Ie c))).trans (HX _ c)
end
section
variable {X:Cx}{pins:List (Addr×Obj)}{σ:St}{H:Hp}{s:Shared}
theorem Qj:eJ X (.type "dict") (λx H Q=>∃a k,x=[.ref a]/\H a=some (.dK k)/\∀p,H p=none->Q (.ref p) (ah H p (.dK k))):=by
 intro pins s σ H x U Q I r h
 obtain⟨a,k,rfl,b,q⟩:=h
 obtain⟨u,rfl,R⟩:=eP r
 cases R
 exact rB I (.inl b) λp S n i=>#[.ref p,_,i,Z,q p n]
end
section
open PySem.W PySem.Calls Builtin Builtin.ObjectAttr
variable {prog:Program}{w:World}{A:Around}{E:Value->Shared->Prop}{s:Shared}{K:Frag}{x C:Addr}{ox:Obj}{od:Option Obj}{name:Str}
structure p8(K:Frag)(C:Addr):Prop where
 ga:findIn K (.ref C) "__getattribute__"=some (some (.builtin "BaseException.__getattribute__"))
 gh:findIn K (.ref C) "__getattr__"=some none
 sa:findIn K (.ref C) "__setattr__"=some (some (.builtin "object.__setattr__"))
 cl:findIn K (.ref C) "__class__"=some (some (.builtin "object.__class__"))
 gt:specialIn K (.builtin "object.__class__") "__get__"=some (some (.builtin "getset_descriptor.__get__"))
 tk:takesIn K (.builtin "object.__class__")=some true
 mb:mroIn K C (.type "BaseException")=some true
 mo:mroIn K C (.type "object")=some true
 hd:hasDictIn K C=true
abbrev pH:List Value:=[.type "ValueError",.type "Exception",.type "BaseException",.type "object"]
end
section
open PySem.W PySem.Calls
variable {prog:Program}{w:World}{A:Around}{E:Value->Shared->Prop}{R:Result->Shared->Prop}{K:Frag}{h:Heap}{g:Array GenState}{d:Drawn}{t:Nat}{os:OsState}{C B:Addr}
theorem Zy(q:excIn K C pH "ValueError.__new__"=true):(∃p q N r f a s sub u c D k i j m o,K.lookup C=some (excClassObj p q C N r f a s sub u c D k i j m o "ValueError.__new__")/\tailIn K pH f=true/\nsOkIn K N=true/\nsIn K N "__init__"=some none):=by
 unfold excIn at q
 split at q
 ·rename_i D z S F
  split at q
  ·rename_i O f k i j m n o x y
   simp only[Lp,beq_iff_eq,Bool.not_eq_true']at q
   obtain⟨⟨⟨⟨⟨rfl,rfl⟩,H⟩,G⟩,b⟩,e⟩:=q
   obtain⟨p,r,M,I,Q,J,s,sub,u,c,L⟩:=z
   dsimp only at x H b e
   subst x H
   have v:S=(List.toArray [k,i,j,m,some (.builtin "ValueError.__new__"),o]):=by
    obtain⟨l⟩:=S
    simp only at y
    rw[y]
   subst v
   exact#[p,Q,I,r,f,J,s,sub,u,c,D,k,i,j,m,o,F,G,b,e]
  ·cases q
 ·cases q
end
theorem aQ.obj{P:Program}{a:Addr}(x:aQ P w H h a o):∃u,h.get? a=some u:=by
 cases o with
 |lst X=>obtain⟨_,_,_,_,e⟩:=x;exact#[_,e]
 |tup X=>obtain⟨_,_,_,o,e,_⟩:=x;exact#[_,e]
 |dK k=>obtain⟨_,_,_,_,o,_,_,e,_⟩:=x;exact#[_,e]
 |dT k=>obtain⟨_,_,_,_,o,_,_,e,_⟩:=x;exact#[_,e]
 |set S n=>obtain⟨o,_,_,_,e,_⟩:=x;exact#[_,e]
 |ins C d F=>obtain⟨_,_,_,e,_⟩:=x;exact#[_,e]
 |own y=>obtain⟨_,e⟩:=x;exact#[_,e]
 |xd F=>obtain⟨_,⟨_,_,_,e,_⟩,_⟩:=x;exact#[_,e]
 |rng lo b=>obtain⟨_,_,_,e⟩:=x;exact#[_,e]
 |frz O u=>obtain⟨e,_⟩:=x;exact#[_,e]
 |tbl p=>exact#[_,(show h.get? a=some _ from x)]
 |met f y=>exact#[_,(show h.get? a=some _ from x)]
 |ext c=>obtain⟨_,⟨_,e⟩,_⟩:=x;exact#[_,e]
theorem ap.laidN{X:Cx}{h':Heap}{a:Addr}{o:HO}{t':Nat}(I:ap X p g H s)(k:∀b u,s.heap.get? b=some u->h'.get? b=some u)(d:s.heap.get? a=none)(N:aQ X.prog X.w (ah H a o) h' a o):
  H a=none/\ap X p g (ah H a o) { s with heap:=h',toks:=t' }:=by
 have i:∀b u,s.heap.get? b=some u->b≠a:=λb u q z=>by rw[z,d]at q;cases q
 have h:H a=none:=by
  cases q:H a with
  |none=>rfl
  |some u=>obtain⟨U,e⟩:=(I.hok a u q).obj;rw[d]at e;cases e
 refine#[h,I.un ?_ ?_]
 ·exact { keep:=λb u q _ _ _=>k b u q,slot:=λb u q _ _ _=>#[u.slots,k b u q],free:=λb u q n _=>by rw[jh (i b u q)];exact n,there:=λb u q _=>#[u,k b u q],tups:=λb x q=>by rw[jh (jk q h)];exact q,frzs:=λb u x q=>by rw[jh (jk q h)];exact q,tbls:=λb P q=>#[(List.toArray []),by rw[jh (jk q h),q];simp] }
 ·intro b u e
  by_cases f:b=a
  ·subst f;rw[jc]at e;cases e;exact N
  ·rw[jh f]at e
   exact(I.hok b u e).stay (λc v _ q=>k c v q) (λc q=>by rw[jh (jk q h)];exact q) λc x q=>by rw[jh (jk q h)];exact q
noncomputable def yI(C:Addr)(d:Option Addr)(x:Addr):HO:=.ext λh=>∃o,h.get? x=some o/\o.cls= .ref C/\notCls o=true/\o.dict=d/\∃v,o.data= .fields v/\v[1]?=some .none
theorem AY{P:Program}{h:Heap}(e:h.get? x=some o)(a:o.cls= .ref C)(b:notCls o=true)(c:o.dict=d)(f:∃v,o.data= .fields v/\v[1]?=some .none):aQ P w H h x (yI C d x):=
 #[#[o,e,a,b,c,f],#[o,e],λg i #[O,E,q] k=>#[O,k O E,q]]
def yr(C:Addr):TE:=λa H Q=>∀x,H x=none->Q (.ref x) (ah H x (yI C none x))
section
variable {X:Cx}{CX:pE}{k:Nat}{f C:Addr}{fd:FuncData}{ps:List Str}{sp:Sp}{E:XK}{x m g:Str}{p pos pos':Pos}{e o value:Expr}{es:List Expr}{ta tv:TE}{t:TA}
theorem Qk(M:excIn X.K C pH "ValueError.__new__"=true)(l:keepIn X.K (.ref C)=true)(n:Gl X x)(r:X.mg x=some (.ref C))(c:(x==("__debug__":Str))=false:=by decide):
  PE X (.Call (.Name x p) [] [] pos) (yr C):=by
 intro P s D H Q I h
 refine I8 (zD I n r ?_ c)
 refine NJ I.kIn l ?_
 obtain⟨G,q,N,J,L,j,S,sub,O,u,R,U,V,Y,k3,k5,v,w,b,i⟩:=Zy M
 have y:=I.kIn _ _ v
 obtain⟨hp,g,d,T,os⟩:=s
 refine wpAny_call_exc_subT PySem.F.excBase_ValueError (PySem.W.tail_of_in I.kIn w) y (.of_isNs (PySem.W.isNs_of_in I.kIn b)) (PySem.W.nsMap_none_of_in I.kIn b i) (λh' e m=>?_) (Il _)
 obtain⟨t,z,_,_⟩:=m.there
 obtain⟨A,B⟩:=I.laidN (a:=e) (h':=h') (o:=yI C none e) (t':=T) m.keeps m.new (AY z Z Z Z #[_,Z,Z])
 exact#[.ref e,_,B,Z,h e A]
end
theorem ap.turnedN{X:Cx}{p:List (Addr×Obj)}{d:St}{H:Hp}{s:Shared}{g:Heap}{t':Nat}{f:List Addr}(I:ap X p d H s)(a:∀b∈f,fc X p H b)(k:∀b o,b∉f->s.heap.get? b=some o->g.get? b=some o):
  ap X p d H { s with heap:=g,toks:=t' }:=by
 have N:∀b u,H b=some u->b∉f:=λb u e z=>by rw[(a b z).1]at e;cases e
 refine I.step (g':=s.gens) (d':=s.drawn) (ch:=f) (λb i=>?_) (λb o _ _ h e _=>k b o h e) (λb o _ _ h e _=>#[o.slots,k b o h e]) (λ_ _ _ _ n=>n)
  (λb o h e=>#[o,k b o h e]) (λ_ _ e=>e) (λ_ _ _ e=>e) (λb P e=>#[(List.toArray []),by rw[e];simp]) (λm j=>?_) (λb u e=>?_) I.bare
 ·obtain⟨A,F,B,l,t,w⟩:=a b i
  exact#[l,F,t,w]
 ·obtain⟨o,E,x,y,r⟩:=j
  exact#[o,E,x,k _ o (λz=>(a _ z).2.1 Z) y,r]
 ·refine(I.hok b u e).stay (λc v h q=>k c v ?_ q) (λ_ q=>q) λ_ _ q=>q
  rcases h with z |z
  ·rw[z];exact N b u e
  ·exact N c _ z
section
variable {M:Model}{A:Around}{E:Value->Shared->Prop}{s:Shared}
structure cR(fl:Value)(iT:List Addr)(x:Addr)(ox:Obj)(h h':Heap):Prop where
 ex:∃T oT ts,h.objs.size<=T/\h'.get? x=some (Obj.mapFields (·.setIfInBounds 1 (.ref T)) ox)/\h'.get? T=some oT/\oT.data= .fields ts/\ts[3]?=some fl
 keep:∀b o,b∉iT->b≠x->h.get? b=some o->h'.get? b=some o
 slot:∀b o,b≠x->h.get? b=some o->∃sl,h'.get? b=some { o with slots:=sl }
theorem Ql{Q:Unit->Shared->Prop}
  (t:A.frames=some (d::O)) (F:s.heap.FunFrames G (d::O)) (N:d.frame=some L)
  (I:s.heap.get? x=some u) (v:u.data= .fields J) (w:1 < J.size)
  (h:∀K,cR (rawInt L) ((d::O).filterMap (·.frame)) x u s.heap K->Q () { s with heap:=K }):
  wpAny M A (do let a <- frameOf d;let p <- entryPlaceOf L q;let b <- EntryCells.newEntry f a .none (rawInt L) .none p;setField (.ref x) 1 b) Q E s:=by
 have y:x∉(d::O).filterMap (·.frame):=λP=>by
  obtain⟨_,o,r,z⟩:=F.mem P
  rw[I]at r;injection r with r;subst r;exact z J v
 refine HV (wpAny_frameOf_fun t F N λH c=>?_)
 refine HV (wpAny_entryPlaceOf λp B=>?_)
 unfold EntryCells.newEntry newFields
 refine HV (IR ?_ (B.sizeOk5 _ _ _ _ _))
 have g:H.get? x=some u:=(c.2.1 x y).trans I
 have i:=HX (h:=H) { cls:=.type "traceback",dict:=none,data:=.fields ([f,.ref L,.none,rawInt L,.none]++(if p.isEmpty then List.replicate 6 Value.none else p)).toArray } g
 refine IZ i v w (h _ ?_)
 have C:H.objs.size≠x:=I9 (Ie g)
 have j:=IN v (·.setIfInBounds 1 (Value.ref H.objs.size))
 have l:=IQ (Obj.mapFields (·.setIfInBounds 1 (Value.ref H.objs.size))) i (Lo j)
 have k:∀b o,b≠x->H.get? b=some o->((H.push { cls:=.type "traceback",dict:=none,data:=.fields ([f,.ref L,.none,rawInt L,.none]++(if p.isEmpty then List.replicate 6 Value.none else p)).toArray }).update x (Obj.mapFields (·.setIfInBounds 1 (Value.ref H.objs.size)))).get? b=some o:=λb o D e=>by
  rw[Iv _ _ (IM D)]
  exact HX _ e
 have m:=(Iv (H.push { cls:=.type "traceback",dict:=none,data:=.fields ([f,.ref L,.none,rawInt L,.none]++(if p.isEmpty then List.replicate 6 Value.none else p)).toArray })
  (Obj.mapFields (·.setIfInBounds 1 (Value.ref H.objs.size))) (IM C)).trans (Ig H Z)
 refine#[#[H.objs.size,_,_,N4 c.1.symm,l,m,Z,OH],λb o D n e=>k b o n ((c.2.1 b D).trans e),λb o n e=>?_]
 obtain⟨S,R⟩:=c.2.2 b o e
 exact#[S,k b _ n R]
theorem Ya{Q:Unit->Shared->Prop}
  (H:A.frames=some (e::o)) (i:s.heap.FunFrames b (e::o)) (a:e.frame=some L)
  (c:s.heap.get? x=some O) (d:O.data= .fields v) (f:v[1]?=some .none)
  (h:∀g,cR (rawInt L) ((e::o).filterMap (·.frame)) x O s.heap g->Q () { s with heap:=g }):
  wpAny M A (noteFrame (.ref x) e) Q E s:=by
 unfold noteFrame
 simp only[a]
 refine HV (IE c d f ?_)
 rw[Iu OF]
 exact Ql H i a c d (Array.getElem?_eq_some_iff.mp f).1 h
theorem Bf{iT:List Addr}{Q:Unit->Shared->Prop}(N:cR C iT x O H s.heap)(j:H.get? x=some O)(v:O.data= .fields w)(k:1 < w.size)
  (h:∀p,cR .none iT x O H p->Q () { s with heap:=p }):wpAny M A (setFlight (.ref x) none) Q E s:=by
 obtain⟨T,D,F,c,r,t,g,y⟩:=N.ex
 have l:=IN v (·.setIfInBounds 1 (Value.ref T))
 have m:T≠x:=λz=>absurd (Ip (Ie j) (by rw[<- z];exact c)) (Li _)
 unfold setFlight
 refine HV (IE r l (x:=.ref T) (by simp [k]) ?_)
 rw[Io (show(Value.ref T != Value.none)=true from by simp)]
 have i:=(Array.getElem?_eq_some_iff.mp y).1
 refine IZ t g i (h _ ?_)
 have a:=IN g (·.setIfInBounds 3 ((none:Option Addr).elim Value.none λf=>rawInt f))
 have n:=IQ (Obj.mapFields (·.setIfInBounds 3 ((none:Option Addr).elim Value.none λf=>rawInt f))) t (Lo a)
 have u:∀b o,H.get? b=some o->T≠b:=λb o e z=>absurd (Ip (Ie e) (by rw[<- z];exact c)) (Li _)
 refine#[#[T,_,_,c,by rw[Iv _ _ m];exact r,n,a,by simp [i]],λb o B d e=>?_,λb o d e=>?_]
 ·rw[Iv _ _ (u b o e)]
  exact N.keep b o B d e
 ·obtain⟨S,q⟩:=N.slot b o d e
  exact#[S,by rw[Iv _ _ (u b o e)];exact q]
theorem XC{base:Heap}{Q:Unit->Shared->Prop}
  (a:A.frames=some (e::o)) (f:s.heap.FunFrames base (e::o)) (g:e.frame=some L)
  (b:s.heap.get? x=some O) (c:O.data= .fields v) (d:v[1]?=some .none)
  (h:∀H,cR .none ((e::o).filterMap (·.frame)) x O s.heap H->Q () { s with heap:=H }):
  wpAny M A (leaving e (.ref x)) Q E s:=by
 unfold leaving
 exact HV (Ya a f g b c d λH N=>Bf (s:={ s with heap:=H }) N b c (Array.getElem?_eq_some_iff.mp d).1 h)
end
section
variable {M:Model}{A:Around}{E:Value->Shared->Prop}{s:Shared}
noncomputable abbrev dW(T:Addr)(h:Heap):Heap:=h.update T (Obj.mapFields (·.setIfInBounds 3 Value.none))
theorem Qm{base:Heap}{Q:Unit->Shared->Prop}
  (f:A.frames=some (e::O)) (w:s.heap.FunFrames base (e::O)) (j:e.frame=some L)
  (k:s.heap.get? x=some l) (m:l.data= .fields v) (p:v[1]?=some (.ref T)) (g:T≠x) (i:s.heap.get? T=some y) (c:y.data= .fields t) (r:t[3]?=some .none)
  (h:∀u,cR (rawInt L) ((e::O).filterMap (·.frame)) x l (dW T s.heap) u->Q () { s with heap:=u }):
  wpAny M A (noteFrame (.ref x) e) Q E s:=by
 unfold noteFrame
 simp only[j]
 refine HV (IE k m p ?_)
 rw[Io (show(Value.ref T != Value.none)=true from by simp)]
 refine HV (IE i c r ?_)
 rw[Iu (show ¬((Value.none==rawInt L)=true) from by simp [rawInt])]
 refine HV (IZ i c (Array.getElem?_eq_some_iff.mp r).1 ?_)
 have a:∀b,b≠T->(dW T s.heap).get? b=s.heap.get? b:=λb H=>Iv _ _ (IM H)
 have n:∀b o,s.heap.get? b=some o->(∀v,o.data≠ .fields v)->b≠T:=λb o H d q=>by
  rw[q,i]at H;injection H with H;subst H;exact d t c
 exact Ql (s:={ s with heap:=dW T s.heap }) f (w.of_keeps λb o H d=>#[o,(a b (n b o H d)).trans H,Z]) j ((a x (IM g)).trans k) m (Array.getElem?_eq_some_iff.mp p).1 h
theorem Yb{base:Heap}{Q:Unit->Shared->Prop}
  (b:A.frames=some (e::o)) (i:s.heap.FunFrames base (e::o)) (j:e.frame=some L)
  (d:s.heap.get? x=some O) (f:O.data= .fields v) (g:v[1]?=some (.ref T)) (H:T≠x) (k:s.heap.get? T=some l) (c:l.data= .fields t) (m:t[3]?=some .none)
  (h:∀a,cR .none ((e::o).filterMap (·.frame)) x O (dW T s.heap) a->Q () { s with heap:=a }):
  wpAny M A (leaving e (.ref x)) Q E s:=by
 unfold leaving
 exact HV (Qm b i j d f g H k c m λa N=>Bf (s:={ s with heap:=a }) N ((Iv _ _ H).trans d) f (Array.getElem?_eq_some_iff.mp g).1 h)
end
noncomputable def gN(C:Addr)(d:Option Addr)(T x:Addr):HO:=.ext λh=>∃o v,h.get? x=some o/\o.cls= .ref C/\notCls o=true/\o.dict=d/\o.data= .fields v/\v[1]?=some (.ref T)
noncomputable def gq(T:Addr):HO:=.ext λh=>∃o t,h.get? T=some o/\o.data= .fields t/\t[3]?=some .none
theorem Db{P:Program}{h:Heap}(e:h.get? x=some o)(c:o.cls= .ref C)(f:notCls o=true)(g:o.dict=d)(i:o.data= .fields a)(b:a[1]?=some (.ref T)):aQ P w H h x (gN C d T x):=
 #[#[o,a,e,c,f,g,i,b],#[o,e],λb j #[O,v,E,q] k=>#[O,v,k O E,q]]
theorem uZ{P:Program}{h:Heap}(e:h.get? T=some o)(b:o.data= .fields a)(c:a[3]?=some .none):aQ P w H h T (gq T):=
 #[#[o,a,e,b,c],#[o,e],λd f #[O,t,E,q] k=>#[O,t,k O E,q]]
def eX(P:Program)(w:World):pE:=λo H s E e S=>∃x C d T h,e= .ref x/\S.os=s.os/\AllBare S.gens/\Un (iT o) [] H h s.heap S.heap/\eL P w h S.heap/\
 h x=some (gN C d T x)/\h T=some (gq T)/\T≠x/\E (.ref C) d h
section
variable {X:Cx}{pins:List (Addr×Obj)}{σ:St}{H:Hp}{s:Shared}{x C:Addr}{d:Option Addr}
theorem cR.hok{fl:Value}(I:ap X pins σ H s)(g:H x=some (.ext M))(P:s.heap.get? x=some o)(B:o.cls= .ref C)(D:o.dict=d)(j:o.data= .fields E)(k:1 < E.size)(l:∀b∈G,H b=none)
  (N:cR .none G x o s.heap J):∃T,H T=none/\T≠x/\s.heap.objs.size<=T/\eL X.prog X.w (ah (ah H T (gq T)) x (gN C d T x)) J:=by
 obtain⟨T,Q,R,h,m,F,n,p⟩:=N.ex
 have i:H T=none:=I.hok.fresh h
 have r:T≠x:=IM (jk g i)
 have a:=IN j (·.setIfInBounds 1 (Value.ref T))
 refine#[T,i,r,h,λb u e=>?_]
 by_cases t:b=x
 ·subst t
  rw[jc]at e
  cases e
  refine Db m ((M0 _ _).trans B) ?_ ?_ a (by simp [k])
  ·unfold notCls
   rw[a]
  ·obtain⟨S,U,O,K⟩:=o
   simp only at j
   subst j
   exact D
 ·rw[jh t]at e
  by_cases f:b=T
  ·subst f
   rw[jc]at e
   cases e
   exact uZ F n p
  ·rw[jh f]at e
   refine(I.hok b u e).stay (λc v A q=>?_) (λc q=>?_) λc V q=>?_
   ·have y:c≠x:=by
     rcases A with z |z
     ·rw[z];exact t
     ·exact jO z g (by intro q;cases q)
    refine N.keep c v (λL=>?_) y q
    have:=l c L
    rcases A with z |z
    ·rw[z,e]at this;cases this
    ·rw[z]at this;cases this
   ·rw[jh (jO q g (by intro z;cases z)),jh (jk q i)]
    exact q
   ·rw[jh (jO q g (by intro z;cases z)),jh (jk q i)]
    exact q
theorem cR.un{h':Heap}(I:ap X pins σ H s)(hex:X.ex=[])(j:H x=some (.ext k))(l:H T=none)(c:s.heap.objs.size<=T)(f:∀b∈p,b∈X.fs∨X.s₀.heap.objs.size<=b)
  (N:cR .none p x y s.heap h'):Un X.fs [] X.H₀ (ah (ah H T (gq T)) x (gN C d T x)) X.s₀.heap h':=by
 have g:∀b,H b=none->b≠x:=λb e z=>by rw[z,j]at e;cases e
 have r:∀b o,X.s₀.heap.get? b=some o->b≠T:=λb o e=>Ij (Ip (Ie e) (Ik I.sz c))
 have a:∀b:Addr,b∉X.ex:=λb z=>by rw[hex]at z;cases z
 have t:∀b,H b=none->b≠T->ah (ah H T (gq T)) x (gN C d T x) b=none:=λb e z=>by rw[jh (g b e),jh z];exact e
 have U:∀b u,H b=some u->(∀k,u≠ .ext k)->ah (ah H T (gq T)) x (gN C d T x) b=some u:=λb u e z=>by
  rw[jh (λq=>by rw[q,j]at e;cases e;exact z _ Z),jh (jk e l)]
  exact e
 refine#[λb o e n h _=>?_,λb o e n h _=>?_,λb o e n _=>?_,λb o e _=>?_,λb v e=>U b _ (I.base.tups b v e) (by intro _ q;cases q),λb o u e=>U b _ (I.base.frzs b o u e) (by intro _ q;cases q),λb P e=>?_]
 ·refine N.keep b o (λz=>?_) (g b (I.base.free b o e n (a b))) (I.base.keep b o e n h (a b))
  rcases f b z with q |q
  ·exact h q
  ·exact absurd (Ip (Ie e) q) (Li _)
 ·obtain⟨w,q⟩:=I.base.slot b o e n h (a b)
  obtain⟨S,Q⟩:=N.slot b _ (g b (I.base.free b o e n (a b))) q
  exact#[S,Q]
 ·exact t b (I.base.free b o e n (a b)) (r b o e)
 ·obtain⟨O,q⟩:=I.base.there b o e (a b)
  by_cases h:b=x
  ·obtain⟨A,_,_,_,i,_⟩:=N.ex
   exact#[_,by rw[h];exact i]
  ·obtain⟨w,Q⟩:=N.slot b O h q
   exact#[_,Q]
 ·obtain⟨m,q⟩:=I.base.tbls b P e
  exact#[m,U b _ q (by intro _ q;cases q)]
end
section
variable {P:Program}{w:World}{K:Frag}{mg:Str->Option Value}{base:Heap}{N:List Str}{qual:Str}{scope:Scope}{f:Addr}{cd:Value}{A:Around}{outer:List Env}{s₀:Shared}{H₀:Hp}{E:XK}
variable {pins:List (Addr×Obj)}{σ:St}{H:Hp}{s:Shared}{x C:Addr}{d:Option Addr}
theorem vq(I:ap (fe (eX P w) P w K mg base N qual scope f cd A outer s₀ H₀ E) pins σ H s)(c:H x=some (yI C d x))
  (h:∀T,H T=none->E (.ref C) d (ah (ah H T (gq T)) x (gN C d T x))):(fe (eX P w) P w K mg base N qual scope f cd A outer s₀ H₀ E).xe (.ref x) s:=by
 obtain⟨⟨O,l,q,t,r,v,m,n⟩,_⟩:=I.hok x _ c
 have g:=(Array.getElem?_eq_some_iff.mp n).1
 refine XC (base:=base) I.ok.frames I.stack Z l m n λy o=>?_
 obtain⟨T,p,a,i,j⟩:=o.hok (C:=C) (d:=d) (fl:=.none) I c l q r m g λb k=>I.stkFree b k
 have u:=o.un (C:=C) (d:=d) I Z c p i λb k=>by
  rcases List.mem_cons.mp (I.stkSub b k) with e |e
  ·exact .inr (by rw[e];exact I.ok.above)
  ·exact .inl e
 exact#[x,C,d,T,_,Z,I.os,I.bare,u,j,jc,by rw[jh a,jc],a,h T p]
theorem ap.cleared{X:Cx}(I:ap X pins σ H s)(c:H T=some (gq T))(i:s.heap.get? T=some O)(j:O.data= .fields t)(k:t[3]?=some .none):ap X pins σ H { s with heap:=dW T s.heap }:=by
 have h:=IN j (·.setIfInBounds 3 Value.none)
 have g:=IQ (Obj.mapFields (·.setIfInBounds 3 Value.none)) i (Lo h)
 have:=I.write (x:=T) (e:=T) (o:=gq T) (h':=dW T s.heap) (t':=s.toks) (by rw[c];exact True.intro) (.inl Z) (λb u a q=>(Iv _ _ (IM a)).trans q) #[_,g] (uZ g h (by simp [(Array.getElem?_eq_some_iff.mp k).1]))
 have l:ah H T (gq T)=H:=by
  funext b
  by_cases a:b=T
  ·rw[a,jc,c]
  ·rw[jh a]
 rw[l]at this
 exact this
theorem yy(I:ap (fe (eX P w) P w K mg base N qual scope f cd A outer s₀ H₀ E) pins σ H s)(g:H x=some (gN C d T x))(n:H T=some (gq T))(c:T≠x)
  (h:∀t,H t=none->E (.ref C) d (ah (ah H t (gq t)) x (gN C d t x))):(fe (eX P w) P w K mg base N qual scope f cd A outer s₀ H₀ E).xe (.ref x) s:=by
 obtain⟨⟨O,V,o,D,G,F,p,q⟩,_⟩:=I.hok x _ g
 obtain⟨⟨J,L,r,u,v⟩,_⟩:=I.hok T _ n
 have i:=(Array.getElem?_eq_some_iff.mp q).1
 have y:=I.cleared n r u v
 refine Yb (base:=base) I.ok.frames I.stack Z o p q c r u v λM z=>?_
 have j:(dW T s.heap).get? x=some O:=(Iv _ _ c).trans o
 obtain⟨t,B,a,k,l⟩:=cR.hok (C:=C) (d:=d) (fl:=.none) y g j D F p i (λb m=>I.stkFree b m) z
 have U:=cR.un (C:=C) (d:=d) y Z g B k (λb m=>by
  rcases List.mem_cons.mp (I.stkSub b m) with e |e
  ·exact .inr (by rw[e];exact I.ok.above)
  ·exact .inl e) z
 exact#[x,C,d,t,_,Z,I.os,I.bare,U,l,jc,by rw[jh a,jc],a,h t B]
theorem xw{j:XK}(m:∀x C d T t a,a x=some (gN C d T x)->a T=some (gq T)->a t=none->j (.ref C) d a->E (.ref C) d (ah (ah a t (gq t)) x (gN C d t x))):
  cV (eX P w) (fe (eX P w) P w K mg base N qual scope f cd A outer s₀ H₀ E) j:=by
 intro pins σ H s e S I h
 obtain⟨x,C,d,T,a,rfl,os,B,u,c,k,l,i,n⟩:=h
 obtain⟨p,g,D,q,o⟩:=S
 obtain rfl:o=s.os:=os
 have r:=I.call (h':=p) (g':=g) (d':=D) (t':=q) (ch:=[]) u c B (λb z=>absurd z OH)
 exact yy r k l i λt v=>m x C d T t a k l v n
end
section
open PySem.W
variable {prog:Program}{w:World}{A:Around}{E:Value->Shared->Prop}{K:Frag}{x C:Addr}{ox:Obj}{vs:Array Value}{env:Env}
theorem Yc{ev:Sem Value}(e:A.handled=none)
  (h:wpAny (model prog w) A ev (λv S=>∃x C ox vs,v= .ref x/\K.In S.heap/\p8 K C/\typeIn K (.ref C)=some (.type "type")/\S.heap.get? x=some ox/\ox.cls= .ref C/\ox.data= .fields vs/\vs[1]?=some .none/\E (.ref x) S) E s):
  wpAny (model prog w) A (raiseStmt env (some ev) none) Q E s:=by
 unfold raiseStmt
 refine HV (Ln h (λv S a=>?_) λ_ _ z=>z)
 obtain⟨x,C,ox,vs,rfl,X,f,i,b,j,c,m,n⟩:=a
 obtain⟨H,g,d,T,os⟩:=S
 have L:Looks (model prog w) H (typeOf (.ref x)) (.ref C):=j▸(Looks.ld b).andThen .now
 have l:Looks (model prog w) H (isType (.ref x)) false:=by
  intro y B D F k q
  unfold isType loadHead
  refine HV (wpAny_loadPart (k _ _ b) ?_)
  rw[c]
  exact HY q
 have _L:=looks_mroIn (M:=model prog w) X f.mb
 have o:=looks_typeIn (M:=model prog w) X i
 have p:Looks (model prog w) H (isInstance (.ref x) (.type "BaseException")) true:=L.andThen _L
 have r:Looks (model prog w) H (isExcClass (.ref x)) false:=by
  unfold isExcClass
  exact l.andThen .now
 have t:Looks (model prog w) H (raisedInstance (.ref x)) (.ref x):=by
  unfold raisedInstance
  exact L.andThen (o.andThen (by rw[Io OF];exact .now))
 have u:Looks (model prog w) H (excFromValue (.ref x) "exceptions must derive from BaseException") (.ref x):=by
  unfold excFromValue
  exact r.andThen (by rw[Iu OF];exact p.andThen (by rw[Io Z];exact .now))
 refine HV (HY ?_)
 refine HV (IF (u.at ?_))
 dsimp only
 refine HV (l.at ?_)
 rw[Iu OF]
 refine HV (t.at ?_)
 unfold setFlight
 refine HV (HV (IE b c m ?_))
 rw[Iu OF]
 exact HY (wpAny_raiseNew_none e n)
end
def yJ(X:Cx)(W:Addr->Addr->Option Addr->Hp->Prop):Prop:=∀(p:List (Addr×Obj)) (a:St) (H:Hp) (s:Shared) (x C:Addr) (d:Option Addr),ap X p a H s->H x=some (yI C d x)->W x C d H->X.xe (.ref x) s
theorem Qn{P:Program}{K:Frag}:
  yJ (fe (eX P w) P w K m b N q s f g A o a c E) (λx C d H=>∀T,H T=none->E (.ref C) d (ah (ah H T (gq T)) x (gN C d T x))):=
 λ_ _ _ _ _ _ _ I e h=>vq I e h
inductive oH(K:Frag)(b:Addr->Addr->Option Addr->Hp->Prop)(v:V)(a:Hp):Prop
 |mk(x C d:_)(_:v= .ref x)(_:a x=some (yI C d x))(_:p8 K C)(_:typeIn K (.ref C)=some (.type "type"))(_:b x C d a)
def CP(K:Frag)(t:TE)(W:Addr->Addr->Option Addr->Hp->Prop):TS:=λ_u0 a H=>t a H (oH K W)
theorem Xe{X:Cx}{e:Expr}{t:TE}{P:Pos}{W:Addr->Addr->Option Addr->Hp->Prop}(f:X.calm=true)(F:yJ X W)(g:PE X e t):PS X (.Raise (some e) none P) (CP X.K t W):=by
 intro p s b H D I h
 rw[arm_exec_Raise]
 refine HV (Ms ?_)
 refine Yc (K:=X.K) (ev:=do let v <- eval e X.env;standAt P;pure v) (I.ok.hd f) (HV (aL (g p s b H _ I h) λu S a=>HV (Ms (HY ?_))))
 obtain⟨v,j,i,r,x,C,d,ev,c,k,l,q⟩:=a
 subst ev
 obtain rfl:u=Value.ref x:=r
 obtain⟨⟨o,m,n,z,A,V,w,y⟩,_⟩:=i.hok x _ c
 exact#[x,C,o,V,Z,i.kIn,k,l,m,n,w,y,F p b j S x C d i c q]
section
variable {X:Cx}{pins:List (Addr×Obj)}{σ:St}{H:Hp}{s:Shared}{x C:Addr}{d:Option Addr}
theorem ap.noted{t':Nat}(I:ap X pins σ H s)(a:H x=some (.ext l))(p:s.heap.get? x=some O)(r:O.cls= .ref C)(t:O.dict=d)(v:O.data= .fields w)(c:1 < w.size)
  (N:cR .none (iT X.stack) x O s.heap y):∃T,H T=none/\T≠x/\ap X pins σ (ah (ah H T (gq T)) x (gN C d T x)) { s with heap:=y,toks:=t' }:=by
 obtain⟨T,m,f,g,i⟩:=cR.hok (C:=C) (d:=d) (fl:=.none) I a p r t v c (λb h=>I.stkFree b h) N
 have j:∀b,H b=none->b≠x:=λb e z=>by rw[z,a]at e;cases e
 have U:∀b u,H b=some u->(∀l,u≠ .ext l)->ah (ah H T (gq T)) x (gN C d T x) b=some u:=λb u e z=>by
  rw[jh (λq=>by rw[q,a]at e;cases e;exact z _ Z),jh (jk e m)]
  exact e
 refine#[T,m,f,I.call (g':=s.gens) (d':=s.drawn) (ch:=[]) ?_ i I.bare (λb z=>absurd z OH)]
 refine#[λb o e n h _=>N.keep b o h (j b n) e,λb o e n _ _=>N.slot b o (j b n) e,λb o e n _=>?_,λb o e _=>?_,λb A e=>U b _ e (by intro _ q;cases q),λb o u e=>U b _ e (by intro _ q;cases q),λb P e=>#[(List.toArray []),by rw[U b _ e (by intro _ q;cases q)];simp]]
 ·rw[jh (j b n),jh (Ij (Ip (Ie e) g))]
  exact n
 ·by_cases h:b=x
  ·obtain⟨B,_,_,_,k,_⟩:=N.ex
   exact#[_,by rw[h];exact k]
  ·obtain⟨S,q⟩:=N.slot b o h e
   exact#[_,q]
end
noncomputable abbrev Cx.mark(X:Cx)(e:Value)(xe:Value->Shared->Prop):Cx:={ X with A:=X.A.mark (some e),calm:=false,xe:=xe }
theorem ap.mark{X:Cx}(I:ap X p a H s)(e:Value)(x:Value->Shared->Prop):ap (X.mark e x) p a H s:=
 #[#[I.ok.mod,I.ok.kind,I.ok.glob,I.ok.blt,I.ok.above,I.ok.inj,I.ok.has,I.ok.cab,(λz=>nomatch (show false=true from z)),I.ok.frames,I.ok.stk,I.ok.exf,I.ok.bs,I.ok.bsz,I.ok.noex,I.ok.exfs,I.ok.funs,I.ok.frf],I.os,I.bare,I.base,I.loc,I.cell,I.free,I.freeC,I.pin,I.hok,I.len]
theorem ap.unmark{X:Cx}(o:X.Ok)(I:ap (X.mark e x) p a H s):ap X p a H s:=
 #[o,I.os,I.bare,I.base,I.loc,I.cell,I.free,I.freeC,I.pin,I.hok,I.len]
section
open PySem.W
theorem KM{K:Frag}(X:K.In h)(a:h.get? x=some o)(b:o.cls= .ref C)(H:clsIn K B≠none)(tB:typeIn K (.ref B)=some (.type "type"))(m:mroIn K B (.type "BaseException")=some true)(c:mroIn K C (.ref B)=some true):
  Looks M h (excMatches (.ref x) (.ref B)) true:=by
 have L:Looks M h (typeOf (.ref x)) (.ref C):=b▸(Looks.ld a).andThen .now
 have l:=looks_typeIn (M:=M) X tB
 have _L:Looks M h (isInstance (.ref B) (.type "tuple")) false:=l.andThen (Looks.of_pure tc_notTuple)
 have d:Looks M h (isType (.ref B)) true:=by
  unfold clsIn at H
  split at H
  ·rename_i e
   intro A Q E s k q
   unfold isType loadHead
   exact HV (wpAny_loadPart (k _ _ (X _ _ e)) (HY q))
  ·exact absurd Z H
 have f:Looks M h (isExcClass (.ref B)) true:=by
  unfold isExcClass
  exact d.andThen (by rw[Io Z];exact looks_mroIn X m)
 have g:=looks_mroIn (M:=M) X c
 intro A Q E s k q
 unfold excMatches
 refine HV (_L A _ E s k ?_)
 rw[Iu OF]
 refine HV (HY ?_)
 dsimp only
 refine HV ?_
 rw[Mi]
 refine HV (HV (f A _ E s k ?_))
 simp only[MZ,Iq,Lr]
 refine HY ?_
 dsimp only
 rw[M7]
 refine HY ?_
 refine HV (L A _ E s k ?_)
 refine HV ?_
 rw[Mi]
 refine HV (HV (g A _ E s k ?_))
 simp only[MN]
 refine HY (HY ?_)
 exact HY q
end
abbrev XR:=Addr->Addr->Option Addr->Addr->Hp->Prop
def XW(X:Cx)(p:List (Addr×Obj))(a:St)(R:XR)(e:Value)(s:Shared):Prop:=
 ∃x C d T H,e= .ref x/\ap X p a H s/\H x=some (gN C d T x)/\H T=some (gq T)/\T≠x/\R x C d T H
abbrev FN:=St->Hp->VK->XR->Prop
abbrev FQ:=aZ->XR->St->Hp->Prop
def Hf(X:Cx)(e:Expr)(t:FN):Prop:=
 ∀(p:List (Addr×Obj)) (s:Shared) (a:St) (H:Hp) (Q:VK) (R:XR),ap X p a H s->t a H Q R->wpAny (model X.prog X.w) X.A (eval e X.env) (EP X p a Q) (XW X p a R) s
def Hi(X:Cx)(st:Stmt)(t:FQ):Prop:=
 ∀(p:List (Addr×Obj)) (s:Shared) (a:St) (H:Hp) (D:aZ) (R:XR),ap X p a H s->t D R a H->wpAny (model X.prog X.w) X.A (exec st X.env) (SP X p D) (XW X p a R) s
def Hr(R:XR):XK:=λc d H=>∀x C T,c= .ref C->H x=some (gN C d T x)->H T=some (gq T)->T≠x->R x C d T H
def C5(s:Sp)(d:List V)(t:TA):FN:=λa H Q R=>t a H λv h=>s (v++d) h Q (Hr R)
section
variable {X:Cx}{k:Nat}{f:Addr}{fd:FuncData}{ps:List Str}{sp:Sp}{dvs:List V}{ds:List Value}{x:Str}{p pos:Pos}{e:Expr}{es:List Expr}{t:TA}{te:FN}
theorem sW(F:af X.prog X.w X.K X.mg X.base (eX X.prog X.w) k f fd ps sp)(y:bH k X.A)(D:Gl X x)(E:X.mg x=some (.ref f))(G:keepIn X.K (.ref f)=true)(J:ax X.K fd ps ds)(L:au dvs ds)
  (M:PA X.nox (e::es) t) (g:(x==("__debug__":Str))=false:=by decide) (N:starEach (e::es) X.env=(false,eval e X.env)::starEach es X.env:=by rfl) (j:(backTo pos (starEach es X.env)).any (·.1)=false:=by rfl):
  Hf X (.Call (.Name x p) (e::es) [] pos) (C5 sp dvs t):=by
 intro P s O H Q R I h
 refine I8 (zD I D E ?_ g)
 refine Ol (h₀:=X.base) I.ok.mod.kin G (Ln (M pos P s O H _ (I.wish _) h) (λU S #[v,W,i,r,q]=>#[i.kIn,?_]) λ_ _ z=>z.elim) N j
 have i:=i.unwish
 have m:au (v++dvs) (U++ds):=r.append L
 have Y:(U++ds).length=ps.length:=by rw[<- m.length];exact F.len _ _ _ _ q
 refine wpAny_call (MF (F.run X.A X.stack S W #[U,[]] (U++ds) (v++dvs) Q (Hr R) y i.env0 (J S U i.kIn Y) m q) λr s' a=>?_)
 cases r with
 |error e=>
  obtain⟨x,C,d,T,H',rfl,os,B,un,l,n,o,c,hw⟩:=a
  exact#[x,C,d,T,H',Z,i.call' os un l B (λb z=>absurd z OH),n,o,c,hw x C T Z n o c]
 |ok fl=>
  cases fl with
  |ret u=>exact i.after a
  |next=>exact False.elim a
  |brk=>exact False.elim a
  |cont=>exact False.elim a
theorem xH{i:Nat}{y:Str}{P:Pos}(d:X.N.Nodup)(g:X.N[i]?=some y)(j:pX X.env.scope y)(l:Hf X e te)(m:swapsWith e (some (.Name y P)) pos.line X.env=pure false:=by rfl)(n:X.fn y=true∨X.env.scope.names.lookup y=some .local:=by first |exact .inl Z |exact .inr Z |assumption):
  Hi X (.Assign [.Name y P] e pos) (λD R b H=>te b H (λv c=>D.nx (b.set i (some v)) c) R):=by
 intro a s b H D R I h
 refine wpAny_Assign_Name (aL (l a s b H _ R I h) λv S z=>?_) m
 obtain⟨y,c,o,r,q⟩:=z
 exact zr o d g j r (λw u=>#[_,c,u,q]) n
end
theorem aI.ok1{P:Program}{K:Frag}{st:Stmt}{a:Sp}(F:aI K x q st f g)(S:ai N p (aa st))(len:∀v H Q E,a v H Q E->v.length=p.length)
  (h:∀(c:Value) (A:Around) (o:List Env) (s:Shared) (H:Hp) (v:List V) (Q:VK) (E:XK),bH k (A.deeper (envOfC q (aa st) s.heap.objs.size f c))->a v H Q E->
   ∃t,me (fe (eX P w) P w K m b N q (aa st) f c A o s H E) (bf st) t/\t { nx:=λ_ i=>Q .non i,rt:=Q } (gm N v) H):af P w K m b (eX P w) (k+1) f g p a:=by
 obtain⟨l,n,kV,D,r,u,c,C,O,rfl,lk,d⟩:=F.ex
 exact yZ lk d S len λA o s H v Q E j e=>h c A o s H v Q E j e
end _L
namespace _L
open PySem PySem.Spec PyProof.Rows PySem.SeqAt
noncomputable def rH(x y:List V):Bool:=(List.range (min x.length y.length)).all (λj=>nj (x.getD j .non) (y.getD j .non))&&x.length==y.length
section
variable {X:Cx}
theorem Zz(r:au x i)(R:au y I)(f:x.all cw=true)(F:y.all cw=true)(j:Nat)(c:j < i.toArray.size)(d:j < I.toArray.size):EqAt A s i.toArray[j] I.toArray[j] (nj (x.getD j .non) (y.getD j .non)):=by
 have L:=r.length
 have p:=R.length
 have H:j < x.length:=by simp at c;omega
 have h:j < y.length:=by simp at d;omega
 have a:x[j]?=some x[j]:=HW H
 have b:y[j]?=some y[j]:=HW h
 obtain⟨u,q,g⟩:=r.get a
 obtain⟨U,Q,k⟩:=R.get b
 have l:=List.all_eq_true.mp f _ (MY H)
 have m:=List.all_eq_true.mp F _ (MY h)
 have E:i.toArray[j]=u:=by
  obtain⟨_,e⟩:=List.getElem?_eq_some_iff.mp q
  simpa using e
 have n:I.toArray[j]=U:=by
  obtain⟨_,e⟩:=List.getElem?_eq_some_iff.mp Q
  simpa using e
 have G:x.getD j .non=x[j]:=by rw[Mr,a];rfl
 have o:y.getD j .non=y[j]:=by rw[Mr,b];rfl
 rw[E,n,G,o]
 exact rG g k l m
theorem BY(f:X.A.units < cLine):eY X (compareOp .Eq) (λx y H Q=>∃a b c Y,x= .ref a/\y= .ref b/\ay X.K H a c/\ay X.K H b Y/\c.all cw=true/\Y.all cw=true/\Q (.bl (rH c Y)) H):=by
 intro p s z H x y v u Q I g k h
 obtain⟨a,b,c,Y,rfl,rfl,l,m,F,n,q⟩:=h
 cases g
 cases k
 obtain⟨i,r,P,_⟩:=I.tuple l
 obtain⟨d,R,o,_⟩:=I.tuple m
 refine eq_tupleAt (e:=λj=>nj (c.getD j .non) (Y.getD j .non)) (show s.heap.IsTuple a i.toArray from P) (show s.heap.IsTuple b d.toArray from o) f (λj t w=>Zz r R F n j t w) ?_
 have e:((List.range (min i.toArray.size d.toArray.size)).all (λj=>nj (c.getD j .non) (Y.getD j .non))&&i.toArray.size==d.toArray.size)=rH c Y:=by
  unfold rH
  rw[Ic,Ic,<- r.length,<- R.length]
 rw[e]
 exact#[.bl _,H,I,Z,q]
end
end _L
namespace _L
open PySem PySem.Spec PyProof.Rows
section
variable {prog:Program}{w:World}{A:Around}{E:Value->Shared->Prop}{s:Shared}
theorem Yd{Q:Nat->Shared->Prop}(H:n≠0)(h:∀i d,i < n->Q i { s with drawn:=d }):wpAny (model prog w) A (choose a n) Q E s:=by
 intro Γ p _
 show Sem.wp _ Γ (.choose a n .pure) _ _ p s
 rw[Sem.wp_choose]
 exact#[H,h _ _ (Nat.mod_lt _ (Nat.pos_of_ne_zero H))]
theorem XD{α:Type}:∀(n:Nat) (xs:List α) (s:Shared) {Q:List α->Shared->Prop},xs.length=n->(∀ys d,ys.Perm xs->Q ys { s with drawn:=d })->
  wpAny (model prog w) A (drawOrder n xs) Q E s:=by
 intro n
 induction n with
 |zero=>
  intro xs s Q hl h
  cases xs with
  |nil=>
   unfold drawOrder
   exact HY (h [] s.drawn .rfl)
  |cons _ _=>cases hl
 |succ n ih=>
  intro xs s Q hl h
  cases xs with
  |nil=>cases hl
  |cons x r=>
   unfold drawOrder
   refine HV (Yd OH λi d hi=>?_)
   have hg:(x::r)[i]?=some ((x::r)[i]'hi):=HW hi
   rw[hg]
   dsimp only
   refine HV (ih _ _ (by rw[On hi,hl];rfl) λys d' hp=>HY (h _ d' ?_))
   refine(List.Perm.cons _ hp).trans ?_
   rw[N6]
   refine List.perm_middle.symm.trans ?_
   rw[LJ,MU]
end
noncomputable def ma:Value->Str
 | .str x _=>x
 |_=>#[(List.toArray [])]
theorem KN(t:SetTable)(n:Nat):(t.orStandIn n).led=t.led:=by
 unfold SetTable.orStandIn
 split
 ·rfl
 ·rfl
theorem Ye(t:SetTable)(e:Array (Int×Value))(h:Int)(x:Value):(layNew t e h x).2.1.led=t.led:=by
 unfold layNew
 split
 ·exact KN _ _
 ·rfl
theorem QT(t:SetTable)(E:Array (Int×Value))(n:Nat):(relayAll t E n).2.1.led=t.led:=by
 unfold relayAll
 split
 ·rename_i T o e
  unfold SetTable.relaid SetTable.laid at e
  cases h:SetTable.layClean (SetTable.sizeAbove n - 1) (E.map (·.1)) with
  |none=>rw[h]at e;cases e
  |some O=>
   rw[h]at e
   cases e
   dsimp only
   split<;>rfl
 ·rfl
theorem KC(t:SetTable)(E:Array (Int×Value))(n:Nat)(H:t.plain=false):(relayAll t E n).2.1.plain=false:=by
 unfold relayAll
 split
 ·rename_i T o e
  unfold SetTable.relaid SetTable.laid at e
  cases h:SetTable.layClean (SetTable.sizeAbove n - 1) (E.map (·.1)) with
  |none=>rw[h]at e;cases e
  |some O=>
   rw[h]at e
   cases e
   dsimp only
   split
   ·exact H
   ·rfl
 ·rfl
def cp(p:Program)(w:World)(h:Heap)(a:Addr)(L:List Str):Prop:=
 ∃o E b t,h.get? a=some o/\o.ExactSet/\o.data= .set E b t/\ElemsOf (PySem.strKind p w) E.toList/\(E.toList.map λe=>ma e.2).Perm L/\L.Nodup
  /\E.size < scanBound/\t.fits E.size=true/\t.led=!(w.params.followText "set-order")/\(t.plain=false∨E.size=0)
theorem cp.at{H:Heap}{a:Addr}(x:cp p w h a L)(e:∀o,h.get? a=some o->H.get? a=some o):cp p w H a L:=
 let #[o,E,b,t,c,r]:=x;#[o,E,b,t,e o c,r]
section
variable {prog:Program}{w:World}{A:Around}{E:Value->Shared->Prop}{s:Shared}
theorem Jx{a:Array (Int×Value)}(b:ElemsOf (PySem.strKind prog w) a.toList)(x:Str):
  (a.toList.findIdx? (λe=>(PySem.strKind prog w).is x e.2)=none↔¬x∈a.toList.map λe=>ma e.2):=by
 rw[List.findIdx?_eq_none_iff]
 constructor
 ·intro h m
  obtain⟨e,H,f⟩:=List.mem_map.mp m
  obtain⟨⟨k,g,_⟩,_⟩:=b e H
  obtain⟨t,c⟩:=M8 g
  have q:=h e H
  rw[c]at f q
  have d:k=x:=f
  subst d
  have Q:(PySem.strKind prog w).is k (.str k t)=true:=strKind_is prog w k t
  rw[Q]at q;cases q
 ·intro h e H
  cases q:(PySem.strKind prog w).is x e.2 with
  |false=>rfl
  |true=>
   obtain⟨t,c⟩:=M8 q
   exact absurd (List.mem_map.mpr #[e,H,by rw[c];rfl]) h
theorem Jy{b:Array (Int×Value)}{T:SetTable}(d:s.heap.get? a=some o)(f:o.ExactSet)(h:o.data= .set p c t)
  (g:ElemsOf (PySem.strKind prog w) b.toList) (i:(b.toList.map λe=>ma e.2).Perm L) (j:L.Nodup) (k:b.size < scanBound) (l:T.fits b.size=true)
  (m:T.led=!(w.params.followText "set-order")) (n:T.plain=false):
  (s.heap.update a (Obj.putSet b T)).get? a=some { o with data:=.set b (c+1) T }/\cp prog w (s.heap.update a (Obj.putSet b T)) a L:=by
 have H:(s.heap.update a (Obj.putSet b T)).get? a=some { o with data:=.set b (c+1) T }:=by
  have q:=IQ (Obj.putSet b T) d (by rw[putSet_of b T h];rfl)
  rwa [putSet_of b T h]at q
 exact#[H,_,b,c+1,T,H,f,Z,g,i,j,k,l,m,.inl n]
theorem XE{Q : Bool -> Shared -> Prop}(hS : cp prog w s.heap a L)(room : L.length + 1 < scanBound)
    (h : ∀ b R l, Heap.SameBut a s.heap R -> cp prog w R a (if x ∈ L then L else L ++ [x]) -> s.toks <= l -> Q b { s with heap := R, toks := l }) :
    wpAny (model prog w) A (setAdd a (.str x f)) Q E s := by
  obtain ⟨o, g, ep, t, n, U, u, H, v, B, hb, V, X, Y⟩ := hS
  have d : (PySem.strKind prog w).is x (.str x f) = true := strKind_is prog w x f
  have C : g.size = L.length := by rw [<- v.length_eq, HZ, IC]
  unfold setAdd
  refine IF (HV ((PySem.strKind prog w).pyHash (k := x) d ?_))
  unfold setAddHashed setAddHashedIn
  refine IF (HV (LL (s := { s with toks := s.toks + 1 }) n u V ?_))
  dsimp only
  rw [byScan_of Z hb H]
  simp only [↓reduceIte]
  unfold setAddByScan
  refine HV (HV (LX (HV (wpAny_setScan_of (knd := PySem.strKind prog w) d n u V H ?_))))
  cases hr : List.findIdx? (λe => (PySem.strKind prog w).is x e.2) g.toList with
  | some j =>
    dsimp only
    have D : x ∈ L := by
      refine Decidable.byContradiction λhn => ?_
      have q := (Jx (prog := prog) (w := w) H x).mpr λm => hn (v.mem_iff.mp m)
      rw [q] at hr; cases hr
    have q := h false s.heap (s.toks + 1) (Heap.SameBut.refl a s.heap) (by rw [Io D]; exact #[o, g, ep, t, n, U, u, H, v, B, hb, V, X, Y]) (Lu _)
    exact HY (HY q)
  | none =>
    dsimp only
    have D : ¬ x ∈ L :=λm => (Jx (prog := prog) (w := w) H x).mp hr (v.mem_iff.mpr m)
    have W : ∀ (b : Bool) {S : Shared} {Q' : Unit -> Shared -> Prop}, Q' () S -> wpAny (model prog w) A (match b with | true => rule "set.scan.the-table-gave-way" | false => pure ()) Q' E S := by
      intro b S Q' hq
      cases b
      · exact HY hq
      · exact LX hq
    have p := layNew_perm t g ((PySem.strKind prog w).hash x) (.str x f)
    have M := layNew_fits t g ((PySem.strKind prog w).hash x) (.str x f)
    have O := Ye t g ((PySem.strKind prog w).hash x) (.str x f)
    generalize layNew t g ((PySem.strKind prog w).hash x) (.str x f) = N at p M O ⊢
    obtain ⟨c, t1, w0, g4⟩ := N
    dsimp only at p M O ⊢
    rw [Array.toList_push] at p
    have F : ElemsOf (PySem.strKind prog w) c.toList := (H.push d Z).perm p
    have P : (c.toList.map λe => ma e.2).Perm (L ++ [x]) := by
      refine (p.map _).trans ?_
      rw [IJ]
      exact v.append_right _
    have G : (L ++ [x]).Nodup := List.nodup_append.mpr #[B, by simp,λy hy z hz e => by rw [NR] at hz; subst hz; subst e; exact D hy]
    have lY : c.size = g.size + 1 := by rw [<- IC, p.length_eq, Ia, IC]; rfl
    have b1 : c.size < scanBound := by rw [lY, C]; exact room
    refine HV (W _ ?_)
    have i : ∀ T : SetTable, T.fits c.size = true -> T.led = t.led -> T.plain = false ->
        wpAny (model prog w) A (do
          storeSet a c T
          if (!w0 && T.tooFull) = true then do
              (match (relayAll T c (SetTable.grown c.size)).2.2 with | true => rule "set.scan.the-table-gave-way" | false => pure ())
              storeSet a (relayAll T c (SetTable.grown c.size)).1 (relayAll T c (SetTable.grown c.size)).2.1
              pure (some true)
            else pure (some true)) (λr s' => r = some true /\ Q true s') E { s with toks := s.toks + 1 } := by
      intro T g1 g2 g3
      refine HV (wpAny_storeSet_of (s := { s with toks := s.toks + 1 }) n u ?_ (Nt b1))
      obtain ⟨o1, S1⟩ := Jy (s := s) (prog := prog) (w := w) n U u F P G b1 g1 (g2.trans X) g3
      have I := LP s.heap a (Obj.putSet c T)
      split
      · have J := relayAll_perm T c (SetTable.grown c.size)
        have f2 := relayAll_fits T c (SetTable.grown c.size)
        have l2 := QT T c (SetTable.grown c.size)
        have q2 := KC T c (SetTable.grown c.size) g3
        generalize relayAll T c (SetTable.grown c.size) = Z at J f2 l2 q2 ⊢
        obtain ⟨K, t3, g0⟩ := Z
        dsimp only at J f2 l2 q2 ⊢
        have bM : K.size = c.size := by rw [<- IC, J.length_eq, IC]
        have b2 : K.size < scanBound := by rw [bM]; exact b1
        refine HV (W _ (HV (wpAny_storeSet_of (s := { s with heap := s.heap.update a (Obj.putSet c T), toks := s.toks + 1 }) o1 Z ?_ (Nt b2))))
        obtain ⟨_, S2⟩ := Jy (s := { s with heap := s.heap.update a (Obj.putSet c T) }) (prog := prog) (w := w) o1 U Z (F.perm J) ((J.map _).trans P) G b2 f2 (l2.trans (g2.trans X)) q2
        exact HY #[Z, h true _ _ (I.trans (LP _ a _)) (by rw [Iu D]; exact S2) (Lu _)]
      · exact HY #[Z, h true _ _ I (by rw [Iu D]; exact S1) (Lu _)]
    split
    · rename_i tp
      refine HV ?_
      rw [hashByValue_scannable 8 (x := .str x f) Z]
      refine HY ?_
      have e0 : plainKind (.str x f) = false := rfl
      rw [e0]
      simp only [Iq, ↓reduceIte]
      refine Ln (i { t1 with plain := false } (SetTable.fits_plain_off M) O Z) (λr s' q => ?_) λ_ _ z => z
      obtain ⟨rfl, q⟩ := q
      exact HY q
    · rename_i tp
      refine HV (HY ?_)
      simp only [↓reduceIte]
      refine Ln (i t1 M O (by simpa using tp)) (λr s' q => ?_) λ_ _ z => z
      obtain ⟨rfl, q⟩ := q
      exact HY q
end
noncomputable def bj(w:World):Obj:={ cls:=.type "set",dict:=none,data:=.set (List.toArray []) 0 (.fresh 0 0 (!(w.params.followText "set-order"))) }
section
variable {prog:Program}{w:World}{A:Around}{E:Value->Shared->Prop}{s:Shared}
theorem XF{h:Heap}(e:h.get? a=some (bj w)):cp prog w h a []:=
 #[_,(List.toArray []),0,_,e,#[Z,Z,Z],Z,λ_ z=>by simp at z,OH,NE,(by decide:(0:Nat) < scanBound),Z,Z,.inr Z]
theorem KO(a:Value){G:Value->Shared->Prop}(h:G (.ref s.heap.objs.size) { s with heap:=s.heap.push (bj w) }):
  codeAny (model prog w) A (.call (.builtin "set.__new__") #[[.type "set",a],[]]) (wants G E) s:=by
 refine codeAny_of_tree ?_
 show wpAny _ A.in1 (do checkBuiltinCall "set.__new__" _;again (.builtin "set.__new__" _)) _ _ s
 refine HV (Nr (PySem.F.newCall_set_1 a) (HY #[Mf PySem.F.plain_set_new _,Lz PySem.F.entry_set_new ?_]))
 rw[Lh PySem.F.plain_set_new]
 unfold Builtin.«set.__new__» Builtin.Frozenset.newClass
 have o:=sub_set_self
 obtain⟨H,g,d,t,os⟩:=s
 dsimp only
 wp_walk
 refine MD (HY ?_)
 dsimp only
 simp only[newObj]
 exact HV (wpAny_alloc (HY (HY h)))
end
theorem StrsAre.at':∀{V:List Value} {s:List Str},StrsAre V s->∀(i:Nat) (v:Value),V[i]?=some v->∃x t,s[i]?=some x/\v= .str x t
 |_,_,.nil,i,v,h=>by simp at h
 |_,_,.cons y t r,0,v,h=>by simp at h;exact#[y,t,Z,h.symm]
 |_,_,.cons y t r,i+1,v,h=>by
  simp only[List.getElem?_cons_succ]at h
  obtain⟨x,T,e,E⟩:=StrsAre.at' r i v h
  exact#[x,T,by simpa using e,E]
theorem StrsAre.len:∀{v:List Value} {s:List Str},StrsAre v s->s.length=v.length
 |_,_,.nil=>rfl
 |_,_,.cons _ _ r=>by simp [StrsAre.len r]
theorem ke:Slot "set_iterator" "__next__" "set_iterator.__next__":=by
 refine .of (owner:="set_iterator") (n:="__next__") ?_ OJ OJ OJ ?_ ?_
 ·rw[Lx,IY];kernel_rfl
 ·first |exact .inl OJ |exact .inr OJ
 ·rw[LI];kernel_rfl
theorem qc:Slot "set_iterator" "__iter__" "set_iterator.__iter__":=by
 refine .of (owner:="set_iterator") (n:="__iter__") ?_ OJ OJ OJ ?_ ?_
 ·rw[Lx,IY];kernel_rfl
 ·first |exact .inl OJ |exact .inr OJ
 ·rw[LI];kernel_rfl
theorem Jp:entryFor table "set_iterator.__next__"=some Builtin.«set_iterator.__next__»:=ND (by kernel_rfl)
theorem Jq:entryFor table "set_iterator.__iter__"=some Builtin.«dict_keyiterator.__iter__»:=by
 refine NZ (id':="dict_keyiterator.__iter__") ?_ Z OJ ?_<;>kernel_rfl
theorem JD:entryFor table "set.__iter__"=some Builtin.«frozenset.__iter__»:=by
 refine NZ (id':="frozenset.__iter__") ?_ Z OJ ?_<;>kernel_rfl
theorem JE(a:Value):argsOk "set_iterator.__next__" #[[a],[]]:=by unfold argsOk;kernel_rfl
theorem JF(a:Value):argsOk "set_iterator.__iter__" #[[a],[]]:=by unfold argsOk;kernel_rfl
def bY(h:Heap)(I:Addr)(f:Value)(i:Nat)(S:Addr)(n e:Nat):Prop:=
 ∃o,h.get? I=some o/\o.cls= .type "set_iterator"/\o.data= .fields (List.toArray [f,.int i 0,.ref S,.int n 0,.int e 0])
theorem bY.at{H:Heap}{i:Nat}{S:Addr}(x:bY h I f i S n E)(e:∀o,h.get? I=some o->H.get? I=some o):bY H I f i S n E:=
 let #[o,a,r]:=x;#[o,e o a,r]
theorem bY.is{s:Shared}{S:Addr}(x:bY s.heap I f i S n e):s.TypeIs (.ref I) "set_iterator":=let #[o,h,H,_]:=x;#[o,h,H]
section
variable {prog:Program}{w:World}{A:Around}{E:Value->Shared->Prop}{s:Shared}
theorem JI{c:Type}{Q:c->Shared->Prop}(d:A.handled=none)
  (h:∀H e,(∀b o,s.heap.get? b=some o->H.get? b=some o)->Shared.TypeIs { s with heap:=H } e "StopIteration"->E e { s with heap:=H }):
  wpAny (model prog w) A (do raiseNew (<- newExc (.type "StopIteration") []):Sem c) Q E s:=by
 refine HV ?_
 simp only[newExc,newTuple]
 refine HV (IR ?_ (by size_fits))
 refine HV (m:=firstArgMember _ _) (Nr (a:=Value.none) ?_ ?_)
 ·first |rfl | (simp only[firstArgMember];rfl)
 refine IR ?_ (by size_fits)
 simp only[raiseNew]
 refine HV (wpAny_handled ?_)
 rw[d]
 refine HV (HY (wpAny_throw (h _ _ (λb o e=>HX _ (HX _ e)) ?_)))
 exact#[_,Ig _ Z,Z]
theorem JJ{S:Addr}(H:bY s.heap I f i S n c)
  (h:wpAny (model prog w) A.in1 (Builtin.«set_iterator.__next__» #[[.ref I],[]]) (λF a=>∃v,F= .done (.ret v)/\Q (some v) a) (λe a=>a.TypeIs e "StopIteration"/\Q none a) s):
  wpAny (model prog w) A (pyNext (.ref I)) Q E s:=by
 unfold pyNext
 refine HV (MM (IP (name:=Str.ofString "__next__") H.is ke (IU ke H.is Jp ?_ (JE _))))
 refine Ln h (λF a q=>?_) λe a q=>?_
 ·obtain⟨v,e,q⟩:=q
  exact#[v,e,HY q]
 ·exact HV (Mh (T:="StopIteration") (b:=true) q.1 NY (HY q.2))
theorem Qo{I:Addr}{f:Value}{i:Nat}{S:Addr}{n a:Nat}{o:Obj}{v:Array Value}(H:s.heap.get? I=some o)(b:o.cls= .type "set_iterator")(h:o.data= .fields v)(k:Nat)(x:Value)
  (e:v.setIfInBounds k x=(List.toArray [f,.int i 0,.ref S,.int n 0,.int a 0])):bY (s.heap.update I (Obj.mapFields (·.setIfInBounds k x))) I f i S n a:=
 #[_,IQ _ H (Lo (IN h _)),(M0 ..).trans b,by rw[IN h,e]]
theorem Yf{I S P:Addr}{i:Nat}{O j:Obj}{e:Array (Int×Value)}{a:Nat}{t:SetTable}{k:Array Value}{c p:Nat}{hx:Int}{x:Value}{Q:Option Value->Shared->Prop}
  (h:bY s.heap I (.ref P) i S e.size a) (l:s.heap.get? S=some O) (H:O.data= .set e a t) (m:t.fits e.size=true) (n:s.heap.get? P=some j) (b:j.data= .seq k c)
  (q:k[i]?=some (.int p 0)) (r:e[p]?=some (hx,x)) (u:∀d,bY d I (.ref P) (i+1) S e.size a->Heap.SameBut I s.heap d->Q (some x) { s with heap:=d }):
  wpAny (model prog w) A (pyNext (.ref I)) Q E s:=by
 refine JJ h ?_
 obtain⟨o,f,v,g⟩:=h
 show wpAny _ _ (fieldsOf (.ref I) >>= _) _ _ s
 refine HV (NV f g ?_)
 dsimp only
 refine HV (MK l H m ?_)
 simp only[LY,Iq,↓reduceIte]
 refine HV (Lb n b ?_)
 simp only[IW,q]
 unfold setNextDrawn
 refine HV (HV (LL l H m ?_))
 simp only[LY,Iq,↓reduceIte,r]
 refine HY ?_
 refine HV (IZ f g OH (HY #[x,Z,u _ ?_ (LP ..)]))
 exact Qo f v g _ _ (by simp [rawInt])
theorem KD(q:A.handled=none){I S P:Addr}{i:Nat}{O l:Obj}{d:Array (Int×Value)}{m:Nat}{t:SetTable}{p:Array Value}{c:Nat}{Q:Option Value->Shared->Prop}
  (h:bY s.heap I (.ref P) i S d.size m) (r:s.heap.get? S=some O) (f:O.data= .set d m t) (u:t.fits d.size=true) (v:s.heap.get? P=some l) (g:l.data= .seq p c)
  (x:p[i]?=none) (y:∀H,(∀b o,b≠I->s.heap.get? b=some o->H.get? b=some o)->Q none { s with heap:=H }):
  wpAny (model prog w) A (pyNext (.ref I)) Q E s:=by
 refine JJ h ?_
 obtain⟨o,j,B,a⟩:=h
 show wpAny _ _ (fieldsOf (.ref I) >>= _) _ _ s
 refine HV (NV j a ?_)
 dsimp only
 refine HV (MK r f u ?_)
 simp only[LY,Iq,↓reduceIte]
 refine HV (Lb v g ?_)
 simp only[IW,x]
 refine HV (IZ j a OH ?_)
 refine HV (IZ (IQ _ j (Lo (IN a _))) (IN a _) OH ?_)
 refine JI (s:={ s with heap:=_ }) (by simpa using q) λH e k T=>#[T,y H λb o n z=>k b o ?_]
 exact(Iv _ _ (IM n)).trans ((Iv _ _ (IM n)).trans z)
end
section
variable {prog:Program}{w:World}{A:Around}{E:Value->Shared->Prop}{s:Shared}
theorem Qp{I S:Addr}{i j nx:Nat}{O:Obj}{e:Array (Int×Value)}{a:Nat}{t:SetTable}{x:Value}{Q:Option Value->Shared->Prop}
  (h:bY s.heap I (.int j 0) i S e.size a) (f:s.heap.get? S=some O) (b:O.data= .set e a t) (k:t.fits e.size=true)
  (l:∀(q:Option (Value×Nat)->Shared->Prop) m,q (some (x,nx)) s->wpAny (model prog w) A.in1 (setNext S j i a) q m s)
  (n:∀c,bY c I (.int nx 0) (i+1) S e.size a->Heap.SameBut I s.heap c->Q (some x) { s with heap:=c }):
  wpAny (model prog w) A (pyNext (.ref I)) Q E s:=by
 refine JJ h ?_
 obtain⟨o,d,p,H⟩:=h
 show wpAny _ _ (fieldsOf (.ref I) >>= _) _ _ s
 refine HV (NV d H ?_)
 dsimp only
 refine HV (MK f b k ?_)
 simp only[LY,Iq,↓reduceIte]
 simp only[IW]
 refine HV (l _ _ ?_)
 dsimp only
 refine HV (IZ d H OH ?_)
 have g:=IQ (Obj.mapFields (·.setIfInBounds 0 (rawInt nx))) d (Lo (IN H _))
 have D:=IN H (·.setIfInBounds 0 (rawInt nx))
 refine HV (IZ g D OH (HY #[x,Z,n _ ?_ ((LP ..).trans (LP ..))]))
 exact Qo (s:={ s with heap:=_ }) g ((M0 ..).trans p) D _ _ (by simp [rawInt])
theorem qC(l:A.handled=none){I S:Addr}{i j:Nat}{O:Obj}{a:Array (Int×Value)}{c:Nat}{t:SetTable}{Q:Option Value->Shared->Prop}
  (h:bY s.heap I (.int j 0) i S a.size c) (m:s.heap.get? S=some O) (d:O.data= .set a c t) (n:t.fits a.size=true)
  (p:∀(q:Option (Value×Nat)->Shared->Prop) r,q none s->wpAny (model prog w) A.in1 (setNext S j i c) q r s)
  (u:∀H,(∀b o,b≠I->s.heap.get? b=some o->H.get? b=some o)->Q none { s with heap:=H }):
  wpAny (model prog w) A (pyNext (.ref I)) Q E s:=by
 refine JJ h ?_
 obtain⟨o,f,y,g⟩:=h
 show wpAny _ _ (fieldsOf (.ref I) >>= _) _ _ s
 refine HV (NV f g ?_)
 dsimp only
 refine HV (MK m d n ?_)
 simp only[LY,Iq,↓reduceIte]
 simp only[IW]
 refine HV (p _ _ ?_)
 dsimp only
 refine HV (IZ f g OH ?_)
 refine JI (s:={ s with heap:=_ }) (by simpa using l) λH e k T=>#[T,u H λb o v x=>k b o ?_]
 exact(Iv _ _ (IM v)).trans x
theorem Jb(a:w.params.followText "set-order"=true){S:Addr}(b:s.heap.get? S=some o)(H:o.data= .set c d t)
  (f:t.fits c.size=true) {Q:Option (Value×Nat)->Shared->Prop} (h:Q (((pickOrder (w.params.setOrder S d) c)[i]?).map λe=>(e.2,j)) s):
  wpAny (model prog w) A (setNext S j i d) Q E s:=by
 unfold setNext
 refine HV (LL b H f ?_)
 dsimp only
 unfold setsByText
 refine HV (HV (MD (HY ?_)))
 dsimp only
 rw[show(model prog w).w.params.followText "set-order"=_ from a]
 simp only[↓reduceIte,LY,Iq]
 unfold setWalk
 refine HV (HV (LL b H f ?_))
 dsimp only
 unfold setsByText
 refine HV (HV (MD (HY ?_)))
 dsimp only
 rw[show(model prog w).w.params.followText "set-order"=_ from a]
 simp only[↓reduceIte]
 exact HV (MD (HY (HY h)))
theorem Jz(a:w.params.followText "set-order"=false){S:Addr}(b:s.heap.get? S=some o)(H:o.data= .set e c t)
  (d:t.fits e.size=true) (f:t.led=true) (l:e.size<=1) {Q:Option (Value×Nat)->Shared->Prop}
  (h:Q (match e[SetTable.below t.place j]?,t.place[SetTable.below t.place j]? with |some (_,x),some k=>some (x,k+1) |_,_=>none) s):
  wpAny (model prog w) A (setNext S j i c) Q E s:=by
 unfold setNext
 refine HV (LL b H d ?_)
 dsimp only
 unfold setsByText
 refine HV (HV (MD (HY ?_)))
 dsimp only
 rw[show(model prog w).w.params.followText "set-order"=_ from a]
 simp only[Iq,↓reduceIte]
 split
 ·rename_i z
  have g:(!t.plain&&decide (e.size > 1))=true:=z
  simp only[Lp,decide_eq_true_eq]at g
  omega
 ·refine HV ?_
  show wpAny _ _ (if (!t.led&&!e.isEmpty)=true then _ else _) _ _ _
  rw[f]
  simp only[MZ,Bool.false_and,Iq,↓reduceIte]
  exact HY (HY h)
end
theorem XG{a:Type}(f:Nat->Nat):∀(n k:Nat) (l:List a) (o:Array a),l.length=n->(pickOrder.go f n k l o).toList.Perm (o.toList++l):=by
 intro n
 induction n with
 |zero=>
  intro k l o h
  rw[List.length_eq_zero_iff.mp h]
  unfold pickOrder.go
  simp
 |succ n i=>
  intro k l o h
  unfold pickOrder.go
  have H:f k % l.length < l.length:=Nat.mod_lt _ OG
  rw[HW H]
  dsimp only
  refine(i _ _ _ (by rw[On H,h];rfl)).trans ?_
  rw[Array.toList_push,M',List.singleton_append]
  refine List.Perm.append_left _ ?_
  rw[N6]
  refine List.perm_middle.symm.trans ?_
  rw[LJ,MU]
theorem kC{a:Type}(f:Nat->Nat)(x:Array a):(pickOrder f x).toList.Perm x.toList:=by
 have h:=XG f x.size 0 x.toList (List.toArray []) (IC ..)
 simpa [pickOrder] using h
theorem qY{a:Type}(x:Array a)(d:a):(List.range x.size).map (λp=>(x[p]?).getD d)=x.toList:=by
 refine N8 OH λi b h=>?_
 have H:i < x.size:=by simpa using h
 simp [H]
def nH(ord:List (Int×Value))(i:Nat)(v:Value):Prop:=∃e,ord[i]?=some e/\v=e.2
section
variable {prog:Program}{w:World}{A:Around}{E:Value->Shared->Prop}{s:Shared}
theorem qJ{S:Addr}(H:bY s.heap I f i S n e){Q:Value->Shared->Prop}(h:Q (.ref I) s):wpAny (model prog w) A (pyIter (.ref I)) Q E s:=by
 refine Oj H.is qc (IU qc H.is Jq ?_ (JF _))
 show wpAny _ _ (ret (.ref I)) _ _ s
 exact HY #[_,Z,"set_iterator",_,H.is,ke.lookup,h]
theorem Yg(D:A.handled=none)(I S P:Addr)(l:S≠I)(m:P≠I){O oP:Obj}{y:List Nat}{c:Nat}(f:O.data= .set d G t)
  (u:t.fits d.size=true) (g:oP.data= .seq (y.map λ(i:Nat)=>rawInt i).toArray c) (n:y.Perm (List.range d.size)):
  WalksS prog w A I [I,S,P] [I] (λa b=>b=a) d.size (nH (y.map λp=>(d[p]?).getD (0,.none)))
   (λi s=>bY s.heap I (.ref P) i S d.size G/\s.heap.get? S=some O/\s.heap.get? P=some oP) where
 sub:=λb H=>by simp at H;simp [H]
 grefl:=λ_=>Z
 gtrans:=λ_ _ _ F J=>J.trans F
 frame:=λi s v T st _ k=>#[st.1.at λo e=>k I OH o e,k S OH _ st.2.1,k P OH _ st.2.2]
 item:=λi s Q E K st j=>by
  have B:y.length=d.size:=by rw[n.length_eq,M9]
  have h:i < y.length:=by omega
  have C:y[i] < d.size:=List.mem_range.mp (n.mem_iff.mp (MY h))
  refine Yf (p:=y[i]) (hx:=(d[y[i]]).1) (x:=(d[y[i]]).2) st.1 st.2.1 f u st.2.2 g (by simp [h,rawInt]) (by simp [C]) λv q r=>?_
  refine j _ _ #[d[y[i]],by simp [h,C],Z] #[q,?_,?_] #[λb o H e=>?_,Z,Z,Z,Ib _]
  ·rw[r.2 S l];exact st.2.1
  ·rw[r.2 P m];exact st.2.2
  ·rw[r.2 b (λz=>H (by simp [z]))];exact e
 done:=λs Q E st j=>by
  have B:y.length=d.size:=by rw[n.length_eq,M9]
  refine KD D st.1 st.2.1 f u st.2.2 g (by simp [B]) λv k=>j _ #[λb o H e=>k b o (λz=>H (by simp [z])) e,Z,Z,Z,Ib _]
 self:=λ_ _ _ _ st j=>qJ st.1 j
theorem ZA(r:A.handled=none)(m:w.params.followText "set-order"=true)(I S:Addr)(l:S≠I){O:Obj}(h:O.data= .set c d t)
  (j:t.fits c.size=true):
  WalksS prog w A I [I,S] [I] (λa b=>b=a) c.size (nH (pickOrder (w.params.setOrder S d) c).toList)
   (λi s=>bY s.heap I (.int (0:Nat) 0) i S c.size d/\s.heap.get? S=some O) where
 sub:=λb H=>by simp at H;simp [H]
 grefl:=λ_=>Z
 gtrans:=λ_ _ _ u v=>v.trans u
 frame:=λi s n T st _ k=>#[st.1.at λo e=>k I OH o e,k S OH _ st.2]
 item:=λi s Q E D st f=>by
  have y:(pickOrder (w.params.setOrder S d) c).size=c.size:=by rw[<- IC,(kC _ _).length_eq,IC]
  have g:i < (pickOrder (w.params.setOrder S d) c).size:=by omega
  refine Qp (x:=(pickOrder (w.params.setOrder S d) c)[i].2) (nx:=0) st.1 st.2 h j (λB C q=>Jb m st.2 h j (by rw[LV g];exact q)) λn q p=>?_
  refine f _ _ #[(pickOrder (w.params.setOrder S d) c)[i],by rw[LQ];exact LV g,Z] #[q,?_] #[λb o H e=>?_,Z,Z,Z,Ib _]
  ·rw[p.2 S l];exact st.2
  ·rw[p.2 b (λz=>H (by simp [z]))];exact e
 done:=λs Q E st f=>by
  have y:(pickOrder (w.params.setOrder S d) c).size=c.size:=by rw[<- IC,(kC _ _).length_eq,IC]
  refine qC r st.1 st.2 h j (λB C q=>Jb m st.2 h j (by rw[Np OG];exact q)) λn k=>f _ #[λb o H e=>k b o (λz=>H (by simp [z])) e,Z,Z,Z,Ib _]
 self:=λ_ _ _ _ st f=>qJ st.1 f
theorem Yh(p:Nat):SetTable.below (List.toArray [p]) 0=0:=by simp [SetTable.below,SetTable.below.go]
theorem Yi(p:Nat):SetTable.below (List.toArray [p]) (p+1)=1:=by simp [SetTable.below,SetTable.below.go]
theorem vh(G:A.handled=none)(u:w.params.followText "set-order"=false)(I S:Addr)(n:S≠I){O:Obj}(h:O.data= .set c L t)
  (g:t.fits c.size=true) (v:t.led=true) (y:c.size<=1):
  WalksS prog w A I [I,S] [I] (λa b=>b=a) c.size (nH c.toList)
   (λi s=>(∃j:Nat,bY s.heap I (.int j 0) i S c.size L/\(i=0->j=0)/\(i=1->∃p,t.place=(List.toArray [p])/\j=p+1))/\s.heap.get? S=some O) where
 sub:=λb d=>by simp at d;simp [d]
 grefl:=λ_=>Z
 gtrans:=λ_ _ _ K M=>M.trans K
 frame:=λi s B W st _ k=>#[let #[j,a,r]:=st.1;#[j,a.at λo e=>k I OH o e,r],k S OH _ st.2]
 item:=λi s Q E X st l=>by
  obtain⟨⟨j,H,J,C⟩,f⟩:=st
  have N:i=0:=by omega
  subst N
  cases J Z
  have D:c.size=1:=by omega
  have P:t.place.size=1:=by
   simp only[SetTable.fits,Lp,beq_iff_eq]at g
   omega
  obtain⟨p,m⟩:=Array.size_eq_one_iff.mp P
  refine Qp (x:=(c[0]'OG).2) (nx:=p+1) H f h g (λR T q=>Jz u f h g v y (by rw[m,Yh,LV OG];exact q)) λB q F=>?_
  refine l _ _ #[c[0]'OG,by rw[LQ];exact LV OG,Z] #[#[_,q,λz=>by omega,λ_=>#[p,m,Z]],?_] #[λb o d e=>?_,Z,Z,Z,Ib _]
  ·rw[F.2 S n];exact f
  ·rw[F.2 b (λz=>d (by simp [z]))];exact e
 done:=λs Q E st l=>by
  obtain⟨⟨j,H,J,C⟩,f⟩:=st
  refine qC G H f h g (λR T q=>Jz u f h g v y ?_) λB k=>l _ #[λb o d e=>k b o (λz=>d (by simp [z])) e,Z,Z,Z,Ib _]
  by_cases z:c.size=0
  ·rw[Np (show c.size<=_ by omega)];exact q
  ·have D:c.size=1:=by omega
   obtain⟨p,U,V⟩:=C D
   subst V
   rw[U,Yi,Np (show c.size<=1 by omega)];exact q
 self:=λ_ _ _ _ st l=>let #[#[_,a,_],_]:=st;qJ a l
end
theorem zY{prog:Program}{w:World}(h:ElemsOf (PySem.strKind prog w) E)(i:Nat)(v:Value)(b:nH E i v):∃x t,(E.map λe=>ma e.2)[i]?=some x/\v= .str x t:=by
 obtain⟨e,H,rfl⟩:=b
 obtain⟨⟨k,c,_⟩,_⟩:=h e (IA H)
 obtain⟨t,a⟩:=M8 c
 exact#[k,t,by rw[Ir,H];show some (ma e.2)=_;rw[a];rfl,a]
def AD(p:Program)(w:World)(s c:Shared)(S I:Addr)(L:List Str):Prop:=
 ∃(f:List Addr) (d:List Str) (P:Nat->Value->Prop) (St:Nat->Shared->Prop),(∀b o,s.heap.get? b=some o->c.heap.get? b=some o)/\c.gens=s.gens/\c.os=s.os/\s.toks<=c.toks/\
  s.heap.objs.size<=I/\I < c.heap.objs.size/\c.TypeIs (.ref I) "set_iterator"/\(∀b∈f,b=S∨s.heap.objs.size<=b)/\(∀A:Around,A.handled=none->WalksS p w A I f [I] (λa b=>b=a) d.length P St)/\St 0 c/\
  (∀i v,P i v->∃x t,d[i]?=some x/\v= .str x t)/\d.Perm L
section
variable {prog:Program}{w:World}{A:Around}{E:Value->Shared->Prop}{s:Shared}
theorem Yj{S:Addr}(V:cp prog w s.heap S L){Q:Value->Shared->Prop}(h:∀f I,AD prog w s f S I L->Q (.ref I) f):wpAny (model prog w) A (pyIter (.ref S)) Q E s:=by
 obtain⟨o,a,x,t,H,W,m,n,M,X,r,u,Y,N⟩:=V
 have P:s.TypeIs (.ref S) "set":=#[o,H,W.1]
 have v:S < s.heap.objs.size:=Ie H
 refine Oj P PySem.F.slot_set_iter (IU PySem.F.slot_set_iter P JD ?_ (PySem.F.args_set_iter_1 _))
 unfold Builtin.«frozenset.__iter__»
 show wpAny _ _ (Builtin.Frozenset.sizeOf S >>= _) _ _ s
 unfold Builtin.Frozenset.sizeOf
 refine HV (HV (MK H m u (HY ?_)))
 unfold setDrawn
 refine HV (HV (LL H m u ?_))
 dsimp only
 unfold setsByText
 refine HV (HV (MD (HY (HY ?_))))
 split
 ·rename_i z
  have B:(!(w.params.followText "set-order")&&(!t.plain&&decide (a.size > 1)))=true:=z
  simp only[Lp,decide_eq_true_eq]at B
  refine HV (XD a.size (List.range a.size) s OH λy d G=>?_)
  have C:y.length=a.size:=by rw[G.length_eq,M9]
  have O:((y.map λ(i:Nat)=>rawInt i).length)<=sizeLine:=by rw[HZ,C];exact Nt r
  refine HV (wpAny_newTuple (s:={ s with drawn:=d }) ?_ O)
  refine HV ?_
  unfold setEpoch
  refine HV (LL (HX _ H) m u (HY ?_))
  refine HV (IR (HY #[_,Z,"set_iterator",_,#[_,Ig _ Z,Z],ke.lookup,h _ _ ?_]))
  generalize J:s.heap.push { cls:=.type "tuple",data:=.seq (y.map λ(i:Nat)=>rawInt i).toArray }=g
  have R:g.objs.size=s.heap.objs.size+1:=by rw[<- J,I0]
  have gP:g.get? s.heap.objs.size=some { cls:=.type "tuple",data:=.seq (y.map λ(i:Nat)=>rawInt i).toArray }:=by rw[<- J];exact Ig _ Z
  have gS:g.get? S=some o:=by rw[<- J];exact HX _ H
  refine#[[g.objs.size,S,s.heap.objs.size],(y.map λp=>(a[p]?).getD (0,.none)).map λe=>ma e.2,nH (y.map λp=>(a[p]?).getD (0,.none)),
   (λi f=>bY f.heap g.objs.size (.ref s.heap.objs.size) i S a.size x/\f.heap.get? S=some o/\f.heap.get? s.heap.objs.size=some { cls:=.type "tuple",data:=.seq (y.map λ(i:Nat)=>rawInt i).toArray }),λb o e=>?_,Z,Z,Ib _,?_,?_,#[_,Ig _ Z,Z],λb r=>?_,
   λT D=>?_,#[#[_,Ig _ Z,Z,Z],HX _ gS,HX _ gP],?_,?_]
  ·exact HX _ (by rw[<- J];exact HX _ e)
  ·show s.heap.objs.size<=g.objs.size
   omega
  ·show g.objs.size < (g.push _).objs.size
   rw[I0];exact Ls _
  ·simp only[Md,IL,M5]at r
   rcases r with e |e |e
   ·subst e;exact .inr OG
   ·exact .inl e
   ·rw[e];exact .inr (Ib _)
  ·have q:=Yg (prog:=prog) (w:=w) D g.objs.size S s.heap.objs.size (Ij (by rw[R];exact Ml v)) (Ij (by rw[R];exact Ls _)) m u (oP:={ cls:=.type "tuple",data:=.seq (y.map λ(i:Nat)=>rawInt i).toArray }) (c:=0) Z G
   simpa [C] using q
  ·refine zY (prog:=prog) (w:=w) (n.perm ?_)
   have q:=G.map λp=>(a[p]?).getD ((0:Int),Value.none)
   rwa [qY]at q
  ·have q:=G.map λp=>(a[p]?).getD ((0:Int),Value.none)
   rw[qY]at q
   exact(q.map _).trans M
 ·rename_i z
  have B:¬(!(w.params.followText "set-order")&&(!t.plain&&decide (a.size > 1)))=true:=z
  refine HV (HY ?_)
  refine HV ?_
  unfold setEpoch
  refine HV (LL H m u (HY ?_))
  refine HV (IR (HY #[_,Z,"set_iterator",_,#[_,Ig _ Z,Z],ke.lookup,h _ _ ?_]))
  have k:∀b∈[s.heap.objs.size,S],b=S∨s.heap.objs.size<=b:=λb r=>by
   simp only[Md,IL,M5]at r
   rcases r with e |e
   ·subst e;exact .inr (Ib _)
   ·exact .inl e
  have l:∀U:Obj,s.heap.objs.size < (s.heap.push U).objs.size:=λU=>by rw[I0];exact Ls _
  cases K:w.params.followText "set-order" with
  |true=>
   have pl:(pickOrder (w.params.setOrder S x) a).toList.length=a.size:=by rw[(kC _ _).length_eq,IC]
   refine#[[s.heap.objs.size,S],(pickOrder (w.params.setOrder S x) a).toList.map λe=>ma e.2,nH (pickOrder (w.params.setOrder S x) a).toList,
    (λi f=>bY f.heap s.heap.objs.size (.int (0:Nat) 0) i S a.size x/\f.heap.get? S=some o),λb o e=>HX _ e,Z,Z,Ib _,Ib _,l _,#[_,Ig _ Z,Z],k,
    λT D=>?_,#[#[_,Ig _ Z,Z,Z],HX _ H],?_,?_]
   ·have q:=ZA (prog:=prog) (w:=w) D K s.heap.objs.size S (Ij v) m u
    rw[HZ,pl];exact q
   ·exact zY (prog:=prog) (w:=w) (n.perm (kC _ _))
   ·exact((kC _ _).map _).trans M
  |false=>
   have hs:a.size<=1:=by
    rw[K]at B
    rcases N with e |e
    ·rw[e]at B
     simp at B
     exact B
    ·omega
   refine#[[s.heap.objs.size,S],a.toList.map λe=>ma e.2,nH a.toList,
    (λi f=>(∃j:Nat,bY f.heap s.heap.objs.size (.int j 0) i S a.size x/\(i=0->j=0)/\(i=1->∃p,t.place=(List.toArray [p])/\j=p+1))/\f.heap.get? S=some o),λb o e=>HX _ e,Z,Z,Ib _,Ib _,l _,#[_,Ig _ Z,Z],k,
    λT D=>?_,#[#[0,#[_,Ig _ Z,Z,Z],λ_=>Z,λz=>by cases z],HX _ H],?_,?_]
   ·have q:=vh (prog:=prog) (w:=w) D K s.heap.objs.size S (Ij v) m u (by rw[Y,K];rfl) hs
    rw[HZ,IC];exact q
   ·exact zY (prog:=prog) (w:=w) n
   ·exact M
theorem qD:∀(V:List Value) (S:List Str),V.length=S.length->(∀(i:Nat) (v:Value),V[i]?=some v->∃x t,S[i]?=some x/\v=Value.str x t)->StrsAre V S
 | [],[],_,_=>.nil
 | [],_::_,h,_=>by cases h
 |_::_,[],h,_=>by cases h
 |v::V,y::S,h,k=>by
  obtain⟨x,t,e,rfl⟩:=k 0 v Z
  cases e
  exact .cons y t (qD V S (by simpa using h) λi u H=>k (i+1) u (by simpa using H))
theorem KP{S:Addr}(hh:A.handled=none)(y:cp prog w s.heap S L){Q:List Value->Shared->Prop}
  (h:∀a V g,s.heap.objs.size<=a.heap.objs.size->(∀b o,s.heap.get? b=some o->a.heap.get? b=some o)->a.gens=s.gens->a.os=s.os->s.toks<=a.toks->StrsAre V g->g.Perm L->Q V a):wpAny (model prog w) A (collect (.ref S)) Q E s:=by
 have n:L.length < scanBound:=by
  obtain⟨o,es,ep,t,j,M,hd,h0,u,h1,k,hf,hl,h2⟩:=y
  rw[<- u.length_eq,HZ,IC];exact k
 unfold collect
 refine HV (wpAny_runValue (Lz Og ?_))
 rw[Lh Of]
 show wpAny _ A.in1 (newList [] >>= λl=>again (.builtin "list.__iadd__" #[[l,.ref S],[]])) _ _ s
 refine HV (IR (HY #[Mf MH _,Lz Oz ?_]))
 rw[Lh MH]
 show wpAny _ A.in1 (Builtin.List.listExtendWith (.ref s.heap.objs.size) (.ref S) (.ref s.heap.objs.size)) _ _ _
 unfold Builtin.List.listExtendWith
 have p:S < s.heap.objs.size:=by obtain⟨o,_,_,_,j,_⟩:=y;exact Ie j
 generalize x:s.heap.push { cls:=.type "list",data:=.seq ([]:List Value).toArray }=H
 have gl:H.get? s.heap.objs.size=some { cls:=.type "list",data:=.seq ([]:List Value).toArray }:=by rw[<- x];exact Ig _ Z
 have R:cp prog w H S L:=y.at λo e=>by rw[<- x];exact HX _ e
 have gk:∀b o,s.heap.get? b=some o->H.get? b=some o:=λb o e=>by rw[<- x];exact HX _ e
 have T:Shared.TypeIs { s with heap:=H } (.ref S) "set":=by
  obtain⟨o,_,_,_,j,M,_⟩:=R
  exact#[o,j,M.1]
 refine HV (LS T ?_)
 have n1:Builtin.List.listSameRef (.ref s.heap.objs.size) (.ref S)=false:=by
  simp only[Builtin.List.listSameRef,beq_eq_false_iff_ne]
  exact I9 p
 have n2:(Value.type "set"==Value.type "list")=false:=by decide
 have n3:(Value.type "set"==Value.type "tuple")=false:=by decide
 simp only[n1,n2,n3,Ov,Iq,Lr]
 refine HV (Yj (s:={ s with heap:=H }) R λr I B=>?_)
 obtain⟨fp,g,P,St,K,kg,ko,kt,C,h3,h4,D,W,st,hv,u⟩:=B
 have G:H.objs.size=s.heap.objs.size+1:=by rw[<- x,I0]
 have f:r.TypeIs (.ref S) "set":=by
  obtain⟨o,j,hc⟩:=T
  exact#[o,K _ _ j,hc]
 refine HV (IF ?_)
 unfold Builtin.List.listLengthHint
 refine HV (LN f PySem.F.slot_set_len.lookup ?_)
 wp_delta
 refine HV (Mh (b:=true) f sub_set_self ?_)
 show wpAny _ A.in1 (typeOf (Value.ref S) >>= _) _ _ _
 refine HV (LS f (HY ?_))
 rw[Io OF]
 refine HV (LX ?_)
 have U:=K _ _ gl
 refine HV ?_
 show wpAny _ A.in1 (updateSeq s.heap.objs.size (·.push .none) >>= λ_=>updateSeq s.heap.objs.size (·.pop)) _ _ _
 refine HV (NP U Z ?_)
 have X:=IQ (Obj.mapSeq (·.push Value.none)) U Z
 refine NP X Z ?_
 have g3:=IQ (Obj.mapSeq (·.pop)) X Z
 have N:¬s.heap.objs.size∈fp:=λm=>by
  rcases D _ m with e |e
  ·exact absurd p (by rw[<- e];exact Li _)
  ·have e':H.objs.size<=s.heap.objs.size:=e
   omega
 have O:∀b o,b≠s.heap.objs.size->r.heap.get? b=some o->((r.heap.update s.heap.objs.size (Obj.mapSeq (·.push Value.none))).update s.heap.objs.size (Obj.mapSeq (·.pop))).get? b=some o:=
  λb o k e=>(Iv _ _ (IM k)).trans ((Iv _ _ (IM k)).trans e)
 have Y:=W A.in1 (by simpa using hh)
 have hn:g.length<=sizeLine:=by rw[u.length_eq];exact Nt n
 refine HY #[Mf Oo _,codeAny_extend_loopS Y hn _ N _ g.length 0 _ _ _ Z (Il _) (Y.frame 0 r _ r.toks st (Ib _) λb k o e=>O b o (λz=>N (z▸k)) e) g3 (ItemsOf.nil P) λa J c m gS d=>?_]
 show wpAny _ A (load s.heap.objs.size >>= _) _ _ a
 refine HV (wpAny_load gS (HY (h a J.toList g (Mg (Ie gS)) (λb o e=>?_) ?_ ?_ ?_ ?_ u)))
 ·have ne:b≠s.heap.objs.size:=Ij (Ie e)
  refine m.heap b o ?_ (O b o ne (K b o (gk b o e)))
  simp only[Md,IL,M5,not_or]
  refine#[ne,λz=>?_]
  have q:s.heap.objs.size+1<=I:=G▸C
  have q2:=Ie e
  rw[z]at q2
  exact absurd (Ip (Ml q2) q) (Li _)
 ·exact m.gens.trans kg
 ·exact m.os.trans ko
 ·exact Ik kt m.toks
 ·refine qD _ _ (by rw[IC,d.1]) λi v e=>hv i v (d.2 i v (by rwa [LQ]at e))
end
section
variable {prog:Program}{w:World}{A:Around}{E:Value->Shared->Prop}{s:Shared}
theorem QU{S:Addr}(z:A.handled=none)(B:cp prog w s.heap S L)(j:L.length < 64){Q:Value->Shared->Prop}
  (h:∀f a c v i,s.heap.objs.size<=a->(∀b o,s.heap.get? b=some o->f.heap.get? b=some o)->f.gens=s.gens->f.os=s.os->f.heap.get? a=some (seqObj "list" v c)->StrsAre v.toList i->i.Perm L->sortedS i=true->Q (.ref a) f):
  wpAny (model prog w) A (call (.builtin "sorted") [.ref S]) Q E s:=by
 refine Calls.call_function_entry kind_sorted plain_sorted entry_sorted (args_sorted1 _) ?_
 unfold Builtin.«sorted»
 refine HV (m:=checkCount "sorted" 1 1 _) (HY ?_)
 refine HV (KP (by simpa using z) B λd v i K k C D P H r=>?_)
 have F:v.length < 64:=by rw[<- _L.StrsAre.len H,r.length_eq];exact j
 refine HV (wpAny_newList ?_ (by have q:sizeLine=1000000000∨64<=sizeLine:=.inr OF;omega))
 have g:=Ig d.heap (o:=seqObj "list" v.toArray 0) Z
 refine HV (IF (IU slot_list_sort #[_,g,Z] entry_list_sort (list_sort_treeK strKind_oneLt g H.keysOf (λV t R e=>keyKind_strs (by rw[<- e];exact H)) F λl G I=>#[_,Z,?_]) (args_list_sort _)))
 obtain⟨n,u,J,M⟩:=sorted_out_str H G I
 generalize (arrOf l).map (·.2)=out at u ⊢
 obtain⟨c,N⟩:=sortedHeap_at (out:=out) g
 have O:∀b o,s.heap.get? b=some o->(sortedHeap (d.heap.push (seqObj "list" v.toArray 0)) d.heap.objs.size v out).get? b=some o:=by
  intro b o e
  have x:=k b o e
  have y:b < d.heap.objs.size:=Ie x
  have p:b < (d.heap.push (seqObj "list" v.toArray 0)).objs.size:=by rw[size_push'];exact Ml y
  rw[sortedHeap_old (Ij y) p]
  exact HX _ x
 exact HY #[_,Z,h { d with heap:=sortedHeap (d.heap.push (seqObj "list" v.toArray 0)) d.heap.objs.size v out } d.heap.objs.size c out n K O C D N u (J.trans r) M]
end
theorem Jc(h:StrsAre v s):au (s.map V.str) v:=by
 induction h with
 |nil=>exact .nil
 |cons y t _ i=>exact .cons #[t,Z] i
noncomputable def Fs(P:Program)(w:World)(a:Addr)(L:List Str):HO:=.ext λh=>cp P w h a L
section
variable {X:Cx}
theorem zZ(i:X.calm=true):eJ X (.builtin "sorted") (λx H Q=>∃(p:Addr) (L:List Str),x=[.ref p]/\H p=some (Fs X.prog X.w p L)/\L.length < 64/\
  ∀l S,H l=none->S.Perm L->L.Nodup->sortedS S=true->Q (.ref l) (ah H l (.lst (S.map V.str)))):=by
 intro P s B H x U Q I r h
 obtain⟨p,L,rfl,j,d,q⟩:=h
 obtain⟨u,rfl,R⟩:=eP r
 cases R
 obtain⟨f,_,_⟩:=I.hok p _ j
 have b:L.Nodup:=by obtain⟨_,_,_,_,_,_,_,_,_,b,_⟩:=f;exact b
 refine QU (I.ok.hd i) f d λm a c v S e k K o t y g A=>?_
 have len:(S.map V.str).length<=sizeLine:=by rw[HZ,g.length_eq];exact Ik (Mg d) OF
 have n:aQ X.prog X.w (ah H a (.lst (S.map V.str))) m.heap a (.lst (S.map V.str)):=#[len,v.toList,c,Jc y,t]
 refine#[.ref a,_,I.call' (ch:=[]) o (Un.laid k e (I.hok.fresh e)) (I.hok.laid k e n) (by rw[K];exact I.bare) (λ_ z=>nomatch z),Z,q _ _ (I.hok.fresh e) g b A]
theorem QV:eJ X (.builtin "sorted") (λx H Q=>∃(p:Addr) (a:List Str),x=[.ref p]/\aG X.K H p (a.map V.str)/\a.length < 64/\
  ∀l S,H l=none->S.Perm a->sortedS S=true->Q (.ref l) (ah H l (.lst (S.map V.str)))):=by
 intro P s v H x U Q I r h
 obtain⟨p,a,rfl,f,b,q⟩:=h
 obtain⟨u,rfl,R⟩:=eP r
 cases R
 obtain⟨i,g,j,y⟩:=I.list f
 have d:=zW g
 have k:i.length=a.length:=(_L.StrsAre.len d).symm
 refine sorted_strs j.isList d (by rw[k];exact b) λo S m A n=>?_
 obtain⟨c,t⟩:=sortedAll_at s.heap i o
 have len:(S.map V.str).length<=sizeLine:=by rw[HZ,A.length_eq];exact Ik (Mg b) OF
 refine#[.ref (s.heap.objs.size+1),_,I.laid (t':=s.toks) (λ_ _ e=>sortedAll_old e) (Lu _) (show aQ X.prog X.w _ _ _ (.lst (S.map V.str)) from #[len,o.toList,c,Jc m,t]),Z,q _ _ (I.hok.fresh (Lu _)) A n]
end
theorem YN:mroOf (.type "reversed")=pure [.type "reversed",.type "object"]:=by rw[mroOf_type];kernel_rfl
theorem KE:typeLookup (.type "reversed") "__new__"=pure (some (.builtin "reversed.__new__")):=by rw[Lx,IY];kernel_rfl
theorem KQ:Slot "reversed" "__init__" "object.__init__":=by
 refine .of (owner:="object") (n:="__init__") ?_ OJ OJ OJ ?_ ?_
 ·rw[Lx,IY];kernel_rfl
 ·first |exact .inl OJ |exact .inr OJ
 ·rw[LI];kernel_rfl
theorem Yk:TypeCalled "reversed" "reversed.__new__" "object.__init__":=by
 refine#[OJ,OJ,#[_,_,YN],madeBy_type YN KE OJ,OJ,?_,KQ]
 rw[LI];kernel_rfl
theorem QW(a:Value):checkTypeCall "reversed" #[[a],[]]=pure ():=by kernel_rfl
theorem XH(a:Value):checkBuiltinCall "reversed.__new__" #[[.type "reversed",a],[]]=pure ():=by kernel_rfl
theorem KR:entryFor table "reversed.__new__"=some Builtin.«reversed.__new__»:=ND (by kernel_rfl)
theorem yo:isSubtype (.type "reversed") (.type "reversed")=pure true:=by rw[LI];kernel_rfl
theorem QX:typeLookup (.type "tuple") "__reversed__"=pure none:=by rw[Lx,IY];kernel_rfl
theorem KF:isSubtype (.type "tuple") (.type "dict")=pure false:=by rw[LI];kernel_rfl
noncomputable def revObj(t:Addr)(n:Int):Obj:={ cls:=.type "reversed",data:=.fields (List.toArray [.ref t,.int (n - 1) 0]) }
section
variable {prog:Program}{w:World}{A:Around}{E:Value->Shared->Prop}{s:Shared}
theorem rf{Q:Value->Shared->Prop}(H:IsTup s.heap t i)(c:(i.size:Int) < 2 ^ 63)
  (h:Q (.ref s.heap.objs.size) { s with heap:=s.heap.push (revObj t i.size),toks:=s.toks+1+1 }):wpAny (model prog w) A (call (.type "reversed") [.ref t]) Q E s:=by
 refine callType_new (S:=λ_ R a=>a=s/\R (.ok (.ret (.ref s.heap.objs.size))) { s with heap:=s.heap.push (revObj t i.size),toks:=s.toks+1+1 }) Yk OF (QW _) (XH _) (λo=>M6 o _) KR
  (.of_wp λp W f R a d=>?_) #[Z,#[_,Ig _ Z,Z],h]
 obtain⟨rfl,e⟩:=d
 unfold Builtin.«reversed.__new__» Builtin.SmallTypes.newClass
 refine HV ?_
 dsimp only
 refine HV (HY ?_)
 simp only[MZ,Iq,Lr]
 refine HV (Nr yo ?_)
 simp only[MZ,Iq,Lr]
 refine HY ?_
 refine HV (m:=Builtin.SmallTypes.refuseKeywords _ _ _) (HY ?_)
 refine HV (m:=checkCount "reversed" 1 1 _) (HY ?_)
 dsimp only
 refine HV (LN H.typeIs QX ?_)
 dsimp only
 refine HV ?_
 show wpAny _ _ (isInstance (.ref t) (.type "dict") >>= _) _ _ _
 refine HV (Mh (b:=false) H.typeIs KF ?_)
 simp only[Iq,Lr]
 refine HV (LN H.typeIs PyProof.Rows.slot_tuple_getitem.lookup ?_)
 dsimp only
 rw[Io OJ]
 refine HY ?_
 simp only[MZ,Iq,Lr]
 refine HV (len_tuple H c ?_)
 refine HV (m:=asInt? _) (HY ?_)
 dsimp only
 show wpAny _ _ (newObj (.type "reversed") (.fields [Value.ref t,rawInt ((i.size:Int) - 1)].toArray) >>= _) _ _ _
 exact HV (IR (HY #[_,Z,e]))
end
theorem zN:Slot "reversed" "__next__" "reversed.__next__":=by
 refine .of (owner:="reversed") (n:="__next__") ?_ OJ OJ OJ ?_ ?_
 ·rw[Lx,IY];kernel_rfl
 ·first |exact .inl OJ |exact .inr OJ
 ·rw[LI];kernel_rfl
theorem qE:Slot "reversed" "__iter__" "reversed.__iter__":=by
 refine .of (owner:="reversed") (n:="__iter__") ?_ OJ OJ OJ ?_ ?_
 ·rw[Lx,IY];kernel_rfl
 ·first |exact .inl OJ |exact .inr OJ
 ·rw[LI];kernel_rfl
theorem KG:entryFor table "reversed.__next__"=some Builtin.«reversed.__next__»:=ND (by kernel_rfl)
theorem KH:entryFor table "reversed.__iter__"=some Builtin.«dict_keyiterator.__iter__»:=by
 refine NZ (id':="dict_keyiterator.__iter__") ?_ Z OJ ?_<;>kernel_rfl
theorem KS(a:Value):argsOk "reversed.__next__" #[[a],[]]:=by unfold argsOk;kernel_rfl
theorem KU(a:Value):argsOk "reversed.__iter__" #[[a],[]]:=by unfold argsOk;kernel_rfl
def dy(h:Heap)(I t:Addr)(k:Int):Prop:=∃o,h.get? I=some o/\o.cls= .type "reversed"/\o.data= .fields (List.toArray [.ref t,.int k 0])
theorem dy.at{H:Heap}(x:dy h I t k)(e:∀o,h.get? I=some o->H.get? I=some o):dy H I t k:=let #[o,a,r]:=x;#[o,e o a,r]
theorem dy.is{s:Shared}(x:dy s.heap I t k):s.TypeIs (.ref I) "reversed":=let #[o,h,H,_]:=x;#[o,h,H]
section
variable {prog:Program}{w:World}{A:Around}{E:Value->Shared->Prop}{s:Shared}
theorem Xf(H:dy s.heap I t k)
  (h:wpAny (model prog w) A.in1 (Builtin.«reversed.__next__» #[[.ref I],[]]) (λf S=>∃v,f= .done (.ret v)/\Q (some v) S) (λe S=>S.TypeIs e "StopIteration"/\Q none S) s):
  wpAny (model prog w) A (pyNext (.ref I)) Q E s:=by
 unfold pyNext
 refine HV (MM (IP (name:=Str.ofString "__next__") H.is zN (IU zN H.is KG ?_ (KS _))))
 refine Ln h (λf S q=>?_) λe S q=>?_
 ·obtain⟨v,e,q⟩:=q
  exact#[v,e,HY q]
 ·exact HV (Mh (T:="StopIteration") (b:=true) q.1 NY (HY q.2))
theorem Eg{I t:Addr}{k:Nat}{items:Array Value}{x:Value}{Q:Option Value->Shared->Prop}(H:dy s.heap I t k)(c:IsTup s.heap t items)(d:items[k]?=some x)(e:(items.size:Int) < 2 ^ 63)
  (f:∀b,dy b I t ((k:Int) - 1)->Heap.SameBut I s.heap b->Q (some x) { s with heap:=b,toks:=s.toks+1 }):wpAny (model prog w) A (pyNext (.ref I)) Q E s:=by
 refine Xf H ?_
 obtain⟨o,a,g,h⟩:=H
 have i:k < items.size:=(Array.getElem?_eq_some_iff.mp d).1
 show wpAny _ _ (field (.ref I) 0 >>= _) _ _ s
 refine HV (IE a h (x:=.ref t) Z (HV (IE a h (x:=.int k 0) Z ?_)))
 dsimp only
 rw[Iu OG]
 refine HV (LN c.typeIs PyProof.Rows.slot_tuple_getitem.lookup ?_)
 simp only[Option.isNone_some,Iq,Lr]
 refine HV (wpAny_mkInt (HV (MM ?_)))
 refine getItem_tuple (s:={ s with toks:=s.toks+1 }) c OG OG (j:=k) ?_ d ?_
 ·unfold seqIndex?
  simp
  omega
 refine HV (IE (s:={ s with toks:=s.toks+1 }) a h (x:=.int k 0) Z ?_)
 dsimp only
 refine HV (IZ a h OH (HY #[x,Z,f _ ?_ (LP ..)]))
 exact#[_,IQ _ a (Lo (IN h _)),(M0 ..).trans g,by rw[IN h];simp [rawInt]]
theorem ZB(f:A.handled=none){Q:Option Value->Shared->Prop}(h:dy s.heap I t (-1))
  (g:∀a,(∀b o,b≠I->s.heap.get? b=some o->a.get? b=some o)->Q none { s with heap:=a }):wpAny (model prog w) A (pyNext (.ref I)) Q E s:=by
 refine Xf h ?_
 obtain⟨o,c,j,H⟩:=h
 show wpAny _ _ (field (.ref I) 0 >>= _) _ _ s
 refine HV (IE c H (x:=.ref t) Z (HV (IE c H (x:=.int (-1) 0) Z ?_)))
 dsimp only
 rw[Io OF]
 refine HV (LX (HV ?_))
 show wpAny _ _ (setField (.ref I) 1 (rawInt (-1)) >>= λ_=>setField (.ref I) 0 .none) _ _ _
 refine HV (IZ c H OH ?_)
 refine IZ (IQ _ c (Lo (IN H _))) (IN H _) OH ?_
 refine HV ?_
 refine JI (s:={ s with heap:=_ }) (by simpa using f) λa e k T=>#[T,g a λb o d i=>k b o ?_]
 exact(Iv _ _ (IM d)).trans ((Iv _ _ (IM d)).trans i)
theorem Ab(H:dy s.heap I t k){Q:Value->Shared->Prop}(h:Q (.ref I) s):wpAny (model prog w) A (pyIter (.ref I)) Q E s:=by
 refine Oj H.is qE (IU qE H.is KH ?_ (KU _))
 show wpAny _ _ (ret (.ref I)) _ _ s
 exact HY #[_,Z,"reversed",_,H.is,zN.lookup,h]
end
theorem JA:entryFor table "dict.update.loop"=some Builtin.«dict.update.loop»:=ND (by kernel_rfl)
theorem zH:plainId "dict.update.loop"=true:=by decide+kernel
section
variable {X:Cx}{o lo hi:Expr}{to tl th:TE}{pos p2:Pos}
inductive D7(v:V)(h:St)(Q:St->Hp->Prop)(e a c:V)(d:Hp):Prop
 |mk(l b f g i j:_)(_:e= .ref l)(_:v= .ref b)(_:a= .int i)(_:c= .int j)(_:d l=some (.lst f))(_:d b=some (.lst g))(_:l≠b)(_:0<=i)(_:i<=j)(_:j<=(f.length:Int))(_:f.length+g.length<=sizeLine)(_:Q h (ah d l (.lst (f.take i.toNat++g++f.drop j.toNat))))
def Hw(to tl th:TE):TG:=λv b H Q=>to b H λO h=>tl b h λa c=>th b c (D7 v b Q O a)
theorem sX(n:PE X o to)(t:PE X lo tl)(w:PE X hi th)
  (A:∀v,assign (.Subscript o (.Slice (some lo) (some hi) none p2) pos) X.env v=(do
   let O <- holding [v] (eval o X.env)
   let c <- holding [v,O] (eval (.Slice (some lo) (some hi) none p2) X.env)
   standAt pos
   holding [v,O,c] (setItem O c v)
   release [c,v,O] []):=by intro _;rfl):PG X (.Subscript o (.Slice (some lo) (some hi) none p2) pos) (Hw to tl th):=by
 intro p s a H v u Q I r h
 rw[A]
 refine HV (IF (aL (n p s a H _ I h) λO B d=>?_))
 obtain⟨x,C,D,R,E⟩:=d
 refine HV (IF ?_)
 refine wpAny_Slice (aL (t p B a C _ D E) λV F #[y,G,J,K,L]=>aL (w p F a G _ J L) λm S f=>?_)
 obtain⟨z,M,N,P,l,b,xs,ys,i,j,T,U,W,Y,h1,h2,g,h0,k,hj,hz,q⟩:=f
 subst T U W Y
 cases (show O=Value.ref l from R)
 cases (show u=Value.ref b from r)
 refine HY ?_
 have I4:ap X p a M { S with heap:=S.heap.push { cls:=.type "slice",data:=.fields (List.toArray [V,m,.none]) } }:=N.kept (t':=S.toks) λb o e=>HX _ e
 refine HV (Ms (HV (IF ?_)))
 exact Zq I4 h1 h2 g (Od S.heap V m .none) K P h0 k hj hz λs5 I5=>wpAny_release #[a,_,I5,q]
end
end _L
namespace _L
open PySem PySem.Spec PyProof.Rows Builtin Builtin.Str
section
variable {prog:Program}{w:World}{A:Around}{E:Value->Shared->Prop}{s:Shared}
theorem Je{lo:Option Int}{Q:Value->Shared->Prop}(H:IsTup s.heap t i)(d:s.heap.IsSliceOf e v j .none)(p:IsPart v lo)(P:IsPart j f)
  (g:HT.sIx i.size 0 lo=0/\HT.sIx i.size i.size f=i.size) (h:Q (.ref t) s):wpAny (model prog w) A (getItem (.ref t) (.ref e)) Q E s:=by
 obtain⟨os,a,b,k⟩:=id d
 have c:s.TypeIs (.ref e) "slice":=#[os,a,b]
 unfold getItem
 try with_reducible refine IF ?_
 first |refine HV (HY ?_) |skip
 refine HV (Oi H.typeIs OF ?_)
 refine HV (IP (name:=Str.ofString "__getitem__") H.typeIs Me
  (IU Me H.typeIs PyProof.Rows.entry_tuple_getitem ?_ (PyProof.Rows.args_tuple_getitem _ _)))
 show wpAny _ _ (Builtin.Tuple.tupleItemsOf (.ref t) >>= _) _ _ s
 refine HV (PyProof.Rows.tupleItemsOf_ H ?_)
 refine HV (LS c ?_)
 rw[Io OF]
 refine HV (HT.sliceApplied_gen d p P ?_)
 show wpAny _ _ (if (((HT.sIx i.size 0 lo:Nat):Int)==0&&(1:Int)==1&&(HT.sIx i.size i.size f - HT.sIx i.size 0 lo)==i.size)=true then _ else _) _ _ s
 rw[g.1,g.2,Io OH]
 unfold Builtin.Tuple.tupleIsExact
 refine HV (HV (LS H.typeIs (HY ?_)))
 rw[Io OF]
 first
  |exact LX (HY #[_,Z,HY h])
  |exact HV (LX (HY #[_,Z,HY h]))
  |exact HV (HY (HY #[_,Z,HY h]))
end
section
variable {X:Cx}
inductive tF(x y:V)(H:Hp)(Q:VK):Prop
 |mk(a b c d:_)(_:x= .ref a)(_:y= .ref b)(_:H a=some (.tup c))(_:H b=some (.tup d))(_:c.length+d.length<=sizeLine)(_:∀r H',H' r=some (.tup (c++d))->ae H H'->Q (.ref r) H')
theorem j7:eY X (binaryOp .Add) tF:=by
 intro P s G H x y v u Q I r R h
 obtain⟨a,b,m,Y,rfl,rfl,d,f,J,q⟩:=h
 have t:=ay.of (K:=X.K) d
 have w:=ay.of (K:=X.K) f
 by_cases z:m=[]
 ·subst z
  cases r
  cases R
  obtain⟨l,L,M,_⟩:=I.tuple t
  obtain⟨i,r2,N,_⟩:=I.tuple w
  have O:l=[]:=L.nil_iff.mpr Z
  subst O
  obtain⟨⟨T,U,A,V⟩,B,C,n,E⟩:=id M
  obtain⟨⟨F,D,data2,S⟩,g,j,W,k⟩:=id N
  simp only at C E j k
  subst C E j k
  exact concat_meets #[_,B,Z] #[_,g,Z] Ot seq_tuple_add Nl Ni (Na _ _)
   (tuple_addW0 a b ([]:List Value).toArray i.toArray n W U D V S Z) #[B,g,.ref b,H,I,Z,q b H f (ae.refl H)]
 ·refine xq P s G H _ _ v u Q I r R #[a,b,m,Y,Z,Z,t,w,z,J,λe=>?_,λ_ p np=>?_]
  ·subst e
   exact q a H (by rw[IS];exact d) (ae.refl H)
  ·exact q p _ jc λc o e=>by rw[jh (jk e np)];exact e
inductive Cw(x:V)(c b:Option Int)(H:Hp)(Q:VK):Prop
 |mk(a d:_)(_:x= .ref a)(_:H a=some (.tup d))(_:∀r H',H' r=some (.tup (aM d c b))->ae H H'->Q (.ref r) H')
theorem kc:Fq X Cw:=by
 intro P s u H x v V w lo j S Q I R k l m h
 obtain⟨a,b,rfl,d,q⟩:=h
 have n:=ay.of (K:=X.K) d
 by_cases g:HT.sIx b.length 0 lo=0/\HT.sIx b.length b.length j=b.length
 ·cases R
  obtain⟨i,r,t,y⟩:=I.tuple n
  have f:i.toArray.size=b.length:=by rw[Ic];exact r.length.symm
  refine#["tuple",_,PyProof.Rows.slot_tuple_getitem.lookup,t.typeIs,?_]
  refine Je t k l m (by rw[f];exact g) #[.ref a,H,I,Z,q a H ?_ (ae.refl H)]
  rw[d]
  unfold aM
  rw[g.1,g.2,NF,N0,Lj]
 ·exact C1 P s u H _ v V w lo j S Q I R k l m #[a,b,Z,n,g,λp N=>q p _ jc λc o e=>by rw[jh (jk e N)];exact e]
end
end _L
namespace _L
open PySem PySem.Spec PyProof.Rows
theorem yN{G:Bool->Hp->Prop}(y:G true H)(n:b=false->G b H):G b H:=by
 cases b
 ·exact n Z
 ·exact y
theorem aO{A:Prop}(h:∀G:Prop,(A->G)->G):A:=h A λz=>z
section
variable {t u:TS}{D:aZ}{σ:St}{H:Hp}
theorem eV(h:∀E:aZ,(∀a b,u D a b->E.nx a b)->t E σ H):dC t u D σ H:=h { D with nx:=u D } λ_ _ h=>h
theorem aj(h:∀F:St->Hp->Prop,(∀a b,u D a b->F a b)->t { D with nx:=F } σ H):dC t u D σ H:=h _ λ_ _ h=>h
theorem oq{c:TT}(h:∀F:Bool->Hp->Prop,(∀b a,(if b=true then t D σ a else u D σ a)->F b a)->c σ H F):gF c t u D σ H:=h _ λ_ _ x=>x
theorem nP{c:TT}(h:∀F:Bool->Hp->Prop,(∀a,t D σ a->F true a)->(∀a,u D σ a->F false a)->c σ H F):gF c t u D σ H:=by
 refine h _ (λa x=>?_) λa x=>?_
 ·show if true=true then _ else _
  rw[Io Z];exact x
 ·show if false=true then _ else _
  rw[Iu OF];exact x
theorem dB(R:St->Hp->Prop)(c:∀E:aZ,E.rt=D.rt->(∀a b,R a b->E.nx a b)->t E σ H)(d:∀a b,R a b->D.nx a b):Fe t D σ H:=#[R,c { D with nx:=R } Z λ_ _ h=>h,d]
theorem vk{c:TT}{T:TS}(W:Nat->St->Hp->Prop)(d:Nat)(e:W d σ H)
  (f:∀m σ H,∀E:aZ,E.rt=D.rt->(∀M a b,M < m->W M a b->E.nx a b)->∀F:Bool->Hp->Prop,(∀b,T E σ b->F true b)->(∀b,D.nx σ b->F false b)->∀G:Prop,(c σ H F->G)->W m σ H->G):uY c T D σ H:=by
 refine#[W,#[d,e],λm σ H w=>?_]
 refine f m σ H { D with nx:=λa b=>∃M,M < m/\W M a b,ct:=λa b=>∃M,M < m/\W M a b,bk:=D.nx } Z (λM a b l g=>#[M,l,g]) _ (λb x=>?_) (λb x=>?_) _ (λz=>z) w
 ·show if true=true then _ else _
  rw[Io Z]
  exact#[_,λ_ _ h=>h,x]
 ·show if false=true then _ else _
  rw[Iu OF];exact x
def pG(J:It)(g:TG)(T:TS)(D:aZ)(σ:St)(H:Hp):Prop:=∃W:Nat->Nat->St->Hp->Prop,(∃m,W 0 m σ H)/\∀i m σ H,W i m σ H->
 (J.stop i H/\D.nx σ H)∨(J.go i H/\∃N:St->Hp->Prop,(∀a h,N a h->∃M,M < m/\W (i+1) M a h)/\∀x h,J.yld i H x h->g x σ h λb c=>T { D with nx:=N,ct:=N,bk:=D.nx } b c)
theorem dq{w:TI}(h:∀F:It->Hp->Prop,(∀J a,pG J g T D σ a->F J a)->w σ H F):yq w g T D σ H:=h _ λ_ _ z=>z
theorem HM{g:TG}{Q:St->Hp->Prop}(h:∀F:St->Hp->Prop,(∀a b,Q a b->F a b)->g x σ H F):g x σ H Q:=h _ λ_ _ z=>z
theorem kB{lo:Int}{g:TG}{T:TS}{D:aZ}{σ:St}{H:Hp}(Pv:Nat->St->Hp->Prop)(d:Pv 0 σ H)
  (e:∀E:aZ,E.rt=D.rt->∀i σ H,i < n->(∀a c,Pv (i+1) a c->E.nx a c)->∀G:Prop,((g (.int (lo+i)) σ H λb f=>T E b f)->G)->Pv i σ H->G) (j:∀σ H,Pv n σ H->D.nx σ H):pG (vt lo n) g T D σ H:=
 Qa Pv d (λi σ H k p=>e { D with nx:=Pv (i+1),ct:=Pv (i+1),bk:=D.nx } Z i σ H k (λ_ _ h=>h) _ (λz=>z) p) j
theorem qu{K:Frag}{a:Addr}{xs:List V}{g:TG}{T:TS}{D:aZ}{σ:St}{H:Hp}(Pv:Nat->St->Hp->Prop)(e:Pv 0 σ H)(f:∀i σ H,i<=xs.length->Pv i σ H->aG K H a xs)
  (j:∀E:aZ,E.rt=D.rt->∀i x σ H,xs[i]?=some x->(∀b d,Pv (i+1) b d->E.nx b d)->∀G:Prop,((g x σ H λc k=>T E c k)->G)->Pv i σ H->G) (l:∀σ H,Pv xs.length σ H->D.nx σ H):pG (vI K a) g T D σ H:=
 rM Pv e f (λi x σ H m p=>j { D with nx:=Pv (i+1),ct:=Pv (i+1),bk:=D.nx } Z i x σ H m (λ_ _ h=>h) _ (λz=>z) p) l
theorem qj{K:Frag}{a:Addr}{xs:List V}{g:TG}{T:TS}{D:aZ}{σ:St}{H:Hp}(Pv:Nat->St->Hp->Prop)(e:Pv 0 σ H)(f:∀i σ H,i<=xs.length->Pv i σ H->ay K H a xs)
  (j:∀E:aZ,E.rt=D.rt->∀i x σ H,xs[i]?=some x->(∀b d,Pv (i+1) b d->E.nx b d)->∀G:Prop,((g x σ H λc k=>T E c k)->G)->Pv i σ H->G) (l:∀σ H,Pv xs.length σ H->D.nx σ H):pG (vJ K a) g T D σ H:=
 wn Pv e f (λi x σ H m p=>j { D with nx:=Pv (i+1),ct:=Pv (i+1),bk:=D.nx } Z i x σ H m (λ_ _ h=>h) _ (λz=>z) p) l
end
end _L
namespace _L
open PySem PySem.Spec PyProof.Rows PySem.SeqAt
inductive Tr where
 |lf (v:V) |tp (l:Tr) |nil |cons (h t:Tr)
noncomputable def Tr.dep:Tr->Nat
 | .lf _=>0
 | .tp l=>l.dep+1
 | .nil=>0
 | .cons h t=>max h.dep t.dep
noncomputable def Tr.isL:Tr->Bool
 | .nil=>true
 | .cons _ _=>true
 |_=>false
noncomputable def HD:V->Bool
 | .byt _=>false
 | .flt _=>false
 |_=>true
end _L
namespace _L
open PySem PySem.Spec PyProof.Rows
noncomputable def FH(K:Frag)(a:Addr)(n:Nat):It:=
 #[λi H=>∃X x,ay K H a X/\X.length=n/\X.reverse[i]?=some x,λi H x h=>h=H/\∀X,ay K H a X->X.reverse[i]?=some x,λi H=>∃X,ay K H a X/\X.length=n/\i=n]
theorem u7{P:Program}{K:Frag}(a f:Addr)(n:Nat):nL P w K tg (FH K a n) [f] f (λi h=>dy h f a ((n:Int) - 1 - i)) where
 mem:=by simp
 obj:=λi h st b j=>by
  have e:b=f:=by simpa using j
  subst e
  obtain⟨o,e,c,d⟩:=st
  exact#[o,e,λv z=>by rw[d]at z;cases z]
 keep:=λi h q st k=>st.at λo e=>k f OH o e
 item:=by
  intro X y A B O i g s Q H E I t st C
  subst y A B
  obtain⟨l,x,D,T,m⟩:=C
  obtain⟨r,R,p,hz⟩:=I.tuple D
  have hl:=R.length
  have U:=dY
  have V:i < l.length:=by
   rcases No i l.length with z |z
   ·exact z
   ·rw[Ll (by simpa using z)]at m;cases m
  have F:l[l.length - 1 - i]?=some x:=by rw[MW V]at m;exact m
  obtain⟨u,W,Y⟩:=R.get F
  obtain⟨G,J,f2,L,M,N⟩:=t f OH
  have e:((n:Int) - 1 - i)=((l.length - 1 - i:Nat):Int):=by omega
  rw[e]at st
  refine Eg (items:=r.toArray) st (show IsTup s.heap a r.toArray from p) (x:=u) (by simpa using W) (by simp only[Ic];omega) λq S sb=>?_
  have I1:ap X g Q H { s with heap:=q,toks:=s.toks+1 }:=I.turned (t':=s.toks+1) (λb o j e=>(sb.2 b j).trans e) G J L M N
  obtain⟨o,e',c,d⟩:=id S
  refine#[u,Z,Yz (s:={ s with heap:=q,toks:=s.toks+1 }) e' c d OF #[x,H,I1,Y,#[Z,λys hy=>by rw[I.tuple_inj hy D];exact m],?_,λb j=>(t b j).1]]
  have e2:((n:Int) - 1 - ((i+1:Nat):Int))=((l.length - 1 - i:Nat):Int) - 1:=by omega
  show dy q f a ((n:Int) - 1 - ((i+1:Nat):Int))
  rw[e2];exact S
 done:=by
  intro X y A B O i g s Q H E I t st C
  subst y A B
  obtain⟨l,D,T,m⟩:=C
  obtain⟨G,J,f2,L,M,N⟩:=t f OH
  have e:((n:Int) - 1 - (i:Int))= -1:=by omega
  rw[e]at st
  exact ZB (I.ok.hd O) st λq eb=>#[Z,I.turned (t':=s.toks) (λb o j e=>eb b o j e) G J L M N]
 self:=λ_ _ _ _ _ st h=>Ab st h
section
variable {X:Cx}{tg:Expr}
inductive y9(K:Frag)(R:It->Hp->Prop)(x:V)(b:Hp):Prop
 |mk(a c:_)(_:x= .ref a)(_:ay K b a c)(_:R (FH K a c.length) b)
def Gf(K:Frag)(t:TE):TI:=λa H R=>t a H (y9 K R)
theorem sY{e:Expr}{t:TE}{c:Str}{p P:Pos}(j:Gl X c)(k:X.mg c=none)(l:bootBuiltins c=some (.type "reversed"))(y:PE X e t)(m:c≠"__name__":=by decide)(n:(c==("__debug__":Str))=false:=by decide)
  (r:starEach [e] X.env=(false,eval e X.env)::starEach [] X.env:=by rfl) (A:(backTo P (starEach [] X.env)).any (·.1)=false:=by rfl):PI X tg (.Call (.Name c p) [e] [] P) (Gf X.K t):=by
 intro d s B H R I h
 refine I8 (zI I j k l ?_ m n)
 refine IV ?_ r A
 rw[r]
 show wpAny _ _ (spliced ((false,eval e X.env)::backTo P (starEach [] X.env))) _ _ s
 refine Ma (aL (y d s B H _ I h) λu S z=>?_)
 obtain⟨x,C,g,D,a,v,E,F,q⟩:=z
 subst E
 cases (show u=Value.ref a from D)
 obtain⟨i,G,J,N⟩:=g.tuple F
 have f:=G.length
 have L:=dY
 refine Mw (rf (show IsTup S.heap a i.toArray from J) (by simp only[Ic];omega) ?_)
 have w:dy (S.heap.push (revObj a i.toArray.size)) S.heap.objs.size a ((v.length:Int) - 1 - ((0:Nat):Int)):=#[_,Ig _ Z,Z,by rw[Ic,<- f];simp [revObj]]
 refine Ab (s:={ S with heap:=S.heap.push (revObj a i.toArray.size),toks:=S.toks+1+1 }) w ?_
 refine#[S.heap.objs.size,[S.heap.objs.size],_,_,C,Z,g.kept (t':=S.toks+1+1) λb o e=>HX _ e,u7 a _ v.length,w,λb M=>?_,q]
 have e:b=S.heap.objs.size:=by simpa using M
 subst e
 exact g.fpOk (Ib _) (g.hok.fresh (Ib _))
end
theorem Xg{K:Frag}{xs:List V}{g:TG}{t:TS}{D:aZ}(Pv:Nat->St->Hp->Prop)(k:Pv 0 b H)(l:∀i b H,i<=xs.length->Pv i b H->ay K H a xs)
  (n:∀E:aZ,E.rt=D.rt->∀i x b H,xs.reverse[i]?=some x->(∀c f,Pv (i+1) c f->E.nx c f)->∀G:Prop,((g x b H λj o=>t E j o)->G)->Pv i b H->G) (r:∀b H,Pv xs.length b H->D.nx b H):pG (FH K a xs.length) g t D b H:=by
 refine#[λi m b H=>m=xs.length - i/\i<=xs.length/\Pv i b H,#[xs.length,OH,Il _,k],?_]
 rintro i m b H ⟨rfl,s,p⟩
 have q:=l i b H s p
 by_cases d:i < xs.length
 ·refine .inr #[#[xs,_,q,Z,HW (by simpa using d)],Pv (i+1),λc f P=>#[xs.length - (i+1),OG,Z,d,P],λx f y=>?_]
  obtain⟨e,y⟩:=y
  subst e
  exact n { D with nx:=Pv (i+1),ct:=Pv (i+1),bk:=D.nx } Z i x b _ (y xs q) (λ_ _ h=>h) _ (λz=>z) p
 ·have e:i=xs.length:=by omega
  subst e
  exact .inl #[#[xs,q,Z,Z],r b H p]
theorem uJ:Slot "list_reverseiterator" "__length_hint__" "list_reverseiterator.__length_hint__":=by
 refine Slot.of (owner:="list_reverseiterator") (n:="__length_hint__") (by rw[Lx,IY];kernel_rfl) OJ OJ OJ ?_ (by rw[LI];kernel_rfl)
 first |exact .inl OJ |exact .inr OJ
theorem ZC:typeLookup (.type "list_reverseiterator") "__len__"=pure none:=by rw[Lx,IY];kernel_rfl
theorem C4:isSubtype (.type "list_reverseiterator") (.type "list_reverseiterator")=pure true:=by rw[LI];kernel_rfl
section
variable {prog:Program}{w:World}{A:Around}{E:Value->Shared->Prop}{s:Shared}
theorem A3(H:s.heap.IsRevIter I t k){Q:Bool->Shared->Prop}(h:Q false s):wpAny (model prog w) A (Builtin.List.listLengthHint (.ref I)) Q E s:=by
 unfold Builtin.List.listLengthHint
 refine HV (LN H.typeIs ZC ?_)
 show wpAny _ A (specialOf (Value.ref I) (Str.ofString "__length_hint__") >>= _) _ _ _
 refine HV (LN H.typeIs uJ.lookup ?_)
 have e:splitId "list_reverseiterator.__length_hint__"=some ("list_reverseiterator","__length_hint__"):=by decide+kernel
 dsimp only
 rw[e]
 dsimp only
 refine HV (Mh (b:=true) H.typeIs C4 ?_)
 simp only[MZ,Iq,Lr]
 rw[Io OJ,Iu OJ]
 exact HY h
theorem pI{a:Array Value}{Q:List Value->Shared->Prop}(z:A.handled=none)(f:s.heap.IsRevIter I t ((a.size:Int) - 1))(r:s.heap.IsList t a)(B:t≠I)(C:a.size<=sizeLine)
  (D:∀S,(∀b o,b≠I->s.heap.get? b=some o->S.heap.get? b=some o)->s.heap.objs.size<=S.heap.objs.size->S.gens=s.gens->S.os=s.os->Q a.toList.reverse S):wpAny (model prog w) A (collect (.ref I)) Q E s:=by
 have j:I < s.heap.objs.size:=by obtain⟨o,k,_⟩:=f;exact Ie k
 have n:t < s.heap.objs.size:=by obtain⟨o,k,_⟩:=r;exact Ie k
 have u:I≠s.heap.objs.size:=Ij j
 have F:t≠s.heap.objs.size:=Ij n
 unfold collect
 refine HV (wpAny_runValue (Lz Og (by
  rw[Lh Of _]
  show wpAny _ A.in1 (newList [] >>= λl=>again (.builtin "list.__iadd__" #[[l,.ref I],[]])) _ _ s
  refine HV (IR (HY #[Mf MH _,Lz Oz ?_]))
  rw[Lh MH _]
  generalize v:s.heap.push { cls:=.type "list",data:=.seq ([]:List Value).toArray }=H
  have J:H.get? s.heap.objs.size=some { cls:=.type "list",data:=.seq (List.toArray []) }:=by rw[<- v];exact Ig _ Z
  have G:∀b o,s.heap.get? b=some o->H.get? b=some o:=λb o e=>by rw[<- v];exact HX _ e
  have h:H.IsRevIter I t ((a.size:Int) - 1):=f.at λo e=>G I o e
  have p:H.IsList t a:=r.at λo e=>G t o e
  show wpAny _ A.in1 (Builtin.List.listExtendWith (.ref s.heap.objs.size) (.ref I) (.ref s.heap.objs.size)) _ _ { s with heap:=H }
  unfold Builtin.List.listExtendWith
  refine HV (LS (s:={ s with heap:=H }) h.typeIs ?_)
  have K:Builtin.List.listSameRef (.ref s.heap.objs.size) (.ref I)=false:=by
   simp only[Builtin.List.listSameRef,beq_eq_false_iff_ne]
   exact IM u
  have L:(Value.type "list_reverseiterator"==Value.type "list")=false:=by decide
  have M:(Value.type "list_reverseiterator"==Value.type "tuple")=false:=by decide
  simp only[K,L,M,Ov,Iq,Lr]
  refine HV (wpAny_pyIter_revIter (s:={ s with heap:=H }) h (HV (IF (A3 (s:={ s with heap:=H }) h ?_))))
  have N:¬s.heap.objs.size∈[I,t]:=by simp only[Md,IL,M5,not_or];exact#[IM u,IM F]
  rw[Iu OJ]
  refine HY #[Mf Oo _,?_]
  have W:=(Walks.listRev (prog:=prog) (w:=w) (A:=A.in1) (by simpa using z) I t B a).toS
  refine codeAny_extend_loopS W C _ N _ a.size 0 _ (List.toArray []) _ Z (Il _) #[Il _,by simpa using h,p] J (ItemsOf.nil _) λS d U m x c=>?_
  have O:d=a.toList.reverse.toArray:=by
   apply Array.ext'
   refine List.ext_getElem? λi=>?_
   by_cases y:i < a.size
   ·have g:i < d.size:=by rw[c.1];exact y
    have q:=c.2 i d[i] (by simp [g])
    rw[LQ,LV g,<- q]
    show a[a.size - 1 - i]?=a.toList.reverse[i]?
    rw[MW (by simpa using y)]
    simp
   ·rw[Ll (by rw[IC,c.1];omega),Ll (by simp;omega)]
  subst O
  show wpAny _ A (load s.heap.objs.size >>= _) _ _ S
  refine HV (wpAny_load x (HY ?_))
  have P:a.toList.reverse.toArray.toList=a.toList.reverse:=by simp
  rw[P]
  refine D S (λb o R e=>?_) ?_ m.gens m.os
  ·have T:b≠s.heap.objs.size:=Ij (Ie e)
   exact m.heap b o (by simp only[Md,IL,M5,not_or];exact#[T,R]) (G b o e)
  ·exact Mg (Ie x))))
end
section
variable {prog:Program}{w:World}{A:Around}{E:Value->Shared->Prop}{s:Shared}
theorem QY{i:Array Value}{Q:Value->Shared->Prop}(f:A.handled=none)(H:s.heap.IsRevIter I t ((i.size:Int) - 1))(g:s.heap.IsList t i)(j:t≠I)(d:i.size<=sizeLine)
  (h:∀S:Shared,(∀b o,b≠I->s.heap.get? b=some o->S.heap.get? b=some o)->s.heap.objs.size<=S.heap.objs.size->S.gens=s.gens->S.os=s.os->
   Q (.ref S.heap.objs.size) { S with heap:=S.heap.push { cls:=.type "tuple",data:=.seq i.toList.reverse.toArray } }):
  codeAny (model prog w) A (.call (.builtin "tuple.__new__") #[[.type "tuple",.ref I],[]]) (wants Q E) s:=by
 refine codeAny_of_tree (show wpAny _ A.in1 (do checkBuiltinCall "tuple.__new__" #[[.type "tuple",.ref I],[]];again (.builtin "tuple.__new__" #[[.type "tuple",.ref I],[]])) _ _ s from ?_)
 refine HV (Nr (PySem.F.newCall_tuple_1 _) (HY #[Mf Ox _,Lz PySem.F.entry_tuple_new (by
  rw[Lh Ox _]
  have e:=sub_tuple_self
  have a:=init_tuple_lookup
  have l:=madeHere_tuple
  have c:=H.typeIs
  wp_walk using LS c,pI (by simpa using f) H g j d
  intro S k z m n
  show wpAny _ _ (Builtin.Tuple.tupleExact i.toList.reverse.toArray >>= λv=>ret v) _ _ _
  unfold Builtin.Tuple.tupleExact
  exact HV (IR (HY (h S k z m n)) (by show i.toList.reverse.toArray.size<=sizeLine;simpa using d)))]))
theorem QZ{items:Array Value}{Q:Value->Shared->Prop}(d:A.handled=none)(c:s.heap.IsRevIter I t ((items.size:Int) - 1))(e:s.heap.IsList t items)(f:t≠I)(g:items.size<=sizeLine)
  (h:∀a:Shared,(∀b o,b≠I->s.heap.get? b=some o->a.heap.get? b=some o)->s.heap.objs.size<=a.heap.objs.size->a.gens=s.gens->a.os=s.os->
   Q (.ref a.heap.objs.size) { a with heap:=a.heap.push { cls:=.type "tuple",data:=.seq items.toList.reverse.toArray } }):wpAny (model prog w) A (call (.type "tuple") [.ref I]) Q E s:=by
 refine callType_codes (Q₁:=λO S=>S.TypeIs O "tuple"/\Q O S) PySem.F.called_tuple (PySem.F.typeCall_tuple_1 _) PySem.F.entry_object_init (QY (by simpa using d) c e f g λa k z i j=>#[#[_,Ig _ Z,Z],h a k z i j]) λO S H=>?_
 exact#[H.1,M6 O _,object_init_meets PySem.F.called_tuple.init.lookup PySem.F.called_tuple.made OF prog w A.in1 _ S #[H.1,Z,H.2]]
end
section
variable {X:Cx}{e:Expr}{te:TE}{xl xr:Str}{p p2 pos pos2:Pos}
inductive mZ(K:Frag)(Q:VK)(x:V)(b:Hp):Prop
 |mk(a c:_)(_:x= .ref a)(_:aG K b a c)(_:∀l,b l=none->Q (.ref l) (ah b l (.tup c.reverse)))
def yt(K:Frag)(te:TE):TE:=λa H Q=>te a H (mZ K Q)
theorem ZD(M:X.calm=true)(g:Gl X xl)(j:X.mg xl=none)(l:bootBuiltins xl=some (.type "tuple"))(m:Gl X xr)(n:X.mg xr=none)(r:bootBuiltins xr=some (.type "reversed"))(O:PE X e te)
  (t:xl≠"__name__":=by decide) (v:(xl==("__debug__":Str))=false:=by decide) (y:xr≠"__name__":=by decide) (A:(xr==("__debug__":Str))=false:=by decide)
  (E:starEach [.Call (.Name xr p2) [e] [] pos2] X.env=(false,eval (.Call (.Name xr p2) [e] [] pos2) X.env)::starEach [] X.env:=by rfl) (T:(backTo pos (starEach [] X.env)).any (·.1)=false:=by rfl)
  (F:starEach [e] X.env=(false,eval e X.env)::starEach [] X.env:=by rfl) (U:(backTo pos2 (starEach [] X.env)).any (·.1)=false:=by rfl):
  PE X (.Call (.Name xl p) [.Call (.Name xr p2) [e] [] pos2] [] pos) (yt X.K te):=by
 intro P s V H Q I h
 refine I8 (zI I g j l ?_ t v)
 refine IV ?_ E T
 rw[E]
 show wpAny _ _ (spliced ((false,eval (.Call (.Name xr p2) [e] [] pos2) X.env)::backTo pos (starEach [] X.env))) _ _ s
 refine Ma ?_
 refine I8 (zI I m n r ?_ y A)
 refine IV ?_ F U
 rw[F]
 show wpAny _ _ (spliced ((false,eval e X.env)::backTo pos2 (starEach [] X.env))) _ _ s
 refine Ma (aL (O P s V H _ I h) λu d B=>?_)
 obtain⟨x,W,f,Y,a,G,ex,hq,q⟩:=B
 subst ex
 cases (show u=Value.ref a from Y)
 obtain⟨i,R,C,hz⟩:=f.list hq
 have J:=R.length
 refine Mw (call_reversed_list C.isList (Mw ?_))
 have D:a < d.heap.objs.size:=by obtain⟨o,ho,_⟩:=C.isList;exact Ie ho
 refine QZ (s:={ d with heap:=d.heap.push (PySem.revObj a ((i.toArray.size:Int) - 1)) }) (items:=i.toArray) (I.ok.hd M) #[_,Ig _ Z,Z,Z] (C.isList.at λo e=>HX _ e) (Ij D)
  (by simp only[Ic];omega) λS k hl kg ko=>?_
 have c:d.heap.objs.size<=S.heap.objs.size:=Ik (by show _<=(d.heap.push _).objs.size;rw[I0];exact Lu _) hl
 have L:∀b o,d.heap.get? b=some o->(S.heap.push { cls:=.type "tuple",data:=.seq i.toArray.toList.reverse.toArray }).get? b=some o:=λb o e=>HX _ (k b o (Ij (Ie e)) (HX _ e))
 have hg:(S.heap.push { cls:=.type "tuple",data:=.seq i.toArray.toList.reverse.toArray }).get? S.heap.objs.size=some { cls:=.type "tuple",data:=.seq i.toArray.toList.reverse.toArray }:=Ig _ Z
 have N:aQ X.prog X.w (ah W S.heap.objs.size (.tup G.reverse)) (S.heap.push { cls:=.type "tuple",data:=.seq i.toArray.toList.reverse.toArray }) S.heap.objs.size (.tup G.reverse):=by
  refine#[by rw[NM];exact hz,i.reverse,au.reverse R,?_]
  have ee:i.toArray.toList.reverse.toArray=i.reverse.toArray:=by simp
  rw[<- ee]
  exact#[_,hg,Z,_,Z]
 exact#[.ref S.heap.objs.size,_,f.call' (ch:=[]) ko (Un.laid L c (f.hok.fresh c)) (f.hok.laid L c N) (by show AllBare S.gens;rw[kg];exact f.bare) (λ_ z=>nomatch z),Z,q _ (f.hok.fresh c)]
end
section
variable {prog:Program}{w:World}{A:Around}{E:Value->Shared->Prop}{s:Shared}
theorem Kx{x:Value}{Q:Value->Shared->Prop}(a:s.heap.IsTupleIter J T i)(e:s.heap.IsTuple T I)(f:I[i]?=some x)
  (q:∀b,b.IsTupleIter J T (i+1)->Heap.SameBut J s.heap b->Q x { s with heap:=b }):wpAny (model prog w) A (Builtin.SmallTypes.nextOf (.ref J)) Q E s:=by
 obtain⟨o,H,g,h⟩:=id a
 obtain⟨O,c,_,n,d⟩:=e
 unfold Builtin.SmallTypes.nextOf
 refine HV (IP (name:=Str.ofString "__next__") a.typeIs Lm (IU Lm a.typeIs ML (show wpAny _ _ (field (.ref J) 0 >>= _) _ _ s from ?_) (MG _)))
 refine HV (IE H h (x:=.ref T) Z (show wpAny _ _ (if (Value.ref T==Value.none)=true then _ else _) _ _ s from ?_))
 rw[Iu (show ¬((Value.ref T==Value.none)=true) from Ih)]
 refine(show wpAny _ _ (field (.ref J) 1 >>= _) _ _ s from HV (IE H h (x:=.int i 0) Z (show wpAny _ _ (seqItems? (.ref T) >>= _) _ _ s from HV (Lb c d ?_))))
 simp only[IW,f]
 refine HV (IZ H h OH (HY #[x,Z,HY (q _ #[_,IQ _ H (Lo (IN h _)),(M0 ..).trans g,by rw[IN h];simp [rawInt]] (LP ..))]))
theorem ZE(g:A.handled=none)(H:s.heap.IsTupleIter J T i)(j:s.heap.IsTuple T I)(l:I[i]?=none)
  (q:∀h e,Heap.ExtBut J s.heap h->Shared.TypeIs { s with heap:=h } e "StopIteration"->E e { s with heap:=h }):wpAny (model prog w) A (Builtin.SmallTypes.nextOf (.ref J)) Q E s:=by
 obtain⟨o,a,p,c⟩:=id H
 obtain⟨O,d,_,N,f⟩:=j
 unfold Builtin.SmallTypes.nextOf
 refine HV (IP (name:=Str.ofString "__next__") H.typeIs Lm (IU Lm H.typeIs ML (show wpAny _ _ (field (.ref J) 0 >>= _) _ _ s from ?_) (MG _)))
 refine HV (IE a c (x:=.ref T) Z (show wpAny _ _ (if (Value.ref T==Value.none)=true then _ else _) _ _ s from ?_))
 rw[Iu (show ¬((Value.ref T==Value.none)=true) from Ih)]
 refine(show wpAny _ _ (field (.ref J) 1 >>= _) _ _ s from HV (IE a c (x:=.int i 0) Z (show wpAny _ _ (seqItems? (.ref T) >>= _) _ _ s from HV (Lb d f ?_))))
 simp only[IW,l]
 refine HV (LX (HV (IZ a c OH ?_)))
 refine JI (by simpa using g) λh e k t=>q h e (λb o m n=>k b o ?_) t
 exact(Iv _ _ (IM m)).trans n
end
def gJ(b:Bool)(h:Heap)(i l:Addr)(k:Nat):Prop:=match b with
 |true=>h.IsListIter i l k
 |false=>h.IsTupleIter i l k
def iM(b:Bool)(h:Heap)(l:Addr)(x:Array Value):Prop:=match b with
 |true=>h.IsList l x
 |false=>h.IsTuple l x
noncomputable def ff:Bool->String
 |true=>"list_iterator"
 |false=>"tuple_iterator"
theorem gJ.kp{b:Bool}{H:Heap}(x:gJ b h i l k)(e:∀o,h.get? i=some o->H.get? i=some o):gJ b H i l k:=by
 cases b
 ·exact Heap.IsTupleIter.at x e
 ·obtain⟨o,a,r⟩:=x;exact#[o,e o a,r]
theorem iM.kp{b:Bool}{H:Heap}(x:iM b h l a)(e:∀o,h.get? l=some o->H.get? l=some o):iM b H l a:=by
 cases b
 ·obtain⟨o,c,r⟩:=x;exact#[o,e o c,r]
 ·exact Heap.IsList.at x e
theorem gJ.ob(x:gJ b h i l k):∃o,h.get? i=some o/\o.cls= .type (ff b)/\∀v,o.data≠ .cell v:=by
 cases b
 ·obtain⟨o,H,c,d⟩:=x;exact#[o,H,c,λv z=>by rw[d]at z;cases z]
 ·obtain⟨o,H,c,d⟩:=x;exact#[o,H,c,λv z=>by rw[d]at z;cases z]
section
variable {prog:Program}{w:World}{A:Around}{E:Value->Shared->Prop}{s:Shared}
theorem zX{Q:Value->Shared->Prop}(H:gJ b s.heap J T i)(a:iM b s.heap T I)(c:I[i]?=some x)
  (q:∀h,gJ b h J T (i+1)->Heap.SameBut J s.heap h->Q x { s with heap:=h }):wpAny (model prog w) A (Builtin.SmallTypes.nextOf (.ref J)) Q E s:=by
 cases b
 ·exact Kx H a c q
 ·exact wpAny_nextOf_list_item H a c q
theorem Qq(H:A.handled=none)(a:gJ b s.heap J T i)(c:iM b s.heap T I)(d:I[i]?=none)
  (q:∀h e,Heap.ExtBut J s.heap h->Shared.TypeIs { s with heap:=h } e "StopIteration"->E e { s with heap:=h }):wpAny (model prog w) A (Builtin.SmallTypes.nextOf (.ref J)) Q E s:=by
 cases b
 ·exact ZE H a c d q
 ·exact wpAny_nextOf_list_end H a c d λh e k #[o,f,g]=>q h (.ref e) k #[o,f,g]
theorem Ac{Q:Value->Shared->Prop}(h:iM b s.heap T i)
  (q:Q (.ref s.heap.objs.size) { s with heap:=s.heap.push { cls:=.type (ff b),data:=.fields (List.toArray [.ref T,.int 0 0]) } }):wpAny (model prog w) A (pyIter (.ref T)) Q E s:=by
 cases b
 ·exact MT h q
 ·exact Nq h q
structure vQ(z u v c d a b:Addr):Prop where
 uz:u≠z
 vz:v≠z
 cz:c≠z
 dz:d≠z
 uv:u≠v
 uc:u≠c
 ud:u≠d
 vc:v≠c
 vd:v≠d
 cd:c≠d
 az:a≠z
 av:a≠v
 ac:a≠c
 ad:a≠d
 bz:b≠z
 bv:b≠v
 bc:b≠c
 bd:b≠d
theorem yB{Q:Option Value->Shared->Prop}(D:vQ z u v c d a b)
  (H:IsZip s.heap z u v .none) (hu:IsPair s.heap u (.ref c) (.ref d)) (hv:IsPair s.heap v p q) (h1:gJ B s.heap c a k) (h2:gJ C s.heap d b k) (g1:iM B s.heap a xs) (g2:iM C s.heap b ys) (hx:xs[k]?=some x) (hy:ys[k]?=some y)
  (hQ:∀h,IsZip h z u v (rawInt s.heap.objs.size)->IsPair h v x y->gJ B h c a (k+1)->gJ C h d b (k+1)->IsPair h s.heap.objs.size x y->h.objs.size=s.heap.objs.size+1->
   (∀e o,e≠z->e≠v->e≠c->e≠d->s.heap.get? e=some o->h.get? e=some o)->Q (some (.ref s.heap.objs.size)) { s with heap:=h }):wpAny (model prog w) A (pyNext (.ref z)) Q E s:=by
 have W:s.TypeIs (.ref z) "zip":=#[_,H,Z]
 unfold pyNext
 refine HV (MM (IP (name:=Str.ofString "__next__") W Lq (IU Lq W MO (show wpAny _ _ (field (.ref z) 2 >>= _) _ _ _ from ?_) (MJ _))))
 refine HV (IE H Z (x:=.bool false) Z (show wpAny _ _ (field (.ref z) 3 >>= _) _ _ _ from HV (IE H Z (x:=.ref u) Z (HV (Lb hu Z ?_)))))
 refine(show wpAny _ _ (Builtin.SmallTypes.ownedTupleIsFree (.ref z) >>= _) _ _ _ from HV ?_)
 unfold Builtin.SmallTypes.ownedTupleIsFree
 refine HV (IE H Z (x:=.none) Z (HY ?_))
 simp only[MN]
 refine HV (LX (HV (IE H Z (x:=.ref v) Z (HV (Mn H OH λX F S=>?_)))))
 replace F:IsZip X z u v .ellipsis:=F
 refine HV ?_
 simp only[List.zipIdx_cons,List.zipIdx_nil,Mi,M7]
 refine HV (HV (wpAny_onRaise (show wpAny _ _ (Builtin.SmallTypes.nextOf (.ref c) >>= _) _ _ _ from ?_)))
 refine HV (zX (s:={ s with heap:=X }) (h1.kp λo e=>S.extBut _ _ D.cz e) (g1.kp λo e=>S.extBut _ _ D.az e) hx λG i2 l=>HY ?_)
 have Y:IsPair G v p q:=l.extBut _ _ D.vc (S.extBut _ _ D.vz hv)
 refine HV (Lb (s:={ s with heap:=G }) Y Z (HV (wpAny_updateSeq_pair (s:={ s with heap:=G }) Y λI J r=>?_)))
 replace J:IsPair I v x q:=J
 refine HV (wpAny_letGo (HY (HV (HV (wpAny_onRaise (show wpAny _ _ (Builtin.SmallTypes.nextOf (.ref d) >>= _) _ _ _ from ?_))))))
 have K:∀e o,e≠z->e≠c->e≠v->s.heap.get? e=some o->I.get? e=some o:=λe o N f g w=>r.extBut _ _ g (l.extBut _ _ f (S.extBut _ _ N w))
 refine HV (zX (s:={ s with heap:=I }) (h2.kp λo e=>K _ _ D.dz D.cd.symm D.vd.symm e) (g2.kp λo e=>K _ _ D.bz D.bc D.bv e) hy λL i4 i=>HY ?_)
 have v4:IsPair L v x q:=i.extBut _ _ D.vd J
 refine HV (Lb (s:={ s with heap:=L }) v4 Z (HV (wpAny_updateSeq_pair (s:={ s with heap:=L }) v4 λm V j=>?_)))
 replace V:IsPair m v x y:=V
 refine HV (wpAny_letGo (HY (HY (HV (Lb (s:={ s with heap:=m }) V Z (HV (wpAny_newTuple ?_)))))))
 have e5:m.objs.size=s.heap.objs.size:=by rw[j.1,i.1,r.1,l.1,S.1]
 have k5:∀e o,e≠z->e≠v->e≠c->e≠d->s.heap.get? e=some o->m.get? e=some o:=λe o N f g O w=>j.extBut _ _ f (i.extBut _ _ O (K e o N g f w))
 have z5:IsZip m z u v .ellipsis:=j.extBut _ _ D.vz.symm (i.extBut _ _ D.dz.symm (r.extBut _ _ D.vz.symm (l.extBut _ _ D.cz.symm F)))
 have j1:gJ B m c a (k+1):=i2.kp λo e=>j.extBut _ _ D.vc.symm (i.extBut _ _ D.cd (r.extBut _ _ D.vc.symm e))
 have j2:gJ C m d b (k+1):=i4.kp λo e=>j.extBut _ _ D.vd.symm e
 have lz:z < m.objs.size:=Ie z5
 refine(show wpAny _ _ (Builtin.SmallTypes.ownedTupleHandOut (.ref z) (.ref m.objs.size) >>= _) _ _ _ from HV ?_)
 unfold Builtin.SmallTypes.ownedTupleHandOut
 have z6:IsZip (m.push { cls:=.type "tuple",data:=.seq (List.toArray [x,y]) }) z u v .ellipsis:=HX _ z5
 refine HV (Mn z6 OH λm7 P R=>?_)
 replace P:IsZip m7 z u v (rawInt m.objs.size):=P
 refine Mn P OH λM t T=>?_
 replace t:IsZip M z u v (rawInt m.objs.size):=t
 have U:∀e o,e≠z->m.get? e=some o->M.get? e=some o:=λe o n w=>T.extBut _ _ n (R.extBut _ _ n (HX _ w))
 have t8:IsPair M m.objs.size x y:=T.extBut _ _ (I9 lz) (R.extBut _ _ (I9 lz) (Ig _ Z))
 have e8:M.objs.size=m.objs.size+1:=by rw[T.1,R.1,I0]
 rw[e5]at t t8 e8
 refine HY #[_,Z,HY ?_]
 show Q (some (.ref m.objs.size)) _
 rw[e5]
 exact hQ M t (U _ _ D.vz V) (j1.kp λo e=>U _ o D.cz e) (j2.kp λo e=>U _ o D.dz e) t8 e8 λe o N f g O w=>U e o N (k5 e o N f g O w)
theorem Dh{b2:Bool}{ys:Array Value}{p q:Value}{Q:Option Value->Shared->Prop}(C:A.handled=none)(D:vQ z u v c d a b)
  (h:IsZip s.heap z u v .none) (F:IsPair s.heap u (.ref c) (.ref d)) (G:gJ I s.heap c a k) (J:iM I s.heap a L) (K:L[k]?=none)
  (O:∀H,(∀e o,e≠z->e≠v->e≠c->e≠d->s.heap.get? e=some o->H.get? e=some o)->Q none { s with heap:=H }):wpAny (model prog w) A (pyNext (.ref z)) Q E s:=by
 have g:s.TypeIs (.ref z) "zip":=#[_,h,Z]
 unfold pyNext
 refine HV (MM (IP (name:=Str.ofString "__next__") g Lq (IU Lq g MO (show wpAny _ _ (field (.ref z) 2 >>= _) _ _ _ from ?_) (MJ _))))
 refine HV (IE h Z (x:=.bool false) Z (show wpAny _ _ (field (.ref z) 3 >>= _) _ _ _ from HV (IE h Z (x:=.ref u) Z (HV (Lb F Z ?_)))))
 refine(show wpAny _ _ (Builtin.SmallTypes.ownedTupleIsFree (.ref z) >>= _) _ _ _ from HV ?_)
 unfold Builtin.SmallTypes.ownedTupleIsFree
 refine HV (IE h Z (x:=.none) Z (HY ?_))
 simp only[MN]
 refine HV (LX (HV (IE h Z (x:=.ref v) Z (HV (Mn h OH λm f S=>?_)))))
 replace f:IsZip m z u v .ellipsis:=f
 refine HV ?_
 simp only[List.zipIdx_cons,List.zipIdx_nil,Mi,M7]
 refine HV (HV (wpAny_onRaise (show wpAny _ _ (Builtin.SmallTypes.nextOf (.ref c) >>= _) _ _ _ from ?_)))
 refine HV (Qq (s:={ s with heap:=m }) (by simpa using C) (G.kp λo e=>S.extBut _ _ D.cz e) (J.kp λo e=>S.extBut _ _ D.az e) K λM e i j=>?_)
 have l:IsZip M z u v .ellipsis:=i _ _ D.cz.symm f
 refine Mn (s:={ s with heap:=M }) l OH λn U r=>?_
 have t:Shared.TypeIs { s with heap:=n } e "StopIteration":=by
  cases e with
  |ref x=>
   obtain⟨o,y,B⟩:=j
   have P:x≠z:=λw=>by
    subst w
    have:=y.symm.trans l
    cases this
    injection B with w
    exact absurd w OF
   exact#[o,r.extBut _ _ P y,B]
  |_=>exact j
 exact HV (Mh (T:="StopIteration") (b:=true) t NY (HY (O n λe o N V R W w=>r.extBut _ _ N (i _ _ R (S.extBut _ _ N w)))))
theorem Di{b1 b2:Bool}{xs ys:Array Value}{Q:Value->Shared->Prop}(J:iM b1 s.heap a xs)(L:iM b2 s.heap b ys)
  (h:∀H,IsZip H (s.heap.objs.size+4) (s.heap.objs.size+2) (s.heap.objs.size+3) .none->IsPair H (s.heap.objs.size+2) (.ref s.heap.objs.size) (.ref (s.heap.objs.size+1))->
   IsPair H (s.heap.objs.size+3) .none .none->gJ b1 H s.heap.objs.size a 0->gJ b2 H (s.heap.objs.size+1) b 0->(∀e o,s.heap.get? e=some o->H.get? e=some o)->Q (.ref (s.heap.objs.size+4)) { s with heap:=H }):
  wpAny (model prog w) A (call (.type "zip") [.ref a,.ref b]) Q E s:=by
 refine callType_new (S:=λ_ R c=>c=s/\R (.ok (.ret (.ref (s.heap.objs.size+4)))) { s with heap:=((((s.heap.push { cls:=.type (ff b1),data:=.fields (List.toArray [.ref a,.int 0 0]) }).push { cls:=.type (ff b2),data:=.fields (List.toArray [.ref b,.int 0 0]) }).push { cls:=.type "tuple",data:=.seq (List.toArray [.ref s.heap.objs.size,.ref (s.heap.objs.size+1)]) }).push { cls:=.type "tuple",data:=.seq (List.toArray [.none,.none]) }).push { cls:=.type "zip",data:=.fields (List.toArray [.none,.bool false,.bool false,.ref (s.heap.objs.size+2),.ref (s.heap.objs.size+3)]) } })
  PySem.F.called_zip OF (PySem.F.typeCall_zip_2 _ _) (PySem.F.newCall_zip_2 _ _) (λO=>PySem.F.args_object_init_3 O _ _) PySem.F.entry_zip_new (.of_wp λp w' A' R c P=>?_) #[Z,?_]
 ·obtain⟨rfl,q⟩:=P
  obtain⟨r,g,D,t,os⟩:=c
  have u:=sub_zip
  have T:iM b1 (Shared.heap #[r,g,D,t,os]) a xs:=J
  have _L:iM b2 (Shared.heap #[r.push { cls:=.type (ff b1),data:=.fields (List.toArray [.ref a,.int 0 0]) },g,D,t,os]) b ys:=L.kp λo e=>HX _ e
  wp_walk using Ac T,Ac _L
  refine#[_,Z,?_]
  simp only[I0]at q ⊢
  exact q
 ·have z (h:Heap) (o:Obj):(h.push o).objs.size=h.objs.size+1:=I0 ..
  generalize d:s.heap.push { cls:=.type (ff b1),data:=.fields (List.toArray [.ref a,.int 0 0]) }=M
  generalize f:M.push { cls:=.type (ff b2),data:=.fields (List.toArray [.ref b,.int 0 0]) }=i
  generalize j:i.push { cls:=.type "tuple",data:=.seq (List.toArray [.ref s.heap.objs.size,.ref (s.heap.objs.size+1)]) }=k
  generalize l:k.push { cls:=.type "tuple",data:=.seq (List.toArray [.none,.none]) }=n
  generalize v:n.push { cls:=.type "zip",data:=.fields (List.toArray [.none,.bool false,.bool false,.ref (s.heap.objs.size+2),.ref (s.heap.objs.size+3)]) }=m
  have N:M.objs.size=s.heap.objs.size+1:=by rw[<- d,z]
  have x:i.objs.size=s.heap.objs.size+2:=by rw[<- f,z,N]
  have y:k.objs.size=s.heap.objs.size+3:=by rw[<- j,z,x]
  have U:n.objs.size=s.heap.objs.size+4:=by rw[<- l,z,y]
  have K:∀e o,n.get? e=some o->m.get? e=some o:=λe o w=>by rw[<- v];exact HX _ w
  have B:∀e o,k.get? e=some o->m.get? e=some o:=λe o w=>K e o (by rw[<- l];exact HX _ w)
  have C:∀e o,i.get? e=some o->m.get? e=some o:=λe o w=>B e o (by rw[<- j];exact HX _ w)
  have G:∀e o,M.get? e=some o->m.get? e=some o:=λe o w=>C e o (by rw[<- f];exact HX _ w)
  have V:∀e o,s.heap.get? e=some o->m.get? e=some o:=λe o w=>G e o (by rw[<- d];exact HX _ w)
  have I:IsZip m (s.heap.objs.size+4) (s.heap.objs.size+2) (s.heap.objs.size+3) .none:=by rw[<- U,<- v];exact Ig _ Z
  have W:IsPair m (s.heap.objs.size+3) .none .none:=K _ _ (by rw[<- y,<- l];exact Ig _ Z)
  have X:IsPair m (s.heap.objs.size+2) (.ref s.heap.objs.size) (.ref (s.heap.objs.size+1)):=B _ _ (by rw[<- x,<- j];exact Ig _ Z)
  have Y:m.get? (s.heap.objs.size+1)=some { cls:=.type (ff b2),data:=.fields (List.toArray [.ref b,.int 0 0]) }:=C _ _ (by rw[<- N,<- f];exact Ig _ Z)
  have q1:m.get? s.heap.objs.size=some { cls:=.type (ff b1),data:=.fields (List.toArray [.ref a,.int 0 0]) }:=G _ _ (by rw[<- d];exact Ig _ Z)
  refine#[#[_,I,Z],h m I X W ?_ ?_ V]
  ·cases b1<;>exact#[_,q1,Z,Z]
  ·cases b2<;>exact#[_,Y,Z,Z]
end
theorem yC(n a b:Nat)(h:a < n)(H:b < n):vQ (n+4) (n+2) (n+3) n (n+1) a b:=by
 refine#[?_,?_,?_,?_,?_,?_,?_,?_,?_,?_,?_,?_,?_,?_,?_,?_,?_,?_]<;>(show(_:Nat)≠_;omega)
section
variable {prog:Program}{w:World}{A:Around}{E:Value->Shared->Prop}
theorem yQ(h:l≠J):∀(n i:Nat) (s:Shared) (Q:List Value->Shared->Prop),s.heap.IsListIter J l i->s.heap.IsList l I->i+n<=I.size->
  (∀a,a.IsListIter J l (i+n)->Heap.SameBut J s.heap a->Q ((I.toList.drop i).take n) { s with heap:=a })->wpAny (model prog w) A (draw (.ref J) n) Q E s
 |0,i,s,Q,b,_,_,q=>show wpAny _ _ (pure []) Q E s from HY (by simpa using q s.heap b (Heap.SameBut.refl ..))
 |n+1,i,s,Q,b,c,d,q=>by
  have H:i < I.size:=by omega
  refine(show wpAny _ _ (pyNext (.ref J) >>= _) Q E s from HV (wpAny_pyNext_list_item b c (x:=I[i]) (by simp [H]) λm j S=>?_))
  refine HV (IF (yQ h n (i+1) _ _ j (c.extBut S.extBut h) OG λf g k=>HY ?_))
  have e:=q f (by rw[show i+(n+1)=i+1+n by omega];exact g) (S.trans k)
  rwa [show I.toList.drop i=I[i]::I.toList.drop (i+1) by simp [List.drop_eq_getElem_cons,H],List.take_succ_cons]at e
theorem yu{s:Shared}{Q:List Value->Shared->Prop}(f:A.handled=none)(h:s.heap.IsList l i)(a:i.size=n)
  (q:∀c,Heap.ExtBut s.heap.objs.size s.heap c->Q i.toList { s with heap:=c }):wpAny (model prog w) A (unpackItems (.ref l) n none) Q E s:=by
 have H:l≠s.heap.objs.size:=by obtain⟨o,g,_⟩:=h;exact Ij (Ie g)
 unfold unpackItems
 refine HV ?_
 unfold notIterableAtAll
 refine HV (LN h.typeIs slot_list_iter.lookup ?_)
 refine HY ?_
 simp only[Iq,Lr]
 refine HV (IF (Nq h ?_))
 have I:(s.heap.push { cls:=.type "list_iterator",data:=.fields (List.toArray [.ref l,.int 0 0]) }).IsListIter s.heap.objs.size l 0:=#[_,Ig _ Z,Z,Z]
 refine HV (IF (yQ H n 0 _ _ I (h.push _) OG λj J S=>?_))
 have k:(i.toList.drop 0).take n=i.toList:=by rw[NF,LA (by simp [a])]
 rw[k,Iu (by simp [a])]
 have L:j.IsList l i:=(h.push _).extBut S.extBut H
 refine HV (IF (wpAny_pyNext_list_end f J L (by simp [a]) λm p=>?_))
 simp only[Option.isSome_none,Iq,Lr]
 exact HY (q m λb o d e=>p b o d (S.extBut b o d (HX _ e)))
end
section
variable {X:Cx}{pos:Pos}
inductive Ge(K:Frag)(n:Nat)(t:vP)(v:V)(c:St)(H:Hp)(Q:St->Hp->Prop):Prop
 |mk(a b:_)(_:v= .ref a)(_:aG K H a b)(_:b.length=n)(_:t b c H Q)
theorem YO{E:List Expr}{k n:Nat}{t:vP}(g:X.calm=true)(h:Dm X E t)
  (i:(assignEach E X.env).length=n:=by rfl) (c:(assignEach E X.env).findIdx? (·.1)=none:=by rfl):PG X (.Tuple E k pos) (Ge X.K n t):=by
 intro P s f H v u Q I r d
 obtain⟨a,x,j,l,m,d⟩:=d
 subst j
 cases r
 obtain⟨q,R,p,A⟩:=I.list l
 rw[assign_Tuple]
 refine HV (Ms ?_)
 unfold unpack
 rw[i,c]
 refine HV (IF (yu (I.ok.hd g) p.isList (by simp [<- m,R.length]) λw y=>?_))
 have z:ap X P f H { s with heap:=w }:=I.kept (t':=s.toks) λb o e=>y b o (Ij (Ie e)) e
 exact h P _ f H x _ Q z (by simpa using R) d
inductive uP(K:Frag)(i j k:Nat)(D:aZ)(f:St)(x:V)(b:Hp):Prop
 |mk(a c d e:_)(_:x= .ref a)(_:ay K b a [c,d,e])(_:D.nx (((f.set k (some e)).set j (some d)).set i (some c)) b)
def Aq(K:Frag)(t:TE)(i j k:Nat):TS:=λD a H=>t a H (uP K i j k D a)
theorem xF{t e:Expr}{T:TE}{x y z:Str}{i j k:Nat}(n:X.calm=true)(c:X.N.Nodup)(w:X.N[i]?=some x)(A:X.N[j]?=some y)(B:X.N[k]?=some z)(L:pX X.env.scope x)(C:pX X.env.scope y)(E:pX X.env.scope z)(F:PE X e T)
  (G:X.fn x=true∨X.env.scope.names.lookup x=some .local:=by first |exact .inl Z |exact .inr Z) (J:X.fn y=true∨X.env.scope.names.lookup y=some .local:=by first |exact .inl Z |exact .inr Z) (M:X.fn z=true∨X.env.scope.names.lookup z=some .local:=by first |exact .inl Z |exact .inr Z)
  (O:swapsWithSole [t] e pos.line X.env=pure false:=by rfl) (P:swappedStores [t] e X.env=pure (some [x,y,z]):=by rfl):PS X (.Assign [t] e pos) (Aq X.K T i j k):=by
 intro p s f H D I h
 rw[exec_Assign_arm]
 refine HV (Ms ?_)
 rw[O]
 refine HV (HY ?_)
 rw[Iu OF]
 refine HV (aL (F p s f H _ I h) λv S d=>?_)
 obtain⟨xv,g,l,R,a,v1,v2,v3,Q,V,q⟩:=d
 rw[P]
 refine HV (HY ?_)
 subst Q
 cases R
 obtain⟨W,r,Y,hz⟩:=l.tuple V
 cases r with
 |cons q1 r=>
  cases r with
  |cons q2 r=>
   cases r with
   |cons q3 r=>
    cases r
    rename_i u U m
    unfold assignStores
    refine HV (LX (HV (wpAny_unpackItems_tuple (items:=(List.toArray [u,U,m])) (I.ok.hd n) Y λh' hx=>?_)))
    have I2:ap X p f g { S with heap:=h' }:=l.kept (t':=S.toks) λb o e=>hx b o (Ij (Ie e)) e
    refine HV ?_
    show wpAny _ _ (assignInOrder [λv=>bindName X.env z v,λv=>bindName X.env y v,λv=>bindName X.env x v] [m,U,u]) _ _ _
    refine HV (IF (wpAny_bindName (zr I2 c B E q3 (λs2 I3=>?_) M)))
    refine HV (IF (wpAny_bindName (zr I3 c A C q2 (λs3 I4=>?_) J)))
    refine HV (IF (wpAny_bindName (zr I4 c w L q1 (λs4 I5=>?_) G)))
    exact HY (HY #[_,g,I5,q])
end
theorem wj(l b:Addr)(I i:Array Value)(n N:Nat)(D:Option Addr)(S:Array (Option Value))(e:¬(!I.isEmpty&&Builtin.List.listTooLong (I.size+i.size))=true)(W:I.size<=sizeLine)(a:I.size+i.size<=sizeLine+1):
  Meets (Builtin.«list.extend» #[[.ref l,.ref b],[]]) (λ_ R s=>s.heap.get? l=some { cls:=.type "list",dict:=none,data:=.seq I n,slots:=(List.toArray []) }/\s.heap.get? b=some #[.type "tuple",D,.seq i N,S]/\R (.ok (.ret Value.none)) { s with heap:=s.heap.update l (Obj.mapSeq λx=>x++i),toks:=s.toks }):=by
 refine Meets.of_wp λp w A R s h=>?_
 obtain⟨f,g,d,t,os⟩:=s
 obtain⟨H,c,h⟩:=h
 have F:=AutoSeq1.idx_int
 have j:=AutoSeq1.sub_tuple_tuple
 have k:=AutoSeq1.sub_list_list
 have m:=AutoSeq1.sub_tuple_list
 have o:=AutoSeq1.sub_list_tuple
 have hz:(I++i).size<=sizeLine+1:=by rw[N5];exact a
 wp_walk using (NP H Z (hz:=W) (_hz':=hz)),LH H,LH c
 exact#[_,Z,h]
section
variable {X:Cx}
inductive ie(K:Frag)(x:V)(a:List V)(H:Hp)(Q:VK):Prop
 |mk(l b c d:_)(_:x= .ref l)(_:a=[.ref b])(_:H l=some (.lst c))(_:ay K H b d)(_:c.length+d.length<=sizeLine)(_:Q .non (ah H l (.lst (c++d))))
theorem Yl:DE X "list.extend" (ie X.K):=by
 intro p s A H x V v U Q I g j h
 obtain⟨l,b,B,C,rfl,rfl,f,k,D,q⟩:=h
 cases g
 obtain⟨u,rfl,m⟩:=j.one
 cases m
 obtain⟨z,a,n,r,E,e⟩:=I.lstM f
 obtain⟨i,R,P,G⟩:=I.tuple k
 have o:=R.length
 have d:a.toArray.size+i.toArray.size<=sizeLine:=by rw[Ic,Ic];omega
 have c:¬(!a.toArray.isEmpty&&Builtin.List.listTooLong (a.toArray.size+i.toArray.size))=true:=by
  rw[fg d,NG]
  exact Ih
 obtain⟨⟨J,O,L,S⟩,t,w,N,y⟩:=P
 cases w
 cases y
 refine N9 F.slot_list_extend #[_,e,Z] F.entry_list_extend (F.args_list_extend_2 _ _) (wj l b a.toArray i.toArray n N O S c (by rw[Ic];omega) OG) #[e,t,?_]
 refine#[.non,_,I.lset (its':=a++i) f e OH (r.append R) (by rw[Ia];omega),Z,q]
end
section
variable {prog:Program}{w:World}{A:Around}{E:Value->Shared->Prop}{s:Shared}
theorem Jf{R:Result->Shared->Prop}{P:Nat->Value->Prop}{St:Nat->Shared->Prop}
  (W:WalksS prog w A.in1 I N j G n P St) (S:Addr) (H:¬S∈N) (c:List Str) (O:c.length=n) (Q:∀i v,P i v->∃x t,c[i]?=some x/\v= .str x t) (d:∀L:List Str,L.Nodup->(∀x∈L,x∈c)->L.length+1 < scanBound):
  ∀(k i:Nat) (s:Shared) (L:List Str),n - i=k->i<=n->St i s->cp prog w s.heap S L->(∀x,x∈L↔x∈c.take i)->L.length<=i->
   (∀a l,Moved (S::j) G s a->cp prog w a.heap S l->(∀x,x∈l↔x∈c)->l.length<=n->R (.ok (.ret .none)) a)->
   codeAny (model prog w) A (.builtin "set.update.loop" #[[.ref S,.ref I],[]]) R s:=by
 have f:¬S∈j:=λz=>H (W.sub _ z)
 have sub:∀b∈j,b∈S::j:=λb z=>II _ z
 intro k
 induction k with
 |zero=>
  intro i s L T U st p q F r
  have e:i=n:=by omega
  subst e
  refine Lz NK ?_
  rw[Lh Mx]
  show wpAny _ A.in1 (pyNext (.ref I) >>= _) _ _ s
  refine HV (W.done s _ _ st λa m=>?_)
  show wpAny _ A.in1 (ret Value.none) _ _ a
  refine HY (r a L (m.mono sub) (p.at λo e=>m.heap S o f e) (λx=>?_) F)
  rw[q x,<- O,Lj]
 |succ k V=>
  intro i s L T U st p q F r
  have J:i < n:=by omega
  refine Lz NK ?_
  rw[Lh Mx]
  show wpAny _ A.in1 (pyNext (.ref I) >>= _) _ _ s
  refine HV (W.item i s _ _ J st λv a X u m=>?_)
  obtain⟨x,t,B,rfl⟩:=Q i v X
  show wpAny _ A.in1 (holding [Value.str x t] (setAdd S (.str x t)) >>= _) _ _ a
  refine HV (IF ?_)
  have h:L.Nodup:=by obtain⟨_,_,_,_,_,_,_,_,_,h,_⟩:=p;exact h
  refine XE (p.at λo e=>m.heap S o f e) (d L h λx B=>Lc ((q x).mp B)) λb h' Y K S2 g=>?_
  refine HY #[Mf Mx _,V (i+1) _ _ OG J (W.frame _ a _ _ u g λb d o e=>?_) S2 (λy=>?_) ?_ λC l M D q1 q2=>?_]
  ·rw[K.2 b (λz:b=S=>H (by rw[<- z];exact d))];exact e
  ·have tk:c.take (i+1)=c.take i++[x]:=by rw[Mq,B];rfl
   rw[tk,My,NR,<- q y]
   split
   ·rename_i hm
    exact#[.inl,λz=>z.elim id λe=>e▸hm]
   ·rw[My,NR]
  ·split
   ·omega
   ·rw[Ia,Mj];omega
  ·refine r C l (Moved.trans W.gtrans ((m.mono sub).then_heap g λb o d e=>?_) M) D q1 q2
   rw[K.2 b (λz:b=S=>d (by rw[z];exact Iz))];exact e
end
section
variable {prog:Program}{w:World}{A:Around}{E:Value->Shared->Prop}{s:Shared}
set_option maxHeartbeats 3200000 in
theorem JG{Q:Value->Shared->Prop}
  (hh:A.handled=none) (hl:s.heap.IsList l I) (hi:StrsAre I.toList n) (C:∀L:List Str,L.Nodup->(∀x∈L,x∈n)->L.length+1 < scanBound)
  (h:∀(a:Heap) (t:Nat) L,cp prog w a s.heap.objs.size L->(∀x,x∈L↔x∈n)->L.length<=I.size->
   (∀b o,b < s.heap.objs.size->s.heap.get? b=some o->a.get? b=some o)->s.toks<=t->Q (.ref s.heap.objs.size) { s with heap:=a,toks:=t }):
  wpAny (model prog w) A (call (.type "set") [.ref l]) Q E s:=by
 obtain⟨c,tl,m1⟩:=PySem.F.called_set.mro
 have m0:=PySem.F.called_set.made
 have sb:=PySem.F.called_set.sub
 refine wpAny_call (codeAny_of_tree ?_)
 show wpAny _ _ (callAny (.type "set") _) _ _ _
 refine HY #[Code.quiet_builtin _ OJ,Lz PySem.F.entry_type_call ?_]
 rw[Around.under_plain (weight_type_call_type "set" [.ref l] []) Z]
 have n1:=PySem.F.called_set.notType
 have n2:=PySem.F.called_set.canCreate
 have ct:=PySem.F.typeCall_set_1 (.ref l)
 repeat (any_goals (first |assumption |wp_step))
 refine MF (KO (.ref l) (E:=E) (G:=λv S=>v= .ref s.heap.objs.size/\S={ s with heap:=s.heap.push (bj w) }) #[Z,Z]) λr S D=>?_
 cases r with
 |error e=>exact D
 |ok fl=>
  cases fl with
  |ret o1=>
   obtain⟨rfl,rfl⟩:=D
   have J:(s.heap.push (bj w)).get? s.heap.objs.size=some (bj w):=Ig _ Z
   have hT:Shared.TypeIs { s with heap:=s.heap.push (bj w) } (.ref s.heap.objs.size) "set":=#[_,J,Z]
   have li:=PySem.F.called_set.init.lookup
   have bi:=PySem.F.called_set.init.bind (.ref s.heap.objs.size)
   repeat (any_goals (first |assumption |wp_step))
   refine MF (codeAny_call_builtin (R:=wants (λr d=>r= .none/\∃a t L,d={ s with heap:=a,toks:=t }/\cp prog w a s.heap.objs.size L/\(∀x,x∈L↔x∈n)/\L.length<=I.size/\
     (∀b o,b < s.heap.objs.size->s.heap.get? b=some o->a.get? b=some o)/\s.toks<=t) E) PySem.F.called_set.init.plain PySem.F.entry_set_init (check_set_init_1 hT ?_)) λp d H=>?_
   ·obtain⟨ol,q,u,nl,y⟩:=hl
    obtain⟨o0,g,K,O⟩:=ol
    simp only at u y
    subst u
    subst y
    have f:(s.heap.push (bj w)).get? l=some { cls:=.type "list",dict:=g,data:=.seq I nl,slots:=O }:=HX _ q
    have ns:=PySem.F.sub_list_set
    have nf:=PySem.F.sub_list_frozenset
    have ne:(Value.type "list"==Value.type "dict")=false:=by decide
    have j:(s.heap.push (bj w)).IsList l I:=#[_,f,Z,nl,Z]
    unfold bj at J hT f j ⊢
    unfold Builtin.«set.__init__» noKeywords Builtin.Frozenset.updateFrom
    generalize M:pyIter=PI
    wp_walk
    subst M
    refine Nq j ?_
    refine HV (wpAny_runValue ?_)
    have z:l < s.heap.objs.size:=Ie q
    have h3:A.in1.in1.in1.handled=none:=by simp [hh]
    have N:l≠(s.heap.push (bj w)).objs.size:=by rw[I0];exact Ij (Ml z)
    have P:¬s.heap.objs.size∈[(s.heap.push (bj w)).objs.size,l]:=by
     rw[I0]
     simp only[Md,IL,M5,not_or]
     exact#[Ij (Ls _),I9 z]
    have B:n.length=I.size:=by rw[_L.StrsAre.len hi,IC]
    refine Jf ((Walks.list h3 _ l N I).toS) s.heap.objs.size P n B (λi v hv=>StrsAre.at' hi i v (by rw[LQ];exact hv)) C (I.size - 0) 0 _ [] OG (Il _)
     #[#[_,Ig _ Z,Z,Z],j.push _] (XF (HX _ J)) (λx=>by simp) (Ib _) λs' L m T U V=>?_
    obtain⟨a,g',d',W,X⟩:=s'
    have eg:g'=s.gens:=m.gens
    have ed:d'=s.drawn:=m.drawn
    have eo:X=s.os:=m.os
    subst eg
    subst ed
    subst eo
    show wpAny _ _ _ _ _ _
    refine HY ?_
    show wpAny _ _ (ret Value.none) _ _ _
    refine HY #[Z,a,W,L,Z,T,U,V,λb o C e=>?_,m.toks]
    have b1:b≠s.heap.objs.size:=Ij C
    have b2:b≠(s.heap.push (bj w)).objs.size:=by rw[I0];exact Ij (Ml C)
    exact m.heap b o (by simp only[Md,IL,M5,not_or];exact#[b1,b2]) (HX _ (HX _ e))
   ·cases p with
    |error e=>exact H
    |ok k=>
     cases k with
     |ret r=>
      obtain⟨rfl,a,t,L,rfl,T,U,V,Y,q3⟩:=H
      repeat (any_goals (first |assumption |wp_step))
      exact h _ _ _ T U V Y q3
     |_=>exact H.elim
  |_=>exact D.elim
end
section
variable {X:Cx}
theorem qK(m:X.calm=true):eJ X (.type "set") (λg H Q=>∃(p:Addr) (S:List Str),g=[.ref p]/\aG X.K H p (S.map V.str)/\(∀L:List Str,L.Nodup->(∀x∈L,x∈S)->L.length+1 < scanBound)/\
  ∀l L,H l=none->L.Nodup->(∀x,x∈L↔x∈S)->Q (.ref l) (ah H l (Fs X.prog X.w l L))):=by
 intro P s B H g U Q I r h
 obtain⟨p,S,rfl,n,t,q⟩:=h
 obtain⟨u,rfl,R⟩:=eP r
 cases R
 obtain⟨i,v,y,C⟩:=I.list n
 have j:=zW v
 have D:i.length=S.length:=(_L.StrsAre.len j).symm
 refine JG (I.ok.hd m) y.isList (by simpa using j) t λc T L d z E k _=>?_
 have a:L.Nodup:=by obtain⟨_,_,_,_,_,_,_,_,_,a,_⟩:=d;exact a
 have A:∀b o,s.heap.get? b=some o->c.get? b=some o:=λb o e=>k b o (Ie e) e
 obtain⟨o,f⟩:∃o,c.get? s.heap.objs.size=some o:=let #[o,_,_,_,f,_]:=d;#[o,f]
 exact#[.ref s.heap.objs.size,_,I.laid A (Ib _) (show aQ X.prog X.w _ c _ (Fs X.prog X.w s.heap.objs.size L) from #[d,#[o,f],λF G x e=>cp.at x e]),Z,q _ _ (I.hok.fresh (Ib _)) a z]
end
section
variable {X:Cx}{CX:pE}{k:Nat}{f C:Addr}{fd:FuncData}{ps:List Str}{sp:Sp}{dvs:List V}{ds:List Value}{E:XK}{x m:Str}{p pos apos:Pos}{e:Expr}{es:List Expr}{t:TA}
structure Az(K:Frag)(C:Addr)(m:Str)(f:Addr):Prop where
 rd:PySem.W.readsIn K C (.type "type")=true
 ga:specialIn K (.ref C) "__getattribute__"=some (some (.builtin "type.__getattribute__"))
 at_:PySem.W.findCls K (.ref C) (.type "type") m=some (.val (.ref f))
 kp:keepIn K (.ref f)=true
theorem xz{pl:Sem Bool}(j:Gl X x)(l:X.mg x=some (.ref C))(M:Az X.K C m f)(F:af X.prog X.w X.K X.mg X.base CX k f fd ps sp)(n:bH k X.A)(q:ax X.K fd ps ds)(u:au dvs ds)(v:cV CX X E)(y:PA X (e::es) t)
  (a:(x==("__debug__":Str))=false:=by decide)
  (c:starEach (e::es) X.env=(false,eval e X.env)::starEach es X.env:=by rfl) (d:(backTo pos (starEach es X.env)).any (·.1)=false:=by rfl)
  (z:eval (.Call (.Attribute (.Name x p) m apos) (e::es) [] pos) X.env=(do
   let O <- eval (.Name x p) X.env
   standAt apos.atName
   let (f,first) <- holding [O] (getMethod O m pl)
   callWith pos f first (backTo pos (starEach (e::es) X.env)) (backToKw pos (keywordEach [] X.env))):=by rfl):
  PE X (.Call (.Attribute (.Name x p) m apos) (e::es) [] pos) (dQ sp dvs E t):=by
 intro P s g H Q I h
 refine Ny (pl:=pl) (zD I j l ?_ a) z
 refine PySem.W.method_cls I.kIn M.ga (PySem.W.cls_value I.kIn M.rd M.at_ Z ?_)
 have B:ap X P g H { s with toks:=s.toks+1 }:=I.kept (h':=s.heap) λb o e=>e
 refine Ol (h₀:=X.base) I.ok.mod.kin M.kp (aL (y pos P _ g H _ B h) λU S #[G,J,i,r,D]=>#[i.kIn,?_]) c d
 exact QA F n q u v i r D
end
abbrev eQ(h:Heap)(z u v T:Addr)(f:Bool):Prop:=
 h.get? z=some { cls:=.type "zip",dict:=none,data:=.fields (List.toArray [rawInt T,.bool f,.bool false,.ref u,.ref v]),slots:=(List.toArray []) }
section
variable {prog:Program}{w:World}{A:Around}{E:Value->Shared->Prop}{s:Shared}
theorem ZF{Q:Option Obj->Shared->Prop}(h:Q (s.heap.get? a) s):wpAny M A (loadIfAlive a) Q E s:=λ_ _ _=>h
theorem DN{Q:Bool->Shared->Prop}(H:eQ s.heap z u v T f)(a:∃o,s.heap.get? T=some o)
  (q:∀h,eQ h z u v T true->Heap.ExtBut z s.heap h->h.objs.size=s.heap.objs.size->Q false { s with heap:=h }):wpAny (model prog w) A (Builtin.SmallTypes.ownedTupleIsFree (.ref z)) Q E s:=by
 unfold Builtin.SmallTypes.ownedTupleIsFree
 refine HV (IE H Z (x:=rawInt T) Z ?_)
 show wpAny _ _ (loadIfAlive ((T:Int).toNat) >>= _) _ _ s
 refine HV (ZF ?_)
 obtain⟨o,c⟩:=a
 rw[IW,c]
 simp only[Option.isNone_some,Iq,Lr]
 refine HV (IE H Z (x:=.bool f) Z ?_)
 cases f with
 |true=>
  simp only[LY,Iq,Lr]
  exact HV (HY (HY (q s.heap H (λb o _ e=>e) Z)))
 |false=>
  rw[Io OF]
  refine HV (Mn H OH λh d S=>HY (q h d S.extBut S.1))
theorem yz{Q:Option Value->Shared->Prop}(D:vQ z u v c d a b)
  (g:eQ s.heap z u v T f) (p:∃o,s.heap.get? T=some o) (q:IsPair s.heap u (.ref c) (.ref d)) (r:gJ B s.heap c a k) (t:gJ l s.heap d b k) (G:iM B s.heap a C) (F:iM l s.heap b Y) (I:C[k]?=some x) (J:Y[k]?=some y)
  (L:∀h,eQ h z u v T true->gJ B h c a (k+1)->gJ l h d b (k+1)->IsPair h s.heap.objs.size x y->h.objs.size=s.heap.objs.size+1->
   (∀e o,e≠z->e≠c->e≠d->s.heap.get? e=some o->h.get? e=some o)->Q (some (.ref s.heap.objs.size)) { s with heap:=h }):wpAny (model prog w) A (pyNext (.ref z)) Q E s:=by
 have H:s.TypeIs (.ref z) "zip":=#[_,g,Z]
 unfold pyNext
 refine HV (MM (IP (name:=Str.ofString "__next__") H Lq (IU Lq H MO (show wpAny _ _ (field (.ref z) 2 >>= _) _ _ _ from ?_) (MJ _))))
 refine HV (IE g Z (x:=.bool false) Z (show wpAny _ _ (field (.ref z) 3 >>= _) _ _ _ from HV (IE g Z (x:=.ref u) Z (HV (Lb q Z ?_)))))
 refine(show wpAny _ _ (Builtin.SmallTypes.ownedTupleIsFree (.ref z) >>= _) _ _ _ from HV (DN g p λO P i n=>?_))
 simp only[Iq,Lr]
 refine HV ?_
 simp only[List.forIn_toArray,Mi,M7]
 refine HV (HV (IF (show wpAny _ _ (Builtin.SmallTypes.nextOf (.ref c) >>= _) _ _ _ from ?_)))
 refine HV (zX (s:={ s with heap:=O }) (r.kp λo e=>i _ _ D.cz e) (G.kp λo e=>i _ _ D.az e) I λM R j=>HY (HY ?_))
 refine HV (HV (IF (show wpAny _ _ (Builtin.SmallTypes.nextOf (.ref d) >>= _) _ _ _ from ?_)))
 have K:∀e o,e≠z->e≠c->s.heap.get? e=some o->M.get? e=some o:=λe o n U w=>j.extBut _ _ U (i _ _ n w)
 refine HV (zX (s:={ s with heap:=M }) (t.kp λo e=>K _ _ D.dz D.cd.symm e) (F.kp λo e=>K _ _ D.bz D.bc e) J λm V S=>HY (HY (HY ?_)))
 show wpAny _ _ (newTuple [x,y] >>= _) _ _ _
 refine HV (wpAny_newTuple (HY #[_,Z,HY ?_]))
 have N:m.objs.size=s.heap.objs.size:=by rw[S.1,j.1];exact n
 have W:eQ m z u v T true:=S.extBut _ _ D.dz.symm (j.extBut _ _ D.cz.symm P)
 show Q (some (.ref m.objs.size)) _
 rw[N]
 refine L _ (HX _ W) (R.kp λo e=>HX _ (S.extBut _ _ D.cd e)) (V.kp λo e=>HX _ e) (by rw[<- N];exact Ig _ Z) (by rw[I0,N]) λe o X a2 a3 w=>HX _ (S.extBut _ _ a3 (K _ _ X a2 w))
theorem Dg{b2:Bool}{ys:Array Value}{Q:Option Value->Shared->Prop}(j:A.handled=none)(D:vQ z u v c d a b)
  (H:eQ s.heap z u v T f) (l:∃o,s.heap.get? T=some o) (m:IsPair s.heap u (.ref c) (.ref d)) (p:gJ B s.heap c a k) (G:iM B s.heap a q) (r:q[k]?=none)
  (t:∀i,(∀e o,e≠z->e≠c->e≠d->s.heap.get? e=some o->i.get? e=some o)->Q none { s with heap:=i }):wpAny (model prog w) A (pyNext (.ref z)) Q E s:=by
 have h:s.TypeIs (.ref z) "zip":=#[_,H,Z]
 unfold pyNext
 refine HV (MM (IP (name:=Str.ofString "__next__") h Lq (IU Lq h MO (show wpAny _ _ (field (.ref z) 2 >>= _) _ _ _ from ?_) (MJ _))))
 refine HV (IE H Z (x:=.bool false) Z (show wpAny _ _ (field (.ref z) 3 >>= _) _ _ _ from HV (IE H Z (x:=.ref u) Z (HV (Lb m Z ?_)))))
 refine(show wpAny _ _ (Builtin.SmallTypes.ownedTupleIsFree (.ref z) >>= _) _ _ _ from HV (DN H l λM F g n=>?_))
 simp only[Iq,Lr]
 refine HV ?_
 simp only[List.forIn_toArray,Mi,M7]
 refine HV (HV (IF (show wpAny _ _ (Builtin.SmallTypes.nextOf (.ref c) >>= _) _ _ _ from ?_)))
 refine HV (Qq (s:={ s with heap:=M }) (by simpa using j) (p.kp λo e=>g _ _ D.cz e) (G.kp λo e=>g _ _ D.az e) r λy e S C=>?_)
 exact HV (Mh (T:="StopIteration") (b:=true) C NY (HY (t y λe o n N I w=>S _ _ N (g _ _ n w))))
end
theorem Jr:typeLookup (.type "zip") "__getattr__"=pure none:=by rw[Lx,IY];kernel_rfl
theorem XI:typeLookup (.type "zip") "keys"=pure none:=by rw[Lx,IY];kernel_rfl
theorem Q0:entryFor table "zip.__getattribute__"=some Builtin.«object.__getattribute__»:=
 NZ (id':="object.__getattribute__") (by kernel_rfl) OJ OJ (by kernel_rfl)
theorem KI(a:Addr)(x:Array Value)(S:Array (Option Value))(u:Tok):
  Meets (Builtin.«object.__getattribute__» #[[.ref a,.str "keys" u],[]]) (λA R s=>s.heap.get? a=some { cls:=.type "zip",dict:=none,data:=.fields x,slots:=S }/\raisesAttr (.ref a) "keys" A R s):=
 Meets.of_wp λp w A R s H=>by
  obtain⟨c,g,d,t,os⟩:=s
  obtain⟨e,H⟩:=H
  have f:(#[c,g,d,t,os]:Shared).TypeIs (.ref a) "zip":=#[_,e,Z]
  have b:=XI
  have h:(["__module__","__name__","__qualname__","__doc__","__annotations__"]:List Str).contains "keys"=false:=by decide+kernel
  unfold Builtin.«object.__getattribute__»
  repeat (any_goals (first |assumption |wp_step))
  try simp only[h,Iq,Lr]
  repeat (any_goals (first |assumption |wp_step))
  exact wpAny_raiseAttrError H.1 H.2 (attrMsg_fits OJ (by size_fits))
section
variable {prog:Program}{w:World}{A:Around}{E:Value->Shared->Prop}{s:Shared}
theorem wH{Q:Option Value->Shared->Prop}(f:s.heap.get? a=some { cls:=.type "zip",dict:=none,data:=.fields x,slots:=j })(k:A.handled=none)
  (h:∀c T,(∀b o,s.heap.get? b=some o->c.get? b=some o)->Q none { s with heap:=c,toks:=T }):wpAny (model prog w) A (getAttr? (.ref a) "keys") Q E s:=by
 obtain⟨l,g,d,T,os⟩:=s
 have i:∀t,(#[l,g,d,t,os]:Shared).TypeIs (.ref a) "zip":=λ_=>#[_,f,Z]
 have m:=sub_AttributeError
 have n:=PySem.F.slot_zip_getattribute.lookup
 have p:=PySem.F.slot_zip_getattribute.bind (.ref a)
 have q:=Jr
 unfold getAttr? getAttrBy? getAttrBy
 repeat (any_goals (first |assumption |exact i _ | ((with_reducible show wpAny _ _ (call (Value.builtin "zip.__getattribute__") _ _) _ _ _);refine N9 PySem.F.slot_zip_getattribute (i _) Q0 (PySem.F.args_zip_getattribute_2 _ _) (KI a x j _) #[f,by simpa using k,λc t e H=>?_]) |wp_step))
 obtain⟨r,u,v⟩:=H.there
 show wpAny _ _ (getattributeRaised _ _ _ _ _ _ _) _ _ _
 unfold getattributeRaised
 repeat (any_goals (first |assumption |wp_step))
 exact h _ _ H.keeps
def AF(h:Heap)(z u v c d a b Dd:Addr)(x y:Array Value)(i:Nat):Prop:=
 ((IsZip h z u v .none/\∃p q,IsPair h v p q)∨∃T f o,eQ h z u v T f/\h.get? T=some o/\T≠z/\T≠c/\T≠d/\T≠Dd)/\IsPair h u (.ref c) (.ref d)/\gJ false h c a i/\gJ false h d b i/\iM false h a x/\iM false h b y
theorem yD{Dd:Addr}{Q:Option Value->Shared->Prop}(D:vQ z u v c d a b)(l:Dd < s.heap.objs.size)(S:AF s.heap z u v c d a b Dd J Y k)(L:J[k]?=some x)(M:Y[k]?=some y)
  (N:∀h,AF h z u v c d a b Dd J Y (k+1)->IsPair h s.heap.objs.size x y->h.objs.size=s.heap.objs.size+1->(∀e o,e≠z->e≠v->e≠c->e≠d->s.heap.get? e=some o->h.get? e=some o)->Q (some (.ref s.heap.objs.size)) { s with heap:=h }):wpAny (model prog w) A (pyNext (.ref z)) Q E s:=by
 obtain⟨H,g,j,m,G,i⟩:=S
 obtain⟨oc,n,_⟩:=j.ob
 obtain⟨od,r,_⟩:=m.ob
 rcases H with ⟨H,p,q,U⟩ | ⟨T,f,o,H,O,t,P,R,V⟩
 ·refine yB D H g U j m G i L M λh B v1 I C t F K=>N h #[.inr #[s.heap.objs.size,false,_,B,t,I9 (Ie H),I9 (Ie n),I9 (Ie r),I9 l],K _ _ D.uz D.uv D.uc D.ud g,I,C,G.kp λo e=>K _ _ D.az D.av D.ac D.ad e,i.kp λo e=>K _ _ D.bz D.bv D.bc D.bd e] t F K
 ·refine yz D H #[o,O] g j m G i L M λh B I C W F K=>N h #[.inr #[T,true,o,B,K _ _ t P R O,t,P,R,V],K _ _ D.uz D.uc D.ud g,I,C,G.kp λo e=>K _ _ D.az D.ac D.ad e,i.kp λo e=>K _ _ D.bz D.bc D.bd e] W F λe o X n2 n3 n4 w=>K e o X n3 n4 w
theorem Dj{Dd:Addr}{Q:Option Value->Shared->Prop}(g:A.handled=none)(D:vQ z u v c d a b)(n:AF s.heap z u v c d a b Dd x ys k)(i:x[k]?=none)
  (j:∀H,(∀e o,e≠z->e≠v->e≠c->e≠d->s.heap.get? e=some o->H.get? e=some o)->Q none { s with heap:=H }):wpAny (model prog w) A (pyNext (.ref z)) Q E s:=by
 obtain⟨h,l,m,B,G,C⟩:=n
 rcases h with ⟨h,p,q,F⟩ | ⟨T,f,o,h,r,I,J,L,M⟩
 ·exact Dh (b2:=false) (p:=p) (q:=q) (ys:=ys) g D h l m G i j
 ·exact Dg (b2:=false) (ys:=ys) g D h #[o,r] l m G i λH K=>j H λe o N O t y w=>K e o N t y w
structure FG(D z u v c d a b:Addr):Prop where
 z:D≠z
 u:D≠u
 v:D≠v
 c:D≠c
 d:D≠d
 a:D≠a
 b:D≠b
theorem AF.keep{h j:Heap}{Dd:Addr}(F:FG Dd z u v c d a b)(k:∀e o,e≠Dd->h.get? e=some o->j.get? e=some o)(st:AF h z u v c d a b Dd x y i):AF j z u v c d a b Dd x y i:=by
 obtain⟨H,l,m,n,G,r⟩:=st
 refine#[?_,k _ _ F.u.symm l,m.kp λo e=>k _ _ F.c.symm e,n.kp λo e=>k _ _ F.d.symm e,G.kp λo e=>k _ _ F.a.symm e,r.kp λo e=>k _ _ F.b.symm e]
 rcases H with ⟨H,p,q,B⟩ | ⟨T,f,o,H,g,C,D,I,t⟩
 ·exact .inl #[k _ _ F.z.symm H,p,q,k _ _ F.v.symm B]
 ·exact .inr #[T,f,o,k _ _ F.z.symm H,k _ _ t g,C,D,I,t]
theorem KJ{K:Type}[DecidableEq K]{knd:KeyKind prog w K}{R:Result->Shared->Prop}{Dd:Addr}{x:Array Value}(X:A.handled=none)(D:vQ z u v c d a b)(F:FG Dd z u v c d a b)(m:List (K×Value))(Y:m.length=x.size)(h0:x.size<=sizeLine)
  (hP:∀(i:Nat),i < x.size->∃f V k,x[i]?=some f/\ys[i]?=some V/\knd.is k f=true/\m[i]?=some (k,V)):
  ∀(j i:Nat) (s:Shared) (n:Int),x.size - i=j->i<=x.size->AF s.heap z u v c d a b Dd x ys i->s.heap.DictOf knd Dd (merged [] (m.take i))->
   (∀h T,(∀e o,e≠Dd->e≠z->e≠v->e≠c->e≠d->s.heap.get? e=some o->h.get? e=some o)->h.DictOf knd Dd (merged [] m)->R (.ok (.ret .none)) { s with heap:=h,toks:=T })->
   codeAny (model prog w) A (.builtin "dict.update.loop" #[[.ref Dd,.ref z,.int n 0,.none],[]]) R s:=by
 intro j
 induction j with
 |zero=>
  intro i s n hj hi st q C
  have e:i=x.size:=by omega
  subst e
  refine Lz JA ?_
  rw[Lh zH]
  show wpAny _ A.in1 (pyNext (.ref z) >>= _) _ _ s
  refine HV (Dj (by simpa using X) D st OH λh g=>?_)
  show wpAny _ A.in1 (Builtin.Dict.addKeywords Dd [] >>= λ_=>ret Value.none) _ _ { s with heap:=h }
  refine HV ?_
  unfold Builtin.Dict.addKeywords
  refine HY (HY (C h s.toks (λe o _ N t y B w=>g e o N t y B w) ?_))
  rw[<- Y,Lj]at q
  obtain⟨o,es,ep,ho,r⟩:=q
  exact#[o,es,ep,g _ _ F.z F.v F.c F.d ho,r]
 |succ j ih=>
  intro i s n hj hi st q C
  have M:i < x.size:=by omega
  obtain⟨f,V,k,hx,hy,O,hm⟩:=hP i M
  refine Lz JA ?_
  rw[Lh zH]
  show wpAny _ A.in1 (pyNext (.ref z) >>= _) _ _ s
  obtain⟨oD,G,I,H,rD⟩:=id q
  have L:Dd < s.heap.objs.size:=Ie H
  refine HV (yD D L st hx hy λl S P N g=>?_)
  have hb:Shared.TypeIs { s with heap:=l } (.ref s.heap.objs.size) "tuple":=#[_,P,Z]
  have J:l.DictOf knd Dd (merged [] (m.take i)):=#[oD,G,I,g _ _ F.z F.v F.c F.d H,rD]
  dsimp only
  refine HV (IF ?_)
  refine HV (wpAny_tryCatch ?_)
  unfold Builtin.Dict.pairItems
  refine HV (LS hb ?_)
  rw[Io OF]
  refine HV (Lb P Z (HY ?_))
  show wpAny _ A.in1 (holding [f,V] (dictSet Dd f V)) _ _ { s with heap:=l }
  unfold dictSet
  refine IF (IF (HV (knd.pyHash O ?_)))
  have Q:(merged ([]:List (K×Value)) (m.take i)).length<=i:=by
   have:=merged_length_le ([]:List (K×Value)) (m.take i)
   rw[ID]at this
   simp only[Oc]at this
   omega
  refine wpAny_dictSetHashed_pairs (s:={ s with heap:=l,toks:=s.toks+1 }) O J (λh p sb=>?_) OG
  rw[<- merged_take_succ [] m i (k,V) hm]at p
  have U:∀e o,e≠Dd->l.get? e=some o->h.get? e=some o:=λe o ne w=>(sb.2 e ne).trans w
  refine HY #[Mf zH _,ih (i+1) _ (n+1) OG M (S.keep F U) p λh2 T k2 d2=>C h2 T (λe o W N t y B w=>k2 e o W N t y B (U _ _ W (g e o N t y B w))) d2]
theorem KW{K:Type}[DecidableEq K]{knd:KeyKind prog w K}{more:List (K×Value)}{Q:Value->Shared->Prop}(N:A.handled=none)(D:vQ z u v c d a b)
  (j:IsZip s.heap z u v .none) (P:IsPair s.heap u (.ref c) (.ref d)) (m:∃p q,IsPair s.heap v p q) (U:gJ false s.heap c a 0) (V:gJ false s.heap d b 0) (W:iM false s.heap a x) (X:iM false s.heap b ys)
  (hn:more.length=x.size) (n:x.size<=sizeLine) (hP:∀(i:Nat),i < x.size->∃Y vu k,x[i]?=some Y/\ys[i]?=some vu/\knd.is k Y=true/\more[i]?=some (k,vu))
  (h:∀l t,l.DictOf knd s.heap.objs.size (merged [] more)->(∀e o,e≠z->e≠v->e≠c->e≠d->s.heap.get? e=some o->l.get? e=some o)->Q (.ref s.heap.objs.size) { s with heap:=l,toks:=t }):
  wpAny (model prog w) A (call (.type "dict") [.ref z]) Q E s:=by
 refine callType_codes (Q₁:=λO S=>O= .ref s.heap.objs.size/\S={ s with heap:=s.heap.push { cls:=.type "dict",data:=.dict (List.toArray []) } }) PySem.F.kt_called_dict (PySem.F.kt_typeCall_dict_1 _) PySem.F.entry_dict_init (kt_code_dict_new _ #[Z,Z]) ?_
 rintro O S ⟨rfl,rfl⟩
 have f:(s.heap.push { cls:=.type "dict",data:=.dict (List.toArray []) }).DictOf knd s.heap.objs.size []:=Heap.DictOf.new s.heap
 refine#[f.typeIs,PySem.F.args_dict_init_2 _ _,?_]
 unfold Builtin.«dict.__init__»
 refine HV ?_
 unfold Builtin.Dict.selfAndRest
 refine HV (wpAny_notOrdered_dict f.typeIs ?_)
 show wpAny _ _ (pure (s.heap.objs.size,[Value.ref z])) _ _ _
 refine HY ?_
 show wpAny _ _ (Builtin.Dict.updateFrom "dict.__init__" s.heap.objs.size (.ref z) [] .none) _ _ _
 unfold Builtin.Dict.updateFrom
 generalize hH:s.heap.push { cls:=.type "dict",data:=.dict (List.toArray []) }=H at f ⊢
 have G:∀b o,s.heap.get? b=some o->H.get? b=some o:=λb o e=>by rw[<- hH];exact HX _ e
 refine HV (LS #[_,G _ _ j,Z] ?_)
 rw[Io OF]
 refine HV (wH (s:={ s with heap:=H }) (G _ _ j) (by simpa using N) λM t k1=>?_)
 simp only[Option.isNone_none,MN]
 refine HV (LX ?_)
 have g:∀b o,s.heap.get? b=some o->M.get? b=some o:=λb o e=>k1 _ _ (G _ _ e)
 refine HV (wpAny_pyIter_zip (s:={ s with heap:=M,toks:=t }) (g _ _ j) ?_)
 obtain⟨oD,eD,y,B,rD⟩:=f
 obtain⟨p,q,m⟩:=m
 obtain⟨oc,C,_⟩:=U.ob
 obtain⟨od,I,_⟩:=V.ob
 obtain⟨oa,J,_⟩:=id W
 obtain⟨ob,L,_⟩:=id X
 have F:FG s.heap.objs.size z u v c d a b:=#[I9 (Ie j),I9 (Ie P),I9 (Ie m),I9 (Ie C),I9 (Ie I),I9 (Ie J),I9 (Ie L)]
 refine HY #[Mf zH _,MF (KJ (knd:=knd) (A:=A.in1) (R:=λr s'=>r= .ok (.ret .none)/\Q (.ref s.heap.objs.size) s') (by simpa using N) D F more hn n hP x.size 0 { s with heap:=M,toks:=t } 0 Z (Il _)
  #[.inl #[g _ _ j,p,q,g _ _ m],g _ _ P,U.kp λo e=>g _ _ e,V.kp λo e=>g _ _ e,W.kp λo e=>g _ _ e,X.kp λo e=>g _ _ e] #[oD,eD,y,k1 _ _ B,rD] λl T k2 d2=>#[Z,?_]) λr s' q=>?_]
 ·exact h l T d2 λe o n1 n2 n3 n4 w=>k2 e o (Ij (Ie w)) n1 n2 n3 n4 (g _ _ w)
 ·obtain⟨rfl,q⟩:=q
  exact#[Z,q]
end
section
variable {X:Cx}{e1 e2:Expr}{ta:TA}{p p2 pos pos2:Pos}
inductive Fd(K:Frag)(Q:VK)(e:List V)(c:Hp):Prop
 |mk(a b:Addr)(d:List bE)(f:List V)(_:e=[.ref a,.ref b])(_:ay K c a (d.map kV))(_:ay K c b f)(_:d.length=f.length)(_:∀l,c l=none->Q (.ref l) (ah c l (.dK (cX [] (d.zip f)))))
def HI(K:Frag)(ta:TA):TE:=λa H Q=>ta a H (Fd K Q)
theorem YQ{P:Program}{w:World}:∀{K:List bE} {U:List Value},au (K.map kV) U->∀(i:Nat) (k:bE),K[i]?=some k->∃u,U[i]?=some u/\(aR P w).is k u=true
 | [],_,_,i,k,h=>by simp at h
 |k0::K,_,.cons (b:=u) h t,0,k,e=>by
  have E:k0=k:=by simpa using e
  subst E
  exact#[u,Z,JU h]
 |k0::K,_,.cons h t,i+1,k,e=>by simpa using YQ (P:=P) (w:=w) t i k (by simpa using e)
theorem sd:∀{K:List bE} {y:List V} {u:List Value},au y u->KV (K.zip y) (K.zip u)
 | [],_,_,_=>by simp only[List.zip_nil_left];exact .nil
 |_::_,_,_,.nil=>by simp only[List.zip_nil_right];exact .nil
 |k::K,_,_,.cons h t=>.cons #[Z,h] (sd t)
theorem YR(m:Gl X "dict")(n:X.mg "dict"=none)(t:Gl X "zip")(v:X.mg "zip"=none)(N:X.calm=true)(O:PA X [e1,e2] ta)
  (T:starEach [e1,e2] X.env=(false,eval e1 X.env)::starEach [e2] X.env:=by rfl) (U:(backTo pos2 (starEach [e2] X.env)).any (·.1)=false:=by rfl)
  (f:starEach [Expr.Call (.Name "zip" p2) [e1,e2] [] pos2] X.env=(false,eval (.Call (.Name "zip" p2) [e1,e2] [] pos2) X.env)::starEach [] X.env:=by rfl) (x:(backTo pos (starEach [] X.env)).any (·.1)=false:=by rfl):
  PE X (.Call (.Name "dict" p) [.Call (.Name "zip" p2) [e1,e2] [] pos2] [] pos) (HI X.K ta):=by
 intro P s V H Q I h
 refine I8 (zI I m n PyProof.Rows.boot_dict ?_)
 refine IV ?_ f x
 rw[f]
 show wpAny _ _ (spliced ((false,eval _ X.env)::backTo pos (starEach [] X.env))) _ _ s
 refine Ma ?_
 refine I8 (zI I t v PyProof.Rows.boot_zip ?_)
 refine IV (aL (O pos2 P s V H _ I h) λus S z=>?_) T U
 obtain⟨vs,H1,d,W,Y⟩:=z
 obtain⟨a,b,c,ys,e,gx,gy,hl,q⟩:=Y
 subst e
 cases W with
 |cons r rr=>
  cases rr with
  |cons r' y=>
   cases y
   cases r
   cases r'
   obtain⟨A,F,G,z1⟩:=d.tuple gx
   obtain⟨j,R,C,z2⟩:=d.tuple gy
   have l1:=F.length
   have l2:=R.length
   rw[HZ]at l1 z1
   have la:a < S.heap.objs.size:=by obtain⟨o,D,_⟩:=G;exact Ie D
   have lb:b < S.heap.objs.size:=by obtain⟨o,D,_⟩:=C;exact Ie D
   refine Di (b1:=false) (b2:=false) (xs:=A.toArray) (ys:=j.toArray) G C λE J u' v' i1 i2 k=>?_
   refine Mw ?_
   have Dz:=yC S.heap.objs.size a b la lb
   refine KW (s:={ S with heap:=E }) (knd:=aR X.prog X.w) (more:=c.zip j) (d.ok.hd N) Dz J u' #[_,_,v'] i1 i2 (iM.kp (b:=false) G λo e=>k _ _ e) (iM.kp (b:=false) C λo e=>k _ _ e) (by rw[Ob,Ic];omega) (by rw[Ic];omega) (λi hi=>?_) λh2 tk dd k2=>?_
   ·rw[Ic]at hi
    have L:i < c.length:=by omega
    have M:i < j.length:=by omega
    obtain⟨u,hu,ku⟩:=YQ F i _ (HW L)
    refine#[u,j[i],c[i],by simpa using hu,by simp [M],ku,?_]
    rw[Op]
    exact#[HW L,HW M]
   ·have g:KV (cX [] (c.zip ys)) (merged [] (c.zip j)):=KV.merge (sd R) .nil
    have zl:(cX [] (c.zip ys)).length<=sizeLine:=by
     rw[g.length]
     have:=merged_length_le ([]:List (bE×Value)) (c.zip j)
     rw[Ob]at this
     simp only[Oc]at this
     omega
    have k3:∀e o,S.heap.get? e=some o->h2.get? e=some o:=λe o w=>by
     have l:=Ie w
     exact k2 e o (Ij (Ip l (Mt _ _))) (Ij (Ip l (Mt _ _))) (Ij l) (Ij (Ip l (Mt _ _))) (k _ _ w)
    have B:S.heap.objs.size<=E.objs.size:=Mg (LF (Mt _ 4) (Ie J))
    exact#[.ref E.objs.size,_,d.laid k3 B (QB zl (beq_eq_false_iff_ne.mpr (IM (Ij (Ip d.big B)))) g dd),Z,q _ (d.hok.fresh B)]
end
section
variable {X:Cx}{st:Stmt}{ss:List Stmt}{e:Expr}{es:List Expr}
def HG:TS:=λ_ _ _=>False
theorem tw:me X ss HG:=λ_ _ _ _ _ _ h=>False.elim h
end
end _L
namespace _L
open PySem PySem.Spec PyProof.Rows PySem.SeqAt
inductive EA(K:Frag)(x y:V)(H:Hp)(Q:VK):Prop
 |mk(a b d e:_)(_:x= .ref a)(_:y= .ref b)(_:ay K H a d)(_:ay K H b e)(_:(d.all cw=true/\e.all cw=true/\Q (.bl (rH d e)) H)∨∃(w:Str) (c:Addr) (zs:List V) (u:Str) (i:Int),d=[.str w,.ref c]/\ay K H c zs/\e=[.str u,.int i]/\Q (.bl false) H)
theorem BZ{X:Cx}(d:X.A.units+1 < cLine):eY X (compareOp .Eq) (EA X.K):=by
 intro p s m H x y v U Q I f g h
 obtain⟨a,b,n,Y,rfl,rfl,k,l,h | ⟨w,c,M,u,i,rfl,o,rfl,q⟩⟩:=h
 ·exact BY (Nat.lt_of_succ_lt d) p s m H _ _ v U Q I f g #[a,b,n,Y,Z,Z,k,l,h]
 cases f
 cases g
 obtain⟨N,r,P,_⟩:=I.tuple k
 obtain⟨O,R,t,_⟩:=I.tuple l
 obtain⟨S,V,z,_⟩:=I.tuple o
 cases r with
 |cons B r=>
  cases r with
  |cons C r=>
   cases r
   cases R with
   |cons D R=>
    cases R with
    |cons E R=>
     cases R
     obtain⟨T,rfl⟩:=B
     cases C
     obtain⟨F,rfl⟩:=D
     obtain⟨G,rfl⟩:=E
     refine eq_tupleAt (e:=λj=>if j=0 then w==u else false) (show s.heap.IsTuple a _ from P) (show s.heap.IsTuple b _ from t) (Nat.lt_of_succ_lt d) (λj J L=>?_) ?_
     ·match j,J,L with
      |0,_,_=>exact EqAt.str_str w T u F
      |1,_,_=>exact EqAt.tuple_int i G (show s.heap.IsTuple c _ from z) (by simpa [Around.in1,Around.units] using d)
     ·have e:((List.range (min 2 2)).all (λj=>if j=0 then w==u else false)&&(2:Nat)==2)=false:=by
       show((if 0=0 then w==u else false)&&((if 1=0 then w==u else false)&&true)&&true)=false
       simp
      exact#[.bl false,H,I,K' Value.bool e,q]
end _L
namespace _L
open PySem PySem.Spec PyProof.Rows
theorem XJ(l:Addr)(i:Array Value)(n:Nat)(D:Option Addr)(S:Array (Option Value)):
  Meets (Builtin.«enumerate.__new__» #[[.type "enumerate",.ref l],[]]) (λ_ R s=>s.heap.get? l=some { cls:=.type "tuple",dict:=D,data:=.seq i n,slots:=S }/\
   R (.ok (.ret (.ref (s.heap.push { cls:=.type "tuple_iterator",data:=.fields (List.toArray [.ref l,.int 0 0]) }).objs.size)))
    { s with heap:=(s.heap.push { cls:=.type "tuple_iterator",data:=.fields (List.toArray [.ref l,.int 0 0]) }).push { cls:=.type "enumerate",data:=.fields (List.toArray [.none,.bool false,.ref s.heap.objs.size,rawInt 0,.none,.none]) } }):=
 .of_wp λp w A R s h=>by
  obtain⟨e,g,d,t,os⟩:=s;obtain⟨H,h⟩:=h
  have b:=sub_enumerate
  have a:Heap.IsTuple (Shared.heap #[e,g,d,t,os]) l i:=#[_,H,Z,n,Z]
  wp_walk using LH H
  refine wpAny_stack_any λst=>HY ?_
  split
  ·rename_i c _ _ _ _ _
   cases (c==Value.type "enumerate")
   ·wp_walk using LH H,MT a
    exact#[_,Z,h]
   ·wp_walk using LH H,MT a
    exact#[_,Z,h]
  ·wp_walk using LH H,MT a
   exact#[_,Z,h]
section
variable {prog:Program}{w:World}{A:Around}{E:Value->Shared->Prop}{s:Shared}
theorem Ym{Q:Value->Shared->Prop}(j:s.heap.IsTuple l i)
  (h:∀H,IsEnum H (s.heap.objs.size+1) s.heap.objs.size 0 .none->H.IsTupleIter s.heap.objs.size l 0->(∀b o,s.heap.get? b=some o->H.get? b=some o)->Q (.ref (s.heap.objs.size+1)) { s with heap:=H }):
  wpAny (model prog w) A (call (.type "enumerate") [.ref l]) Q E s:=by
 obtain⟨⟨c,d,D,S⟩,k,a,n,e⟩:=j
 replace a:c= .type "tuple":=a
 replace e:D= .seq i n:=e
 subst a e
 refine callType_new PySem.F.called_enumerate OF (PySem.F.typeCall_enumerate_1 _) (PySem.F.newCall_enumerate_1 _) (λO=>M6 O _) PySem.F.entry_enumerate_new (XJ l i n d S) #[k,?_]
 have f:(s.heap.push { cls:=.type "tuple_iterator",data:=.fields (List.toArray [.ref l,.int 0 0]) }).objs.size=s.heap.objs.size+1:=I0 ..
 show _/\_
 rw[f]
 have g:IsEnum ((s.heap.push { cls:=.type "tuple_iterator",data:=.fields (List.toArray [.ref l,.int 0 0]) }).push { cls:=.type "enumerate",data:=.fields (List.toArray [.none,.bool false,.ref s.heap.objs.size,rawInt 0,.none,.none]) }) (s.heap.objs.size+1) s.heap.objs.size 0 .none:=by
  have:=Ig (s.heap.push { cls:=.type "tuple_iterator",data:=.fields (List.toArray [.ref l,.int 0 0]) }) (o:={ cls:=.type "enumerate",data:=.fields (List.toArray [.none,.bool false,.ref s.heap.objs.size,rawInt 0,.none,.none]) }) Z
  rw[f]at this;exact this
 exact#[#[_,g,Z],h _ g #[_,HX _ (Ig _ Z),Z,Z] λb o x=>HX _ (HX _ x)]
theorem vo{c:Type}{Q:c->Shared->Prop}(d:A.handled=none)
  (h:∀H (e:Addr),(∀b o,s.heap.get? b=some o->H.get? b=some o)->Shared.TypeIs { s with heap:=H } (.ref e) "StopIteration"->E (.ref e) { s with heap:=H }):
  wpAny (model prog w) A (do raiseNew (<- newExc (.type "StopIteration") []):Sem c) Q E s:=by
 refine HV ?_
 simp only[newExc,newTuple]
 refine HV (IR ?_ (by size_fits))
 refine HV (m:=firstArgMember _ _) (Nr (a:=Value.none) ?_ ?_)
 ·first |rfl | (simp only[firstArgMember];rfl)
 refine IR ?_ (by size_fits)
 simp only[raiseNew]
 refine HV (wpAny_handled ?_)
 rw[d]
 refine HV (HY (wpAny_throw (h _ _ (λb o e=>HX _ (HX _ e)) ?_)))
 exact#[_,Ig _ Z,Z]
theorem Ky{J T:Addr}{i:Nat}{I:Array Value}{Q:Value->Shared->Prop}(g:A.handled=none)(H:s.heap.IsTupleIter J T i)(j:s.heap.IsTuple T I)(l:I[i]?=none)
  (q:∀h (e:Addr),Heap.ExtBut J s.heap h->Shared.TypeIs { s with heap:=h } (.ref e) "StopIteration"->E (.ref e) { s with heap:=h }):wpAny (model prog w) A (Builtin.SmallTypes.nextOf (.ref J)) Q E s:=by
 obtain⟨o,a,p,c⟩:=id H
 obtain⟨O,d,_,N,f⟩:=j
 unfold Builtin.SmallTypes.nextOf
 refine HV (IP (name:=Str.ofString "__next__") H.typeIs Lm (IU Lm H.typeIs ML (show wpAny _ _ (field (.ref J) 0 >>= _) _ _ s from ?_) (MG _)))
 refine HV (IE a c (x:=.ref T) Z (show wpAny _ _ (if (Value.ref T==Value.none)=true then _ else _) _ _ s from ?_))
 rw[Iu (show ¬((Value.ref T==Value.none)=true) from Ih)]
 refine(show wpAny _ _ (field (.ref J) 1 >>= _) _ _ s from HV (IE a c (x:=.int i 0) Z (show wpAny _ _ (seqItems? (.ref T) >>= _) _ _ s from HV (Lb d f ?_))))
 simp only[IW,l]
 refine HV (LX (HV (IZ a c OH ?_)))
 refine vo (by simpa using g) λh e k t=>q h e (λb o m n=>k b o ?_) t
 exact(Iv _ _ (IM m)).trans n
theorem ZG(m:A.handled=none)(a l:Addr)(d:l≠a)(I:Array Value):
  Draws prog w A a [a,l] I.size (λi v=>I[i]?=some v) (λi h=>h.IsTupleIter a l i/\h.IsTuple l I) where
 live:=λ_ _ st=>let #[o,H,_]:=st.1;#[o,H]
 frame:=λ_ _ _ st g=>#[st.1.at λo e=>g a OH o e,let #[o,H,r]:=st.2;#[o,g l OH o H,r]]
 item:=λi s Q E j st n=>Kx st.1 st.2 (x:=I[i]) (by simp [j]) λf b c=>n _ f s.toks (by simp [j]) #[b,let #[o,H,r]:=st.2;#[o,c.extBut l o d H,r]] c
 done:=λs Q E st p=>Ky m st.1 st.2 OH λf e k t=>p f e k t
theorem Yn(c:A.handled=none)(a l:Addr)(I:Array Value)(i:Nat)(d:I[i]?=none):
  Draws prog w A a [a,l] i (λ_ _=>True) (λj h=>j=i/\h.IsTupleIter a l i/\h.IsTuple l I) where
 live:=λ_ _ st=>let #[o,H,_]:=st.2.1;#[o,H]
 frame:=λ_ _ _ st b=>#[st.1,st.2.1.at λo e=>b a OH o e,let #[o,H,r]:=st.2.2;#[o,b l OH o H,r]]
 item:=λj s Q E f st n=>absurd st.1 (Ij f)
 done:=λs Q E st g=>Ky c st.2.1 st.2.2 d λm e k t=>g m e k t
end
noncomputable def AA(K:Frag)(a:Addr):It:=
 #[λi H=>∃X x,ay K H a X/\X[i]?=some x,λi H x h=>∃p v,x= .ref p/\H p=none/\h=ah H p (.tup [.int i,v])/\∀X,ay K H a X->X[i]?=some v,λi H=>∃X,ay K H a X/\X.length<=i]
theorem Yo{P:Program}{K:Frag}(a e g:Addr)(r:e≠g):nL P w K (.Tuple e0 kx tp) (AA K a) [e,g] e (λi h=>(∃O,IsEnum h e g i O)/\h.IsTupleIter g a i) where
 mem:=by simp
 obj:=λi h st b hb=>by
  obtain⟨⟨O,j⟩,⟨o,ei,c,d⟩⟩:=st
  rcases List.mem_cons.mp hb with rfl |hb
  ·exact#[_,j,λv z=>by cases (show Data.fields _=Data.cell v from z)]
  ·have q:b=g:=by simpa using hb
   subst q
   exact#[o,ei,λv z=>by rw[d]at z;cases z]
 keep:=λi h A st k=>#[let #[O,j]:=st.1;#[O,k e OH _ j],st.2.at λo q=>k g OH o q]
 item:=by
  intro X Q S T U i f s J H E I L st W
  subst Q S T
  obtain⟨⟨O,j⟩,l⟩:=st
  obtain⟨xs,x,M,N⟩:=W
  obtain⟨m,R,p,hz⟩:=I.tuple M
  obtain⟨u,hu,ru⟩:=R.get N
  have Y:e < s.heap.objs.size:=Ie j
  have l0:g < s.heap.objs.size:=by obtain⟨_,q,_⟩:=l;exact Ie q
  have h0:a≠g:=λz=>by rw[z]at p;obtain⟨o1,e1,c1,_⟩:=l;obtain⟨o2,B,c2,_⟩:=p;rw[e1]at B;cases B;exact absurd (c1.symm.trans c2) OF
  have h1:e∉[g,a]:=λz=>by
   rcases List.mem_cons.mp z with z |z
   ·exact r z
   ·rw[List.mem_singleton.mp z]at j;obtain⟨o2,B,c2,_⟩:=p;unfold IsEnum at j;rw[j]at B;cases B;exact absurd (show Value.type "enumerate"=Value.type "tuple" from c2) OF
  refine wpAny_pyNext_enum_itemD (ZG (by simpa using I.ok.hd U) g a h0 m.toArray) j #[l,p] (by have:=R.length;have:=(List.getElem?_eq_some_iff.mp N).1;simp;omega) r h1 λx' A t C ho y hT h4 hk=>#[_,Z,?_]
  have D:=y.1
  have ex:u=x':=by
   have h2:m.toArray[i]?=some u:=by simpa using hu
   rw[h2]at C
   exact J' C
  subst ex
  have hn:H s.heap.objs.size=none:=I.hok.fresh (Ib _)
  have I1:ap X f J H { s with heap:=A,toks:=t+1 }:=I.turnedN L λb o hb q=>hk b o (λz=>hb (by simp [z])) (λz=>hb (by simp [z])) q
  have r2:au [V.int i,x] [Value.int i t,u]:=.cons #[_,Z] (.cons ru .nil)
  have I2:ap X f J (ah H s.heap.objs.size (.tup [.int i,x])) { s with heap:=A,toks:=t+1 }:=
   I1.track (I.fpOk (Ib _) hn) I.sz #[by show 2<=sizeLine;decide,_,r2,_,hT,Z,_,Z]
  have F:∀b∈[e,g],fc X f (ah H s.heap.objs.size (.tup [.int i,x])) b:=λb hb=>by
   obtain⟨f0,f1⟩:=L b hb
   refine#[?_,f1]
   rw[jh]
   ·exact f0
   ·rcases List.mem_cons.mp hb with rfl |hb
    ·exact Ij Y
    ·have q:b=g:=by simpa using hb
     subst q
     exact Ij l0
  refine wpAny_letOwnedTupleGo_enum (s:={ s with heap:=A,toks:=t+1 }) ho λG h3 n=>?_
  replace n:Heap.SameBut e A G:=n
  have I3:ap X f J (ah H s.heap.objs.size (.tup [.int i,x])) { s with heap:=G,toks:=t+1 }:=I2.turnedN F λb o hb q=>(n.2 b λz=>hb (by simp [z])).trans q
  refine#[.ref s.heap.objs.size,_,I3,Z,#[_,x,Z,hn,Z,λys hy=>by rw[I.tuple_inj hy M];exact N],#[#[u,by simpa using h3],D.at λo q=>(n.2 g r.symm).trans q],λb hb=>(F b hb).1]
 done:=by
  intro X Q S T U i f s J H E I L st W
  subst Q S T
  obtain⟨⟨O,j⟩,l⟩:=st
  obtain⟨xs,M,N⟩:=W
  obtain⟨m,R,p,hz⟩:=I.tuple M
  have hl:=R.length
  refine wpAny_pyNext_enum_endD (Yn (by simpa using I.ok.hd U) g a m.toArray i (by simp;omega)) j #[Z,l,p] λA eb=>#[Z,?_]
  exact I.turnedN (t':=s.toks) L λb o hb q=>eb b o (λz=>hb (by simp [z])) q
 self:=λ_ _ _ _ _ st h=>by
  obtain⟨⟨O,j⟩,_⟩:=st
  exact wpAny_pyIter_enum j h
section
variable {X:Cx}{elts:List Expr}{kx:Nat}{tp:Pos}
inductive on(K:Frag)(R:It->Hp->Prop)(c:List V)(b:Hp):Prop
 |mk(a:_)(_:c=[.ref a])(_:∃xs,ay K b a xs)(_:R (AA K a) b)
def A4(K:Frag)(t:TA):TI:=λa H R=>t a H (on K R)
theorem Xh(g:Gl X "enumerate")(j:X.mg "enumerate"=none)(k:PA X [a] t)(m:starEach [a] X.env=[(false,eval a X.env)]:=by rfl):PI X (.Tuple elts kx tp) (.Call (.Name "enumerate" p) [a] [] c) (A4 X.K t):=by
 intro P s n H R I h
 refine Call_ (zI I g j PyProof.Rows.boot_enumerate (IV (aL (k c P s n H _ I h) λU S z=>?_) m Z))
 obtain⟨V,o,i,u,Q⟩:=z
 obtain⟨l,e,⟨A,v⟩,q⟩:=Q
 subst e
 cases u with
 |cons r w=>
  cases w
  cases r
  obtain⟨x,B,p,C⟩:=i.tuple v
  refine Ym p λD f d y=>?_
  refine wpAny_pyIter_enum f ?_
  refine#[S.heap.objs.size+1,[S.heap.objs.size+1,S.heap.objs.size],_,_,o,Z,i.kept (t':=S.toks) y,Yo l _ _ (I9 (Ls _)),#[#[_,f],d],λb hb=>?_,q]
  rcases List.mem_cons.mp hb with rfl |hb
  ·exact i.fpOk (Lu _) (i.hok.fresh (Lu _))
  ·have e:b=S.heap.objs.size:=by simpa using hb
   subst e
   exact i.fpOk (Ib _) (i.hok.fresh (Ib _))
end
theorem Kz{K:Frag}{xs:List V}{g:TG}{t:TS}{D:aZ}(Pv:Nat->St->Hp->Prop)(j:Pv 0 b H)(k:∀i b H,i<=xs.length->Pv i b H->ay K H a xs)
  (l:∀E:aZ,E.rt=D.rt->∀i x p b H,xs[i]?=some x->H p=none->(∀c e,Pv (i+1) c e->E.nx c e)->∀G:Prop,((g (.ref p) b (ah H p (.tup [.int i,x])) λf n=>t E f n)->G)->Pv i b H->G) (o:∀b H,Pv xs.length b H->D.nx b H):pG (AA K a) g t D b H:=by
 refine#[λi m b H=>m=xs.length - i/\i<=xs.length/\Pv i b H,#[xs.length,OH,Il _,j],?_]
 rintro i m b H ⟨rfl,s,p⟩
 have q:=k i b H s p
 by_cases d:i < xs.length
 ·refine .inr #[#[xs,xs[i],q,HW d],Pv (i+1),λc e P=>#[xs.length - (i+1),OG,Z,d,P],λx e y=>?_]
  obtain⟨r,v,rfl,u,rfl,w⟩:=y
  exact l { D with nx:=Pv (i+1),ct:=Pv (i+1),bk:=D.nx } Z i v r b H (w xs q) u (λ_ _ h=>h) _ (λz=>z) p
 ·exact .inl #[#[xs,q,OG],o _ _ (by rw[show xs.length=i by omega];exact p)]
abbrev Hv(K:Frag)(i j:Nat):TG:=pK K 2 (di (bq i) (di (bq j) rQ))
theorem Ed{t:St}(h:t.length=2):∃a b,t=[a,b]:=by
 cases t with
 |nil=>cases h
 |cons a r=>
  cases r with
  |nil=>cases h
  |cons b R=>
   cases R with
   |nil=>exact#[a,b,Z]
   |cons _ _=>cases h
theorem XL{K:Frag}{X:List V}{t:TE}{n:List V->Hp->Prop}(f:Nat->V)(u:X.length<=sizeLine)(b:aG K H a X)
  (p:∀(i:Nat) (x:V),X[i]?=some x->∃q y z,x= .ref q/\ay K H q [y,z]/\∀Q:VK,Q (f i) H->t (some y::some z::c) H Q) (r:n ((List.range X.length).map f) H):
  eK (vI K a) 2 c (Hv K 0 1) l7 t n H:=by
 refine#[λi m o d=>m=X.length - i/\i<=X.length/\o=(List.range i).map f/\d=H,#[X.length,OH,Il _,OH,Z],?_]
 rintro i m o d ⟨rfl,w,rfl,rfl⟩
 by_cases h:i < X.length
 ·refine .inr #[#[X,X[i],b,HW h],?_,λY g=>Y=(List.range (i+1)).map f/\g=d,λY g #[P,s]=>#[X.length - (i+1),OG,Z,h,P,s],λv g T j y=>?_]
  ·rw[HZ,M9]
   omega
  obtain⟨e,y⟩:=y
  subst e
  obtain⟨q,A,B,rfl,k,l⟩:=p i v (y X b)
  obtain⟨C,D,rfl⟩:=Ed j
  refine#[q,_,Z,k,Z,_,_,Z,_,_,Z,Z,#[[some _,some _],Z,Z],l _ #[?_,Z]]
  rw[List.range_succ,IJ]
  rfl
 ·have e:i=X.length:=by omega
  subst e
  exact .inl #[#[X,b,Ib _],r]
def Aw(K:Frag)(A:Addr)(t:FQ)(b:TS):TS:=λD a H=>t D (λx C d _ h=>mroIn K C (.ref A)=some true/\∀T,h T=none->b D a (ah (ah h T (gq T)) x (gN C d T x))) a H
section
variable {X:Cx}{st a₀ b₀:Stmt}{as bs:List Stmt}{tb:FQ}{ta tc:TS}{ca cb:Str}{np np' hp hp' pos:Pos}{A B:Addr}
theorem xG(a:X.stack=X.env::X.outer)(J:X.env.frame=some X.env.locals)(hb:Hi X st tb)(hg:Gl X ca)(hm:X.mg ca=some (.ref A))(hA:clsIn X.K A≠none)(tA:typeIn X.K (.ref A)=some (.type "type"))(mA:mroIn X.K A (.type "BaseException")=some true)
  (hs:∀e,me (X.mark e λ_ _=>False) (a₀::as) ta) (L:(ca==("__debug__":Str))=false:=by decide):
  PS X (.Try [st] [.ExceptHandler (some (.Name ca np)) none (a₀::as) hp] [] [] pos) (Aw X.K A tb ta):=by
 intro p s M H D I h
 refine wpAny_Try_except (Oq (Ln (hb p s M H D _ I h) (λf b q=>?_) λe b q=>?_))
 ·cases f with
  |next=>exact MS (MS q)
  |ret v=>exact q
  |brk=>exact q
  |cont=>exact q
 obtain⟨x,C,d,T,N,rfl,l,Y,hT,m,q⟩:=q
 obtain⟨⟨ox,vs,h1,h2,h3,h4,O,h6⟩,_⟩:=l.hok x _ Y
 obtain⟨⟨oT,G,t1,t2,t3⟩,_⟩:=l.hok T _ hT
 have o:=(Array.getElem?_eq_some_iff.mp h6).1
 have P:X.A.frames=some (X.env::X.outer):=by rw[<- a];exact l.ok.frames
 have R:b.heap.FunFrames X.base (X.env::X.outer):=by rw[<- a];exact l.stack
 refine Qm (base:=X.base) P R J h1 O h6 m t1 t2 t3 λg2 Nd=>?_
 have u:(dW T b.heap).get? x=some ox:=(Iv _ _ m).trans h1
 refine Bf (s:={ b with heap:=g2 }) Nd u O o λg3 U=>?_
 obtain⟨t,hn,E,i⟩:=(l.cleared hT t1 t2 t3).noted (C:=C) (d:=d) (t':=b.toks) Y u h2 h4 O o (by unfold iT;rw[a];exact U)
 have i:ap X p M (ah (ah N t (gq t)) x (gN C d t x)) { b with heap:=g3 }:=i
 obtain⟨⟨o0,v0,k1,k2,k3,k4,k5,k6⟩,_⟩:=i.hok x _ jc
 have F:ah (ah N t (gq t)) x (gN C d t x) t=some (gq t):=by rw[jh E,jc]
 obtain⟨⟨o1,t0,u1,u2,u3⟩,_⟩:=i.hok t _ F
 have g:∀{E':Value->Shared->Prop} {c:Stmt} {V:List Stmt} {G:TS} {hp:Pos},(∀e,me (X.mark e λ_ _=>False) (c::V) G)->G D M (ah (ah N t (gq t)) x (gN C d t x))->codeAny (model X.prog X.w) (X.A.mark (some (.ref x))) (Code.handlers (.ref x) [.ExceptHandler none none (c::V) hp] X.env) (λr S=>match r with | .ok f=>SP X p D f S | .error y=>cameBackBy (model X.prog X.w) X.A X.env E' y S) { b with heap:=g3 }:=by
  intro E' c V G hp hz qz
  refine codeAny_handlers_suite ?_
  unfold setFlight
  refine HV (IE k1 k5 k6 ?_)
  rw[Io (show(Value.ref t != Value.none)=true from by simp)]
  refine IZ u1 u2 (Array.getElem?_eq_some_iff.mp u3).1 ?_
  have I4:=i.cleared F u1 u2 u3
  refine Ln (hz (.ref x) p _ _ _ D (I4.mark (.ref x) λ_ _=>False) qz) (λf s6 Q=>?_) λ_ _ z=>z.elim
  cases f with
  |next=>obtain⟨j,W,k,n⟩:=Q;exact#[_,_,k.unmark I.ok,n]
  |brk=>obtain⟨j,W,k,n⟩:=Q;exact#[_,_,k.unmark I.ok,n]
  |cont=>obtain⟨j,W,k,n⟩:=Q;exact#[_,_,k.unmark I.ok,n]
  |ret v=>obtain⟨y,j,W,k,rv,n⟩:=Q;exact#[y,_,_,k.unmark I.ok,rv,n]
 obtain⟨mC,q⟩:=q
 refine wpAny_handleBy_cons (codeAny_handlers_test ?_) (by intro z;cases z)
 refine zD (i.mark (.ref x) λ_ _=>False) hg hm ?_ L
 refine KM i.kIn k1 k2 hA tA mA mC _ _ _ _ (λ_ _ e=>e) ?_
 exact g hs (q t hn)
end
section
variable {X:Cx}
theorem wE:DE X "dict.pop" (λx b H Q=>∃(a:Addr) (K:List (bE×V)) (k:bE) (v:V),x= .ref a/\b=[kV k]/\H a=some (.dK K)/\bX K k=some v/\Q v (ah H a (.dK (iS K k)))):=by
 intro p s g H x b v U Q I r R h
 obtain⟨a,K,k,c,rfl,rfl,e,l,q⟩:=h
 obtain⟨u,rfl,d⟩:=au.one R
 cases r
 exact DS I e d l (.inl Z) λw S i f=>#[c,_,i,f,q]
end
section
variable {X:Cx}{tg:Expr}
theorem au.rev(r:au x u):au x.reverse u.reverse:=by
 induction r with
 |nil=>exact .nil
 |cons a _ i=>rw[Mm,Mm];exact i.append (.cons a .nil)
theorem tj(i:Array Value):slicePick i none none (some 1)=i:=by
 have e:slicePick i none none (some 1)=slicePick i none none none:=rfl
 rw[e,qx,HT.sIx_none,HT.sIx_none]
 show(List.take (i.size - 0) i.toList).toArray=i
 rw[LA OH]
end
section
variable {X:Cx}{e es:Expr}{te ts:TE}{lo hi:Option Expr}{tl th:TO}{pos p2:Pos}
inductive Av(K:Frag)(Q:VK)(x:V)(l u:Option Int)(z:V)(c:Hp):Prop
 |mk(a d b:_)(_:x= .ref a)(_:l=none)(_:u=none)(_:z= .int (if b=true then -1 else 1))(_:aG K c a d)(_:∀p,c p=none->Q (.ref p) (ah c p (.lst (if b=true then d.reverse else d))))
def GP(K:Frag)(te:TE)(tl th:TO)(ts:TE):TE:=λa H Q=>te a H λx h=>tl a h λl b=>th a b λu c=>ts a c (Av K Q x l u)
theorem ZH(y:PE X e te)(A:PO X lo tl)(B:PO X hi th)(C:PE X es ts)(g:∀o r,letTemporaryGo e o r=pure ():=by intro _ _;rfl):PE X (.Subscript e (.Slice lo hi (some es) p2) pos) (GP X.K te tl th ts):=by
 intro p s d H Q I h
 refine wpAny_Subscript_Slice_step slot_list_getitem.lookup (aL (y p s d H _ I h) λv D c=>?_) g
 obtain⟨x,F,G,R,J⟩:=c
 refine wpAny_Slice (aL (A p D d F _ G J) λV L #[l,M,N,P,O]=>aL (B p L d M _ N O) λk T c=>?_)
 obtain⟨u,U,Y,pu,q3⟩:=c
 rw[evalPart_some]
 refine aL (C p T d U _ Y q3) λvs S c=>?_
 obtain⟨z,H4,I4,rz,a,f,b,ex,el,eu,ez,hq,q⟩:=c
 subst ex el eu ez
 cases R
 obtain⟨t,rfl⟩:=(show ∃t,vs=Value.int (if b=true then -1 else 1) t from rz)
 have j:ap X p d H4 { S with heap:=S.heap.push { cls:=.type "slice",data:=.fields (List.toArray [V,k,.int (if b=true then -1 else 1) t]) } }:=I4.kept (t':=S.toks) λb ob q=>HX _ q
 obtain⟨i,r,m,h0⟩:=j.list hq
 have rp:∃w:List Value,slicePick i.toArray none none (some (if b=true then -1 else 1))=w.toArray/\au (if b=true then f.reverse else f) w/\w.length=i.length:=by
  cases b with
  |true=>exact#[i.reverse,by rw[Io Z,PySem.W.krv_pick],by rw[Io Z];exact r.rev,NM]
  |false=>exact#[i,by rw[Iu OF,tj],by rw[Iu OF];exact r,Z]
 obtain⟨w,e1,E,e3⟩:=rp
 have n:=r.length
 refine#[m.isList.typeIs,wpAny_getItem_list_slice m.isList (Od ..) P pu (.int _ t) (by cases b<;>decide) ?_ (by rw[Ic];omega)]
 rw[e1]
 refine#[.ref (S.heap.push { cls:=.type "slice",data:=.fields (List.toArray [V,k,.int (if b=true then -1 else 1) t]) }).objs.size,_,j.laid (t':=S.toks) (o:=.lst (if b=true then f.reverse else f)) (λb ob q=>HX _ q) (Ib _) ?_,Z,q _ (j.hok.fresh (Ib _))]
 exact#[by rw[E.length];omega,_,0,E,Ig _ Z]
end
end _L
namespace _L
open PySem PySem.Spec PyProof.Rows
theorem bH.m(r:bH k A)(h:j<=k:=by omega):bH j A:=r.mono h
theorem bp{N P:List Str}{s:Scope}(a:s.kind=.function:=by rfl)(b:s.isCoroutine=false:=by rfl)(c:s.isGenerator=false:=by rfl)(d:N.Nodup:=by decide +kernel)(e:N.take P.length=P:=by rfl)(f:∀x∈P,s.names.lookup x=some .local ∨ s.names.lookup x=some .cell:=by decide +kernel)(g:∀y∈s.names,y.2≠.free:=by decide +kernel):ai N P s:=#[a,b,c,d,e,f,g]
theorem rj{N:List Str}{s t:Scope}{M:List Str}{i:List Nat}(a:∀y∈t.names,y.2≠.cell:=by decide +kernel)(b:t.kind=.function:=by rfl)(c:∀y∈t.names,y.2=.local->t.names.lookup y.1=some .local:=by decide +kernel)(d:∀y∈t.names,y.2=.free->s.names.lookup y.1=some .cell:=by decide +kernel)(e:M.drop n=i.map (λi=>N.getD i Str.empty):=by decide +kernel)(f:M.length=n+i.length:=by rfl)(g:∀j∈i,t.names.lookup (N.getD j Str.empty)=some .free:=by decide +kernel):bG N s t M n i:=#[a,b,c,d,e,f,g]
end _L
local macro_rules|`(tactic|obtain $p:rcasesPat:=$t)=>`(tactic|(refine _L.aO λG k=>?_;rcases $t:term with $p:rcasesPat<;>(refine k ?_;clear k)))
namespace _K
open PySem PySem.Spec PyProof.Rows _L
abbrev z0z:List Str:=["_law_box_here","_law_wide"]
abbrev z1z:List Str:=["term"]
abbrev z2z:List Str:=["_law_box_here"]
abbrev z3z:List Str:=["statement","behind"]
abbrev z4z:List Str:=["self","old_path","old","new_path","new"]
abbrev z5z:List Str:=["statement"]
abbrev z6z:List Str:=["_law_box_here","_law_names_here","_law_heads","_law_spare","_law_deep"]
abbrev z7z:List Str:=["path","what"]
abbrev z8z:List Str:=["self","statement","behind"]
abbrev z9z:List Str:=["term","held"]
abbrev z10z:List Str:=["_law_box_here","_law_names_here","_law_deep"]
abbrev z11z:List Str:=["self","body","behind"]
abbrev z12z:List Str:=["part","n","held"]
abbrev z13z:List Str:=["self","part","args","deep"]
abbrev z14z:List Str:=["body","behind"]
abbrev z15z:List Str:=["_law_box_here","_law_a","_law_b"]
abbrev z16z:List Str:=["name","params","body"]
abbrev z17z:List Str:=["_law_box_here","_law_f","_law_inner_here","_law_w"]
abbrev z18z:List Str:=["self","deed","deep"]
abbrev z19z:List Str:=["self","path","chain","begin","end"]
abbrev z20z:List Str:=["self","statement","place","behind"]
abbrev z21z:List Str:=["sign","left","right"]
abbrev z22z:List Str:=["self","cells","most"]
abbrev z23z:List Str:=["self","parts","cells","most"]
abbrev z24z:List Str:=["_law_box_here","_law_total"]
abbrev z25z:List Str:=["_law_box_here","_law_names_here"]
abbrev z26z:List Str:=["parts","f","args","cells","most"]
abbrev z27z:List Str:=["_law_box_here","_law_total","_law_letters","_law_wide","_law_spot_here","_law_signs","_law_first","_law_form","_law_found_here","_law_k","_law_one","_law_word","_law_some","_law_odd"]
abbrev z28z:List Str:=["_law_k","_law_box_here","_law_letters"]
abbrev z29z:List Str:=["_law_j","_law_box_here","_law_letters"]
abbrev z30z:List Str:=["num","var","op","go","ask","back","chain","sets","iff","ends","calls","reads","gives"]
abbrev z31z:List Str:=["_law_one","_law_box_here","_law_names_here"]
abbrev z32z:List Str:=["_law_box_here","_law_total","_law_room"]
abbrev z33z:List Str:=["_law_box_here","_law_f","_law_g","_law_w"]
abbrev z34z:List Str:=["_law_parts","_law_f","_law_args","_law_cells_here"]
abbrev z35z:List Str:=["_law_old","_law_new","_law_pair","_law_kept"]
abbrev z36z:List Str:=["_law_box_here","_law_names_here","_law_heads","_law_spare","_law_deep","_law_kind","_law_x","_law_f","_law_params","_law_body_here"]
abbrev z37z:List Str:=["_law_box_here","_law_f","_law_inner_here","_law_w","_law_n","_law_i","_law_s","_law_x","_law_y","_law_body_here","_law_spot_here","_law_start","_law_loop"]
abbrev z38z:List Str:=["_law_box_here","_law_f","_law_inner_here","_law_w","_law_n","_law_i","_law_s","_law_x","_law_y","_law_spot_here","_law_body_here","_law_kept","_law_some","_law_start","_law_loop"]
abbrev z39z:List Str:=["_law_box_here","_law_program","_law_total","_law_f","_law_params","_law_body_here"]
variable {P:Program}{w:World}{K:Frag}{mg:Str->Option Value}{base:Heap}
noncomputable def bu(i:Nat):Stmt:=PySem.Challenge.pw_againbook_k32_turned_and_kept.main.body.getD i (.Pass #[0,0,0,0])
noncomputable abbrev CC:Stmt:=bu 58
noncomputable abbrev ue:Stmt:=bu 59
noncomputable abbrev ij:Stmt:=bu 61
def aB(p:Addr)(H h:Hp):Prop:=∀b o,b≠p->H b=some o->h b=some o
theorem aB.refl:aB p H H:=λ_ _ _ h=>h
theorem aB.trans(a:aB p H d)(b:aB p d e):aB p H e:=λc o n h=>b c o n (a c o n h)
theorem aB.of_eq{H a:Hp}(h:∀b,b≠p->a b=H b):aB p H a:=λb o n e=>by rw[h b n];exact e
theorem aB.upd_new{o:HO}(a:aB p H h)(n:h r=none):aB p H (ah h r o):=λb u N e=>by
 have q:=a b u N e
 rw[jh (jk q n)];exact q
theorem aB.upd_own(a:aB p H h)(n:H r=none):aB p H (ah h r o):=λb u N e=>by
 rw[jh (jk e n)];exact a b u N e
structure aq(H:Hp)(p:Addr):Prop where
 ob:∃a b:Int,0<=a/\1<=b/\b<=2147483646/\H p=some (.lst [.int a,.int b])
theorem aq.eq{c:Hp}(B:aq H p)(e:c p=H p):aq c p:=by
 obtain⟨a,b,d,f,g,h⟩:=B.ob
 exact#[a,b,d,f,g,by rw[e];exact h]
theorem aq.upd_new{o:HO}(B:aq H p)(n:H r=none):aq (ah H r o) p:=by
 obtain⟨a,b,c,d,e,h⟩:=B.ob
 exact B.eq (by rw[jh (jk h n)])
theorem aq.ne(B:aq H p)(n:H r=none):r≠p:=by
 obtain⟨a,b,c,d,e,h⟩:=B.ob
 exact IM (jk h n)
inductive aU(c:List V)(H:Hp)(Q:VK)(a:XK):Prop
 |mk(p:Addr)(w:Int)(_:c=[.ref p,.int w])(_:aq H p)(_:0 < w)(_:w<=1000000000000000000)(_:∀(d:Int) (H':Hp),0<=d->d < w->aq H' p->(∀b,b≠p->H' b=H b)->Q (.int d) H')
inductive oW(K:Frag)(e:List V)(H:Hp)(Q:VK)(c:XK):Prop
 |mk(a:Addr)(d:List Int)(k:Int)(_:e=[.ref a,.int k])(_:aG K H a (d.map V.int))(_:0<=k)(_:k < 1000)(_:∀(r:Addr) (H':Hp),H r=none->aq H' r->(∀b,b≠r->H' b=H b)->Q (.ref r) H')
theorem pC:(10:Int) ^ (18:Int).toNat=1000000000000000000:=by decide
theorem rY{ns:List Int}{k:Int}(H:0<=k)(a:k < (ns.length:Int)):∃v:Int,dD (ns.map V.int) k=some (.int v):=by
 have h:k.toNat < ns.length:=by omega
 have e:k=((k.toNat:Nat):Int):=by omega
 have q:dD (ns.map V.int) ((k.toNat:Nat):Int)=some (.int ns[k.toNat]):=jK (by rw[Ir,HW h];rfl)
 rw[<- e]at q
 exact#[_,q]
structure Cl(P:Program)(w:World)(K:Frag)(mg:Str->Option Value)(base:Heap)(L:Nat)(f:Addr)(fd:FuncData)(ps:List Str)(sp:Sp)(py:Str):Prop where
 g:af P w K mg base aA L f fd ps sp
 b:ax K fd ps []
 k:keepIn K (.ref f)=true
 m:mg py=some (.ref f)
theorem Cl.e{X:Cx}{e:Expr}(c:Cl X.prog X.w X.K X.mg X.base L f o q s a)(i:bH L X.A)(j:PA X (e::E) t)(l:Gl X a:=by rfl)(h:(a==("__debug__":Str))=false:=by decide)(n:starEach (e::E) X.env=(false,eval e X.env)::starEach E X.env:=by rfl)(H:(backTo d (starEach E X.env)).any (·.1)=false:=by rfl):PE X (.Call (.Name a p) (e::E) [] d) (dQ s [] E0 t):=kN c.g i l c.m c.k c.b .nil aY j h n H
theorem jy{X:Cx}(h:PE X a t):PE X (.Subscript a (.Constant (.int i) j p) b) (dR (fh X.K) t (tC (.int i))):=jr jN h jf λ_ _=>Z
theorem jz{X:Cx}{p:Pos}(i:Nat)(h:X.N.Nodup)(H:PE X e t)(b:X.N[i]?=some x:=by rfl)(c:pX X.env.scope x:=by exact Or.inl Z)(d:swapsWith e (some (.Name x a)) p.line X.env=pure false:=by rfl)(f:X.fn x=true∨X.env.scope.names.lookup x=some .local:=by first |exact .inl Z |exact .inr Z |assumption):PS X (.Assign [.Name x a] e p) (du t (bq i)):=kY h b c H d f
theorem ju{K:Frag}{H:Hp}{Q:VK}(h:H p=some (.tup x))(a:dD x n=some v)(q:Q v H)(e:b[i]?=some (some (.ref p)):=by rfl):dR (fh K) (aW i) (tC (.int n)) b H Q:=#[_,e,p,x,n,v,Z,Z,ay.of h,a,q]
theorem kh{X:Cx}(h:PE X a t):PT X (.Compare a [.Eq] [.Constant (.str x) j p] b) (i6 (dR Cu t (tC (.str x)))):=jC qw h jm Z
theorem za{X:Cx}(h:PE X a t):PT X (.Compare a [.Eq] [.Constant (.int x) j p] b) (i6 (dR Cu t (tC (.int x)))):=jC qw h jf Z
theorem iq:ai ["_law_box_here","_law_wide","_law_digit","_law_one","_law_mixed"] z0z (aa ue):=bp
theorem xg(F:aI K "_law_take" "_law_take" ue f x):af P w K mg base aA 1 f x z0z aU:=by
 refine F.ok iq ?_ λC A o s H V Q E z h=>?_
 ·rintro _ _ _ _ ⟨p,w,rfl,_⟩
  rfl
 obtain⟨p,W,rfl,B,d,g,q⟩:=h
 obtain⟨a,b,l,i,j,e⟩:=B.ob
 refine#[_,jd (jx (jC Js (jr jq (pv 0) jf (λ_ _=>Z)) jf (aH _))
   (jd (jz 2 iq.nd (jw zb (jr jq (pv 0) jf (λ_ _=>Z)) (pv 1)))
   (jd (zg (jw Kh (jr jq (pv 0) jf (λ_ _=>Z)) (pv 1)) (qF (pv 0) jf zu))
   (jg (jo (pv 2))))) jp)
  (jd (jz 3 iq.nd (jw zb (jw zo (jr jq (pv 0) jf (λ_ _=>Z)) jf) jf))
  (jd (zg (jw jY (jw zb (jw jY (jw zo (pv 3) jf) jf) jf) jf) (qF (pv 0) jf zu))
  (jd (jz 4 iq.nd (jw Kh (jw jY (jw zo (pv 3) jf) (jr jq (pv 0) jf (λ_ _=>Z))) jf))
  (jd (jx (jC Js (pv 1) (jw Jg jf jf) (aH _)) (jg (jz 4 iq.nd (jw zo (pv 4) (pv 4)))) jp)
  (jg (jo (jw zb (pv 4) (pv 1)))))))),?_]
 refine#[_,Z,p,_,_,_,Z,Z,aG.of e,Z,_,_,Z,Z,_,Z,?_]
 refine bN (λc=>?_) (λc=>?_)
 ·have D:(0:Int) < a:=La c
  refine#[_,Z,p,_,_,_,Z,Z,aG.of e,Z,_,Z,_,_,Z,Z,d,?_]
  refine#[_,Z,p,_,_,_,Z,Z,aG.of e,Z,_,Z,_,_,Z,Z,#[d,g],_,Z,p,_,_,0,Z,Z,e,Z,_,Z,?_]
  refine q (a % W) _ (Le _ OG) (IX _ d) #[a / W,b,Int.ediv_nonneg l OG,i,j,jc] λb n=>jh n
 ·have I:0<=b*69621 % 2147483647:=Le _ OF
  have J:b*69621 % 2147483647 < 2147483647:=IX _ OF
  refine#[_,Z,p,_,_,_,Z,Z,aG.of e,Z,_,_,Z,Z,.inr #[OF,OF],_,_,Z,Z,(by show(0:Int) < 2147483647;decide),?_]
  refine#[_,Z,_,_,Z,Z,.inr #[OF,OF],_,_,Z,Z,_,_,Z,Z,(by show(0:Int) < 2147483646;decide),_,_,Z,Z,_,Z,p,_,_,1,Z,Z,e,Z,?_]
  generalize m:b*69621 % 2147483647=one at*
  have N:0<=(one*48271+30103) % 2147483646:=Le _ OF
  have L:(one*48271+30103) % 2147483646 < 2147483646:=IX _ OF
  generalize r:(one*48271+30103) % 2147483646=t at*
  refine#[_,Z,_,_,Z,Z,.inr #[OF,OF],_,Z,p,_,_,_,Z,Z,aG.of jc,Z,_,_,Z,Z,_,_,Z,Z,#[OF,OF],?_]
  have X:0<=(one*2147483647+(t+1)) / 8191:=by omega
  have O:(one*2147483647+(t+1)) / 8191 < 18446744073709551616:=by omega
  generalize u:(one*2147483647+(t+1)) / 8191=M at*
  refine#[_,Z,_,_,Z,Z,#[OF,OF,OF],_,_,Z,Z,_,Z,?_]
  have v:aq (ah H p (.lst [.int a,.int (t+1)])) p:=#[a,t+1,l,OG,OG,jc]
  refine bN (λy=>?_) (λy=>?_)
  ·refine#[_,Z,_,Z,_,_,Z,Z,.inl #[OG,OG],?_]
   refine#[_,Z,_,Z,_,_,Z,Z,d,?_]
   exact q _ _ (Le _ OG) (IX _ d) v λb n=>jh n
  ·refine#[_,Z,_,Z,_,_,Z,Z,d,?_]
   exact q _ _ (Le _ OG) (IX _ d) v λb n=>jh n
theorem mz:ai ["_law_script","_law_k","_law_cell","_law_seed"] ["_law_script","_law_k"] (aa CC):=bp
theorem Bx(F:aI K "_law_box" "_law_box" CC f I)(m:mg "len"=none)(M:mg "int"=none):af P w K mg base aA 1 f I ["_law_script","_law_k"] (oW K):=by
 refine F.ok mz ?_ λJ A o s H W Q E X h=>?_
 ·rintro _ _ _ _ ⟨a,ns,k,rfl,_⟩
  rfl
 obtain⟨a,ns,k,rfl,d,i,L,q⟩:=h
 refine#[_,jd (jz 2 mz.nd (jw jY (jw zo jf (pv 1)) jf))
  (jd (jx (jC K2 (pv 1) (jS jL Z m Ld (ja (pv 0) jb)) (aH _))
   (jg (jz 2 mz.nd (jr jq (pv 0) (pv 1) (λ_ _=>Z))))
   (jg (jx (jC Js (jS jL Z m Ld (ja (pv 0) jb)) jf (aH _))
    (jg (jz 2 mz.nd (jw jY (pv 2) (jw zo (jw zb (jr jq (pv 0) (jw zb (pv 1) (jS jL Z m Ld (ja (pv 0) jb))) (λ_ _=>Z)) jf) jf)))) jp)))
  (jd (jz 3 mz.nd (jw jY (jw zb (jw jY (jw zo (jw zb (pv 2) jf) jf) (jw zo jf (pv 1))) jf) jf))
  (jg (jo (jG (ja (jw zo (pv 2) (jE qr Z M boot_int (ja (qO Z1 (pv 2) (jw Jg jf jf) (aH _)) jb))) (ja (pv 3) jb))))))),?_]
 have e:(ns.map V.int).length=ns.length:=HZ _
 have T:∀c:Int,∃v:V,∃x:Int,v= .int x/\1<=x/\x<=2147483646/\v= .int ((c % 2147483629*48271+40692*k) % 2147483646+1):=λc=>by
  have N:0<=(c % 2147483629*48271+40692*k) % 2147483646:=Le _ OF
  have O:(c % 2147483629*48271+40692*k) % 2147483646 < 2147483646:=IX _ OF
  exact#[_,_,Z,OG,OG,Z]
 have j:∀(c:Int) (r:Addr),H r=none->Q (.ref r) (ah H r (.lst [.int (c*(if decide ((10:Int) ^ (18:Int).toNat<=c)=true then 1 else 0)),.int ((c % 2147483629*48271+40692*k) % 2147483646+1)])):=λc r R=>by
  refine q r _ R #[_,_,?_,?_,?_,jc] λb n=>jh n
  ·rw[pC]
   by_cases h:(1000000000000000000:Int)<=c
   ·rw[IB h,Io Z];omega
   ·rw[Im h,Iu Ih];omega
  ·have N:0<=(c % 2147483629*48271+40692*k) % 2147483646:=Le _ OF
   omega
  ·have O:(c % 2147483629*48271+40692*k) % 2147483646 < 2147483646:=IX _ OF
   omega
 have B:∀c:Int,vF c (if decide ((10:Int) ^ (18:Int).toNat<=c)=true then 1 else 0):=λc=>.inr (by split<;>decide)
 refine aj λF0 u=>#[_,Z,_,_,Z,Z,.inl #[OF,OF],_,_,Z,Z,u _ _ ?_]
 clear u
 refine aj λS y=>?_
 have l:∀c:Int,S [some (.ref a),some (.int k),some (.int c),none] H:=λc=>y _ _ (aj λF2 U=>#[_,Z,_,_,Z,Z,(by show(0:Int) < 2147483629;decide),_,_,Z,Z,.inr #[OF,OF],_,Z,_,_,Z,Z,.inl #[OF,OF],_,_,Z,Z,_,_,Z,Z,(by show(0:Int) < 2147483646;decide),_,_,Z,Z,U _ _ (#[_,Z,_,Z,_,_,Z,Z,#[OF,OF,OF],_,_,Z,Z,.inr #[_,Z,_,_,Z,Z,B c,_,Z,bM,j c]])])
 clear y
 refine oq λG g=>#[_,Z,_,Z,a,_,Z,.inl d,_,_,Z,Z,_,Z,g _ _ ?_]
 clear g
 refine bN (λc=>?_) (λc=>?_)
 ·have C:k < (((ns.map V.int).length:Nat):Int):=La c
  rw[e]at C
  obtain⟨v,p⟩:=rY (ns:=ns) i C
  exact#[_,Z,_,Z,a,_,_,_,Z,Z,d,p,l v]
 ·have C:¬k < (((ns.map V.int).length:Nat):Int):=ME (Bool.eq_false_iff.mpr c)
  rw[e]at C
  refine oq λG g=>#[_,Z,a,_,Z,.inl d,_,_,Z,Z,_,Z,g _ _ ?_]
  clear g
  refine bN (λz=>?_) (λz=>?_)
  ·have D:(0:Int) < (((ns.map V.int).length:Nat):Int):=La z
   obtain⟨v,p⟩:=rY (ns:=ns) (k:=k % (((ns.map V.int).length:Nat):Int)) (Le _ OG) (by have:=IX k D;rw[e]at this;rw[e];exact this)
   exact#[_,Z,_,Z,_,Z,_,Z,a,_,Z,.inl d,_,_,Z,Z,D,a,_,_,_,Z,Z,d,p,_,_,Z,Z,(by show(0:Int) < 2147483629;decide),_,_,Z,Z,.inr #[OF,OF],_,_,Z,Z,l _]
  ·exact l _
theorem oh(i j:Str):(i++j).length=i.length+j.length:=by
 show(i.cps++j.cps).size=i.cps.size+j.cps.size
 exact N5
theorem zw:1000000<=sizeLine:=by rw[NW];decide
theorem ao{H:Hp}{o:HO}(h:H b=some u)(n:H r=none):ah H r o b=some u:=by rw[jh (jk h n)];exact h
theorem uN{z:Str}{k:Int}(H:0<=k)(a:k < (z.length:Int)):∃c:Nat,dD z.cps.toList k=some c:=by
 have b:z.cps.toList.length=z.length:=IC
 have h:k.toNat < z.cps.toList.length:=by omega
 have e:k=((k.toNat:Nat):Int):=by omega
 have q:dD z.cps.toList ((k.toNat:Nat):Int)=some z.cps.toList[k.toNat]:=jK (HW h)
 rw[<- e]at q
 exact#[_,q]
theorem J9{ys:List Str}{k:Int}(H:0<=k)(a:k < (ys.length:Int)):∃y∈ys,dD (ys.map V.str) k=some (.str y):=by
 have h:k.toNat < ys.length:=by omega
 have e:k=((k.toNat:Nat):Int):=by omega
 have q:dD (ys.map V.str) ((k.toNat:Nat):Int)=some (.str ys[k.toNat]):=jK (by rw[Ir,HW h];rfl)
 rw[<- e]at q
 exact#[_,MY h,q]
noncomputable def be(s:List Str)(lo h:Option Int):List Str:=(s.drop (HT.sIx s.length 0 lo)).take (HT.sIx s.length s.length h - HT.sIx s.length 0 lo)
theorem zz(s:List Str)(lo h:Option Int):aM (s.map V.str) lo h=(be s lo h).map V.str:=by
 unfold aM be
 rw[HZ,Nb,List.map_drop]
theorem zP{lo:Option Int}(h:y∈be s lo H):y∈s:=List.mem_of_mem_drop (Lc h)
theorem qk(s:List Str)(lo h:Option Int):(be s lo h).length<=s.length:=by
 unfold be
 rw[ID,Lw]
 omega
theorem qR:∀{ys:List Str},(∀y∈ys,y.length<=1)->(ys.map (·.length)).sum<=ys.length
 | [],_=>Ib _
 |y::r,h=>by
  have a:=h y Iz
  have b:=qR (ys:=r) λz H=>h z (II _ H)
  rw[LG,List.sum_cons,IH]
  omega
theorem qS{z:Str}{ys:List Str}(H:z.length=0)(h:∀y∈ys,y.length<=1):(Txt.join z ys).length<=ys.length:=by
 show(Builtin.Str.glued z ys).length<=_
 rw[size_glued,H,Nat.mul_zero,Nat.add_zero]
 exact qR h
noncomputable def dj:Str:="abcdefghijklmnopqrstuvwxyz"
theorem JB:dj.length=26:=by decide+kernel
noncomputable def pN(d:Int)(k:Nat):Nat:=97+((d+5*(0+(k:Int))) % 26).toNat
theorem wC(H:i < 20)(a:j < 20)(h:pN d i=pN d j):i=j:=by
 unfold pN at h
 omega
theorem Bi(H:0<=k)(a:k < 26)(h:dD dj.cps.toList k=some c):c=97+k.toNat:=by
 have q:∀m:Fin 26,dD dj.cps.toList (m.val:Int)=some (97+m.val):=by decide+kernel
 have e:=q #[k.toNat,OG]
 have E:((k.toNat:Nat):Int)=k:=by omega
 dsimp only at e
 rw[E,h]at e
 injection e
def Sh(A S:Str)(d:Int)(c:Nat)(w:Str):Prop:=if d=2 then ∃R:Str,w=R++#[(List.toArray [c])] else w=A++#[(List.toArray [c])]++S∨w=A++#[(List.toArray [c])]++S++"z"∨w="qqqqqqq"++#[(List.toArray [c])]
theorem kO(a b:Str):(a++b).cps.toList=a.cps.toList++b.cps.toList:=by
 show(a.cps++b.cps).toList=_
 exact Array.toList_append
theorem Xi{R:Str}(h:R++(#[(List.toArray [c])]:Str)=r++#[(List.toArray [C])]):c=C:=by
 have e:=K' (Array.toList ∘ Str.cps) h
 have e:(R++(#[(List.toArray [c])]:Str)).cps.toList=(r++(#[(List.toArray [C])]:Str)).cps.toList:=e
 rw[kO,kO]at e
 have:=List.append_inj_right' e Z
 injection this
theorem wD{S:Str}(h:A++(#[(List.toArray [c])]:Str)++S=A++#[(List.toArray [C])]++S):c=C:=by
 have e:=K' (Array.toList ∘ Str.cps) h
 have e:(A++(#[(List.toArray [c])]:Str)++S).cps.toList=(A++(#[(List.toArray [C])]:Str)++S).cps.toList:=e
 rw[kO,kO,kO,kO]at e
 have:=OD (Nc e)
 injection this
theorem ES{A S : Str}{d : Int}{c C : Nat}{w : Str}(i : A.length + S.length <= 5)(h : Sh A S d c w)(H : Sh A S d C w) : c = C := by
  unfold Sh at h H
  have l : ∀ c : Nat, (#[(List.toArray [c])] : Str).length = 1 :=λ_ => Z
  have L : (Str.ofString "z").length = 1 := by decide +kernel
  have f : (Str.ofString "qqqqqqq").length = 7 := by decide +kernel
  split at h
  · rename_i a
    rw [Io a] at H
    obtain ⟨R, rfl⟩ := h
    obtain ⟨r, e⟩ := H
    exact Xi e
  · rename_i a
    rw [Iu a] at H
    rcases h with rfl | rfl | rfl <;> rcases H with e | e | e
    · exact wD e
    all_goals first
      | exact Xi e
      | (have g := K' Str.length e
         simp only [oh, l, L, f] at g
         omega)
      | skip
    have E := K' (Array.toList ∘ Str.cps) e
    have E : (A ++ (#[(List.toArray [c])] : Str) ++ S ++ ("z" : Str)).cps.toList = (A ++ (#[(List.toArray [C])] : Str) ++ S ++ ("z" : Str)).cps.toList := E
    rw [kO, kO (A ++ _ ++ S)] at E
    have b := Nc E
    rw [kO, kO, kO, kO] at b
    have := OD (Nc b)
    injection this
theorem Xj{y:List Str}:y.Nodup↔∀i j:Nat,i < j->j < y.length->y[i]?≠y[j]?:=by
 unfold List.Nodup
 rw[List.pairwise_iff_getElem]
 refine#[λh i j H a e=>?_,λh i j b a H e=>h i j H a ?_]
 ·rw[HW (by omega:i < y.length),HW a]at e
  injection e with e
  exact h i j OG a H e
 ·rw[HW b,HW a,e]
theorem uH{A S:Str}{d D:Int}{Y:List Str}(b:A.length+S.length<=5)(g:Y.length<=20)(h:∀j y,Y[j]?=some y->Sh A S D (pN d j) y):Y.Nodup:=by
 rw[Xj]
 intro i j c H e
 have a:=h i _ (HW (by omega:i < Y.length))
 have f:=h j _ (HW H)
 rw[HW (by omega:i < Y.length),HW H]at e
 injection e with e
 rw[e]at a
 have:=wC OG OG (ES b a f)
 omega
theorem ZI{y:List Str}(h:y.Nodup)(b:a∉y):(y.set n a).Nodup:=by
 rw[Xj]at h ⊢
 intro i j H c e
 rw[Nw]at c
 by_cases d:n=i
 ·rw[d,MQ OG,L9 OG]at e
  exact b (IA e.symm)
 ·by_cases f:n=j
  ·rw[f,MQ OG,L9 OG]at e
   exact b (IA e)
  ·rw[L9 d,L9 f]at e
   exact h i j H c e
theorem wK{y:List Str}(h:ou (.str a) (y.map V.str)=false):a∉y:=λm=>by
 unfold ou at h
 rw[List.any_eq_false]at h
 exact h (.str a) (List.mem_map.mpr #[a,m,Z]) (by simp [nj])
theorem v6{ss:List Str}{d1 d2:Int}(h:ss.length=(1+d1).toNat)(a:0<=d2)(b:d2 < 1+d1):(be ss none (some d2)).length+(be ss (some (d2+1)) none).length<=d1.toNat:=by
 obtain⟨k,rfl⟩:∃k:Nat,d2=k:=#[d2.toNat,(Int.toNat_of_nonneg a).symm]
 obtain⟨n,rfl⟩:∃n:Nat,d1=n:=#[d1.toNat,(Int.toNat_of_nonneg OG).symm]
 have H:k<=n:=by omega
 have h:ss.length=n+1:=by rw[h];omega
 clear a b
 unfold be
 rw[show((k:Int)+1)=((k+1:Nat):Int) from Z,HT.sIx_nat,HT.sIx_nat,ID,ID,Lw,h,LW (LD H),LW (Nat.le_succ_of_le H)]
 refine Ik (Nat.add_le_add (Oa _ _) (Oa _ _)) ?_
 show k - 0+(n+1 - (k+1))<=n
 rw[N0,Nat.add_sub_add_right,Nat.add_sub_cancel' H]
 exact Ib _
theorem Gw{S:Str}:Sh A S d c ("qqqqqqq"++#[(List.toArray [c])]):=by
 unfold Sh
 split
 ·exact#[_,Z]
 ·exact .inr (.inr Z)
theorem Gx{A S:Str}{d:Int}{c:Nat}{w:Str}(h:if d=2 then ∃R:Str,w=R++#[(List.toArray [c])] else w=A++#[(List.toArray [c])]++S∨w=A++#[(List.toArray [c])]++S++"z"):Sh A S d c w:=by
 unfold Sh
 split at h
 ·rename_i e;rw[Io e];exact h
 ·rename_i e;rw[Iu e];exact h.elim .inl λz=>.inr (.inl z)
noncomputable def pre(s:List Str)(d:Int):Str:=Txt.join "" (be s none (some d))
noncomputable def eW(s:List Str)(d:Int):Str:=Txt.join "" (be s (some (d+1)) none)
inductive f8(b:List V)(H:Hp)(Q:VK)(a:XK):Prop
 |mk(p:Addr)(n:Int)(_:b=[.ref p,.int n])(_:aq H p)(_:1<=n)(_:n<=20)(_:∀(r:Addr) (ys:List Str) (H':Hp),H r=none->H' r=some (.lst (ys.map V.str))->(ys.length:Int)=n->(∀y∈ys,y.length<=20)/\ys.Nodup->aq H' p->aB p H H'->Q (.ref r) H')
theorem a6:ai z27z z24z (aa ij):=bp
noncomputable def KY:Scope:=#[.function,[(".0",.local),("_law_k",.local),("_law_take",.globalImplicit),("_law_box_here",.free),("_law_letters",.free)],false,false,[]]
theorem Yp:(z28z:List Str).Nodup:=by decide+kernel
theorem Yq:bG z27z (aa ij) KY z28z 1 [0,2]:=rj
noncomputable def KZ:Scope:=#[.function,[(".0",.local),("_law_j",.local),("_law_take",.globalImplicit),("_law_box_here",.free),("_law_letters",.free)],false,false,[]]
theorem Yr:(z29z:List Str).Nodup:=by decide+kernel
theorem Ys:bG z27z (aa ij) KZ z29z 1 [0,2]:=rj
theorem Jd{p:Addr}{Q:List V->Hp->Prop}(o:n<=20)(B:aq f p)
  (q:∀(S:List Str) (H:Hp),S.length=n->(∀s∈S,s.length<=1)->aq H p->(∀b,b≠p->H b=f b)->Q (S.map V.str) H):
  eK (vt 0 n) 1 [some (.ref p),some (.str dj)] (bq 0) l7 (dR xM (aW 2) (dQ aU [] E0 (am (aW 1) (am (tC (.int 26)) aK)))) Q f:=by
 refine XA (λi y H=>∃S:List Str,y=S.map V.str/\S.length=i/\(∀s∈S,s.length<=1)/\aq H p/\∀b,b≠p->H b=f b)
  #[[],Z,Z,(λ_ h=>nomatch h),B,λ_ _=>Z] (Ik o OF) (λi y H #[S,e,l,_]=>by rw[e,HZ,l];exact Ib _) ?_ ?_
 ·intro i y H x a
  obtain⟨S,rfl,g,j,m,E⟩:=a
  refine#[_,Z,_,Z,p,26,Z,m,OF,OF,λd A D r t u=>?_]
  obtain⟨c,v⟩:=uN (z:=dj) D (by rw[JB];exact r)
  refine#[_,_,c,Z,Z,OF,v,S++[#[(List.toArray [c])]],by rw[IJ];rfl,by rw[Ia,g];rfl,λs hs=>?_,t,λb N=>(u b N).trans (E b N)]
  rcases List.mem_append.mp hs with hs |hs
  ·exact j s hs
  ·rw[List.mem_singleton.mp hs];exact Ib 1
 ·intro y H a
  obtain⟨S,rfl,g,j,m,E⟩:=a
  exact q S H g j m E
def Rw(p g r:Addr)(n d D b e:Int)(i c:Nat)(s y:List Str)(H:Hp)(L:Nat)(Z:Str->Prop):_L.St->Hp->Prop:=λa h=>∃W:Str,(W.length<=L/\Z W)/\
 a=[some (.ref p),some (.int n),some (.str dj),some (.int (1+d)),some (.int D),some (.ref g),some (.int b),some (.int e),some (.ref r),some (.int (0+(i:Int))),some (.str #[(List.toArray [c])]),some (.str W),none,none]/\
 h g=some (.lst (s.map V.str))/\h r=some (.lst (y.map V.str))/\aq h p/\aB p H h
def Rf(p r:Addr)(n:Int)(H:Hp):_L.St->Hp->Prop:=λa h=>a[8]?=some (some (.ref r))/\∃Y:List Str,h r=some (.lst (Y.map V.str))/\(Y.length:Int)=n/\((∀y∈Y,y.length<=20)/\Y.Nodup)/\aq h p/\aB p H h
theorem Qr(Y:List Str):(Y.map V.str).all cw=true:=by
 rw[Nk]
 intro v h
 obtain⟨y,_,rfl⟩:=List.mem_map.mp h
 rfl
theorem uF(Y:List Str)(j:Nat)(y:Str):(Y.map V.str).set j (V.str y)=(Y.set j y).map V.str:=(List.map_set ..).symm
inductive NI(p g r:Addr)(n b c d e:Int)(v:List Str)(H:Hp)(i:Nat)(x:_L.St)(a:Hp):Prop
 |mk(s t u:Option V)(w:List Str)(f:x=[some (.ref p),some (.int n),some (.str dj),some (.int (1+b)),some (.int c),some (.ref g),some (.int d),some (.int e),some (.ref r),s,t,u,none,none])(h:a g=some (.lst (v.map V.str)))(k:a r=some (.lst (w.map V.str)))(l:w.length=i)(m:(∀y∈w,y.length<=20)/\∀j y,w[j]?=some y->Sh (pre v c) (eW v c) e (pN d j) y)(o:aq a p)(q:aB p H a)
theorem sL(F:aI K "_law_names" "_law_names" ij f fd)(GT:af P w K mg base aA 1 fT f4 z0z aU)(x:ax K f4 z0z [])(C:keepIn K (.ref fT)=true)
  (M:mg "_law_take"=some (.ref fT)) (mr:mg "range"=none):af P w K mg base aA 2 f fd z24z f8:=by
 refine F.ok a6 ?_ λc1 A o0 s H vs Q E D h=>?_
 ·rintro _ _ _ _ ⟨p,n,rfl,_⟩
  rfl
 obtain⟨p,n,rfl,B,a4,a',q⟩:=h
 refine#[_,(@jd _ _ _ _ _ (@kY _ _ (2) _ _ _ _ a6.nd Z (Or.inr Z) (@jm _ _ _ _) OK (.inl Z)) (@jd _ _ _ _ _ (@kY _ _ (3) _ _ _ _ a6.nd Z (Or.inl Z) (@jw _ _ _ _ _ _ _ _ jY (@jf _ _ _ _) (@kN _ _ _ _ _ _ _ _ _ _ _ _ _ _ _ _ GT D Z M C x .nil aY (@ja _ _ _ _ _ (@pv _ 0 _ _ OK (.inr (.inl Z)) OF OF) (@ja _ _ _ _ _ (@jf _ _ _ _) (@jb _) OK) OK) OF OK OK)) OK (.inl Z)) (@jd _ _ _ _ _ (@kY _ _ (4) _ _ _ _ a6.nd Z (Or.inl Z) (@kN _ _ _ _ _ _ _ _ _ _ _ _ _ _ _ _ GT D Z M C x .nil aY (@ja _ _ _ _ _ (@pv _ 0 _ _ OK (.inr (.inl Z)) OF OF) (@ja _ _ _ _ _ (@pv _ 3 _ _ OK (.inl Z) OF OF) (@jb _) OK) OK) OF OK OK) OK (.inl Z)) (@jd _ _ _ _ _ (@YM _ _ _ _ _ _ _ _ _ _ (5) (z28z) (1) ([0,2]) _ _ _ _ a6.nd Z (Or.inl Z) Z (@kW _ _ _ _ _ _ Z mr (@ja _ _ _ _ _ (@pv _ 3 _ _ OK (by first |exact Or.inl Z |exact Or.inr (Or.inl Z) |exact Or.inr (Or.inr Z)) OF OF) (@jb _) OK) OK) Yq (λ_ _ _ _ _=>(@jv _ _ (0) _ Yp Z (Or.inl Z) (by first |exact .inl Z |exact .inr Z))) (λ_ _ _ _ _=>(@zK _)) (λ_ _ _ _ _=>(@jr _ _ _ _ _ _ _ J7 (@pv _ 2 _ _ OK (by first |exact Or.inl Z |exact Or.inr (Or.inl Z) |exact Or.inr (Or.inr Z)) OF OF) (@kN _ _ _ _ _ _ _ _ _ _ _ _ _ _ _ _ GT D Z M C x .nil aY (@ja _ _ _ _ _ (@pv _ 1 _ _ OK (by first |exact Or.inl Z |exact Or.inr (Or.inl Z) |exact Or.inr (Or.inr Z)) OF OF) (@ja _ _ _ _ _ (@jf _ _ _ _) (@jb _) OK) OK) OF OK OK) (λ_ _=>Z))) OK (by first |exact .inl Z |exact .inr Z) (by intro _;rfl)) (@jd _ _ _ _ _ (@kY _ _ (6) _ _ _ _ a6.nd Z (Or.inl Z) (@kN _ _ _ _ _ _ _ _ _ _ _ _ _ _ _ _ GT D Z M C x .nil aY (@ja _ _ _ _ _ (@pv _ 0 _ _ OK (.inr (.inl Z)) OF OF) (@ja _ _ _ _ _ (@jf _ _ _ _) (@jb _) OK) OK) OF OK OK) OK (.inl Z)) (@jd _ _ _ _ _ (@kY _ _ (7) _ _ _ _ a6.nd Z (Or.inl Z) (@kN _ _ _ _ _ _ _ _ _ _ _ _ _ _ _ _ GT D Z M C x .nil aY (@ja _ _ _ _ _ (@pv _ 0 _ _ OK (.inr (.inl Z)) OF OF) (@ja _ _ _ _ _ (@jf _ _ _ _) (@jb _) OK) OK) OF OK OK) OK (.inl Z)) (@jd _ _ _ _ _ (@kY _ _ (8) _ _ _ _ a6.nd Z (Or.inl Z) (@jG _ _ _ _ (@jb _)) OK (.inl Z)) (@jd _ _ _ _ _ (@jX _ _ _ _ _ _ _ _ IK Z (@kW _ _ _ _ _ _ Z mr (@ja _ _ _ _ _ (@pv _ 1 _ _ OK (.inl Z) OF OF) (@jb _) OK) OK) (@jv _ _ (9) _ a6.nd Z (Or.inl Z) (.inl Z)) (@jd _ _ _ _ _ (@kY _ _ (10) _ _ _ _ a6.nd Z (Or.inl Z) (@jr _ _ _ _ _ _ _ J7 (@pv _ 2 _ _ OK (.inr (.inl Z)) OF OF) (@jw _ _ _ _ _ _ _ _ zb (@jw _ _ _ _ _ _ _ _ jY (@pv _ 6 _ _ OK (.inl Z) OF OF) (@jw _ _ _ _ _ _ _ _ zo (@jf _ _ _ _) (@pv _ 9 _ _ OK (.inl Z) OF OF))) (@jf _ _ _ _)) (λ_ _=>Z)) OK (.inl Z)) (@jd _ _ _ _ _ (@j8 _ _ _ (@kY _ _ (11) _ _ _ _ a6.nd Z (Or.inl Z) (@jw _ _ _ _ _ _ _ _ zC (@jw _ _ _ _ _ _ _ _ zC (@j9 _ _ _ _ _ _ _ _ _ _ _ _ Nn NA Nz QL (@jm _ _ _ _) (@ja _ _ _ _ _ (@jH _ _ _ _ _ _ _ _ _ _ kG (@pv _ 5 _ _ OK (.inl Z) OF OF) (@jR _) (@jF _ _ _ (@pv _ 4 _ _ OK (.inl Z) OF OF))) (@jb _) OK) OK OK OK OK OK) (@pv _ 10 _ _ OK (.inl Z) OF OF)) (@j9 _ _ _ _ _ _ _ _ _ _ _ _ Nn NA Nz QL (@jm _ _ _ _) (@ja _ _ _ _ _ (@jH _ _ _ _ _ _ _ _ _ _ kG (@pv _ 5 _ _ OK (.inl Z) OF OF) (@jF _ _ _ (@jw _ _ _ _ _ _ _ _ jY (@pv _ 4 _ _ OK (.inl Z) OF OF) (@jf _ _ _ _))) (@jR _)) (@jb _) OK) OK OK OK OK OK)) OK (.inl Z))) (@jd _ _ _ _ _ (@j8 _ _ _ (@jx _ _ _ _ _ _ _ _ (@PW.pt _ _ _ (@Qy _ _ _ _ _ _ _ (za (@pv _ 7 _ _ OK (.inl Z) OF OF)) (@JH _ _ _ _ (za (@jw _ _ _ _ _ _ _ _ zb (@pv _ 9 _ _ OK (.inl Z) OF OF) (@jf _ _ _ _)))))) (@jg _ _ _ (@kY _ _ (11) _ _ _ _ a6.nd Z (Or.inl Z) (@jw _ _ _ _ _ _ _ _ zC (@pv _ 11 _ _ OK (.inl Z) OF OF) (@jm _ _ _ _)) OK (.inl Z))) (@jp _))) (@jd _ _ _ _ _ (@j8 _ _ _ (@jx _ _ _ _ _ _ _ _ (za (@pv _ 7 _ _ OK (.inl Z) OF OF)) (@jg _ _ _ (@kY _ _ (11) _ _ _ _ a6.nd Z (Or.inl Z) (@jw _ _ _ _ _ _ _ _ zC (@j9 _ _ _ _ _ _ _ _ _ _ _ _ Nn NA Nz QL (@jm _ _ _ _) (@ja _ _ _ _ _ (@zi _ _ _ _ _ _ _ (z29z) (1) ([0,2]) _ _ _ _ Z (@kW _ _ _ _ _ _ Z mr (@ja _ _ _ _ _ (@kN _ _ _ _ _ _ _ _ _ _ _ _ _ _ _ _ GT D Z M C x .nil aY (@ja _ _ _ _ _ (@pv _ 0 _ _ OK (by first |exact Or.inl Z |exact Or.inr (Or.inl Z) |exact Or.inr (Or.inr Z)) OF OF) (@ja _ _ _ _ _ (@jf _ _ _ _) (@jb _) OK) OK) OF OK OK) (@jb _) OK) OK) Ys (λ_ _ _ _ _=>(@jv _ _ (0) _ Yr Z (Or.inl Z) (by first |exact .inl Z |exact .inr Z))) (λ_ _ _ _ _=>(@zK _)) (λ_ _ _ _ _=>(@jr _ _ _ _ _ _ _ J7 (@pv _ 2 _ _ OK (by first |exact Or.inl Z |exact Or.inr (Or.inl Z) |exact Or.inr (Or.inr Z)) OF OF) (@kN _ _ _ _ _ _ _ _ _ _ _ _ _ _ _ _ GT D Z M C x .nil aY (@ja _ _ _ _ _ (@pv _ 1 _ _ OK (by first |exact Or.inl Z |exact Or.inr (Or.inl Z) |exact Or.inr (Or.inr Z)) OF OF) (@ja _ _ _ _ _ (@jf _ _ _ _) (@jb _) OK) OK) OF OK OK) (λ_ _=>Z))) (by intro _;rfl)) (@jb _) OK) OK OK OK OK OK) (@pv _ 10 _ _ OK (.inl Z) OF OF)) OK (.inl Z))) (@jp _))) (@jd _ _ _ _ _ (@j8 _ _ _ (@jx _ _ _ _ _ _ _ _ (@jC _ _ _ _ _ _ _ _ zc (@pv _ 11 _ _ OK (.inl Z) OF OF) (@ji _ _ _ _ _ (@QM _ _ OK)) Z) (@jg _ _ _ (@kY _ _ (11) _ _ _ _ a6.nd Z (Or.inl Z) (@jw _ _ _ _ _ _ _ _ zC (@jm _ _ _ _) (@pv _ 10 _ _ OK (.inl Z) OF OF)) OK (.inl Z))) (@jp _))) (@jg _ _ _ (@jJ _ _ _ _ (@j9 _ _ _ _ _ _ _ _ _ _ _ _ Ii Iy Ix jP (@pv _ 8 _ _ OK (.inl Z) OF OF) (@ja _ _ _ _ _ (@pv _ 11 _ _ OK (.inl Z) OF OF) (@jb _) OK) OK OK OK OK OK) OK))))))) (by intro _;rfl)) (@jd _ _ _ _ _ (@j8 _ _ _ (@jx _ _ _ _ _ _ _ _ (@jC _ _ _ _ _ _ _ _ qw (@kN _ _ _ _ _ _ _ _ _ _ _ _ _ _ _ _ GT D Z M C x .nil aY (@ja _ _ _ _ _ (@pv _ 0 _ _ OK (.inr (.inl Z)) OF OF) (@ja _ _ _ _ _ (@jf _ _ _ _) (@jb _) OK) OK) OF OK OK) (@jf _ _ _ _) (aH _)) (@jd _ _ _ _ _ (@kY _ _ (12) _ _ _ _ a6.nd Z (Or.inl Z) (@jG _ _ _ _ (@QM _ _ OK)) OK (.inl Z)) (@jd _ _ _ _ _ (@kY _ _ (13) _ _ _ _ a6.nd Z (Or.inl Z) (@jr _ _ _ _ _ _ _ jq (@pv _ 12 _ _ OK (.inl Z) OF OF) (@kN _ _ _ _ _ _ _ _ _ _ _ _ _ _ _ _ GT D Z M C x .nil aY (@ja _ _ _ _ _ (@pv _ 0 _ _ OK (.inr (.inl Z)) OF OF) (@ja _ _ _ _ _ (@jf _ _ _ _) (@jb _) OK) OK) OF OK OK) (λ_ _=>Z)) OK (.inl Z)) (@jg _ _ _ (@jx _ _ _ _ _ _ _ _ (@jC _ _ _ _ _ _ _ _ q8 (@pv _ 13 _ _ OK (.inl Z) OF OF) (@pv _ 8 _ _ OK (.inl Z) OF OF) Z) (@jg _ _ _ (@zg _ _ _ _ _ _ (@pv _ 13 _ _ OK (.inl Z) OF OF) (@qF _ _ _ _ _ _ _ (@pv _ 8 _ _ OK (.inl Z) OF OF) (@kN _ _ _ _ _ _ _ _ _ _ _ _ _ _ _ _ GT D Z M C x .nil aY (@ja _ _ _ _ _ (@pv _ 0 _ _ OK (.inr (.inl Z)) OF OF) (@ja _ _ _ _ _ (@pv _ 1 _ _ OK (.inl Z) OF OF) (@jb _) OK) OK) OF OK OK) zu (by intro _;rfl)) OK OK OK)) (@jp _))))) (@jp _))) (@jg _ _ _ (@jo _ _ _ _ (@pv _ 8 _ _ OK (.inl Z) OF OF)))))))))))),?_]
 refine eV λE0 f0=>f0 _ _ ?_
 refine eV λG a=>#[_,Z,p,6,Z,B,OF,OF,λd1 H1 b0 b1 U e1=>#[_,_,Z,Z,a _ _ ?_]]
 refine eV λE2 f2=>#[_,Z,_,Z,p,_,Z,U,OG,OG,λd2 H2 b2 b3 B2 e2=>f2 _ _ ?_]
 clear f0 a f2
 refine eV λG a=>#[_,Z,_,Z,OG,OG,?_]
 refine Jd (p:=p) OG B2 λss H3 a3 e B3 e3 g hg=>a _ _ ?_
 clear a
 have k3:aB p H H3:=(aB.of_eq e1).trans ((aB.of_eq e2).trans (aB.of_eq e3))
 have v:g≠p:=B3.ne hg
 refine eV λG a=>#[_,Z,p,26,Z,B3.upd_new hg,OF,OF,λW H4 b4 b5 B4 e4=>a _ _ ?_]
 refine eV λE2 f2=>#[_,Z,p,3,Z,B4,OF,OF,λI H5 b6 b7 B5 e5=>f2 _ _ ?_]
 clear a f2
 have h2:H5 g=some (.lst (ss.map V.str)):=by rw[e5 g v,e4 g v];exact jc
 have k5:aB p H H5:=(k3.upd_new hg).trans ((aB.of_eq e4).trans (aB.of_eq e5))
 refine eV λG a=>#[OF,λr u=>a _ _ ?_]
 clear a
 have m:r≠p:=B5.ne u
 have h4:g≠r:=jk h2 u
 have n3:H g=none:=by
  cases z:H g with
  |none=>rfl
  |some o=>have:=k3 g o v z;rw[hg]at this;cases this
 have X:H r=none:=by
  cases z:H r with
  |none=>rfl
  |some o=>have:=k5 r o m z;rw[u]at this;cases this
 have b9:=zw
 refine eV λG a=>dq λJ j=>#[_,Z,_,Z,OG,OG,j _ _ ?_]
 clear j
 refine kB (lo:=0) (NI p g r n d1 d2 W I ss H) #[none,none,none,[],Z,ao h2 u,jc,Z,#[(λ_ h=>nomatch h),(λ_ _ h=>nomatch h)],B5.upd_new u,k5.upd_new u] ?_ ?_
 ·intro E0 _ i σ H' hi fE Gq T b
  obtain⟨ok,oo,ow,ys,rfl,L,Y,h0,d,B',k'⟩:=b
  clear a
  obtain⟨c,hc⟩:=uN (z:=dj) (k:=(W+5*(0+(i:Int))) % 26) (Le _ OF) (by rw[JB];exact IX _ OF)
  refine T ?_
  clear T
  show dC (du _ _) _ E0 _ _
  refine eV λG a=>#[_,Z,_,Z,_,Z,_,_,Z,Z,.inl #[OF,OF],_,_,Z,Z,_,_,Z,Z,(by show(0:Int) < 26;decide),_,_,c,Z,Z,OF,hc,a _ _ ?_]
  clear a
  have b':(#[(List.toArray [c])]:Str).length=1:=rfl
  have h5:c=pN W i:=Bi (Le _ OF) (IX _ OF) hc
  refine eV λG a=>dB (Rw p g r n d1 d2 W I i c ss ys H 13 (·=pre ss d2++#[(List.toArray [c])]++eW ss d2)) (λE2 _ t=>?_) λO H1 b=>?_
  ·clear a fE
   refine#[Z,_,Z,_,Z,_,Z,g,_,Z,aG.of L,λs1 n1=>?_]
   have z1:=qR (ys:=be ss none (some d2)) λy d=>e y (zP d)
   have z2:=qk ss none (some d2)
   refine#[_,s1,be ss none (some d2),Z,Z,aG.of (by rw[jc,zz]),OF,OG,?_]
   have j1:=qS (z:="") (ys:=be ss none (some d2)) OJ λy d=>e y (zP d)
   refine#[_,Z,_,_,Z,Z,OG,?_]
   refine#[Z,_,Z,_,Z,_,_,Z,Z,_,Z,g,_,Z,aG.of (ao L n1),λs2 n2=>?_]
   have z3:=qR (ys:=be ss (some (d2+1)) none) λy d=>e y (zP d)
   have z4:=qk ss (some (d2+1)) none
   refine#[_,s2,be ss (some (d2+1)) none,Z,Z,aG.of (by rw[jc,zz]),OF,OG,?_]
   have j2:=qS (z:="") (ys:=be ss (some (d2+1)) none) OJ λy d=>e y (zP d)
   refine#[_,_,Z,Z,by rw[oh];omega,?_]
   exact t _ _ #[_,#[by show(Txt.join ("":Str) (be ss none (some d2))++(#[(List.toArray [c])]:Str)++Txt.join ("":Str) (be ss (some (d2+1)) none)).length<=13;rw[oh,oh];omega,Z],Z,ao (ao L n1) n2,ao (ao Y n1) n2,(B'.upd_new n1).upd_new n2,(k'.upd_new n1).upd_new n2]
  obtain⟨w1,⟨c2,z1⟩,rfl,g1,r1,U,k1⟩:=b
  refine a _ _ ?_
  clear a
  refine eV λG a=>dB (Rw p g r n d1 d2 W I i c ss ys H 14 (λw=>w=pre ss d2++#[(List.toArray [c])]++eW ss d2∨w=pre ss d2++#[(List.toArray [c])]++eW ss d2++"z")) (λE2 _ t=>?_) λO H2 b=>?_
  ·clear a fE
   refine#[_,Z,Z,_,Z,?_]
   refine bN (λS=>?_) (λS=>?_)
   ·refine#[_,Z,_,_,Z,Z,(by show(0:Int) < 2;decide),Z,_,Z,?_]
    refine bN (λcb=>?_) (λcb=>?_)
    ·have hz:(Str.ofString "z").length=1:=by decide+kernel
     refine#[_,Z,_,_,Z,Z,by rw[hz];omega,?_]
     exact t _ _ #[_,#[by rw[oh,hz];omega,.inr (by rw[z1])],Z,g1,r1,U,k1]
    ·exact t _ _ #[w1,#[OG,.inl z1],Z,g1,r1,U,k1]
   ·exact pM (t _ _ #[w1,#[OG,.inl z1],Z,g1,r1,U,k1])
  obtain⟨w2,⟨c3,z2⟩,rfl,g2,r2,B2,k2⟩:=b
  refine a _ _ ?_
  clear a
  refine eV λG a=>dB (Rw p g r n d1 d2 W I i c ss ys H 14 (λw=>if I=2 then ∃R:Str,w=R++#[(List.toArray [c])] else w=pre ss d2++#[(List.toArray [c])]++eW ss d2∨w=pre ss d2++#[(List.toArray [c])]++eW ss d2++"z")) (λE2 _ t=>?_) λO H3 b=>?_
  ·clear a fE
   refine#[_,Z,Z,_,Z,?_]
   refine bN (λS=>?_) (λS=>?_)
   ·refine#[Z,_,Z,p,8,Z,B2,OF,OF,λd6 H6 d0 d3 B6 e6=>?_]
    refine#[_,Z,OG,OG,?_]
    refine Jd (p:=p) OG B6 λtt H7 c4 h3 B7 e7 g7 n7=>?_
    have jt:=qS (z:="") (ys:=tt) OJ h3
    have zt:=qR h3
    refine#[_,g7,tt,Z,Z,aG.of jc,OF,OG,?_]
    refine#[_,Z,_,_,Z,Z,OG,?_]
    have g8:H7 g=some (.lst (ss.map V.str)):=by rw[e7 g v,e6 g v];exact g2
    have r8:H7 r=some (.lst (ys.map V.str)):=by rw[e7 r m,e6 r m];exact r2
    have e5:I=2:=by injection La S
    exact t _ _ #[_,#[by rw[oh];omega,(Io e5).mpr #[_,Z]],Z,ao g8 n7,ao r8 n7,B7.upd_new n7,(k2.trans ((aB.of_eq e6).trans (aB.of_eq e7))).upd_new n7]
   ·have e5:I≠2:=λz=>S (by rw[z];exact IB Z)
    exact t _ _ #[w2,#[OG,(Iu e5).mpr z2],Z,g2,r2,B2,k2]
  obtain⟨w3,⟨c5,z3⟩,rfl,g3,r3,B3,k3⟩:=b
  refine a _ _ ?_
  clear a
  refine eV λG a=>dB (Rw p g r n d1 d2 W I i c ss ys H 14 (Sh (pre ss d2) (eW ss d2) I c)) (λE2 _ t=>?_) λO H4 b=>?_
  ·clear a fE
   refine#[_,Z,OF,λt0 N=>?_]
   refine#[t0,_,Z,.inr (ay.of jc),Z,Zv OK,_,Z,?_]
   refine bN (λS=>?_) (λS=>?_)
   ·have hq:(Str.ofString "qqqqqqq").length=7:=by decide+kernel
    refine#[_,Z,_,_,Z,Z,by rw[hq];omega,?_]
    exact t _ _ #[_,#[by rw[oh,hq];omega,Gw],Z,ao g3 N,ao r3 N,B3.upd_new N,k3.upd_new N]
   ·exact t _ _ #[w3,#[OG,Gx z3],Z,ao g3 N,ao r3 N,B3.upd_new N,k3.upd_new N]
  obtain⟨w4,⟨c6,z4⟩,rfl,g4,r4,B4,k4⟩:=b
  refine a _ _ ?_
  clear a
  refine#[_,Z,.inl #[Z,_,aG.of r4],_,Z,r,_,_,Z,Z,r4,by rw[HZ];omega,?_]
  refine fE _ _ #[_,_,_,ys++[w4],Z,by rw[jh h4];exact g4,by rw[jc,IJ];rfl,by rw[Ia,h0];rfl,#[λy hm=>?_,λj y hj=>?_],B4.eq (jh (IM m)),k4.upd_own X]
  ·rcases List.mem_append.mp hm with hm |hm
   ·exact d.1 y hm
   ·rw[List.mem_singleton.mp hm];omega
  ·by_cases h6:j < ys.length
   ·rw[LU h6]at hj
    exact d.2 j y hj
   ·have lj:=(List.getElem?_eq_some_iff.mp hj).1
    rw[Ia,Mj]at lj
    have ej:j=ys.length:=by omega
    rw[ej,LO (Ib _),M4]at hj
    injection hj with hj
    rw[<- hj,ej,h0,<- h5]
    exact z4
 ·intro σ H' b
  obtain⟨ok,oo,ow,ys,rfl,L,Y,h0,d,B',k'⟩:=b
  have h1:(ys.length:Int)=n:=by omega
  have f5:=v6 (ss:=ss) (d1:=d1) (d2:=d2) OG OG OG
  have j1:(pre ss d2).length<=_:=qS (z:="") (ys:=be ss none (some d2)) OJ λy d=>e y (zP d)
  have j2:(eW ss d2).length<=_:=qS (z:="") (ys:=be ss (some (d2+1)) none) OJ λy d=>e y (zP d)
  have nd:=uH OG OG d.2
  have d:=d.1
  refine a _ _ ?_
  clear a
  refine aj λF1 a=>dB (Rf p r n H) (λE2 _ t=>?_) λO H1 b=>?_
  ·clear a
   refine oq λG' g'=>#[_,Z,p,6,Z,B',OF,OF,λd6 H6 d0 d3 B6 e6=>#[Z,_,Z,g' _ _ ?_]]
   clear g'
   have r6:H6 r=some (.lst (ys.map V.str)):=by rw[e6 r m];exact Y
   have k6:aB p H H6:=k'.trans (aB.of_eq e6)
   refine bN (λS=>?_) (λS=>?_)
   ·refine eV λE3 f3=>#[OF,λt0 N=>f3 _ _ ?_]
    clear f3
    have t1:t0≠p:=B6.ne N
    refine eV λE4 f3=>#[_,Z,_,Z,p,13,Z,B6.upd_new N,OF,OF,λd7 H7 d' a0 B7 e7=>?_]
    have t7:H7 t0=some (.lst ((z30z:List Str).map V.str)):=((e7 t0 t1).trans jc).trans (K' (λl=>some (HO.lst l)) OJ)
    have r7:H7 r=some (.lst (ys.map V.str)):=by rw[e7 r m];exact ao r6 N
    have k7:aB p H H7:=(k6.upd_new N).trans (aB.of_eq e7)
    obtain⟨od,h7,h8⟩:=J9 (ys:=(z30z:List Str)) d' (by simpa using a0)
    refine#[t0,_,_,_,Z,Z,aG.of t7,h8,f3 _ _ ?_]
    clear f3
    have h':od.length<=20:=by
     have:∀y∈(z30z:List Str),y.length<=20:=by decide+kernel
     exact this od h7
    refine oq λG' g'=>#[_,Z,_,Z,r,_,Z,.inl (aG.of r7),Z,Qr _,_,Z,g' _ _ ?_]
    clear g'
    refine bN (λcb=>?_) (λcb=>?_)
    ·refine#[_,Z,_,Z,_,Z,_,Z,p,n,Z,B7,OG,OG,λd8 H8 a1 c9 B8 e8=>?_]
     have r8:H8 r=some (.lst (ys.map V.str)):=by rw[e8 r m];exact r7
     have k8:aB p H H8:=k7.trans (aB.of_eq e8)
     refine#[r,_,d8,d8.toNat,Z,Z,r8,?_,?_]
     ·unfold nQ
      rw[Io a1,HZ,Io OG]
     refine t _ _ #[Z,ys.set d8.toNat od,by rw[jc,uF],by rw[Nw];exact h1,#[λy hm=>?_,ZI nd (wK (by have c0:(!ou (.str od) (ys.map V.str))=true:=cb;rw[Bool.not_eq_true']at c0;exact c0))],B8.eq (jh (IM m)),k8.upd_own X]
     rcases List.mem_or_eq_of_mem_set hm with hm |hm
     ·exact d y hm
     ·rw[hm];exact h'
    ·exact t _ _ #[Z,ys,r7,h1,#[d,nd],B7,k7]
   ·exact t _ _ #[Z,ys,r6,h1,#[d,nd],B6,k6]
  obtain⟨a2,y0,r1,l1,y1,U,k1⟩:=b
  refine a _ _ ?_
  exact#[_,a2,q r y0 H1 X r1 l1 y1 U k1]
def al(H h:Hp):Prop:=∀b x,H b=some (.tup x)->h b=some (.tup x)
theorem ae.tm(a:ae H c):al H c:=λb x h=>a b _ h
theorem je{H:Hp}{o:HO}(n:H p=none):ae H (ah H p o):=λb u e=>ao e n
theorem cy{b:Bool}{A B:Prop}(h:b=true)(x:A):if b=true then A else B:=by rw[Io h];exact x
theorem aV{b:Bool}{A B:Prop}(h:b=false)(x:B):if b=true then A else B:=by rw[h,Iu Ih];exact x
theorem aF:sizeLine=16777216:=by rw[NW]
theorem aq.same(B:aq H p)(s:ae H c):aq c p:=by
 obtain⟨a,b,d,e,f,h⟩:=B.ob
 exact#[a,b,d,e,f,s _ _ h]
theorem aB.of_same(s:ae H h):aB p H h:=λb o _ e=>s _ _ e
theorem aB.tm(k:aB p H h)(B:aq H p):al H h:=λb x e=>by
 obtain⟨a,c,_,_,_,f⟩:=B.ob
 exact k b _ (jO e f (by intro w;cases w)) e
theorem aB.none(k:aB p H h)(B:aq h p)(n:h r=none):H r=none:=by
 cases z:H r with
 |none=>rfl
 |some o=>have:=k _ _ (B.ne n) z;rw[n]at this;cases this
theorem ZJ{K:Frag}{a:Addr}{xs:List V}{t:TE}{Q:List V->Hp->Prop}(u:xs.length<=sizeLine)(Pv:Nat->List V->Hp->Prop)(l:Pv 0 [] H)
  (n:∀i Y h,Pv i Y h->aG K h a xs/\Y.length<=i) (o:∀i x Y h,xs[i]?=some x->Pv i Y h->t (some x::d) h λy c=>Pv (i+1) (Y++[y]) c) (q:∀Y h,Pv xs.length Y h->Q Y h):
  eK (vI K a) 1 d (bq 0) l7 t Q H:=by
 refine#[λi m Y h=>m=xs.length - i/\i<=xs.length/\Pv i Y h,#[xs.length,OH,Il _,l],?_]
 intro i m Y h f
 obtain⟨rfl,z,p⟩:=f
 obtain⟨g,A⟩:=n i Y h p
 by_cases b:i < xs.length
 ·refine .inr #[#[xs,xs[i],g,HW b],OG,Pv (i+1),λr c s=>#[xs.length - (i+1),OG,Z,b,s],λv c T j y=>?_]
  obtain⟨e,y⟩:=y
  subst e
  obtain⟨w,rfl⟩:=wB j
  exact#[#[[some _],Z,Z],o i v Y c (y xs g) p]
 ·have e:i=xs.length:=by omega
  subst e
  exact .inl #[#[xs,g,Ib _],q Y h p]
theorem qv{K:Frag}{xs:List V}{t:TE}{Q:List V->Hp->Prop}(u:xs.length<=sizeLine)(Pv:Nat->List V->Hp->Prop)(l:Pv 0 [] H)
  (n:∀i Y h,Pv i Y h->ay K h a xs/\Y.length<=i) (o:∀i x Y h,xs[i]?=some x->Pv i Y h->t (some x::d) h λy c=>Pv (i+1) (Y++[y]) c) (q:∀Y h,Pv xs.length Y h->Q Y h):
  eK (vJ K a) 1 d (bq 0) l7 t Q H:=by
 refine#[λi m Y h=>m=xs.length - i/\i<=xs.length/\Pv i Y h,#[xs.length,OH,Il _,l],?_]
 intro i m Y h f
 obtain⟨rfl,z,p⟩:=f
 obtain⟨g,A⟩:=n i Y h p
 by_cases b:i < xs.length
 ·refine .inr #[#[xs,xs[i],g,HW b],OG,Pv (i+1),λr c s=>#[xs.length - (i+1),OG,Z,b,s],λv c T j y=>?_]
  obtain⟨e,y⟩:=y
  subst e
  obtain⟨w,rfl⟩:=wB j
  exact#[#[[some _],Z,Z],o i v Y c (y xs g) p]
 ·have e:i=xs.length:=by omega
  subst e
  exact .inl #[#[xs,g,Ib _],q Y h p]
noncomputable abbrev lE:Stmt:=bu 60
noncomputable abbrev oJ:Stmt:=bu 62
inductive Tm where
 |num (n:Int) |var (x:Str) |op (i:Nat) (a b:Tm)
noncomputable def Tm.depth:Tm->Nat
 | .num _=>0
 | .var _=>0
 | .op _ a b=>max a.depth b.depth+1
noncomputable def lJ:Str:="+-*/<="
theorem uG:lJ.length=6:=by decide+kernel
noncomputable def Gv(i:Nat):Str:=#[(List.toArray [lJ.cps.toList.getD i 0])]
theorem C0(H:0<=d)(a:d < 6):dD lJ.cps.toList d=some (lJ.cps.toList.getD d.toNat 0):=by
 have b:lJ.cps.toList.length=6:=by decide+kernel
 have h:d.toNat < lJ.cps.toList.length:=by omega
 have e:d=((d.toNat:Nat):Int):=by omega
 have q:dD lJ.cps.toList ((d.toNat:Nat):Int)=some (lJ.cps.toList.getD d.toNat 0):=jK (by rw[Mr,HW h];rfl)
 rw[<- e]at q
 exact q
def Tm.Good(y:List Str):Tm->Prop
 | .num n=>0<=n/\n < 1000000000000000000
 | .var x=>x∈y
 | .op i a b=>i < 6/\a.Good y/\b.Good y
def ba(H:Hp):Tm->Addr->Prop
 | .num n,p=>H p=some (.tup [.str "num",.int n])
 | .var x,p=>H p=some (.tup [.str "var",.str x])
 | .op i a b,p=>∃q r,H p=some (.tup [.str "op",.str (Gv i),.ref q,.ref r])/\ba H a q/\ba H b r
theorem ba.mono{H a:Hp}(h:∀b x,H b=some (.tup x)->a b=some (.tup x)):∀{t:Tm} {p:Addr},ba H t p->ba a t p
 | .num _,_,e=>h _ _ e
 | .var _,_,e=>h _ _ e
 | .op _ _ _,_,z=>by obtain⟨q,r,e,E,c⟩:=z;exact #[q,r,h _ _ e,ba.mono h E,ba.mono h c]
theorem ba.same(h:ae H a)(e:ba H t p):ba a t p:=e.mono λb x z=>h b _ z
theorem ba.but(B:aq H p)(k:aB p H h)(e:ba H t a):ba h t a:=e.mono λb X z=>by
 obtain⟨x,y,_,_,_,d⟩:=B.ob
 exact k b _ (jO z d (by intro q;cases q)) z
theorem ba.new{H:Hp}{o:HO}(n:H r=none)(e:ba H t a):ba (ah H r o) t a:=e.mono λb x z=>ao z n
inductive gM(c:List V)(H:Hp)(Q:VK)(a:XK):Prop
 |mk(p:Addr)(_:c=[.ref p])(_:aq H p)(_:∀(d:Int) (H':Hp),0<=d->d < 1000000000000000000->aq H' p->(∀b,b≠p->H' b=H b)->Q (.int d) H')
inductive cq(n:Nat)(b:List V)(H:Hp)(Q:VK)(a:XK):Prop
 |mk(p g:Addr)(d:Int)(c:List Str)(_:b=[.ref p,.ref g,.int d])(_:aq H p)(_:H g=some (.lst (c.map V.str)))(_:1<=c.length)(_:c.length<=20)(_:0<=d)(_:d < (n:Int))(_:∀(r:Addr) (T:Tm) (H':Hp),ba H' T r->(T.depth:Int)<=d->T.Good c->aq H' p->aB p H H'->Q (.ref r) H')
theorem qg{Y:List Str}(B:aq H p)(h:H g=some (.lst (Y.map V.str))):g≠p:=by
 obtain⟨x,y,_,_,_,b⟩:=B.ob
 refine jO h b λz=>?_
 injection z with z
 match Y,z with
 |a::r,z=>injection z with c _;cases c
theorem ut:ai z2z z2z (aa lE):=bp
theorem ZK(F:aI K "_law_number" "_law_number" lE f t)(C:Cl P w K mg base 1 I u z0z aU "_law_take"):af P w K mg base aA 2 f t z2z gM:=by
 refine F.ok ut (λv H Q E h=>?_) (λx A o s H v Q E a h=>?_)
 ·obtain⟨p,rfl,_⟩:=h
  rfl
 obtain⟨p,rfl,B,q⟩:=h
 refine#[_,(jd (jx (za (C.e a (ja (pv 0) (ja jf jb)))) (jg (jo (C.e a (ja (pv 0) (ja (jw Jg jf jf) jb))))) jp) (jg (jo (C.e a (ja (pv 0) (ja jf jb)))))),?_]
 refine#[_,Z,p,4,Z,B,OF,OF,λL M y G m r=>#[Z,_,Z,?_]]
 refine bN (λc=>?_) (λc=>?_)
 ·refine#[_,Z,_,_,Z,Z,#[OF,OF,OF],p,_,Z,m,OF,OF,λD g d i j k=>?_]
  have z:=pC
  exact q D g d OG j λb n=>(k b n).trans (r b n)
 ·refine#[_,Z,p,9,Z,m,OF,OF,λD g d i j k=>?_]
  exact q D g d OG j λb n=>(k b n).trans (r b n)
theorem og:ai ["_law_box_here","_law_names_here","_law_deep","_law_kind","_law_one"] z10z (aa oJ):=bp
theorem xh(F:aI K "_law_term" "_law_term" oJ f fd)(cF:Cl P w K mg base (n+2) f fd z10z (cq n) "_law_term")(S:Cl P w K mg base 1 fT f0 z0z aU "_law_take")(cN:Cl P w K mg base 2 fN f2 z2z gM "_law_number")(ml:mg "len"=none):af P w K mg base aA (n+3) f fd z10z (cq (n+1)):=by
 refine F.ok og ?_ λc0 A T s H vs Q E u h=>?_
 ·rintro _ _ _ _ ⟨p,g,d,ys,rfl,_⟩
  rfl
 obtain⟨p,g,d,ys,rfl,B,hg,v,x,h1,h2,q⟩:=h
 refine#[_,(jd (jz 3 og.nd (S.e u.m (ja (pv 0) (ja jf jb)))) (jd (j8 (jx (PW.pt (Q2 (jC K2 (pv 3) jf (aH _)) (J6 (PW.pt (Qy (jC Js (pv 3) jf (aH _)) (JH (za (pv 2)))))))) (jg (jo (ji (ja jm (ja (cN.e u.m (ja (pv 0) jb)) jb))))) jp)) (jd (jx (jC K2 (pv 3) jf (aH _)) (jg (jo (ji (ja jm (ja (jr jq (pv 1) (S.e u.m (ja (pv 0) (ja (jS jL Z ml Ld (ja (pv 1) jb)) jb))) (λ_ _=>Z)) jb))))) jp) (jd (jz 4 og.nd (cF.e u (ja (pv 0) (ja (pv 1) (ja (jw kU (pv 2) jf) jb))))) (jg (jo (ji (ja jm (ja (jr J7 jm (S.e u.m (ja (pv 0) (ja jf jb))) (λ_ _=>Z)) (ja (pv 4) (ja (cF.e u (ja (pv 0) (ja (pv 1) (ja (jw kU (pv 2) jf) jb)))) jb))))))))))),?_]
 have b0:=zw
 have j:g≠p:=qg B hg
 refine aj λF1 l=>#[_,Z,p,6,Z,B,OF,OF,λM O k0 k1 R e1=>l _ _ ?_]
 clear l
 have k:O g=some (.lst (ys.map V.str)):=by rw[e1 g j];exact hg
 have U:aB p H O:=aB.of_eq e1
 have num:∀(D:Int) (a:Hp) (r:Addr),0<=D->D < 1000000000000000000->aq a p->(∀b,b≠p->a b=O b)->a r=none->Q (.ref r) (ah a r (.tup [.str "num",.int D])):=λD a r C I i o N=>
  q r (.num D) _ jc (by show((0:Nat):Int)<=d;omega) #[C,I] (i.upd_new N) ((U.trans (aB.of_eq o)).upd_new N)
 refine aj λF1 l=>dB (λJ H'=>J=[some (.ref p),some (.ref g),some (.int d),some (.int M),none]/\H'=O/\(M<=3∨d≠0)) (λE2 eR fm=>?_) λJ H' W=>?_
 ·clear l
  refine oq λG' G=>#[_,Z,_,_,Z,Z,_,Z,?_]
  refine bN (λc=>?_) (λc=>?_)
  ·refine G _ _ (wA ?_)
   show gn _ E2 _ _
   unfold gn
   rw[eR]
   exact#[_,Z,p,Z,R,λD a C I i o=>#[bM,λr N=>num D a r C I i o N]]
  refine#[_,Z,_,_,Z,Z,_,Z,?_]
  refine bN (λc2=>?_) (λc2=>?_)
  ·refine#[_,Z,Z,_,Z,G _ _ ?_]
   refine bN (λc3=>?_) (λc3=>?_)
   ·show gn _ E2 _ _
    unfold gn
    rw[eR]
    exact#[_,Z,p,Z,R,λD a C I i o=>#[bM,λr N=>num D a r C I i o N]]
   ·exact fm _ _ #[Z,Z,.inr λz=>c3 (by rw[z];rfl)]
  ·have c1:¬(3:Int) < M:=ME (Bool.eq_false_iff.mpr c2)
   exact G _ _ (pM (fm _ _ #[Z,Z,.inl OG]))
 obtain⟨rfl,eH,hk⟩:=W
 rw[eH]
 refine l _ _ ?_
 clear l
 refine aj λF1 l=>oq λG' G=>#[_,Z,_,_,Z,Z,_,Z,G _ _ ?_]
 clear G
 refine bN (λc=>?_) (λc=>l _ _ ?_)
 ·-- a variable
  refine#[_,Z,_,Z,_,Z,g,_,Z,.inl (aG.of k),p,_,Z,R,by rw[HZ];omega,by rw[HZ];omega,λD a X L i o=>?_]
  rw[HZ]at L
  obtain⟨y,hy,Y⟩:=J9 (ys:=ys) X L
  have t:a g=some (.lst (ys.map V.str)):=by rw[o g j];exact k
  refine#[g,_,_,_,Z,Z,aG.of t,Y,bM,λr N=>?_]
  exact q r (.var y) _ jc (by show((0:Nat):Int)<=d;omega) hy (i.upd_new N) ((U.trans (aB.of_eq o)).upd_new N)
 ·have c':¬M < (4:Int):=ME (Bool.eq_false_iff.mpr c)
  have hd:d≠0:=hk.resolve_left OG
  refine#[_,Z,_,Z,_,Z,_,_,Z,Z,p,g,d - 1,ys,Z,R,k,v,x,OG,OG,λr1 T1 a t1 d3 g0 i k2=>?_]
  have t:a g=some (.lst (ys.map V.str)):=k2 g _ j k
  refine#[_,Z,p,6,Z,i,OF,OF,λs3 H3 s0 s1 B3 e3=>?_]
  have h0:H3 g=some (.lst (ys.map V.str)):=by rw[e3 g j];exact t
  have k3:aB p a H3:=aB.of_eq e3
  refine#[lJ,_,_,Z,Z,(by rw[uG];omega),C0 s0 s1,?_]
  refine#[_,Z,_,Z,_,Z,_,Z,_,_,Z,Z,p,g,d - 1,ys,Z,B3,h0,v,x,OG,OG,λr2 T2 H4 t2 d4 g1 B4 k4=>?_]
  refine#[pU,λr N=>?_]
  have t0:ba H4 T1 r1:=(t1.but i k3).but B3 k4
  refine q r (.op s3.toNat T1 T2) _ #[r1,r2,jc,t0.new N,t2.new N] ?_ #[OG,g0,g1] (B4.upd_new N) (((U.trans k2).trans (k3.trans k4)).upd_new N)
  show((max T1.depth T2.depth+1:Nat):Int)<=d
  omega
theorem wJ:af P w K mg base aA 2 f e z10z (cq 0):=by
 have n:∀v H Q E,¬cq 0 v H Q E:=λv H Q E h=>by
  obtain⟨p,g,d,y,_,_,_,_,_,i,b,_⟩:=h
  have c:d < ((0:Nat):Int):=b
  omega
 exact#[λv H Q E h=>absurd h (n v H Q E),λA o s H a u v Q E _ _ _ _ h=>absurd h (n v H Q E)]
theorem Ax(F:aI K "_law_term" "_law_term" oJ f a)(b:ax K a z10z [])(m:mg "_law_term"=some (.ref f))(c:Cl P w K mg base 1 g d z0z aU "_law_take")(C:Cl P w K mg base 2 h e z2z gM "_law_number")(M:mg "len"=none):
  ∀n:Nat,af P w K mg base aA (n+2) f a z10z (cq n)
 |0=>wJ
 |n+1=>xh F #[(Ax F b m c C M n),b,F.kp,m] c C M
end _K
namespace _K
open PySem PySem.Spec PyProof.Rows _L
variable {P:Program}{w:World}{K:Frag}{mg:Str->Option Value}{base:Heap}
noncomputable def Tm.vars:Tm->List Str
 | .num _=>[]
 | .var x=>[x]
 | .op _ a b=>a.vars++b.vars
theorem kH:∀{t:Tm},t.Good y->∀x∈t.vars,x∈y
 | .num _,_,_,h=>nomatch h
 | .var _,g,_,h=>by rw[List.mem_singleton.mp h];exact g
 | .op _ _ _,g,_,h=>(List.mem_append.mp h).elim (kH g.2.1 _) (kH g.2.2 _)
theorem kf:∀{l m:List Str},l.Nodup->(∀x∈l,x∈m)->l.length<=m.length
 | [],_,_,_=>Il _
 |x::l,m,n,h=>by
  rw[List.nodup_cons]at n
  have H:=h x Iz
  have q:=kf (l:=l) (m:=m.erase x) n.2 λy a=>(List.mem_erase_of_ne (λe=>n.1 (by rw[<- e];exact a))).mpr (h y (II _ a))
  rw[List.length_erase_of_mem H]at q
  have:0 < m.length:=List.length_pos_of_mem H
  rw[IH]
  omega
theorem KA:∀{l m:List Str},l.Nodup->m.Nodup->(∀x,x∈l↔x∈m)->l.Perm m
 | [],[],_,_,_=>.nil
 | [],y::m,_,_,h=>absurd ((h y).mpr Iz) OH
 |x::l,m,n,N,h=>by
  rw[List.nodup_cons]at n
  have a:x∈m:=(h x).mp Iz
  refine(List.Perm.cons x (KA n.2 (N.erase x) λy=>?_)).trans (List.perm_cons_erase a).symm
  rw[N.mem_erase_iff]
  constructor
  ·intro H
   exact#[λe=>n.1 (by rw[<- e];exact H),(h y).mp (II _ H)]
  ·rintro ⟨b,H⟩
   exact(List.mem_cons.mp ((h y).mpr H)).resolve_left b
theorem Qs:∀{p:Str} {l:List Str},risingS p l=true->(p::l).Pairwise λa b=>a.cps.toList<=b.cps.toList
 |p,[],_=>by simp
 |p,x::r,h=>by
  have H:(!ltCps x.cps.toList p.cps.toList&&risingS x r)=true:=h
  rw[Lp]at H
  have i:=Qs H.2
  have c:p.cps.toList<=x.cps.toList:=by
   have z:=H.1
   rw[ltCps_eq]at z
   simpa using z
  rw[List.pairwise_cons]at i ⊢
  refine#[λy hy=>?_,List.pairwise_cons.mpr i]
  rcases List.mem_cons.mp hy with rfl |hy
  ·exact c
  ·exact List.le_trans c (i.1 y hy)
theorem Qt(h:sortedS l=true):l.Pairwise λa b=>a.cps.toList<=b.cps.toList:=by
 cases l with
 |nil=>exact .nil
 |cons x r=>exact Qs h
theorem XN{l:List Str}(p:l.Perm m)(h:sortedS l=true)(H:sortedS m=true):l=m:=by
 refine List.Perm.eq_of_pairwise (λa b _ _ x y=>?_) (Qt h) (Qt H) p
 have e:=List.le_antisymm x y
 cases a
 cases b
 exact K' Str.mk (Array.toList_inj.mp e)
inductive Lf where
 |rd (x:Str) (t:Addr) (T:Tm)
 |st (x:Str) (t:Addr) (T:Tm)
 |wr (t u:Addr) (T U:Tm)
 |cl (x f:Str) (q:Addr) (ts:List (Addr×Tm))
 |gv (t:Addr) (T:Tm)
def vK(H:Hp):Lf->List V->Prop
 | .rd x t T,v=>v=[.str "read",.str x,.ref t]/\ba H T t
 | .st x t T,v=>v=[.str "set",.str x,.ref t]/\ba H T t
 | .wr t u T U,v=>v=[.str "write",.ref t,.ref u]/\ba H T t/\ba H U u
 | .cl x f q a,v=>v=[.str "call",.str x,.str f,.ref q]/\H q=some (.tup (a.map λc=>V.ref c.1))/\∀c∈a,ba H c.2 c.1
 | .gv t T,v=>v=[.str "give",.ref t]/\ba H T t
theorem vK.mono(k:al H a)(h:vK H l v):vK a l v:=by
 cases l with
 |rd x t T |st x t T |gv t T=>exact#[h.1,h.2.mono k]
 |wr t u T U=>exact#[h.1,h.2.1.mono k,h.2.2.mono k]
 |cl x f q d=>exact#[h.1,k _ _ h.2.1,λc b=>(h.2.2 c b).mono k]
inductive Bd where
 |nil
 |lf (p:Addr) (l:Lf) (r:Bd)
 |ite (p t:Addr) (T:Tm) (a b r:Bd)
 |loop (p t:Addr) (T:Tm) (a r:Bd)
noncomputable def Bd.app:Bd->Bd->Bd
 | .nil,s=>s
 | .lf p l r,s=>.lf p l (r.app s)
 | .ite p t T a b r,s=>.ite p t T a b (r.app s)
 | .loop p t T a r,s=>.loop p t T a (r.app s)
noncomputable def Bd.size:Bd->Nat
 | .nil=>0
 | .lf _ _ r=>r.size+1
 | .ite _ _ _ a b r=>a.size+b.size+r.size+1
 | .loop _ _ _ a r=>a.size+r.size+1
noncomputable def Bd.dep:Bd->Nat
 | .nil=>0
 | .lf _ _ r=>r.dep
 | .ite _ _ _ a b r=>max (max a.dep b.dep+1) r.dep
 | .loop _ _ _ a r=>max (a.dep+1) r.dep
def dh(y:List Str)(T:Tm):Prop:=T.Good y/\T.depth < 6
def Lf.Ok(y:List Str):Lf->Prop
 | .rd x _ T=>x∈y/\dh y T
 | .st x _ T=>x∈y/\dh y T
 | .wr _ _ T U=>dh y T/\dh y U
 | .cl x _ _ t=>x∈y/\t.length<=6/\∀c∈t,dh y c.2
 | .gv _ T=>dh y T
def Bd.Ok(y:List Str):Bd->Prop
 | .nil=>True
 | .lf _ l r=>l.Ok y/\r.Ok y
 | .ite _ _ T a b r=>dh y T/\a.Ok y/\b.Ok y/\r.Ok y
 | .loop _ _ T a r=>dh y T/\a.Ok y/\r.Ok y
abbrev hZ:=List (Str×Nat)
def Lf.Cs(F:hZ):Lf->Prop
 | .cl _ f _ t=>(f,t.length)∈F
 |_=>True
def Bd.Cs(F:hZ):Bd->Prop
 | .nil=>True
 | .lf _ l r=>l.Cs F/\r.Cs F
 | .ite _ _ _ a b r=>a.Cs F/\b.Cs F/\r.Cs F
 | .loop _ _ _ a r=>a.Cs F/\r.Cs F
theorem Ka{F:hZ}:∀{a b:Bd},a.Cs F->b.Cs F->(a.app b).Cs F
 | .nil,_,_,h=>h
 | .lf _ _ _,_,h,k=>#[h.1,Ka h.2 k]
 | .ite _ _ _ _ _ _,_,h,k=>#[h.1,h.2.1,Ka h.2.2 k]
 | .loop _ _ _ _ _,_,h,k=>#[h.1,Ka h.2 k]
theorem kI{F:hZ}(k:∀f∈F,f∈G):∀{a:Bd},a.Cs F->a.Cs G
 | .nil,_=>trivial
 | .lf _ l _,h=>#[by cases l<;>first |exact k _ h.1 |trivial,kI k h.2]
 | .ite _ _ _ _ _ _,h=>#[kI k h.1,kI k h.2.1,kI k h.2.2]
 | .loop _ _ _ _ _,h=>#[kI k h.1,kI k h.2]
noncomputable def Lf.calls:Lf->hZ
 | .cl _ f _ t=>[(f,t.length)]
 |_=>[]
noncomputable def Bd.calls:Bd->hZ
 | .nil=>[]
 | .lf _ l r=>l.calls++r.calls
 | .ite _ _ _ a b r=>a.calls++(b.calls++r.calls)
 | .loop _ _ _ a r=>a.calls++r.calls
theorem zA:∀b:Bd,b.Cs b.calls
 | .nil=>trivial
 | .lf _ l r=>#[by cases l<;>first |exact List.mem_append_left _ List.mem_cons_self |trivial,kI (λ_ h=>List.mem_append_right _ h) (zA r)]
 | .ite _ _ _ a b r=>#[kI (λ_ h=>List.mem_append_left _ h) (zA a),kI (λ_ h=>List.mem_append_right _ (List.mem_append_left _ h)) (zA b),kI (λ_ h=>List.mem_append_right _ (List.mem_append_right _ h)) (zA r)]
 | .loop _ _ _ a r=>#[kI (λ_ h=>List.mem_append_left _ h) (zA a),kI (λ_ h=>List.mem_append_right _ h) (zA r)]
theorem zB{F:hZ}:∀{b:Bd},b.Cs F->∀f∈b.calls,f∈F
 | .nil,_,_,h=>nomatch h
 | .lf _ l r,k,f,h=>(List.mem_append.mp h).elim (λh=>by cases l<;>first | (rw[List.mem_singleton.mp h];exact k.1) |exact nomatch h) (zB k.2 f)
 | .ite _ _ _ a b r,k,f,h=>(List.mem_append.mp h).elim (zB k.1 f) λh=>(List.mem_append.mp h).elim (zB k.2.1 f) (zB k.2.2 f)
 | .loop _ _ _ a r,k,f,h=>(List.mem_append.mp h).elim (zB k.1 f) (zB k.2 f)
theorem jZ:∀(a b:Bd),(a.app b).size=a.size+b.size
 | .nil,b=>by show b.size=0+b.size;omega
 | .lf _ _ r,b=>by have:=jZ r b;show(r.app b).size+1=r.size+1+b.size;omega
 | .ite _ _ _ x y r,b=>by have:=jZ r b;show x.size+y.size+(r.app b).size+1=x.size+y.size+r.size+1+b.size;omega
 | .loop _ _ _ x r,b=>by have:=jZ r b;show x.size+(r.app b).size+1=x.size+r.size+1+b.size;omega
theorem zj:∀(a b:Bd),(a.app b).dep=max a.dep b.dep
 | .nil,b=>(Nat.zero_max b.dep).symm
 | .lf _ _ r,b=>zj r b
 | .ite _ _ _ x y r,b=>by show max _ (r.app b).dep=max (max _ r.dep) b.dep;rw[zj r b,Nat.max_assoc]
 | .loop _ _ _ x r,b=>by show max _ (r.app b).dep=max (max _ r.dep) b.dep;rw[zj r b,Nat.max_assoc]
theorem Kb:∀{a b:Bd},a.Ok y->b.Ok y->(a.app b).Ok y
 | .nil,_,_,h=>h
 | .lf _ _ _,_,g,h=>#[g.1,Kb g.2 h]
 | .ite _ _ _ _ _ _,_,g,h=>#[g.1,g.2.1,g.2.2.1,Kb g.2.2.2 h]
 | .loop _ _ _ _ _,_,g,h=>#[g.1,g.2.1,Kb g.2.2 h]
def dw(H:Hp):Bd->List V->Prop
 | .nil,x=>x=[]
 | .lf p l r,x=>∃v y,x= .ref p::y/\H p=some (.tup v)/\vK H l v/\dw H r y
 | .ite p t T a b r,x=>∃q Q A B y,x= .ref p::y/\H p=some (.tup [.str "if",.ref t,.ref q,.ref Q])/\ba H T t/\H q=some (.tup A)/\H Q=some (.tup B)/\dw H a A/\dw H b B/\dw H r y
 | .loop p t T a r,x=>∃q A y,x= .ref p::y/\H p=some (.tup [.str "while",.ref t,.ref q])/\ba H T t/\H q=some (.tup A)/\dw H a A/\dw H r y
theorem dw.mono(k:al H m):∀{x:List V},dw H a x->dw m a x:=by
 induction a with
 |nil=>exactλh=>h
 |lf p l r n=>rintro x ⟨v,y,e,c,d,f⟩;exact#[v,y,e,k _ _ c,d.mono k,n f]
 |ite p t T a b r i o I=>rintro x ⟨q,Q,A,B,y,e,c,g,d,f,j,s,u⟩;exact#[q,Q,A,B,y,e,k _ _ c,g.mono k,k _ _ d,k _ _ f,i j,o s,I u]
 |loop p t T a r i I=>rintro x ⟨q,A,y,e,c,g,d,f,j⟩;exact#[q,A,y,e,k _ _ c,g.mono k,k _ _ d,i f,I j]
theorem dw.app(k:dw H b y):∀{x:List V},dw H a x->dw H (a.app b) (x++y):=by
 induction a with
 |nil=>intro x h;have e:x=[]:=h;rw[e];exact k
 |lf p l r I=>rintro x ⟨v,z,e,c,d,f⟩;exact#[v,z++y,by rw[e];rfl,c,d,I f]
 |ite p t T a b r _ _ i=>rintro x ⟨q,Q,A,B,z,e,c,g,d,f,j,m,n⟩;exact#[q,Q,A,B,z++y,by rw[e];rfl,c,g,d,f,j,m,i n]
 |loop p t T a r _ i=>rintro x ⟨q,A,z,e,c,g,d,f,j⟩;exact#[q,A,z++y,by rw[e];rfl,c,g,d,f,i j]
theorem dw.len:∀{x:List V},dw H a x->x.length<=a.size:=by
 induction a with
 |nil=>intro x h;have e:x=[]:=h;rw[e];exact Ib 0
 |lf p l r I=>rintro x ⟨v,y,e,d,f,c⟩;rw[e];exact LD (I c)
 |ite p t T a b r _ _ i=>rintro x ⟨q,Q,A,B,y,e,d,j,f,c,g,m,k⟩;rw[e];exact LD (Ik (i k) (Nat.le_add_left _ _))
 |loop p t T a r _ i=>rintro x ⟨q,A,y,e,d,j,f,c,g⟩;rw[e];exact LD (Ik (i g) (Nat.le_add_left _ _))
inductive gU(H:Hp):V->Bd->Prop
 |lf (p:Addr) (l:Lf) (vs:List V) (h1:H p=some (.tup vs)) (h2:vK H l vs):gU H (.ref p) (.lf p l .nil)
 |ite (p t:Addr) (T:Tm) (a b:Bd) (qa qb:Addr) (as bs:List V) (h1:H p=some (.tup [.str "if",.ref t,.ref qa,.ref qb])) (h0:ba H T t) (h2:H qa=some (.tup as)) (h3:H qb=some (.tup bs)) (h4:dw H a as) (h5:dw H b bs):gU H (.ref p) (.ite p t T a b .nil)
 |loop (p t:Addr) (T:Tm) (a:Bd) (qa:Addr) (as:List V) (h1:H p=some (.tup [.str "while",.ref t,.ref qa])) (h0:ba H T t) (h2:H qa=some (.tup as)) (h3:dw H a as):gU H (.ref p) (.loop p t T a .nil)
theorem gU.bd(h:gU H v s):dw H s [v]:=by
 cases h with
 |lf p l V c d=>exact#[V,[],Z,c,d,Z]
 |ite p t T a b q Q A B c e d f g i=>exact#[q,Q,A,B,[],Z,c,e,d,f,g,i,Z]
 |loop p t T a q A c e d f=>exact#[q,A,[],Z,c,e,d,f,Z]
theorem gU.mono(k:al H g)(h:gU H v s):gU g v s:=by
 cases h with
 |lf p l V c d=>exact .lf p l V (k _ _ c) (d.mono k)
 |ite p t T a b q Q A B c e d f i j=>exact .ite p t T a b q Q A B (k _ _ c) (e.mono k) (k _ _ d) (k _ _ f) (i.mono k) (j.mono k)
 |loop p t T a q A c e d f=>exact .loop p t T a q A (k _ _ c) (e.mono k) (k _ _ d) (f.mono k)
theorem dw.last:∀{x:List V},dw H a x->x=[]/\a= .nil∨∃z v b s,x=z++[v]/\a=b.app s/\dw H b z/\gU H v s:=by
 induction a with
 |nil=>exactλh=>.inl #[h,Z]
 |lf p l r i=>
  rintro x ⟨u,y,e,f,g,n⟩
  rcases i n with ⟨E,d⟩ | ⟨z,v,b,s,E,d,j,k⟩
  ·exact .inr #[[],.ref p,.nil,.lf p l .nil,by rw[e,E];rfl,by rw[d];rfl,Z,.lf p l u f g]
  ·exact .inr #[.ref p::z,v,.lf p l b,s,by rw[e,E];rfl,by rw[d];rfl,#[u,z,Z,f,g,j],k]
 |ite p t T a b r _ _ i=>
  rintro x ⟨q,Q,A,B,y,e,f,m,g,n,G,C,o⟩
  rcases i o with ⟨E,d⟩ | ⟨z,v,c,s,E,d,j,k⟩
  ·exact .inr #[[],.ref p,.nil,.ite p t T a b .nil,by rw[e,E];rfl,by rw[d];rfl,Z,.ite p t T a b q Q A B f m g n G C]
  ·exact .inr #[.ref p::z,v,.ite p t T a b c,s,by rw[e,E];rfl,by rw[d];rfl,#[q,Q,A,B,z,Z,f,m,g,n,G,C,j],k]
 |loop p t T a r _ i=>
  rintro x ⟨q,A,y,e,f,m,g,G,o⟩
  rcases i o with ⟨E,d⟩ | ⟨z,v,c,s,E,d,j,k⟩
  ·exact .inr #[[],.ref p,.nil,.loop p t T a .nil,by rw[e,E];rfl,by rw[d];rfl,Z,.loop p t T a q A f m g G]
  ·exact .inr #[.ref p::z,v,.loop p t T a c,s,by rw[e,E];rfl,by rw[d];rfl,#[q,A,z,Z,f,m,g,G,j],k]
theorem zL:∀{a b:Bd},(a.app b).Ok y->a.Ok y/\b.Ok y
 | .nil,_,h=>#[IG,h]
 | .lf _ _ _,_,h=>#[#[h.1,(zL h.2).1],(zL h.2).2]
 | .ite _ _ _ _ _ _,_,h=>#[#[h.1,h.2.1,h.2.2.1,(zL h.2.2.2).1],(zL h.2.2.2).2]
 | .loop _ _ _ _ _,_,h=>#[#[h.1,h.2.1,(zL h.2.2).1],(zL h.2.2).2]
structure Nm(ss:List Str)(M:Str->Prop):Prop where
 nd:ss.Nodup
 so:sortedS ss=true
 mem:∀x,x∈ss↔M x
theorem Nm.uniq(h:Nm a M)(g:Nm s M):a=s:=XN (KA h.nd g.nd λx=>(h.mem x).trans (g.mem x).symm) h.so g.so
open Classical in
noncomputable def canon(M:Str->Prop):List Str:=if h:∃s,Nm s M then Classical.choose h else []
theorem Nm.canon(h:Nm s M):s=canon M:=by
 have e:∃s,Nm s M:=#[s,h]
 unfold _K.canon
 rw[dif_pos e]
 exact h.uniq (Classical.choose_spec e)
theorem Nm.len{s y:List Str}{M:Str->Prop}(h:Nm s M)(H:∀x,M x->x∈y):s.length<=y.length:=kf h.nd λx a=>H x ((h.mem x).mp a)
def Lf.use(M:Str->Prop):Lf->Str->Prop
 | .rd x _ T,y=>(M y/\y≠x)∨y∈T.vars
 | .st x _ T,y=>(M y/\y≠x)∨y∈T.vars
 | .wr _ _ T U,y=>M y∨y∈T.vars∨y∈U.vars
 | .cl x _ _ t,y=>(M y/\y≠x)∨∃c∈t,y∈c.2.vars
 | .gv _ T,y=>y∈T.vars
def Bd.use:Bd->(Str->Prop)->Str->Prop
 | .nil,M=>M
 | .lf _ l r,M=>l.use (r.use M)
 | .ite _ _ T a b r,M=>λy=>(a.use (r.use M) y∨b.use (r.use M) y)∨y∈T.vars
 | .loop _ _ T a r,M=>λy=>(a.use (λ_=>False) y∨r.use M y)∨y∈T.vars
theorem JK:∀(a b:Bd) (M:Str->Prop),(a.app b).use M=a.use (b.use M)
 | .nil,_,_=>rfl
 | .lf _ l r,b,M=>by show l.use ((r.app b).use M)=l.use (r.use (b.use M));rw[JK r b M]
 | .ite _ _ T x y r,b,M=>by show(λz=>(x.use ((r.app b).use M) z∨y.use ((r.app b).use M) z)∨z∈T.vars)=λz=>(x.use (r.use (b.use M)) z∨y.use (r.use (b.use M)) z)∨z∈T.vars;rw[JK r b M]
 | .loop _ _ T x r,b,M=>by show(λz=>(x.use (λ_=>False) z∨(r.app b).use M z)∨z∈T.vars)=λz=>(x.use (λ_=>False) z∨r.use (b.use M) z)∨z∈T.vars;rw[JK r b M]
theorem Lf.use_in{M:Str->Prop}{l:Lf}(h:l.Ok Y)(a:∀x,M x->x∈Y):∀y,l.use M y->y∈Y:=by
 intro y H
 cases l with
 |rd x t T |st x t T=>exact H.elim (λz=>a y z.1) (kH h.2.1 y)
 |wr t u T U=>exact H.elim (a y) λz=>z.elim (kH h.1.1 y) (kH h.2.1 y)
 |cl x f q d=>exact H.elim (λz=>a y z.1) λ#[c,b,z]=>kH (h.2.2 c b).1 y z
 |gv t T=>exact kH h.1 y H
theorem Bd.use_in:∀{b:Bd} {M:Str->Prop},b.Ok Y->(∀x,M x->x∈Y)->∀y,b.use M y->y∈Y
 | .nil,_,_,H,y,c=>H y c
 | .lf _ l r,_,h,H,y,c=>Lf.use_in h.1 (Bd.use_in h.2 H) y c
 | .ite _ _ T a b r,_,h,H,y,c=>c.elim (λz=>z.elim (Bd.use_in h.2.1 (Bd.use_in h.2.2.2 H) y) (Bd.use_in h.2.2.1 (Bd.use_in h.2.2.2 H) y)) (kH h.1.1 y)
 | .loop _ _ T a r,_,h,H,y,c=>c.elim (λz=>z.elim (Bd.use_in h.2.1 (λ_ w=>w.elim) y) (Bd.use_in h.2.2 H y)) (kH h.1.1 y)
end _K
namespace _K
open PySem PySem.Spec PyProof.Rows _L
variable {P:Program}{w:World}{K:Frag}{mg:Str->Option Value}{base:Heap}
noncomputable abbrev em:Stmt:=bu 14
noncomputable abbrev CN:Stmt:=bu 39
noncomputable abbrev uf:Stmt:=bu 40
noncomputable abbrev xY:Stmt:=bu 41
noncomputable abbrev xX:Stmt:=bu 42
inductive db(n:Nat)(c:List V)(H:Hp)(Q:VK)(b:XK):Prop
 |mk(a:Addr)(T:Tm)(d:List Str)(_:c=[.ref a])(_:ba H T a)(_:T.depth < n)(_:T.Good d)(_:d.length<=21)(_:∀(r:Addr) (ss:List Str) (H':Hp),H r=none->H' r=some (.lst (ss.map V.str))->ss.Nodup->(∀x,x∈ss↔x∈T.vars)->sortedS ss=true->ae H H'->Q (.ref r) H')
theorem ur:ai z1z z1z (aa em):=bp
theorem wW{f:Addr}{o:FuncData}(F:aI K "names_in" "names_in" em f o){n:Nat}(C:Cl P w K mg base (n+1) f o z1z (db n) "names_in")(M:mg "set"=none)(p:mg "sorted"=none):af P w K mg base aA (n+2) f o z1z (db (n+1)):=by
 refine F.ok ur (λvs H Q E h=>?_) (λc0 A O s H vs Q E v h=>?_)
 ·obtain⟨a,T,Y,rfl,_⟩:=h
  rfl
 obtain⟨a,T,Y,rfl,t,dp,g,j,q⟩:=h
 refine#[_,(jd (jx (kh (jy (pv 0))) (jg (jo (jG jb))) jp) (jd (jx (kh (jy (pv 0))) (jg (jo (jG (ja (jy (pv 0)) jb)))) jp) (jg (jo (jS (zZ Z) Z p boot_sorted (ja (jE (qK Z) Z M boot_set (ja (jw qf (C.e v (ja (jy (pv 0)) jb)) (C.e v (ja (jy (pv 0)) jb))) jb)) jb)))))),?_]
 cases T with
 |num m=>
  have b:H a=some (.tup [.str "num",.int m]):=t
  refine(ju b Z #[Z,_,Z,cy OJ ?_])
  exact#[OF,λr N=>q r [] _ N jc NE (λx=>Oh) Z (je N)]
 |var x=>
  have b:H a=some (.tup [.str "var",.str x]):=t
  refine(ju b Z #[Z,_,Z,aV OJ ?_])
  refine(ju b Z #[Z,_,Z,cy OJ ?_])
  exact(ju b Z #[lY,λr N=>q r [x] _ N jc OH (λy=>Oh) Z (je N)])
 |op i B D=>
  obtain⟨p1,p2,b,h1,h2⟩:=t
  have d0:max B.depth D.depth+1 < n+1:=dp
  refine(ju b Z #[Z,_,Z,aV OJ ?_])
  refine(ju b Z #[Z,_,Z,aV OJ ?_])
  refine(ju b Z #[p1,B,Y,Z,h1,OG,g.2.1,j,λr1 S H1 n1 e1 d1 G o1 u=>?_])
  refine(ju (u _ _ b) Z #[p2,D,Y,Z,h2.same u,OG,g.2.2,j,λr2 k H2 n2 e2 d2 I o2 J=>?_])
  have l1:S.length<=21:=Ik (kf d1 λx d=>kH g.2.1 x ((G x).mp d)) j
  have l2:k.length<=21:=Ik (kf d2 λx d=>kH g.2.2 x ((I x).mp d)) j
  have b0:=zw
  refine#[r1,r2,_,_,Z,Z,J _ _ e1,e2,(by rw[HZ,HZ];omega),λc nc=>?_]
  refine#[c,S++k,Z,aG.of (by rw[jc,IJ]),(λL nd hs=>LF (LD (kf nd hs)) (by rw[Ia];show S.length+k.length+1 < 4096;omega)),λl L nl dL R=>?_]
  have lL:=kf dL λx d=>(R x).mp d
  rw[Ia]at lL
  refine#[l,L,Z,jc,OG,λz ss U W dz oz=>?_]
  have X:ae H (ah (ah H2 c (.lst (S.map V.str++k.map V.str))) l (Fs P w l L)):=(u.trans J).trans ((je nc).trans (je nl))
  refine q z ss _ (X.free U) jc (W.nodup_iff.mpr dz) (λx=>?_) oz (X.trans (je U))
  rw[W.mem_iff,R x,My,G x,I x]
  exact List.mem_append.symm
theorem wI:af P w K mg base aA 1 f d z1z (db 0):=by
 have n:∀v H Q E,¬db 0 v H Q E:=λv H Q E h=>by
  obtain⟨a,T,y,_,_,c,_⟩:=h
  exact absurd c (M1 _)
 exact#[λv H Q E h=>absurd h (n v H Q E),λA o s H b u v Q E _ _ _ _ h=>absurd h (n v H Q E)]
theorem Af(F:aI K "names_in" "names_in" em f a)(b:ax K a z1z [])(c:mg "names_in"=some (.ref f))(m:mg "set"=none)(M:mg "sorted"=none):
  ∀n:Nat,af P w K mg base aA (n+1) f a z1z (db n)
 |0=>wI
 |n+1=>wW F #[(Af F b c m M n),b,F.kp,c] m M
noncomputable def Lf.own:Lf->List (Addr×Tm)
 | .rd _ t T=>[(t,T)]
 | .st _ t T=>[(t,T)]
 | .wr t u T U=>[(t,T),(u,U)]
 | .cl _ _ _ a=>a
 | .gv t T=>[(t,T)]
noncomputable def Bd.own:Bd->List (Addr×Tm)
 | .nil=>[]
 | .lf _ l _=>l.own
 | .ite _ t T _ _ _=>[(t,T)]
 | .loop _ t T _ _=>[(t,T)]
noncomputable def rT(c:Addr×Tm):V:=.ref c.1
inductive mP(b:List V)(H:Hp)(Q:VK)(a:XK):Prop
 |mk(v:V)(s:Bd)(_:b=[v])(_:gU H v s)(_:∀(r:Addr) (H':Hp),H' r=some (.tup (s.own.map rT))->ae H H'->Q (.ref r) H')
theorem YS:aM (a::b::r) (some 1) (some 2)=[b]:=by
 unfold aM
 have e:(1:Int)=((1:Nat):Int):=rfl
 have E:(2:Int)=((2:Nat):Int):=rfl
 rw[E,e,HT.sIx_nat,HT.sIx_nat,IH,IH]
 have c:min 1 (r.length+1+1)=1:=by omega
 have d:min 2 (r.length+1+1) - 1=1:=by omega
 rw[c,d]
 rfl
theorem Al:ai ["statement","word"] z5z (aa CN):=bp
theorem BM{f:Addr}{j:FuncData}(F:aI K "own_terms" "own_terms" CN f j):af P w K mg base aA 1 f j z5z mP:=by
 refine F.ok Al ?_ λC A o s H V Q E d h=>?_
 ·rintro _ _ _ _ ⟨v,s,rfl,_⟩
  rfl
 obtain⟨v,st,rfl,m,q⟩:=h
 refine#[_,(jd (jz 1 Al.nd (jy (pv 0))) (jd (jx (jC zc (pv 1) (ji (ja jm (ja jm jb))) Z) (jg (jo (jH kc (pv 0) (jF jf) jR))) jp) (jd (jx (kh (pv 1)) (jg (jo (jH kc (pv 0) (jF jf) jR))) jp) (jd (jx (kh (pv 1)) (jg (jo (jy (pv 0)))) jp) (jg (jo (jH kc (pv 0) (jF jf) (jF jf)))))))),?_]
 cases m with
 |lf p l V c g=>
  cases l with
  |rd x t T |st x t T=>
   obtain⟨rfl,i⟩:=g
   refine(ju c Z #[_,Z,bM,λl n=>#[l,_,Z,.inr (ay.of jc),Z,Z,_,Z,cy OJ ?_]])
   exact#[_,Z,_,Z,p,_,Z,ao c n,λr e d s=>q r e d ((je n).trans s)]
  |wr t u T U=>
   obtain⟨rfl,i,L⟩:=g
   refine(ju c Z #[_,Z,bM,λl n=>#[l,_,Z,.inr (ay.of jc),Z,Z,_,Z,aV OJ ?_]])
   refine#[_,Z,Z,_,Z,cy OJ ?_]
   exact#[_,Z,_,Z,p,_,Z,ao c n,λr e d s=>q r e d ((je n).trans s)]
  |cl x M y N=>
   obtain⟨rfl,z,i⟩:=g
   refine(ju c Z #[_,Z,bM,λl n=>#[l,_,Z,.inr (ay.of jc),Z,Z,_,Z,aV OJ ?_]])
   refine#[_,Z,Z,_,Z,aV OJ ?_]
   refine#[_,Z,Z,_,Z,cy OJ ?_]
   exact(ju (ao c n) Z (q y _ (ao z n) (je n)))
  |gv t T=>
   obtain⟨rfl,i⟩:=g
   refine(ju c Z #[_,Z,bM,λl n=>#[l,_,Z,.inr (ay.of jc),Z,Z,_,Z,aV OJ ?_]])
   refine#[_,Z,Z,_,Z,aV OJ ?_]
   refine#[_,Z,Z,_,Z,aV OJ ?_]
   exact#[_,Z,_,Z,_,Z,p,_,Z,ao c n,λr e d s=>q r e (by rw[YS]at d;exact d) ((je n).trans s)]
 |ite p t T a b B O D R c G g I S W |loop p t T a B D c G g I=>
  refine(ju c Z #[_,Z,bM,λl n=>#[l,_,Z,.inr (ay.of jc),Z,Z,_,Z,aV OJ ?_]])
  refine#[_,Z,Z,_,Z,aV OJ ?_]
  refine#[_,Z,Z,_,Z,aV OJ ?_]
  exact#[_,Z,_,Z,_,Z,p,_,Z,ao c n,λr e d s=>q r e (by rw[YS]at d;exact d) ((je n).trans s)]
theorem KB{K:Frag}{a:Addr}{Y:List Str}{t:TT}{T:TE}{q:List V->Hp->Prop}{b:_L.St}{H:Hp}(f:Str->Bool)(L:Y.length<=1000)(A:H a=some (.lst (Y.map V.str)))
  (B:∀y g (Q:Bool->Hp->Prop),y∈Y->ae H g->(∀j,ae g j->Q (f y) j)->t (some (.str y)::b) g Q)
  (C:∀y g (Q:VK),y∈Y->Q (.str y) g->T (some (.str y)::b) g Q) (D:∀c,ae H c->q ((Y.filter f).map V.str) c):eK (vI K a) 1 b (bq 0) t T q H:=by
 have F:=zw
 refine#[λi m n c=>m=Y.length - i/\i<=Y.length/\n=((Y.take i).filter f).map V.str/\ae H c,#[Y.length,OH,Il _,OH,ae.refl H],?_]
 rintro i m n c ⟨rfl,M,rfl,k⟩
 have d:aG K c a (Y.map V.str):=aG.of (k _ _ A)
 by_cases h:i < Y.length
 ·have o:(Y.map V.str)[i]?=some (.str Y[i]):=by rw[Ir,HW h];rfl
  refine .inr #[#[_,_,d,o],?_,λz j=>z=((Y.take (i+1)).filter f).map V.str/\ae H j,λz j #[G,I]=>#[Y.length - (i+1),OG,Z,h,G,I],λv j N l y=>?_]
  ·rw[HZ]
   have:=MV f (Y.take i)
   rw[ID]at this
   omega
  obtain⟨e,y⟩:=y
  subst e
  have p:=y _ d
  rw[o]at p
  cases p
  obtain⟨w,rfl⟩:=wB l
  have r:Y[i]∈Y:=MY h
  have s:Y.take (i+1)=Y.take i++[Y[i]]:=by rw[LB,HW h];rfl
  refine#[#[[some _],Z,Z],B Y[i] _ _ r k λJ u=>?_]
  cases x:f Y[i] with
  |true=>
   refine cy Z (C Y[i] J _ r #[?_,k.trans u])
   rw[s,List.filter_append,IJ]
   have E:[Y[i]].filter f=[Y[i]]:=by simp [x]
   rw[E]
   rfl
  |false=>
   refine aV Z #[?_,k.trans u]
   rw[s,List.filter_append,IJ]
   have E:[Y[i]].filter f=[]:=by simp [x]
   rw[E]
   simp
 ·have e:i=Y.length:=by omega
  subst e
  refine .inl #[#[_,d,OH],?_]
  rw[LA (Ib _)]
  exact D c k
def Lf.bt(M:Str->Prop):Lf->Str->Prop
 | .rd x _ _,y=>M y/\y≠x
 | .st x _ _,y=>M y/\y≠x
 | .wr _ _ _ _,y=>M y
 | .cl x _ _ _,y=>M y/\y≠x
 | .gv _ _,_=>False
def Bd.bt(M:Str->Prop):Bd->Str->Prop
 | .nil,y=>M y
 | .lf _ l _,y=>l.bt M y
 | .ite _ _ _ a b _,y=>a.use M y∨b.use M y
 | .loop _ _ _ a _,y=>a.use (λ_=>False) y∨M y
theorem ve(h:gU H v s)(M:Str->Prop)(y:Str):s.use M y↔s.bt M y∨∃c∈s.own,y∈c.2.vars:=by
 cases h with
 |lf p l V _ _=>
  cases l with
  |rd x t T |st x t T=>exact#[λz=>z.elim .inl λw=>.inr #[_,List.mem_singleton.mpr Z,w],λz=>z.elim .inl λ#[c,hc,w]=>.inr (by rw[List.mem_singleton.mp hc]at w;exact w)]
  |wr t u T U=>
   refine#[λz=>z.elim .inl λw=>.inr (w.elim (λw=>#[_,Iz ..,w]) λw=>#[_,II _ (List.mem_singleton.mpr Z),w]),λz=>z.elim .inl λ#[c,hc,w]=>.inr ?_]
   rcases List.mem_cons.mp hc with e |hc
   ·rw[e]at w;exact .inl w
   ·rw[List.mem_singleton.mp hc]at w;exact .inr w
  |cl x f q d=>exact Oh
  |gv t T=>exact#[λw=>.inr #[_,List.mem_singleton.mpr Z,w],λz=>z.elim False.elim λ#[c,hc,w]=>by rw[List.mem_singleton.mp hc]at w;exact w]
 |ite p t T a b Q g A B _ _ _ _ _ _ |loop p t T a Q A _ _ _ _=>exact#[λz=>z.elim .inl λw=>.inr #[_,List.mem_singleton.mpr Z,w],λz=>z.elim .inl λ#[c,hc,w]=>.inr (by rw[List.mem_singleton.mp hc]at w;exact w)]
structure NL(H:Hp)(g:Addr)(ss:List Str)(M:Str->Prop)(ys:List Str):Prop where
 at':H g=some (.lst (ss.map V.str))
 nm:Nm ss M
 sub:∀x,M x->x∈ys
 y20:ys.length<=21
theorem NL.len{H:Hp}{g:Addr}{s:List Str}{M:Str->Prop}{y:List Str}(h:NL H g s M y):s.length<=21:=Ik (h.nm.len h.sub) h.y20
theorem NL.same(h:NL H g a M y)(s:ae H b):NL b g a M y:=#[s _ _ h.at',h.nm,h.sub,h.y20]
structure NU(H:Hp)(g:Addr)(ss:List Str)(M:Str->Prop)(ys:List Str):Prop where
 at':H g=some (.lst (ss.map V.str))
 nd:ss.Nodup
 mem:∀x,x∈ss↔M x
 sub:∀x,M x->x∈ys
 y20:ys.length<=21
theorem NL.nu(h:NL H g s M y):NU H g s M y:=#[h.at',h.nm.nd,h.nm.mem,h.sub,h.y20]
inductive uL(n:Nat)(c:List V)(H:Hp)(Q:VK)(a:XK):Prop
 |mk(v:V)(g:Addr)(s:Bd)(b:List Str)(M:Str->Prop)(d:List Str)(_:c=[v,.ref g])(_:gU H v s)(_:NL H g b M d)(_:s.Ok d)(_:s.dep < n+1)(_:s.size<=10000000)(_:∀(r:Addr) (zs:List Str) (H':Hp),H' r=some (.lst (zs.map V.str))->(∀y,y∈zs↔s.bt M y)->zs.length<=50->ae H H'->Q (.ref r) H')
inductive gi(n:Nat)(c:List V)(H:Hp)(Q:VK)(a:XK):Prop
 |mk(v:V)(g:Addr)(s:Bd)(b:List Str)(M:Str->Prop)(d:List Str)(_:c=[v,.ref g])(_:gU H v s)(_:NL H g b M d)(_:s.Ok d)(_:s.dep < n+1)(_:s.size<=10000000)(_:∀(r:Addr) (zs:List Str) (H':Hp),H r=none->NL H' r zs (s.use M) d->ae H H'->Q (.ref r) H')
inductive iI(n:Nat)(e:List V)(H:Hp)(Q:VK)(c:XK):Prop
 |mk(a g:Addr)(b:Bd)(f:List V)(d:List Str)(M:Str->Prop)(h:List Str)(_:e=[.ref a,.ref g])(_:H a=some (.tup f))(_:dw H b f)(_:NU H g d M h)(_:b.Ok h)(_:b.dep < n)(_:b.size<=10000000)(_:∀(r:Addr) (zs:List Str) (H':Hp),H r=none->NL H' r zs (b.use M) h->ae H H'->Q (.ref r) H')
theorem Nm.empty:Nm [] (λ_=>False):=#[NE,Z,λx=>#[λh=>absurd h IL,False.elim]]
theorem Ao:ai ["statement","behind","word"] z3z (aa uf):=bp
noncomputable def uE:Scope:=#[.function,[(".0",.local),("name",.local),("statement",.free)],false,false,[]]
theorem Ef:(["name","statement"]:List Str).Nodup:=by decide+kernel
theorem DP:bG ["statement","behind","word"] (aa uf) uE ["name","statement"] 1 [0]:=rj
theorem sO{L n:Nat}(F:aI K "used_behind_terms" "used_behind_terms" uf f fd)(J:Cl P w K mg base L fA f0 z14z (iI n) "used_ahead"):af P w K mg base aA (L+1) f fd z3z (uL n):=by
 refine F.ok Ao ?_ λc0 A O s H vs Q E R h=>?_
 ·rintro _ _ _ _ ⟨v,g,s,G,M,Y,rfl,_⟩
  rfl
 obtain⟨v,g,st,G,M,Y,rfl,hs,c,W,hd,hz,q⟩:=h
 refine#[_,(jd (jz 2 Ao.nd (jy (pv 0))) (jd (jx (jC zc (pv 2) (ji (ja jm (ja jm (ja jm jb)))) Z) (jg (jo (@zi _ _ _ _ _ _ _ (["name","statement"]) (1) ([0]) _ _ _ _ Z (zE (pv 1)) DP (λ_ _ _ _ _=>(jv (i:=0) Ef Z (Or.inl Z))) (λ_ _ _ _ _=>(@Co _ _ _ (jC YB (pv 0) (jr (r:=fh K) jN (pv 1) jf (λ_ _=>Z)) (aH _)))) (λ_ _ _ _ _=>(pv 0)) (by intro _;rfl)))) jp) (jd (jx (kh (pv 2)) (jg (jo (jw qf (J.e R.m (ja (jy (pv 0)) (ja (pv 1) jb))) (J.e R.m (ja (jy (pv 0)) (ja (pv 1) jb)))))) jp) (jd (jx (kh (pv 2)) (jg (jo (jw qf (J.e R.m (ja (jy (pv 0)) (ja (jG jb) jb))) (pv 1)))) jp) (jd (jx (kh (pv 2)) (jg (jo (jG jb))) jp) (jg (jo (pv 1)))))))),?_]
 have g0:=c.len
 cases hs with
 |lf p l vs d B=>
  cases l with
  |rd x t T |st x t T=>
   obtain⟨rfl,X⟩:=B
   refine(ju d Z #[_,Z,gE,λl N=>#[l,_,Z,.inr (ay.of jc),Z,Z,_,Z,cy OJ ?_]])
   have S:ae H (ah H l (.tup [.str "set",.str "read",.str "call"])):=je N
   refine#[_,Z,g,Z,#[_,aG.of (S _ _ c.at')],KB (λy=>!decide (V.str y=V.str x)) OG (S _ _ c.at') (λy I Q' hy k C=>?_) (λy I Q' hy C=>#[_,Z,C]) λH' k r j=>?_]
   ·exact#[_,Z,ju (k _ _ (S _ _ d)) Z #[Z,_,Z,C _ (ae.refl _)]]
   ·refine q r _ _ jc (λy=>?_) (Ik (MV ..) OG) ((S.trans k).trans (je j))
    rw[List.mem_filter,c.nm.mem y]
    exact and_congr_right λ_=>by simp
  |wr t u T U=>
   obtain⟨rfl,X,hU⟩:=B
   refine(ju d Z #[_,Z,gE,λl N=>#[l,_,Z,.inr (ay.of jc),Z,Z,_,Z,aV OJ ?_]])
   refine#[_,Z,Z,_,Z,aV OJ ?_]
   refine#[_,Z,Z,_,Z,aV OJ ?_]
   refine#[_,Z,Z,_,Z,aV OJ ?_]
   exact#[_,Z,q g G _ (ao c.at' N) c.nm.mem OG (je N)]
  |cl x f' q' ts=>
   obtain⟨rfl,h8,X⟩:=B
   refine(ju d Z #[_,Z,gE,λl N=>#[l,_,Z,.inr (ay.of jc),Z,Z,_,Z,cy OJ ?_]])
   have S:ae H (ah H l (.tup [.str "set",.str "read",.str "call"])):=je N
   refine#[_,Z,g,Z,#[_,aG.of (S _ _ c.at')],KB (λy=>!decide (V.str y=V.str x)) OG (S _ _ c.at') (λy I Q' hy k C=>?_) (λy I Q' hy C=>#[_,Z,C]) λH' k r j=>?_]
   ·exact#[_,Z,ju (k _ _ (S _ _ d)) Z #[Z,_,Z,C _ (ae.refl _)]]
   ·refine q r _ _ jc (λy=>?_) (Ik (MV ..) OG) ((S.trans k).trans (je j))
    rw[List.mem_filter,c.nm.mem y]
    exact and_congr_right λ_=>by simp
  |gv t T=>
   obtain⟨rfl,X⟩:=B
   refine(ju d Z #[_,Z,gE,λl N=>#[l,_,Z,.inr (ay.of jc),Z,Z,_,Z,aV OJ ?_]])
   refine#[_,Z,Z,_,Z,aV OJ ?_]
   refine#[_,Z,Z,_,Z,aV OJ ?_]
   refine#[_,Z,Z,_,Z,cy OJ ?_]
   exact#[iK,λr j=>q r [] _ jc (λy=>#[λh=>absurd h IL,λh=>(show False from h).elim]) (Il _) ((je N).trans (je j))]
 |ite p t T a b qa qb as bs d h0 B h3 h4 h5=>
  refine(ju d Z #[_,Z,gE,λl N=>#[l,_,Z,.inr (ay.of jc),Z,Z,_,Z,aV OJ ?_]])
  refine#[_,Z,Z,_,Z,cy OJ ?_]
  have S:ae H (ah H l (.tup [.str "set",.str "read",.str "call"])):=je N
  have h6:max (max a.dep b.dep+1) 0 < n+1:=hd
  have h7:a.size+b.size+0+1<=10000000:=hz
  refine(ju (S _ _ d) Z #[_,Z,qa,g,a,as,G,M,Y,Z,S _ _ B,h4.mono (ae.tm S),(c.same S).nu,W.2.1,OG,OG,λr1 z1 I _ D k1=>?_])
  have z:=S.trans k1
  refine(ju (z _ _ d) Z #[_,Z,qb,g,b,bs,G,M,Y,Z,z _ _ h3,h5.mono (ae.tm z),(c.same z).nu,W.2.2.1,OG,OG,λr2 z2 H2 _ n2 k2=>?_])
  have l1:=D.len
  have l2:=n2.len
  have b0:=zw
  refine#[r1,r2,_,_,Z,Z,k2 _ _ D.at',n2.at',by rw[HZ,HZ];omega,λr j=>q r (z1++z2) _ (by rw[jc,IJ]) (λy=>?_) (by rw[Ia];omega) ((z.trans k2).trans (je j))]
  rw[My,D.nm.mem y,n2.nm.mem y]
  exact Oh
 |loop p t T a qa as d h0 B h3=>
  refine(ju d Z #[_,Z,gE,λl N=>#[l,_,Z,.inr (ay.of jc),Z,Z,_,Z,aV OJ ?_]])
  refine#[_,Z,Z,_,Z,aV OJ ?_]
  refine#[_,Z,Z,_,Z,cy OJ ?_]
  have S:ae H (ah H l (.tup [.str "set",.str "read",.str "call"])):=je N
  have h6:max (a.dep+1) 0 < n+1:=hd
  have h7:a.size+0+1<=10000000:=hz
  refine(ju (S _ _ d) Z #[iK,λe ne=>?_])
  have z:=S.trans (je (o:=.lst []) ne)
  refine#[qa,e,a,as,[],λ_=>False,Y,Z,z _ _ B,h3.mono (ae.tm z),(NL.nu #[jc,Nm.empty,λ_ w=>w.elim,c.y20]),W.2.1,OG,OG,λr1 z1 I _ D k1=>?_]
  have l1:=D.len
  have s3:=z.trans k1
  have b0:=zw
  refine#[_,Z,r1,g,_,_,Z,Z,D.at',s3 _ _ c.at',by rw[HZ,HZ];omega,λr j=>q r (z1++G) _ (by rw[jc,IJ]) (λy=>?_) (by rw[Ia];omega) (s3.trans (je j))]
  rw[My,D.nm.mem y,c.nm.mem y]
  exact Oh
theorem Ca(h:gU H v s):∀c∈s.own,ba H c.2 c.1:=by
 cases h with
 |lf p l V _ d=>
  cases l with
  |rd x t T |st x t T |gv t T=>intro c hc;rw[List.mem_singleton.mp hc];exact d.2
  |wr t u T U=>
   intro c hc
   rcases List.mem_cons.mp hc with e |hc
   ·rw[e];exact d.2.1
   ·rw[List.mem_singleton.mp hc];exact d.2.2
  |cl x f q i=>exact d.2.2
 |ite p t T a b Q j A B _ g _ _ _ _ |loop p t T a Q A _ g _ _=>intro c hc;rw[List.mem_singleton.mp hc];exact g
theorem Cb(h:gU H v s)(o:s.Ok y):s.own.length<=100/\∀c∈s.own,dh y c.2:=by
 have one:∀(t:Addr) (T:Tm),dh y T->[(t,T)].length<=100/\∀c∈[(t,T)],dh y c.2:=λt T h=>#[by show 1<=100;omega,λc hc=>by rw[List.mem_singleton.mp hc];exact h]
 cases h with
 |lf p l V _ g=>
  cases l with
  |rd x t T |st x t T=>exact one t T o.1.2
  |wr t u T U=>
   refine#[by show 2<=100;omega,λc hc=>?_]
   rcases List.mem_cons.mp hc with e |hc
   ·rw[e];exact o.1.1
   ·rw[List.mem_singleton.mp hc];exact o.1.2
  |cl x f q i=>exact#[Ik o.1.2.1 OF,o.1.2.2]
  |gv t T=>exact one t T o.1
 |ite p t T a b Q j A B _ d _ _ _ _ |loop p t T a Q A _ d _ _=>exact one t T o.1
theorem app_assoc:∀(a b c:Bd),(a.app b).app c=a.app (b.app c)
 | .nil,_,_=>rfl
 | .lf p l r,b,c=>by show Bd.lf p l ((r.app b).app c)=_;rw[app_assoc r b c];rfl
 | .ite p t T x y r,b,c=>by show Bd.ite p t T x y ((r.app b).app c)=_;rw[app_assoc r b c];rfl
 | .loop p t T x r,b,c=>by show Bd.loop p t T x ((r.app b).app c)=_;rw[app_assoc r b c];rfl
theorem app_nil:∀(a:Bd),a.app .nil=a
 | .nil=>rfl
 | .lf p l r=>by show Bd.lf p l (r.app .nil)=_;rw[app_nil r]
 | .ite p t T x y r=>by show Bd.ite p t T x y (r.app .nil)=_;rw[app_nil r]
 | .loop p t T x r=>by show Bd.loop p t T x (r.app .nil)=_;rw[app_nil r]
inductive OI(v:V)(g r k:Addr)(s:Bd)(M:Str->Prop)(b:Hp)(i:Nat)(n:_L.St)(a:Hp):Prop
 |mk(l:Option V)(m:List Str)(d:n=[some v,some (.ref g),some (.ref k),l])(e:a k=some (.lst (m.map V.str)))(f:∀y,y∈m↔s.bt M y∨∃c∈s.own.take i,y∈c.2.vars)(h:m.length<=50+21*i)(j:aB k b a)
theorem uB:ai ["statement","behind","names","term"] z3z (aa xY):=bp
theorem sP{L:Nat}(F:aI K "used_ahead_of" "used_ahead_of" xY f fd)(cB:Cl P w K mg base (L+9) fB f0 z3z (uL n) "used_behind_terms")(cO:Cl P w K mg base 1 fO f2 z5z mP "own_terms")(cN:Cl P w K mg base 7 fN f3 z1z (db 6) "names_in")(m0:mg "list"=none)(m2:mg "set"=none)(m3:mg "sorted"=none):af P w K mg base aA (L+10) f fd z3z (gi n):=by
 refine F.ok uB ?_ λc0 A o0 s H vs Q E t h=>?_
 ·rintro _ _ _ _ ⟨v,g,s,ss,M,Y,rfl,_⟩
  rfl
 obtain⟨v,g,st,ss,M,Y,rfl,j,u,U,hd,hz,q⟩:=h
 refine#[_,(jd (jz 2 uB.nd (jE q9 Z m0 boot_list (ja (cB.e t.m (ja (pv 0) (ja (pv 1) jb))) jb))) (jd (jX IK Z (zJ (cO.e t.m (ja (pv 0) jb))) (jv (i:=3) uB.nd Z (Or.inl Z)) (jg (jJ (j9 Ii Mc Mb qt (pv 2) (ja (cN.e t.m (ja (pv 3) jb)) jb))))) (jg (jo (jS (zZ Z) Z m3 boot_sorted (ja (jE (qK Z) Z m2 boot_set (ja (pv 2) jb)) jb)))))),?_]
 refine aj λF1 C=>#[_,Z,_,Z,v,g,st,ss,M,Y,Z,j,u,U,hd,hz,λr1 G H1 e1 m1 l1 k1=>#[r1,_,Z,.inl (aG.of e1),λN I=>C _ _ ?_]]
 clear C
 have s2:ae H (ah H1 N (.lst (G.map V.str))):=k1.trans (je I)
 have J:=j.mono (ae.tm s2)
 obtain⟨o1,O⟩:=Cb j U
 have a:ah H1 N (.lst (G.map V.str)) N=some (.lst (G.map V.str)):=jc
 have h0:H N=none:=k1.free I
 generalize ah H1 N (.lst (G.map V.str))=H2 at s2 J a
 refine aj λF1 C=>?_
 refine dq λF kF=>#[_,Z,v,st,Z,J,λr H3 t W=>#[r,Z,#[_,ay.of t],kF _ _ ?_]]
 clear kF
 have r0:r≠N:=jO t (W _ _ a) (by intro z;cases z)
 have s3:=s2.trans W
 have b0:=zw
 refine qj (K:=K) (xs:=st.own.map rT) (OI v g r N st M H3) #[_,G,Z,W _ _ a,λy=>?_,OG,aB.refl] (λi σ H' hi h=>?_) ?_ (λσ H' h=>C _ _ ?_)
 ·rw[m1 y]
  exact#[.inl,λz=>z.elim (λw=>w) λ#[c,p,_]=>absurd p IL]
 ·obtain⟨_,_,_,_,_,_,k⟩:=h
  exact ay.of (k _ _ r0 t)
 ·clear C
  intro E _ i x σ H4 B fE Gq D h
  obtain⟨o3,X,rfl,h1,R,h3,k4⟩:=h
  rw[Ir]at B
  cases p:st.own[i]? with
  |none=>rw[p]at B;cases B
  |some c=>
   rw[p]at B
   cases B
   refine D ?_
   clear D
   have cm:=IA p
   have hi:i < st.own.length:=by
    rcases No i st.own.length with z |z
    ·exact z
    ·rw[Ll z]at p;cases p
   have tm:al H3 H4:=λb xs e=>k4 b _ (jO e (W _ _ a) (by intro z;cases z)) e
   show px _ E [some v,some (.ref g),some (.ref N),some (.ref c.1)] H4
   refine#[_,Z,.inl #[Z,_,aG.of h1],_,Z,c.1,c.2,Y,Z,((Ca j c cm).mono (ae.tm s3)).mono tm,(O c cm).2,(O c cm).1,u.y20,λr5 s5 H5 n5 e5 d5 m5 o5 k5=>?_]
   have l5:s5.length<=21:=Ik (kf d5 λx B=>kH (O c cm).1 x ((m5 x).mp B)) u.y20
   refine#[N,r5,_,_,Z,Z,k5 _ _ h1,e5,by rw[HZ,HZ];omega,fE _ _ #[_,X++s5,Z,by rw[jc,IJ],λy=>?_,by rw[Ia];omega,λb o nb e=>?_]]
   ·rw[My,R y,m5 y,LB,p]
    refine#[λz=>z.elim (λz=>z.elim .inl λ#[d,hd,w]=>.inr #[d,Lv _ hd,w]) λw=>.inr #[c,Iw _ (List.mem_singleton.mpr Z),w],λz=>z.elim (λw=>.inl (.inl w)) λ#[d,hd,w]=>?_]
    rcases List.mem_append.mp hd with hd |hd
    ·exact .inl (.inr #[d,hd,w])
    ·have ed:d=c:=List.mem_singleton.mp hd
     rw[ed]at w
     exact .inr w
   ·rw[jh nb]
    exact k5 _ _ (k4 b o nb e)
 ·obtain⟨o3,X,rfl,h1,R,h3,k4⟩:=h
  clear C
  rw[HZ]at R h3
  have s4:ae H H':=λb o e=>k4 b o (jk e h0) (s3 _ _ e)
  refine#[_,Z,N,X,Z,aG.of h1,(λL nd j=>LF (LD (kf nd j)) (by show X.length+1 < 4096;omega)),λl L S h4 hm=>?_]
  have sub:∀y∈L,y∈Y:=λy hy=>Bd.use_in U u.sub y ((ve j M y).mpr (by have:=(R y).mp ((hm y).mp hy);rwa [Lj]at this))
  have lL:=Ik (kf h4 sub) u.y20
  refine#[l,L,Z,jc,OG,λr' s0 T pm nd so=>?_]
  refine q r' s0 _ ((s4.trans (je S)).free T) #[jc,#[pm.nodup_iff.mpr nd,so,λy=>?_],Bd.use_in U u.sub,u.y20] ((s4.trans (je S)).trans (je T))
  rw[pm.mem_iff,hm y,R y,ve j M y,Lj]
theorem none_of(s:ae H h)(n:h r=none):H r=none:=by
 cases z:H r with
 |none=>rfl
 |some o=>have:=s _ _ z;rw[n]at this;cases this
inductive UI(a g:Addr)(b:Bd)(p:List V)(M:Str->Prop)(q:List Str)(H:Hp)(i:Nat)(s:_L.St)(d:Hp):Prop
 |mk(n:Addr)(o:Option V)(c m:Bd)(r:List Str)(e:s=[some (.ref a),some (.ref g),some (.ref n),o])(f:b=c.app m)(h:dw H c (p.take (p.length - i)))(j:NL d n r (m.use M) q)(k:ae H d)(l:H n=none)
theorem oQ:ai ["body","behind","names","statement"] z14z (aa xX):=bp
theorem BU{L:Nat}(F:aI K "used_ahead" "used_ahead" xX f fd)(cU:Cl P w K mg base (L+10) fU f0 z3z (gi n) "used_ahead_of")(J:mg "sorted"=none)(N:mg "reversed"=none):af P w K mg base aA (L+11) f fd z14z (iI (n+1)):=by
 refine F.ok oQ ?_ λc0 A O s H vs Q E hr h=>?_
 ·rintro _ _ _ _ ⟨a,g,b,xs,R,M,Y,rfl,_⟩
  rfl
 obtain⟨a,g,b,xs,R,M,Y,rfl,ha,hb,d,ho,hd,hz,q⟩:=h
 refine#[_,(jd (jz 2 oQ.nd (jS QV Z J boot_sorted (ja (pv 1) jb))) (jd (jX IK Z (@sY _ _ _ _ _ _ _ Z N boot_reversed (pv 0) OF OF OK OK) (jv (i:=3) oQ.nd Z (Or.inl Z)) (jg (jz 2 oQ.nd (cU.e hr.m (ja (pv 3) (ja (pv 2) jb)))))) (jg (jo (pv 2))))),?_]
 have g0:R.length<=21:=Ik (kf d.nd λx o=>d.sub x ((d.mem x).mp o)) d.y20
 have b0:=aF
 refine aj λF1 t=>#[_,Z,g,R,Z,aG.of d.at',OG,λl c nl pm so=>t _ _ ?_]
 clear t
 have T:Nm c M:=#[pm.nodup_iff.mpr d.nd,so,λx=>pm.mem_iff.trans (d.mem x)]
 have U:ae H (ah H l (.lst (c.map V.str))):=je nl
 have u:NL (ah H l (.lst (c.map V.str))) l c M Y:=#[jc,T,d.sub,d.y20]
 generalize ah H l (.lst (c.map V.str))=H1 at U u
 have xl:=hb.len
 refine aj λF1 t=>?_
 refine dq λF kF=>#[_,Z,a,xs,Z,ay.of (U _ _ ha),kF _ _ ?_]
 clear kF
 refine Xg (K:=K) (xs:=xs) (UI a g b xs M Y H) #[l,_,b,.nil,c,Z,(app_nil b).symm,by rw[N0,Lj];exact hb,u,U,nl] (λi σ H' hi h=>?_) ?_ (λσ H' h=>t _ _ ?_)
 ·obtain⟨_,_,_,_,_,_,_,_,_,k,_⟩:=h
  exact ay.of (k _ _ ha)
 ·clear t
  intro E _ i x σ H2 o fE Gq p h
  obtain⟨I,o3,pre,eW,W,rfl,j,y,X,B,n2⟩:=h
  have hi:i < xs.length:=by
   rcases No i xs.length with z |z
   ·exact z
   ·rw[Ll (by simpa using z)]at o;cases o
  rw[MW hi]at o
  have et:xs.take (xs.length - i)=xs.take (xs.length - (i+1))++[x]:=by
   have C:xs.length - i=(xs.length - 1 - i)+1:=by omega
   have e2:xs.length - (i+1)=xs.length - 1 - i:=by omega
   rw[C,e2,LB,o]
   rfl
  rw[et]at y
  rcases y.last with ⟨e,_⟩ | ⟨ws,v,D,S,C,e2,h4,h5⟩
  ·exact absurd e OH
  obtain⟨ew,ev⟩:=List.append_inj' C Z
  cases ev
  subst e2
  have h0:=zL (j▸ho)
  have G:=zL h0.1
  have a1:b.dep=max (D.app S).dep eW.dep:=by rw[j,zj]
  have a2:(D.app S).dep=max D.dep S.dep:=zj ..
  have h6:S.dep<=b.dep:=by rw[a1,a2];exact Ik (MX ..) (M3 ..)
  clear a1 a2
  have h7:S.size<=b.size:=by rw[j,jZ,jZ];omega
  refine p ?_
  clear p
  show du _ _ E [some (.ref a),some (.ref g),some (.ref I),some x] H2
  refine#[_,Z,_,Z,x,I,S,W,eW.use M,Y,Z,h5.mono (ae.tm B),X,G.2,OG,OG,λr z H3 nr n3 k3=>fE _ _ #[r,_,D,S.app eW,z,Z,by rw[j,app_assoc],?_,by rw[JK];exact n3,B.trans k3,none_of B nr]]
  rw[ew]
  exact h4
 ·obtain⟨I,o3,pre,eW,W,rfl,j,y,X,B,n2⟩:=h
  rw[M4]at y
  have ep:pre= .nil:=by
   rcases y.last with ⟨_,e⟩ | ⟨ws,v,D,S,C,_⟩
   ·exact e
   ·exact absurd C OH
  rw[ep]at j
  refine#[_,Z,q I W H' n2 ?_ B]
  rw[j]
  exact X
theorem Bp:af P w K mg base aA k f e z14z (iI 0):=by
 have n:∀v H Q E,¬iI 0 v H Q E:=λv H Q E h=>by
  obtain⟨a,g,b,x,S,M,y,_,_,_,_,_,d,_⟩:=h
  exact absurd d (M1 _)
 exact#[λv H Q E h=>absurd h (n v H Q E),λA o s H c u v Q E _ _ _ _ h=>absurd h (n v H Q E)]
theorem Fg(F:aI K "used_ahead" "used_ahead" xX f e)(FB:aI K "used_behind_terms" "used_behind_terms" uf r g)(d:aI K "used_ahead_of" "used_ahead_of" xY o b)
  (B:ax K e z14z []) (i:mg "used_ahead"=some (.ref f)) (j:ax K g z3z []) (k:mg "used_behind_terms"=some (.ref r)) (p:ax K b z3z []) (q:mg "used_ahead_of"=some (.ref o)) (C:Cl P w K mg base 1 u s z5z mP "own_terms") (l:Cl P w K mg base 7 v t z1z (db 6) "names_in") (M:mg "list"=none) (a:mg "set"=none) (m:mg "sorted"=none) (c:mg "reversed"=none):
  ∀n:Nat,af P w K mg base aA (3*n+8) f e z14z (iI n)/\af P w K mg base aA (3*n+10) o b z3z (gi n)
 |0=>by
  have h:af P w K mg base aA 8 f e z14z (iI 0):=Bp
  have H:=sO (L:=8) (n:=0) FB #[h,B,F.kp,i]
  exact#[h,sP (L:=0) d #[H,j,FB.kp,k] C l M a m]
 |n+1=>by
  have I:=(Fg F FB d B i j k p q C l M a m c n).2
  have h:=BU (L:=3*n) F #[I,p,d.kp,q] m c
  have E:3*n+11=3*(n+1)+8:=by omega
  rw[E]at h
  have H:=sO (L:=3*(n+1)+8) (n:=n+1) FB #[h,B,F.kp,i]
  exact#[h,sP (L:=3*(n+1)) d #[H,j,FB.kp,k] C l M a m]
noncomputable abbrev CA:Stmt:=bu 44
noncomputable abbrev tS:Stmt:=bu 47
noncomputable abbrev tL:Stmt:=bu 48
noncomputable abbrev lH:Stmt:=bu 49
noncomputable abbrev tV:Stmt:=bu 50
noncomputable def Lf.cut:Lf->Nat
 | .st _ _ _=>0
 | .gv _ _=>0
 |_=>1
noncomputable def Bd.cuts:Bd->Nat
 | .nil=>0
 | .lf _ l r=>l.cut+r.cuts
 | .ite _ _ _ a b r=>1+a.cuts+b.cuts+r.cuts
 | .loop _ _ _ a r=>1+a.cuts+r.cuts
noncomputable def Bd.inn:Bd->Bd
 | .ite _ _ _ a b _=>a.app b
 | .loop _ _ _ a _=>a
 |_=>.nil
theorem zQ:∀(a b:Bd),(a.app b).cuts=a.cuts+b.cuts
 | .nil,b=>by show b.cuts=0+b.cuts;omega
 | .lf _ l r,b=>by have:=zQ r b;show l.cut+(r.app b).cuts=l.cut+r.cuts+b.cuts;omega
 | .ite _ _ _ x y r,b=>by have:=zQ r b;show 1+x.cuts+y.cuts+(r.app b).cuts=1+x.cuts+y.cuts+r.cuts+b.cuts;omega
 | .loop _ _ _ x r,b=>by have:=zQ r b;show 1+x.cuts+(r.app b).cuts=1+x.cuts+r.cuts+b.cuts;omega
inductive mH(b:List V)(H:Hp)(Q:VK)(a:XK):Prop
 |mk(v:V)(s:Bd)(_:b=[v])(_:gU H v s)(_:s.size<=10000000)(_:∀(r:Addr) (xs:List V) (H':Hp),H' r=some (.tup xs)->dw H' s.inn xs->ae H H'->Q (.ref r) H')
inductive gD(d:List V)(H:Hp)(Q:VK)(c:XK):Prop
 |mk(a:Addr)(b:Bd)(e:List V)(_:d=[.ref a])(_:H a=some (.tup e))(_:dw H b e)(_:b.size<=10000000)(_:∀H',ae H H'->Q (.int (b.cuts:Int)) H')
theorem EH:ai z5z z5z (aa CA):=bp
theorem Bv(F:aI K "bodies_in" "bodies_in" CA f y):af P w K mg base aA 1 f y z5z mH:=by
 refine F.ok EH ?_ λC A o s H V Q E j h=>?_
 ·rintro _ _ _ _ ⟨v,s,rfl,_⟩
  rfl
 obtain⟨v,st,rfl,z,B,q⟩:=h
 refine#[_,(jd (jx (kh (jy (pv 0))) (jg (jo (jw j7 (jy (pv 0)) (jy (pv 0))))) jp) (jd (jx (kh (jy (pv 0))) (jg (jo (jy (pv 0)))) jp) (jg (jo (ji jb))))),?_]
 have D:=aF
 cases z with
 |lf p l V c d=>
  cases l with
  |rd x t T |st x t T |wr t u T U |cl x f R S |gv t T=>
   obtain⟨rfl,_⟩:=d
   refine(ju c Z #[Z,_,Z,aV OJ ?_])
   refine(ju c Z #[Z,_,Z,aV OJ ?_])
   exact#[iK,λr N=>q r [] _ jc Z (je N)]
 |ite p t T a b e G g I c J d i m n=>
  refine(ju c Z #[Z,_,Z,cy OJ ?_])
  have L:a.size+b.size+0+1<=10000000:=B
  have W:=m.len
  have X:=n.len
  exact(ju c Z (ju c Z #[e,G,g,I,Z,Z,d,i,OG,λr M j s=>q r _ M j ((n.mono (ae.tm s)).app (m.mono (ae.tm s))) s]))
 |loop p t T a e g c J d i=>
  refine(ju c Z #[Z,_,Z,aV OJ ?_])
  refine(ju c Z #[Z,_,Z,cy OJ ?_])
  exact(ju c Z (q e g H d i (ae.refl H)))
theorem yk(h:gU H v s):s.inn.size < s.size/\∃(p:Addr) (w:Str) (r:List V),v= .ref p/\H p=some (.tup (.str w::r))/\s.cuts=(if ou (.str w) [.str "set",.str "give"]=true then 0 else 1)+s.inn.cuts:=by
 cases h with
 |lf p l i c d=>
  refine#[Nat.zero_lt_succ _,?_]
  cases l with
  |rd x t T |wr t u T U |cl x f Q j=>obtain⟨rfl,_⟩:=d;exact#[p,_,_,Z,c,by rw[Iu OJ];rfl]
  |st x t T |gv t T=>obtain⟨rfl,_⟩:=d;exact#[p,_,_,Z,c,by rw[Io OJ];rfl]
 |ite p t T a b q k A B c e d g m n=>
  refine#[by show(a.app b).size < a.size+b.size+0+1;rw[jZ];omega,p,_,_,Z,c,?_]
  rw[Iu OJ]
  show 1+a.cuts+b.cuts+0=1+(a.app b).cuts
  rw[zQ]
  omega
 |loop p t T a q A c e d g=>
  refine#[by show a.size < a.size+0+1;omega,p,_,_,Z,c,?_]
  rw[Iu OJ]
  show 1+a.cuts+0=1+a.cuts
  omega
theorem eZ:dD (v::y) 0=some v:=jK (j:=0) Z
inductive MI(a n:Addr)(b:Bd)(H:Hp)(m:Nat)(p:_L.St)(c:Hp):Prop
 |mk(l:Option V)(W:Bd)(o:List V)(k:Nat)(d:m=W.size)(e:p=[some (.ref a),some (.int (k:Int)),some (.ref n),l])(f:c n=some (.lst o))(g:dw c W o)(h:k+W.cuts=b.cuts)(i:W.size<=10000000)(j:aB n H c)
theorem ip:ai ["body","many","todo","statement"] ["body"] (aa tS):=bp
theorem wV(F:aI K "many_cuts" "many_cuts" tS f fd)(cB:Cl P w K mg base 1 fB f0 z5z mH "bodies_in")(m0:mg "list"=none):af P w K mg base aA 2 f fd ["body"] gD:=by
 refine F.ok ip ?_ λc0 A o0 s H vs Q E hr h=>?_
 ·rintro _ _ _ _ ⟨a,b,xs,rfl,_⟩
  rfl
 obtain⟨a,b,xs,rfl,ha,hb,hz,q⟩:=h
 refine#[_,(jd (jz 1 ip.nd jf) (jd (jz 2 ip.nd (jE q9 Z m0 boot_list (ja (pv 0) jb))) (jd (Q6 IK (@tE _ _ _ (pv 2) (λ_=>Z)) (jd (jz 3 ip.nd (Ci Ii PySem.F.slot_list_pop PySem.F.type_list_pop Bl (pv 2))) (jd (j8 (jx (jC q8 (jy (pv 3)) (ji (ja jm (ja jm jb))) Z) (jg (Cp (i:=1) ip.nd Z (Or.inl Z) jf A6)) jp)) (jg (jJ (j9 Ii Mc Mb Yl (pv 2) (ja (cB.e hr.m (ja (pv 3) jb)) jb))))))) (jg (jo (pv 1)))))),?_]
 have b0:=aF
 refine aj λU d=>d _ _ ?_
 clear d
 refine aj λU d=>#[_,Z,a,_,Z,.inr (ay.of ha),λt C=>d _ _ ?_]
 clear d
 have s0:ae H (ah H t (.lst xs)):=je C
 refine aj λU d=>?_
 refine vk (MI a t b H) b.size #[_,b,xs,0,Z,Z,jc,hb.mono (ae.tm s0),OG,hz,λc o N e=>s0 _ _ e] ?_
 intro m σ D E _ fE F X Y Gq y h
 obtain⟨o3,W,zs,k,rfl,rfl,x,h2,h3,h4,h5⟩:=h
 refine y #[_,Z,!zs.isEmpty,.inl #[zs,aG.of x,Z],?_]
 clear y
 rcases h2.last with ⟨e1,e2⟩ | ⟨g,v,B,n,e1,e2,g1,g2⟩
 ·rw[e1]
  refine Y _ (d _ _ #[_,Z,?_])
  rw[e2]at h3
  have e3:k=b.cuts:=by have:k+0=b.cuts:=h3;omega
  rw[e3]
  exact q _ λc o e=>h5 c o (jk e C) e
 ·rw[e1]
  have ne:(!(g++[v]).isEmpty)=true:=by cases g<;>rfl
  rw[ne]
  refine X _ ?_
  clear Y X d
  have h6:W.size=B.size+n.size:=by rw[e2,jZ]
  have h7:W.cuts=B.cuts+n.cuts:=by rw[e2,zQ]
  obtain⟨h8,p,w',r,rfl,hp,hc⟩:=yk g2
  rw[e1]at x
  refine aj λU d=>#[_,Z,.inl #[Z,_,aG.of x],t,_,.ref p,Z,Z,x,OH,d _ _ ?_]
  clear d
  rw[List.dropLast_concat]
  have T:al D (ah D t (.lst g)):=λc ys e=>by rw[jh (jO e x (by intro z;cases z))];exact e
  have t2:ah D t (.lst g) t=some (.lst g):=jc
  have u:=g1.mono T
  have I:=g2.mono T
  have J:=T _ _ hp
  have k2:aB t H (ah D t (.lst g)):=λc o N e=>by rw[jh N];exact h5 c o N e
  generalize ah D t (.lst g)=H2 at t2 u I J k2
  clear T x h2 h5 g1 g2 hp
  have R:∀(j:Nat) (H3:Hp),ae H2 H3->j+B.cuts+n.inn.cuts=b.cuts->px (Gz K "list" (ie K) (aW 2) (am (dQ mH [] E0 (am (aW 3) aK)) aK)) E [some (.ref a),some (.int (j:Int)),some (.ref t),some (.ref p)] H3:=λj H3 L hk=>by
   have g0:=I.mono (ae.tm L)
   refine#[_,Z,.inl #[Z,_,aG.of (L _ _ t2)],_,Z,.ref p,n,Z,g0,OG,λr' ys H4 h0 hy s4=>?_]
   have S:=L.trans s4
   have l1:=u.len
   have l2:=hy.len
   refine#[t,r',g,ys,Z,Z,S _ _ t2,ay.of h0,OG,fE (B.app n.inn).size _ _ (by rw[jZ];omega) #[_,B.app n.inn,g++ys,j,Z,Z,jc,?_,by rw[zQ];omega,by rw[jZ];omega,λc o N e=>?_]]
   ·have M:al H4 (ah H4 t (.lst (g++ys))):=λc z0 e=>by rw[jh (jO e (S _ _ t2) (by intro z;cases z))];exact e
    exact(hy.mono M).app ((u.mono (ae.tm S)).mono M)
   ·rw[jh N]
    exact S _ _ (k2 c o N e)
  refine aj λU d=>dB (λO H'=>∃j:Nat,O=[some (.ref a),some (.int (j:Int)),some (.ref t),some (.ref p)]/\ae H2 H'/\j+B.cuts+n.inn.cuts=b.cuts) (λE2 _ fm=>?_) λO H' h=>?_
  ·clear d fE
   refine nP λG X Y=>(ju J eZ #[bM,λl nl=>#[l,_,Z,.inr (ay.of jc),Z,Z,_,Z,?_]])
   cases hv:ou (.str w') [.str "set",.str "give"] with
   |true=>
    rw[hv,Io Z]at hc
    exact Y _ (fm _ _ #[k,Z,je nl,OG])
   |false=>
    rw[hv,Iu Ih]at hc
    refine X _ #[_,Z,_,_,Z,Z,fm _ _ #[k+1,?_,je nl,OG]]
    show [_,some (V.int ((k:Int)+1)),_,_]=[_,some (V.int ((k+1:Nat):Int)),_,_]
    rfl
  ·obtain⟨j,rfl,L,hk⟩:=h
   exact d _ _ (R j H' L hk)
end _K
namespace _K
open PySem PySem.Spec PyProof.Rows _L
variable {P:Program}{w:World}{K:Frag}{mg:Str->Option Value}{base:Heap}
inductive Fm where
 |go (n:Int) |give (t:Addr)
structure Wy where
 sets:List (Str×Addr)
 goal:Fm
inductive Dd where
 |st (p:Addr) |ask (t:Addr)
structure Ct where
 M:Str->Prop
 d:Dd
 ws:List Wy
structure Pc where
 M:Str->Prop
 w:Wy
def aN(H:Hp):Tr->V->List V->Prop
 | .lf v,x,_=>x=v/\HD v=true
 | .tp l,x,_=>l.isL=true/\∃a X,x= .ref a/\H a=some (.tup X)/\aN H l .non X
 | .nil,_,X=>X=[]
 | .cons h t,_,X=>h.isL=false/\t.isL=true/\∃y Y,X=y::Y/\aN H h y []/\aN H t .non Y
theorem aN.mono(k:al H d):∀{t:Tr} {x:V} {X:List V},aN H t x X->aN d t x X:=by
 intro t
 induction t with
 |lf v |nil=>exactλh=>h
 |tp l f=>rintro x X ⟨h,a,Y,e,b,c⟩;exact#[h,a,Y,e,k _ _ b,f c]
 |cons h t i I=>rintro x X ⟨E,g,y,Y,e,b,c⟩;exact#[E,g,y,Y,e,i b,I c]
noncomputable def aC:List Tr->Tr
 | []=>.nil
 |t::T=>.cons t (aC T)
theorem Qu:∀t:List Tr,(aC t).isL=true
 | []=>rfl
 |_::_=>rfl
noncomputable def aE(t:List Tr):Tr:=.tp (aC t)
noncomputable def aJ(x:Str):Tr:=.lf (.str x)
noncomputable def pO(a:Addr):Tr:=.lf (.ref a)
noncomputable def aw(n:Int):Tr:=.lf (.int n)
section
variable {H:Hp}
theorem jB:aN H (aC []) .non []:=rfl
theorem jl{t:Tr}(h:t.isL=false)(a:aN H t y [])(b:aN H (aC T) .non Y):aN H (aC (t::T)) .non (y::Y):=#[h,Qu T,y,Y,Z,a,b]
theorem jD(h:H a=some (.tup x))(b:aN H (aC t) .non x):aN H (aE t) (.ref a) []:=#[Qu t,a,x,Z,h,b]
theorem jT:aN H (aJ x) (.str x) []:=#[Z,Z]
theorem Jh:aN H (pO a) (.ref a) []:=#[Z,Z]
theorem jU:aN H (aw n) (.int n) []:=#[Z,Z]
theorem JL(a:aN H (aC s) .non Y):∀{T:List Tr} {x:List V},aN H (aC T) .non x->aN H (aC (T++s)) .non (x++Y)
 | [],x,h=>by have e:x=[]:=h;rw[e];exact a
 |t::T,x,h=>by obtain⟨E,_,y,z,e,b,c⟩:=h;rw[e];exact jl E b (JL a c)
theorem ze:∀{T:List Tr} {x:List V},aN H (aC T) .non x->x.length=T.length
 | [],x,h=>by have e:x=[]:=h;rw[e];rfl
 |t::T,x,h=>by obtain⟨_,_,y,z,e,_,a⟩:=h;rw[e,IH,IH,ze a]
theorem Xk:∀(S:List Str),aN H (aC (S.map aJ)) .non (S.map V.str)
 | []=>rfl
 |s::S=>jl Z jT (Xk S)
theorem YT:∀{T:List Tr} {x:List V},aN H (aC T) .non x->aN H (aC T.reverse) .non x.reverse
 | [],x,h=>by have e:x=[]:=h;rw[e];rfl
 |t::T,x,h=>by
  obtain⟨E,_,y,z,e,a,b⟩:=h
  rw[e,Mm,Mm]
  exact JL (jl E a jB) (YT b)
theorem qG:∀{T:List Tr} {X:List V},aN H (aC T) .non X->∀(i:Nat) (x:V),X[i]?=some x->∃t,T[i]?=some t/\aN H t x []
 | [],X,h,i,x,a=>by have e:X=[]:=h;rw[e]at a;simp at a
 |t::T,X,h,0,x,a=>by obtain⟨_,_,y,z,e,b,c⟩:=h;rw[e]at a;cases a;exact#[t,Z,b]
 |t::T,X,h,i+1,x,a=>by obtain⟨_,_,y,z,e,b,c⟩:=h;rw[e]at a;simpa using qG c i x (by simpa using a)
end
noncomputable def setT(s:Str×Addr):Tr:=aE [aJ s.1,pO s.2]
noncomputable def wu:Fm->Tr
 | .go n=>aE [aJ "go",aw n]
 | .give t=>aE [aJ "give",pO t]
noncomputable def gQ(w:Wy):Tr:=aE [aE (w.sets.map setT),wu w.goal]
noncomputable def Fu:Dd->Tr
 | .st p=>pO p
 | .ask t=>aE [aJ "ask",pO t]
noncomputable def DQ(c:Ct):Tr:=aE [aE ((canon c.M).map aJ),Fu c.d,aE (c.ws.map gQ)]
theorem A2(g:Fm):(wu g).isL=false:=by cases g<;>rfl
theorem DT(d:Dd):(Fu d).isL=false:=by cases d<;>rfl
def ni(H:Hp)(p:Pc)(v:V)(g:Addr)(y:List Str):Prop:=∃(r:Addr) (s:List Str) (W:V),v= .ref r/\H r=some (.tup [.ref g,W])/\NL H g s p.M y/\aN H (gQ p.w) W []
theorem ni.same(h:ni H p v g y)(s:ae H a):ni a p v g y:=by
 obtain⟨r,S,W,e,b,c,d⟩:=h
 exact#[r,S,W,e,s _ _ b,c.same s,d.mono (ae.tm s)]
theorem ni.but(h:ni H p v g y)(k:aB f H c)(d:H f=some (.lst C))(n:g≠f):ni c p v g y:=by
 obtain⟨r,s,W,e,i,a,j⟩:=h
 have t:al H c:=λb x e=>k b _ (jO e d (by intro z;cases z)) e
 exact#[r,s,W,e,t _ _ i,#[k _ _ n a.at',a.nm,a.sub,a.y20],j.mono t]
noncomputable def Lf.isCut:Lf->Bool
 | .st _ _ _=>false
 | .gv _ _=>false
 |_=>true
noncomputable def Bd.deed:Bd->Dd
 | .lf p _ _=>.st p
 | .ite _ t _ _ _ _=>.ask t
 | .loop _ t _ _ _=>.ask t
 | .nil=>.st 0
inductive iz(b:List V)(H:Hp)(Q:VK)(a:XK):Prop
 |mk(v:V)(s:Bd)(_:b=[v])(_:gU H v s)(_:∀(d:V) (H':Hp),aN H' (Fu s.deed) d []->ae H H'->Q d H')
inductive gg(b:List V)(H:Hp)(Q:VK)(a:XK):Prop
 |mk(t:Addr)(T:Tm)(c:List Str)(_:b=[.ref t])(_:ba H T t)(_:dh c T)(_:c.length<=21)(_:∀(v:V) (g:Addr) (H':Hp),ni H' #[λx=>x∈T.vars,#[[],.give t]] v g c->H g=none->ae H H'->Q v H')
inductive ph(K:Frag)(c:List V)(H:Hp)(Q:VK)(b:XK):Prop
 |mk(a:Addr)(_:c=[.ref a])(_:ay K H a [.str "num",.int 0])(_:∀(r:Addr),H r=none->Q (.ref r) (ah H r (.lst [])))
inductive pi(K:Frag)(b:List V)(H:Hp)(Q:VK)(a:XK):Prop
 |mk(t:Addr)(c:List Str)(_:b=[.ref t])(_:ay K H t [.str "num",.int 0])(_:c.length<=21)(_:∀(v:V) (g:Addr) (H':Hp),ni H' #[λx=>x∈(Tm.num 0).vars,#[[],.give t]] v g c->H g=none->ae H H'->Q v H')
open Classical in
noncomputable def iw(x:Str)(t:Addr)(p:Pc):Wy:=if p.M x then #[(x,t)::p.w.sets,p.w.goal] else p.w
inductive iF(d:List V)(H:Hp)(Q:VK)(a:XK):Prop
 |mk(v b:V)(p t:Addr)(x:Str)(T:Tm)(c:Pc)(g:Addr)(e:List Str)(_:d=[v,b])(_:gU H v (.lf p (.st x t T) .nil))(_:ni H c b g e)(_:x∈e)(_:dh e T)(_:c.w.sets.length<=10000000)(_:∀(v':V) (g':Addr) (H':Hp),ni H' #[(Lf.st x t T).use c.M,iw x t c] v' g' e->H g'=none->ae H H'->Q v' H')
theorem CT:ai z5z z5z (aa tL):=bp
theorem wO(F:aI K "deed_of" "deed_of" tL f e):af P w K mg base aA 1 f e z5z iz:=by
 refine F.ok CT ?_ λC A o s H V Q E z h=>?_
 ·rintro _ _ _ _ ⟨v,s,rfl,_⟩
  rfl
 obtain⟨v,st,rfl,g,q⟩:=h
 refine#[_,(jd (jx (jC zc (jy (pv 0)) (ji (ja jm (ja jm jb))) Z) (jg (jo (ji (ja jm (ja (jy (pv 0)) jb))))) jp) (jg (jo (pv 0)))),?_]
 cases g with
 |lf p l V c d=>
  cases l with
  |rd x t T |st x t T |wr t u T U |cl x f B D |gv t T=>
   obtain⟨rfl,_⟩:=d
   refine(ju c Z #[bM,λl n=>#[l,_,Z,.inr (ay.of jc),Z,Z,_,Z,aV OJ ?_]])
   exact#[_,Z,q _ _ Jh (je n)]
 |ite p t T a b i I j J c m d y L M |loop p t T a i j c m d y=>
  refine(ju c Z #[bM,λl n=>#[l,_,Z,.inr (ay.of jc),Z,Z,_,Z,cy OJ ?_]])
  refine(ju (ao c n) Z #[bM,λr N=>?_])
  exact q _ _ (jD jc (jl Z jT (jl Z Jh jB))) ((je n).trans (je N))
theorem BL{fN:Addr}{fdN:FuncData}(F:aI K "names_in" "names_in" em f b)(c:Cl P w K mg base (n+1) f b z1z (db n) "names_in")(m:mg "set"=none)(M:mg "sorted"=none):af P w K mg base aA (n+2) f b z1z (ph K):=by
 refine F.ok ur (λv H Q E h=>?_) (λC A o s H v Q E d h=>?_)
 ·obtain⟨a,rfl,_⟩:=h
  rfl
 obtain⟨a,rfl,g,q⟩:=h
 refine#[_,(jd (jx (kh (jy (pv 0))) (jg (jo (jG jb))) jp) (jd (jx (kh (jy (pv 0))) (jg (jo (jG (ja (jy (pv 0)) jb)))) jp) (jg (jo (jS (zZ Z) Z M boot_sorted (ja (jE (qK Z) Z m boot_set (ja (jw qf (c.e d (ja (jy (pv 0)) jb)) (c.e d (ja (jy (pv 0)) jb))) jb)) jb)))))),?_]
 refine#[_,Z,a,_,_,_,Z,Z,g,Z,Z,_,Z,cy OJ ?_]
 exact#[iK,λr N=>q r N]
theorem oO:ai z1z z1z (aa lH):=bp
theorem sM(F:aI K "place_of_give" "place_of_give" lH f d)(C:Cl P w K mg base 7 U i z1z (db 6) "names_in"):af P w K mg base aA 8 f d z1z gg:=by
 refine F.ok oO ?_ λj A o s H V Q E l h=>?_
 ·rintro _ _ _ _ ⟨t,T,y,rfl,_⟩
  rfl
 obtain⟨t,T,y,rfl,p,O,b,q⟩:=h
 refine#[_,(jg (jo (ji (ja (C.e l.m (ja (pv 0) jb)) (ja (ji (ja (ji jb) (ja (ji (ja jm (ja (pv 0) jb))) jb))) jb))))),?_]
 refine#[_,Z,t,T,y,Z,p,O.2,O.1,b,λg v a z B D M G I=>?_]
 have J:NL a g v (λx=>x∈T.vars) y:=#[B,#[D,G,M],kH O.1,b]
 refine#[iK,λe L=>#[_,Z,bM,λu c=>#[bM,λx N=>#[bM,λr n=>?_]]]]
 have S:ae a (ah (ah (ah (ah a e (.tup [])) u (.tup [.str "give",.ref t])) x (.tup [.ref e,.ref u])) r (.tup [.ref g,.ref x])):=(((je L).trans (je c)).trans (je N)).trans (je n)
 refine q _ g _ #[r,_,.ref x,Z,jc,J.same S,?_] z (I.trans S)
 exact jD (ao jc n) (jl Z (jD (ao (ao (ao jc c) N) n) jB) (jl Z (jD (ao (ao jc N) n) (jl Z jT (jl Z Jh jB))) jB))
theorem BO(F:aI K "place_of_give" "place_of_give" lH f j)(C:Cl P w K mg base 7 G l z1z (ph K) "names_in"):af P w K mg base aA 8 f j z1z (pi K):=by
 refine F.ok oO ?_ λp A o s H V Q E v h=>?_
 ·rintro _ _ _ _ ⟨t,y,rfl,_⟩
  rfl
 obtain⟨t,y,rfl,z,B,q⟩:=h
 refine#[_,(jg (jo (ji (ja (C.e v.m (ja (pv 0) jb)) (ja (ji (ja (ji jb) (ja (ji (ja jm (ja (pv 0) jb))) jb))) jb))))),?_]
 refine#[_,Z,t,Z,z,λg a=>?_]
 have b:ae H (ah H g (.lst [])):=je a
 have c:NL (ah H g (.lst [])) g [] (λx=>x∈(Tm.num 0).vars) y:=#[jc,#[NE,Z,λx=>Oh],λx h=>absurd h IL,B]
 generalize ah H g (.lst [])=d at b c
 refine#[iK,λe D=>#[_,Z,bM,λu i=>#[bM,λx N=>#[bM,λr n=>?_]]]]
 have S:ae d (ah (ah (ah (ah d e (.tup [])) u (.tup [.str "give",.ref t])) x (.tup [.ref e,.ref u])) r (.tup [.ref g,.ref x])):=(((je D).trans (je i)).trans (je N)).trans (je n)
 refine q _ g _ #[r,_,.ref x,Z,jc,c.same S,?_] a (b.trans S)
 exact jD (ao jc n) (jl Z (jD (ao (ao (ao jc i) N) n) jB) (jl Z (jD (ao (ao jc N) n) (jl Z jT (jl Z Jh jB))) jB))
end _K
namespace _K
open PySem PySem.Spec PyProof.Rows _L
variable {P:Program}{w:World}{K:Frag}{mg:Str->Option Value}{base:Heap}
theorem ww{Y:List Str}:ou (.str x) (Y.map V.str)=decide (x∈Y):=by
 by_cases h:x∈Y
 ·rw[IB h]
  unfold ou
  rw[List.any_eq_true]
  exact#[.str x,List.mem_map.mpr #[x,h,Z],by simp [nj]]
 ·rw[Im h]
  unfold ou
  rw[Bool.eq_false_iff]
  intro z
  rw[List.any_eq_true]at z
  obtain⟨v,a,e⟩:=z
  obtain⟨y,H,rfl⟩:=List.mem_map.mp a
  have E:x=y∨y=x:=by
   first
    |exact .inl (by simpa [nj] using e)
    |exact .inr (by simpa [nj] using e)
  rcases E with rfl |rfl
  ·exact h H
  ·exact h H
theorem De{H:Hp}{w:Wy}{v:V}(h:aN H (gQ w) v []):∃(W s:Addr) (S:List V) (y:V),v= .ref W/\H W=some (.tup [.ref s,y])/\H s=some (.tup S)/\aN H (aC (w.sets.map setT)) .non S/\aN H (wu w.goal) y []:=by
 obtain⟨_,W,x,rfl,a,_,_,l,b,e,⟨_,s,S,c,d,f⟩,_,_,g,Y,E,i,j⟩:=h
 have k:Y=[]:=j
 rw[k]at E
 rw[E]at e
 rw[e,c]at a
 exact#[W,s,S,g,Z,a,d,f,i]
theorem oe:ai ["statement","behind","way"] z3z (aa tV):=bp
theorem wZ(F:aI K "place_of_set" "place_of_set" tV f fd)(cU:Cl P w K mg base 10 fU f0 z3z (gi 0) "used_ahead_of"):af P w K mg base aA 11 f fd z3z iF:=by
 refine F.ok oe ?_ λc0 A O s H vs Q E hr h=>?_
 ·rintro _ _ _ _ ⟨v,bv,p,t,x,T,C,g,Y,rfl,_⟩
  rfl
 obtain⟨v,bv,p,t,x,T,C,g,Y,rfl,X,hp,hx,ok,hl,q⟩:=h
 refine#[_,(jd (jz 2 oe.nd (jy (pv 1))) (jd (j8 (jx (jC zc (jy (pv 0)) (jy (pv 1)) Z) (jg (jz 2 oe.nd (ji (ja (jw j7 (ji (ja (jH kc (pv 0) (jF jf) jR) jb)) (jy (pv 2))) (ja (jy (pv 2)) jb))))) jp)) (jg (jo (ji (ja (cU.e hr.m (ja (pv 0) (ja (jy (pv 1)) jb))) (ja (pv 2) jb))))))),?_]
 have b0:=aF
 obtain⟨r,ss,wv,rfl,b,B,hW⟩:=hp
 have h0:=X
 cases X with
 |lf _ _ vs h1 h2=>
  obtain⟨rfl,hT⟩:=h2
  obtain⟨wa,sa,sx,y,rfl,i,D,j,hy⟩:=De hW
  refine aj λF1 d=>(ju b Z (d _ _ ?_))
  clear d
  have sl:=ze j
  rw[HZ]at sl
  refine aj λF1 d=>dB (λl I=>∃W:V,l=[some (.ref p),some (.ref r),some W]/\aN I (gQ (iw x t C)) W []/\ae H I) (λE2 _ fm=>?_) λl I h=>?_
  ·clear d
   refine nP λG kT kF=>(ju h1 Z (ju b Z #[g,_,Z,.inl (aG.of B.at'),Z,Qr _,_,Z,?_]))
   rw[ww]
   by_cases a:x∈ss
   ·rw[IB a]
    refine kT _ #[_,Z,_,Z,p,_,Z,h1,λs1 H1 J k1=>#[lY,λu nu=>?_]]
    have L:=k1.trans (je (o:=.tup [.ref s1]) nu)
    refine(ju (L _ _ i) Z #[u,sa,_,_,Z,Z,jc,L _ _ D,by show 1+sx.length<=_;omega,λc H2 hc z=>?_])
    have R:=L.trans z
    refine(ju (R _ _ i) Z #[bM,λnw n=>fm _ _ #[.ref nw,Z,?_,R.trans (je n)]])
    have tm:=ae.tm (R.trans (je (o:=.tup [.ref c,y]) n))
    unfold iw
    rw[Io ((B.nm.mem x).mp a)]
    refine jD jc (jl Z (jD (ao hc n) (jl Z ?_ (j.mono tm))) (jl (A2 _) (hy.mono tm) jB))
    exact jD (ao (z _ _ (ao J nu)) n) (jl Z jT (jl Z Jh jB))
   ·rw[Im a]
    refine kF _ (fm _ _ #[_,Z,?_,ae.refl _])
    unfold iw
    rw[Iu λw=>a ((B.nm.mem x).mpr w)]
    exact hW
  ·obtain⟨W,rfl,S,k⟩:=h
   refine d _ _ ?_
   clear d
   refine#[_,Z,ju (k _ _ b) Z #[.ref p,g,.lf p (.st x t T) .nil,ss,C.M,Y,Z,h0.mono (ae.tm k),B.same k,#[#[hx,ok],IG],(by show 0 < 1;decide),(by show 0+1<=10000000;decide),λg' zs H3 n3 N3 z=>?_]]
   refine#[_,Z,bM,λr' N=>q _ g' _ #[r',zs,W,Z,jc,N3.same (je N),S.mono (ae.tm (z.trans (je N)))] (k.free n3) ((k.trans z).trans (je N))]
noncomputable abbrev xQ:Stmt:=bg (bu 51) 1
noncomputable abbrev xW:Stmt:=bg (bu 51) 2
noncomputable abbrev xR:Stmt:=bg (bu 51) 3
noncomputable abbrev xZ:Stmt:=bg (bu 51) 4
noncomputable abbrev tN:Stmt:=bg (bu 51) 0
noncomputable def pL(m:Int)(p:Addr)(l:Lf)(q:Pc×List Ct):Pc×List Ct:=match l with
 | .gv t T=>(#[λx=>x∈T.vars,#[[],.give t]],q.2)
 | .st x t T=>(#[(Lf.st x t T).use q.1.M,iw x t q.1],q.2)
 | .rd x t T=>(#[(Lf.rd x t T).use q.1.M,#[[],.go (m - (q.2.length:Int) - 1)]],q.2++[#[(Lf.rd x t T).use q.1.M,.st p,[q.1.w]]])
 | .wr t u T U=>(#[(Lf.wr t u T U).use q.1.M,#[[],.go (m - (q.2.length:Int) - 1)]],q.2++[#[(Lf.wr t u T U).use q.1.M,.st p,[q.1.w]]])
 | .cl x f a b=>(#[(Lf.cl x f a b).use q.1.M,#[[],.go (m - (q.2.length:Int) - 1)]],q.2++[#[(Lf.cl x f a b).use q.1.M,.st p,[q.1.w]]])
noncomputable def pB(m:Int):Bd->Pc->List Ct->Pc×List Ct
 | .nil,c,f=>(c,f)
 | .lf p l r,c,f=>pL m p l (pB m r c f)
 | .ite p t T a b r,c,f=>
  let q:=pB m r c f
  let o:=pB m b q.1 q.2
  let s:=pB m a q.1 o.2
  (#[(Bd.ite p t T a b .nil).use q.1.M,#[[],.go (m - (q.2.length:Int) - ((Bd.ite p t T a b .nil).cuts:Int))]],s.2++[#[(Bd.ite p t T a b .nil).use q.1.M,.ask t,[s.1.w,o.1.w]]])
 | .loop p t T a r,c,f=>
  let q:=pB m r c f
  let d:Pc:=#[(Bd.loop p t T a .nil).use q.1.M,#[[],.go (m - (q.2.length:Int) - ((Bd.loop p t T a .nil).cuts:Int))]]
  let s:=pB m a d q.2
  (d,s.2++[#[(Bd.loop p t T a .nil).use q.1.M,.ask t,[s.1.w,q.1.w]]])
theorem Kc(m:Int):∀(a b:Bd) (c:Pc) (f:List Ct),pB m (a.app b) c f=pB m a (pB m b c f).1 (pB m b c f).2
 | .nil,_,_,_=>rfl
 | .lf p l r,b,c,f=>by show pL m p l (pB m (r.app b) c f)=pL m p l (pB m r _ _);rw[Kc m r b c f]
 | .ite p t T x y r,b,c,f=>by
  have e:=Kc m r b c f
  show pB m (.ite p t T x y (r.app b)) c f=_
  unfold pB
  rw[e]
 | .loop p t T x r,b,c,f=>by
  have e:=Kc m r b c f
  show pB m (.loop p t T x (r.app b)) c f=_
  unfold pB
  rw[e]
theorem kj(m:Int):∀(b:Bd) (c:Pc) (F:List Ct),(pB m b c F).2.length=F.length+b.cuts
 | .nil,_,_=>rfl
 | .lf p l r,c,F=>by
  have e:=kj m r c F
  show(pL m p l (pB m r c F)).2.length=F.length+(l.cut+r.cuts)
  cases l with
  |rd x t T |wr t u T U |cl x f a d=>show((pB m r c F).2++[_]).length=F.length+(1+r.cuts);rw[Ia,e];show _+1=_;omega
  |st x t T |gv t T=>show(pB m r c F).2.length=F.length+(0+r.cuts);omega
 | .ite p t T x y r,c,F=>by
  have e:=kj m r c F
  show((pB m x _ (pB m y _ _).2).2++[_]).length=_
  rw[Ia,kj m x,kj m y,e]
  show _+1=F.length+(1+x.cuts+y.cuts+r.cuts)
  omega
 | .loop p t T x r,c,F=>by
  have e:=kj m r c F
  show((pB m x _ _).2++[_]).length=_
  rw[Ia,kj m x,e]
  show _+1=F.length+(1+x.cuts+r.cuts)
  omega
theorem Xl(x:Str)(t:Addr)(p:Pc):(iw x t p).sets.length<=p.w.sets.length+1:=by
 unfold iw
 split
 ·exact Ib _
 ·exact Lu _
theorem YU(m:Int):∀(b:Bd) (a:Pc) (f:List Ct),(pB m b a f).1.w.sets.length<=a.w.sets.length+b.size
 | .nil,_,_=>Ib _
 | .lf p l r,a,f=>by
  have e:=YU m r a f
  show(pL m p l (pB m r a f)).1.w.sets.length<=a.w.sets.length+(r.size+1)
  cases l with
  |st x t T=>have:=Xl x t (pB m r a f).1;show(iw x t (pB m r a f).1).sets.length<=_;omega
  |_=>exact Il _
 | .ite p t T x y r,a,f=>Il _
 | .loop p t T x r,a,f=>Il _
theorem kP:∀b:Bd,b.cuts<=b.size
 | .nil=>Ib _
 | .lf _ l r=>by
  have:=kP r
  have h:l.cut<=1:=by cases l<;>first |exact Ib _ |exact Il _
  show l.cut+r.cuts<=r.size+1
  omega
 | .ite _ _ _ a b r=>by have:=kP a;have:=kP b;have:=kP r;show 1+a.cuts+b.cuts+r.cuts<=a.size+b.size+r.size+1;omega
 | .loop _ _ _ a r=>by have:=kP a;have:=kP r;show 1+a.cuts+r.cuts<=a.size+r.size+1;omega
structure CK(K:Frag)(C:Addr):Prop where
 cl:pF K C
 nm:aX K C "many"
 nf:aX K C "found"
structure Cg(H:Hp)(C ia dx fa:Addr)(m:Int)(cts:List Ct)(cs:List V):Prop where
 ins:H ia=some (.ins C dx [("many",.int m),("found",.ref fa)])
 fd:H fa=some (.lst cs)
 tr:aN H (aC (cts.map DQ)) .non cs
theorem Cg.same(h:Cg H C i d f m c a)(s:ae H b):Cg b C i d f m c a:=#[s _ _ h.ins,s _ _ h.fd,h.tr.mono (ae.tm s)]
theorem Cg.len(h:Cg H C i d f m c a):a.length=c.length:=by rw[ze h.tr,HZ]
theorem Cg.tm(h:Cg H C i d f m c g)(k:aB f H a):al H a:=λb x e=>k b _ (jO e h.fd (by intro z;cases z)) e
structure vH(H:Hp)(C ia dx fa:Addr)(m:Int)(cts:List Ct)(cs:List V)(pc:Pc)(bv:V)(g:Addr)(ys:List Str)(b:Bd):Prop where
 c:Cg H C ia dx fa m cts cs
 p:ni H pc bv g ys
 ng:g≠fa
 ok:b.Ok ys
 sz:cts.length+pc.w.sets.length+b.size<=10000000
def pY(H:Hp)(C i d f:Addr)(m:Int)(y:List Str)(q:Pc×List Ct)(Q:VK):Prop:=∀(v:V) (g:Addr) (c:List V) (h:Hp),ni h q.1 v g y->g≠f->Cg h C i d f m q.2 c->aB f H h->Q v h
inductive mQ(C:Addr)(n:Nat)(l:List V)(H:Hp)(Q:VK)(c:XK):Prop
 |mk(j h i a g:Addr)(m:Int)(d:List Ct)(f o:List V)(k:Pc)(e:V)(p:List Str)(b:Bd)(_:l=[.ref j,.ref a,e])(_:vH H C j h i m d f k e g p b)(_:H a=some (.tup o))(_:dw H b o)(_:b.dep < n)(_:pY H C j h i m p (pB m b k d) Q)
inductive C2(C:Addr)(n:Nat)(j:List V)(H:Hp)(Q:VK)(a:XK):Prop
 |mk(h e f g:Addr)(m:Int)(b:List Ct)(d:List V)(i:Pc)(v c:V)(k:List Str)(s:Bd)(_:j=[.ref h,v,c])(_:vH H C h e f m b d i c g k s)(_:gU H v s)(_:s.dep < n+1)(_:pY H C h e f m k (pB m s i b) Q)
noncomputable def Bd.isCut:Bd->Bool
 | .lf _ l _=>l.isCut
 | .nil=>false
 |_=>true
inductive yj(C:Addr)(n:Nat)(j:List V)(H:Hp)(Q:VK)(a:XK):Prop
 |mk(h e f g:Addr)(m:Int)(b:List Ct)(d:List V)(i:Pc)(v c:V)(k:List Str)(s:Bd)(_:j=[.ref h,v,c])(_:vH H C h e f m b d i c g k s)(_:gU H v s)(_:s.dep < n+1)(_:s.isCut=true)(_:pY H C h e f m k (pB m s i b) Q)
noncomputable def gH(m:Int)(c:Pc)(p:Pc)(f:List Ct):Bd->List Wy×List Ct
 | .ite _ _ _ a b _=>([(pB m a p (pB m b p f).2).1.w,(pB m b p f).1.w],(pB m a p (pB m b p f).2).2)
 | .loop _ _ _ a _=>([(pB m a c f).1.w,p.w],(pB m a c f).2)
 |_=>([p.w],f)
inductive C3(C:Addr)(n:Nat)(o:List V)(H:Hp)(Q:VK)(a:XK):Prop
 |mk(i e f g h:Addr)(m:Int)(b:List Ct)(d:List V)(j k:Pc)(v c l:V)(p:List Str)(s:Bd)(_:o=[.ref i,v,l,c])(_:vH H C i e f m b d j c g p s)(_:ni H k l h p)(_:h≠f)(_:k.w.sets=[])(_:gU H v s)(_:s.dep < n+1)(_:∀(wv:V) (cs':List V) (H':Hp),aN H' (aE ((gH m k j b s).1.map gQ)) wv []->Cg H' C i e f m (gH m k j b s).2 cs'->aB f H H'->Q wv H')
theorem XT(h:gU H v s)(g:s.isCut=true)(m:Int)(c:Pc)(F:List Ct):
  pB m s c F=(#[s.use c.M,#[[],.go (m - (F.length:Int) - (s.cuts:Int))]],(gH m #[s.use c.M,#[[],.go (m - (F.length:Int) - (s.cuts:Int))]] c F s).2++[#[s.use c.M,s.deed,(gH m #[s.use c.M,#[[],.go (m - (F.length:Int) - (s.cuts:Int))]] c F s).1]]):=by
 cases h with
 |lf p l V d e=>
  cases l with
  |rd x t T |wr t u T U |cl x f a k=>rfl
  |st x t T |gv t T=>cases g
 |ite p t T a b q Q A B d i e j n o |loop p t T a q A d i e j=>rfl
theorem vj(h:ni H p v g y):∃(r:Addr) (W:V),v= .ref r/\H r=some (.tup [.ref g,W])/\aN H (gQ p.w) W []:=by
 obtain⟨r,s,W,e,a,c,b⟩:=h
 exact#[r,W,e,a,b]
theorem EO:ai ["self","statement","place","behind","other"] z20z (aa xZ):=bp
theorem En(F:aI K "ways_of" "Cutting.ways_of" xZ f fd)(X:CK K C)(GB:af P w K mg base aA (4*n+31) fB f0 z11z (mQ C n))(bB:ax K f0 z11z [])(hB:a9 K C "place_of_body" fB):af P w K mg base aA (4*n+32) f fd z20z (C3 C n):=by
 refine F.ok EO ?_ λc3 A o0 s H vs Q E hr h=>?_
 ·rintro _ _ _ _ ⟨i,D,R,g,g2,m,d,S,y,pl,v,bv,pv,Y,s,rfl,_⟩
  rfl
 obtain⟨i,D,R,g,g2,m,d,S,y,pl,v,bv,G,Y,st,rfl,I,h6,n0,h7,hs,hd,q⟩:=h
 refine#[_,(jd (jx (kh (jy (pv 1))) (jd (jz 4 EO.nd (j6 (pv 0) X.cl hB GB hr.m bB .nil aY (ja (jy (pv 1)) (ja (pv 3) jb)))) (jg (jo (ji (ja (jr jN (j6 (pv 0) X.cl hB GB hr.m bB .nil aY (ja (jy (pv 1)) (ja (pv 3) jb))) jf (λ_ _=>Z)) (ja (jy (pv 4)) jb)))))) jp) (jd (jx (kh (jy (pv 1))) (jg (jo (ji (ja (jr jN (j6 (pv 0) X.cl hB GB hr.m bB .nil aY (ja (jy (pv 1)) (ja (pv 2) jb))) jf (λ_ _=>Z)) (ja (jy (pv 3)) jb))))) jp) (jg (jo (ji (ja (jy (pv 3)) jb)))))),?_]
 have b0:=aF
 obtain⟨br,bw,rfl,J,L⟩:=vj I.p
 cases hs with
 |lf p l vs e M=>
  have f2:gn (bV (am (dR (fh K) (aW 3) (tC (V.int 1))) aK)) { nx:=λx H'=>Q V.non H',rt:=Q } [some (.ref i),some (.ref p),some G,some (.ref br),none] H:=by
   refine(ju J Z #[lY,λr N=>q (.ref r) S _ (jD jc (jl Z (L.mono (ae.tm (je N))) jB)) (I.c.same (je N)) (aB.of_same (je N))])
  cases l with
  |rd x t T |st x t T |wr t u T U |cl x f q2 ts |gv t T=>
   obtain⟨rfl,_⟩:=M
   refine(ju e Z #[Z,_,Z,aV OJ ?_])
   refine(ju e Z #[Z,_,Z,aV OJ ?_])
   exact f2
 |ite p t T a b qa qb as bs e h0 M h3 h4 h5=>
  refine(ju e Z #[Z,_,Z,cy OJ ?_])
  have h8:max (max a.dep b.dep+1) 0 < n+1:=hd
  have hz:d.length+y.w.sets.length+(a.size+b.size+0+1)<=10000000:=I.sz
  have W:=I.ok
  refine aj λF1 f1=>#[_,Z,i,D,_,Z,I.c.ins,Z,ju e Z #[_,Z,i,D,R,qb,g,m,d,S,bs,y,.ref br,Y,b,Z,#[I.c,I.p,I.ng,W.2.2.1,OG],h3,h5,OG,λv1 g1 j H1 p1 n1 O z=>f1 _ _ ?_]]
  clear f1
  have B:=I.c.tm z
  have lc:=kj m b y d
  have cb:=kP b
  refine#[_,Z,i,D,_,Z,O.ins,Z,ju (B _ _ e) Z #[_,Z,i,D,R,qa,g,m,_,j,as,y,.ref br,Y,a,Z,#[O,I.p.but z I.c.fd I.ng,I.ng,W.2.1,OG],B _ _ M,h4.mono B,OG,λv2 g2 c0 H2 p2 n2 c2 k2=>?_]]
  obtain⟨r2,w2,rfl,h',a0⟩:=vj p2
  obtain⟨r1,w1,rfl,k,o⟩:=vj (p1.but k2 O.fd n1)
  refine#[r2,_,_,_,Z,Z,ay.of h',Z,ju k Z #[bM,λr N=>q (.ref r) c0 _ (jD jc (jl Z (a0.mono (ae.tm (je N))) (jl Z (o.mono (ae.tm (je N))) jB))) (c2.same (je N)) ((z.trans k2).trans (aB.of_same (je N)))]]
 |loop p t T a qa as e h0 M h3=>
  refine(ju e Z #[Z,_,Z,aV OJ ?_])
  refine(ju e Z #[Z,_,Z,cy OJ ?_])
  have h8:max (a.dep+1) 0 < n+1:=hd
  have hz:d.length+y.w.sets.length+(a.size+0+1)<=10000000:=I.sz
  have W:=I.ok
  refine#[_,Z,i,D,_,Z,I.c.ins,Z,ju e Z #[_,Z,i,D,R,qa,g2,m,d,S,as,pl,G,Y,a,Z,#[I.c,h6,n0,W.2.1,by rw[h7];show d.length+0+a.size<=_;omega],M,h3,OG,λv1 g1 j H1 p1 n1 O z=>?_]]
  obtain⟨r1,w1,rfl,k,o⟩:=vj p1
  have B:=I.c.tm z
  refine#[r1,_,_,_,Z,Z,ay.of k,Z,ju (B _ _ J) Z #[bM,λr N=>q (.ref r) j _ (jD jc (jl Z (o.mono (ae.tm (je N))) (jl Z ((L.mono B).mono (ae.tm (je N))) jB))) (O.same (je N)) (z.trans (aB.of_same (je N)))]]
theorem ug:ai ["self","statement","behind","n","names","place","ways"] z8z (aa xR):=bp
theorem Ek(F:aI K "place_of_cut" "Cutting.place_of_cut" xR f fd)(y:CK K C)(h7:n<=7)(GW:af P w K mg base aA (4*n+32) fW f0 z20z (C3 C n))(bW:ax K f0 z20z [])(hW:a9 K C "ways_of" fW)(cM:Cl P w K mg base 2 fM f2 ["body"] gD "many_cuts")(cU:Cl P w K mg base 31 fU f3 z3z (gi 7) "used_ahead_of")(cD:Cl P w K mg base 1 fD f4 z5z iz "deed_of")(ml:mg "len"=none)(m0:mg "tuple"=none):af P w K mg base aA (4*n+33) f fd z8z (yj C n):=by
 refine F.ok ug ?_ λc0 A o0 s H vs Q E Y h=>?_
 ·rintro _ _ _ _ ⟨z,L,l,g,m,a,cs,j,v,bv,ys,s,rfl,_⟩
  rfl
 obtain⟨z,L,l,g,m,a,cs,j,v,bv,ys,st,rfl,I,B,hd,hc,q⟩:=h
 refine#[_,(jd (jz 3 ug.nd (jw kU (jw kU (j5 (pv 0) Z) (jS jL Z ml Ld (ja (j5 (pv 0) Z) jb))) (cM.e Y.m (ja (ji (ja (pv 1) jb)) jb)))) (jd (jz 4 ug.nd (cU.e Y.m (ja (pv 1) (ja (jy (pv 2)) jb)))) (jd (jz 5 ug.nd (ji (ja (pv 4) (ja (ji (ja (ji jb) (ja (ji (ja jm (ja (pv 3) jb))) jb))) jb)))) (jd (jz 6 ug.nd (j6 (pv 0) y.cl hW GW Y.m bW .nil aY (ja (pv 1) (ja (pv 5) (ja (pv 2) jb))))) (jd (jJ (j9 Ii Iy Ix jP (j5 (pv 0) Z) (ja (ji (ja (jE jI Z m0 LM (ja (pv 4) jb)) (ja (cD.e Y.m (ja (pv 1) jb)) (ja (pv 6) jb)))) jb))) (jg (jo (pv 5)))))))),?_]
 have b0:=aF
 obtain⟨br,ss,bw,rfl,h0,hN,h1⟩:=id I.p
 have hz:=I.sz
 have lc:=I.c.len
 refine aj λF1 i=>#[_,Z,z,C,L,_,_,Z,I.c.ins,y.cl,y.nm,Z,_,Z,z,C,L,_,_,Z,I.c.ins,y.cl,y.nf,Z,l,_,Z,.inl (aG.of I.c.fd),_,_,Z,Z,_,Z,lY,λu nu=>?_]
 have s1:ae H (ah H u (.tup [v])):=je nu
 refine#[u,st,_,Z,jc,(B.mono (ae.tm s1)).bd,OG,λH1 k1=>#[_,_,Z,Z,i _ _ ?_]]
 clear i
 have S:=s1.trans k1
 rw[lc]
 refine aj λF1 i=>#[_,Z,ju (S _ _ h0) Z #[v,g,st,ss,j.M,ys,Z,B.mono (ae.tm S),hN.same S,I.ok,OG,OG,λG zs H2 n2 N2 k2=>i _ _ ?_]]
 clear i
 have s3:=S.trans k2
 have N:G≠l:=λe=>by rw[e,S _ _ I.c.fd]at n2;cases n2
 refine aj λF1 i=>#[_,Z,iK,λe ne=>#[_,Z,bM,λU O=>#[bM,λx nx=>#[bM,λr nr=>i _ _ ?_]]]]
 clear i
 have s4:ae H2 (ah (ah (ah (ah H2 e (.tup [])) U (.tup [.str "go",.int (m - (a.length:Int) - (st.cuts:Int))])) x (.tup [.ref e,.ref U])) r (.tup [.ref G,.ref x])):=(((je ne).trans (je O)).trans (je nx)).trans (je nr)
 have P4:ni (ah (ah (ah (ah H2 e (.tup [])) U (.tup [.str "go",.int (m - (a.length:Int) - (st.cuts:Int))])) x (.tup [.ref e,.ref U])) r (.tup [.ref G,.ref x])) #[st.use j.M,#[[],.go (m - (a.length:Int) - (st.cuts:Int))]] (.ref r) G ys:=
  #[r,zs,.ref x,Z,jc,N2.same s4,jD (ao jc nr) (jl Z (jD (ao (ao (ao jc O) nx) nr) jB) (jl Z (jD (ao (ao jc nx) nr) (jl Z jT (jl Z jU jB))) jB))]
 generalize ah (ah (ah (ah H2 e (.tup [])) U (.tup [.str "go",.int (m - (a.length:Int) - (st.cuts:Int))])) x (.tup [.ref e,.ref U])) r (.tup [.ref G,.ref x])=H4 at s4 P4
 have R:=s3.trans s4
 have c5:=I.c.same R
 refine aj λF1 i=>#[_,Z,z,L,_,Z,c5.ins,Z,_,Z,_,Z,_,Z,z,L,l,g,G,m,a,cs,j,_,v,.ref br,.ref r,ys,st,Z,#[c5,I.p.same R,I.ng,I.ok,I.sz],P4,N,Z,B.mono (ae.tm R),hd,λwv D H6 w6 c6 k6=>i _ _ ?_]
 clear i
 have t0:=c5.tm k6
 have p6:=P4.but k6 c5.fd N
 have z6:H6 G=some (.lst (zs.map V.str)):=k6 _ _ N (s4 _ _ N2.at')
 have ez:=N2.nm.canon
 have l6:=c6.len
 have lw:(gH m #[st.use j.M,#[[],.go (m - (a.length:Int) - (st.cuts:Int))]] j a st).2.length+1=a.length+st.cuts:=by
  have:=kj m st j a
  rw[XT B hc m j a,Ia]at this
  exact this
 have cl:=kP st
 refine aj λF1 i=>#[_,Z,z,C,L,_,_,Z,c6.ins,y.cl,y.nf,Z,.inl #[Z,_,aG.of c6.fd],_,Z,G,_,Z,.inl #[aG.of z6,λnt n0=>?_]]
 have s7:ae H6 (ah H6 nt (.tup (zs.map V.str))):=je n0
 refine#[_,Z,v,st,Z,((B.mono (ae.tm R)).mono t0).mono (ae.tm s7),λd H8 d8 k8=>#[_,Z,gE,λW J=>?_]]
 have X:=(s7.trans k8).trans (je (o:=.tup [.ref nt,d,wv]) J)
 have t:=c6.same X
 refine#[l,D,_,Z,Z,t.fd,OG,i _ _ ?_]
 clear i
 have T9:aN (ah H8 W (.tup [.ref nt,d,wv])) (DQ #[st.use j.M,st.deed,(gH m #[st.use j.M,#[[],.go (m - (a.length:Int) - (st.cuts:Int))]] j a st).1]) (.ref W) []:=by
  refine jD jc (jl Z (jD (ao (k8 _ _ jc) J) ?_) (jl (DT _) (d8.mono (ae.tm (je J))) (jl Z (w6.mono (ae.tm X)) jB)))
  rw[<- ez]
  exact Xk zs
 have p9:=p6.same X
 generalize ah H8 W (.tup [.ref nt,d,wv])=H9 at X t T9 p9
 have k:aB l H9 (ah H9 l (.lst (D++[.ref W]))):=λb o nb e=>by rw[jh nb];exact e
 have T:=t.tm k
 have n1:z≠l:=λe=>by have:=t.ins;rw[e,t.fd]at this;cases this
 refine#[_,Z,q (.ref r) G (D++[.ref W]) _ ?_ N ?_ (λb o nb e=>k b o nb (X _ _ (k6 b o nb (R _ _ e))))]
 ·rw[XT B hc m j a]
  exact p9.but k t.fd N
 ·rw[XT B hc m j a]
  refine#[k _ _ n1 t.ins,jc,?_]
  rw[IJ]
  exact JL (jl Z (T9.mono T) jB) (t.tr.mono T)
inductive BI(C u j t a:Addr)(m:Int)(c:List Ct)(x:Pc)(f:V)(z:List Str)(b:Bd)(y:List V)(H:Hp)(i:Nat)(A:_L.St)(e:Hp):Prop
 |mk(d s:Bd)(v:V)(g:Addr)(h:List V)(w:Option V)(k:A=[some (.ref u),some (.ref a),some f,some v,w])(l:b=d.app s)(n:dw H d (y.take (y.length - i)))(o:ni e (pB m s x c).1 v g z)(p:g≠t)(q:Cg e C u j t m (pB m s x c).2 h)(r:aB t H e)
theorem JM(m:Int):∀(b:Bd) (c:Pc) (F:List Ct),(pB m b c F).2.length+(pB m b c F).1.w.sets.length<=F.length+c.w.sets.length+b.size
 | .nil,_,_=>Ib _
 | .lf p l r,c,F=>by
  have e:=JM m r c F
  show(pL m p l (pB m r c F)).2.length+(pL m p l (pB m r c F)).1.w.sets.length<=F.length+c.w.sets.length+(r.size+1)
  cases l with
  |st x t T=>have:=Xl x t (pB m r c F).1;show(pB m r c F).2.length+(iw x t (pB m r c F).1).sets.length<=_;omega
  |gv t T=>show(pB m r c F).2.length+0<=_;omega
  |rd x t T |wr t u T U |cl x f a d=>show((pB m r c F).2++[_]).length+0<=_;rw[Ia];show _+1+0<=_;omega
 | .ite p t T x y r,c,F=>by
  have e:=JM m r c F
  have h:=kP x
  have H:=kP y
  show((pB m x _ (pB m y _ _).2).2++[_]).length+0<=F.length+c.w.sets.length+(x.size+y.size+r.size+1)
  rw[Ia,kj m x,kj m y]
  show _+1+0<=_
  omega
 | .loop p t T x r,c,F=>by
  have e:=JM m r c F
  have h:=kP x
  show((pB m x _ _).2++[_]).length+0<=F.length+c.w.sets.length+(x.size+r.size+1)
  rw[Ia,kj m x]
  show _+1+0<=_
  omega
theorem Gu:ai z8z z8z (aa xW):=bp
theorem Em(F:aI K "place_of" "Cutting.place_of" xW f fd)(ck:CK K C)(GC:af P w K mg base aA (4*n+33) fC D z8z (yj C n))(bC:ax K D z8z [])(hC:a9 K C "place_of_cut" fC)(cG:Cl P w K mg base 8 fG f0 z1z gg "place_of_give")(cS:Cl P w K mg base 11 fS f1 z3z iF "place_of_set"):af P w K mg base aA (4*n+34) f fd z8z (C2 C n):=by
 refine F.ok Gu ?_ λc0 A O s H vs Q E G h=>?_
 ·rintro _ _ _ _ ⟨r,J,fa,g,m,j,z,L,v,B,y,s,rfl,_⟩
  rfl
 obtain⟨r,J,fa,g,m,j,z,L,v,B,y,st,rfl,I,M,hd,q⟩:=h
 refine#[_,(jd (jx (kh (jy (pv 1))) (jg (jo (cG.e G.m (ja (jy (pv 1)) jb)))) jp) (jd (jx (kh (jy (pv 1))) (jg (jo (cS.e G.m (ja (pv 1) (ja (pv 2) jb))))) jp) (jg (jo (j6 (pv 0) ck.cl hC GC G.m bC .nil aY (ja (pv 1) (ja (pv 2) jb))))))),?_]
 have hz:=I.sz
 have R:=M
 have i:st.isCut=true->gn (uS C "place_of_cut" (yj C n) [] E0 (aW 0) (am (aW 1) (am (aW 2) aK))) { nx:=λx k=>Q V.non k,rt:=Q } [some (.ref r),some v,some B] H:=λhc=>
  #[_,Z,r,J,_,Z,I.c.ins,Z,_,Z,_,Z,r,J,fa,g,m,j,z,L,v,B,y,st,Z,I,M,hd,hc,q]
 cases M with
 |lf p l vs d o=>
  cases l with
  |rd x t T |wr t u T U |cl x f q2 ts=>
   obtain⟨rfl,_⟩:=o
   refine(ju d Z #[Z,_,Z,aV OJ ?_])
   refine(ju d Z #[Z,_,Z,aV OJ ?_])
   exact i Z
  |gv t T=>
   obtain⟨rfl,hT⟩:=o
   refine(ju d Z #[Z,_,Z,cy OJ ?_])
   clear i
   have Y:y.length<=21:=by obtain⟨_,_,_,_,_,hN,_⟩:=I.p;exact hN.y20
   exact(ju d Z #[t,T,y,Z,hT,I.ok.1,Y,λW X k p' N S=>q W X z k p' (λe=>by rw[e,I.c.fd]at N;cases N) (I.c.same S) (aB.of_same S)])
  |st x t T=>
   obtain⟨rfl,hT⟩:=o
   refine(ju d Z #[Z,_,Z,aV OJ ?_])
   refine(ju d Z #[Z,_,Z,cy OJ ?_])
   clear i
   exact#[_,Z,_,Z,.ref p,B,p,t,x,T,L,g,y,Z,R,I.p,I.ok.1.1,I.ok.1.2,OG,λW X k p' N S=>q W X z k p' (λe=>by rw[e,I.c.fd]at N;cases N) (I.c.same S) (aB.of_same S)]
 |ite p t T a b qa qb as bs d h0 o h3 h4 h5 |loop p t T a qa as d h0 o h3=>
  refine(ju d Z #[Z,_,Z,aV OJ ?_])
  refine(ju d Z #[Z,_,Z,aV OJ ?_])
  exact i Z
theorem yb:ai ["self","body","behind","place","statement"] z11z (aa xQ):=bp
theorem Ej(F:aI K "place_of_body" "Cutting.place_of_body" xQ f fd)(ck:CK K C)(GO:af P w K mg base aA (4*n+34) fO T z8z (C2 C n))(bO:ax K T z8z [])(hO:a9 K C "place_of" fO)(R:mg "reversed"=none):af P w K mg base aA (4*n+35) f fd z11z (mQ C (n+1)):=by
 refine F.ok yb ?_ λc1 A U s H vs Q E hr h=>?_
 ·rintro _ _ _ _ ⟨r,J,V,a,g,m,d,cs,xs,l,L,Y,b,rfl,_⟩
  rfl
 obtain⟨r,J,V,a,g,m,d,cs,xs,l,L,Y,b,rfl,I,ha,hb,hd,q⟩:=h
 refine#[_,(jd (jz 3 yb.nd (pv 2)) (jd (jX IK Z (@sY _ _ _ _ _ _ _ Z R boot_reversed (pv 1) OF OF OK OK) (jv (i:=4) yb.nd Z (Or.inl Z)) (jg (jz 3 yb.nd (j6 (pv 0) ck.cl hO GO hr.m bO .nil aY (ja (pv 4) (ja (pv 3) jb)))))) (jg (jo (pv 3))))),?_]
 have b0:=aF
 have hz:=I.sz
 have xl:=hb.len
 refine aj λF1 u=>#[_,Z,u _ _ ?_]
 clear u
 refine aj λF1 u=>?_
 refine dq λF kF=>#[_,Z,a,xs,Z,ay.of ha,kF _ _ ?_]
 clear kF
 refine Xg (K:=K) (xs:=xs) (BI C r J V a m d l L Y b xs H) #[b,.nil,L,g,cs,_,Z,(app_nil b).symm,by rw[N0,Lj];exact hb,I.p,I.ng,I.c,aB.refl] (λi σ H' hi h=>?_) ?_ (λσ H' h=>u _ _ ?_)
 ·obtain⟨_,_,_,_,_,_,_,_,_,_,_,_,k⟩:=h
  exact ay.of (I.c.tm k _ _ ha)
 ·clear u
  intro E _ i x σ H2 M fE Gq t h
  obtain⟨pre,eW,v,W,o,o4,rfl,j,y,X,h4,N,O⟩:=h
  have hi:i < xs.length:=by
   rcases No i xs.length with z |z
   ·exact z
   ·rw[Ll (by simpa using z)]at M;cases M
  rw[MW hi]at M
  have et:xs.take (xs.length - i)=xs.take (xs.length - (i+1))++[x]:=by
   have D:xs.length - i=(xs.length - 1 - i)+1:=by omega
   have e2:xs.length - (i+1)=xs.length - 1 - i:=by omega
   rw[D,e2,LB,M]
   rfl
  rw[et]at y
  rcases y.last with ⟨e,_⟩ | ⟨ws,v',B,S,D,e2,h6,h7⟩
  ·exact absurd e OH
  obtain⟨ew,ev⟩:=List.append_inj' D Z
  cases ev
  subst e2
  have h0:=zL (j▸I.ok)
  have G:=zL h0.1
  have a1:b.dep=max (B.app S).dep eW.dep:=by rw[j,zj]
  have a2:(B.app S).dep=max B.dep S.dep:=zj ..
  have h8:S.dep<=b.dep:=by rw[a1,a2];exact Ik (MX ..) (M3 ..)
  clear a1 a2
  have h':b.size=B.size+S.size+eW.size:=by rw[j,jZ,jZ]
  have hl:=kj m eW l d
  have a0:=kP eW
  have a3:=YU m eW l d
  have a4:(pB m eW l d).1.w.sets.length+(pB m eW l d).2.length+S.size<=10000000:=by have:=JM m eW l d;omega
  refine t ?_
  clear t
  have tm:=I.c.tm O
  show du _ _ E [some (.ref r),some (.ref a),some L,some v,some x] H2
  refine#[_,Z,r,J,_,Z,N.ins,Z,_,Z,_,Z,r,J,V,W,m,_,o,_,x,v,Y,S,Z,#[N,X,h4,G.2,OG],h7.mono tm,OG,λv3 g3 c0 H3 p3 n3 c3 k3=>fE _ _ #[B,S.app eW,v3,g3,c0,_,Z,by rw[j,app_assoc],?_,by rw[Kc];exact p3,n3,by rw[Kc];exact c3,O.trans k3]]
  rw[ew]
  exact h6
 ·obtain⟨pre,eW,v,W,o,o4,rfl,j,y,X,h4,N,O⟩:=h
  rw[M4]at y
  have ep:pre= .nil:=by
   rcases y.last with ⟨_,e⟩ | ⟨ws,v,B,S,D,_⟩
   ·exact e
   ·exact absurd D OH
  rw[ep]at j
  refine#[_,Z,q v W o H' ?_ h4 ?_ O]
  ·rw[j];exact X
  ·rw[j];exact N
theorem Eh:af P w K mg base aA k f i z11z (mQ C 0):=by
 have n:∀v H Q E,¬mQ C 0 v H Q E:=λv H Q E h=>by
  obtain⟨I,D,F,a,g,m,d,j,x,p,B,y,b,_,_,_,_,e,_⟩:=h
  exact absurd e (M1 _)
 exact#[λv H Q E h=>absurd h (n v H Q E),λA o s H c u v Q E _ _ _ _ h=>absurd h (n v H Q E)]
theorem Hn(c:CK K C)(FB:aI K "place_of_body" "Cutting.place_of_body" xQ g f)(F:aI K "place_of" "Cutting.place_of" xW A a)(i:aI K "place_of_cut" "Cutting.place_of_cut" xR D b)(j:aI K "ways_of" "Cutting.ways_of" xZ E d)
  (B:ax K f z11z []) (H:a9 K C "place_of_body" g) (k:ax K a z8z []) (l:a9 K C "place_of" A) (o:ax K b z8z []) (p:a9 K C "place_of_cut" D) (q:ax K d z20z []) (r:a9 K C "ways_of" E)
  (s:Cl P w K mg base 2 T G ["body"] gD "many_cuts") (t:Cl P w K mg base 31 U I z3z (gi 7) "used_ahead_of") (u:Cl P w K mg base 1 Y J z5z iz "deed_of") (v:Cl P w K mg base 8 fG L z1z gg "place_of_give") (x:Cl P w K mg base 11 fS N z3z iF "place_of_set") (y:mg "len"=none) (m:mg "tuple"=none) (M:mg "reversed"=none):
  ∀n:Nat,n<=8->af P w K mg base aA (4*n+31) g f z11z (mQ C n)
 |0,_=>Eh
 |n+1,h=>by
  have O:=Hn c FB F i j B H k l o p q r s t u v x y m M n OG
  have Q:=En j c O B H
  have R:=Ek i c OG Q q r s t u y m
  have S:=Em F c R o p v x
  have z:=Ej FB c S k l M
  have e:4*n+35=4*(n+1)+31:=by omega
  rw[e]at z
  exact z
theorem YV{X:Cx}{K:Frag}{n:Nat}(a:X.K=K)(b:X.calm=true)(h:Dm X e t)
  (c:(assignEach e X.env).length=n) (H:(assignEach e X.env).findIdx? (·.1)=none):PG X (.Tuple e k p) (pK K n t):=by
 subst a
 exact zn b h c H
abbrev g3(K:Frag)(i j k:Nat):TG:=pK K 3 (di (bq i) (di (bq j) (di (bq k) rQ)))
theorem Gi{t:_L.St}(h:t.length=3):∃a b c,t=[a,b,c]:=by
 cases t with
 |nil=>cases h
 |cons a r=>
  cases r with
  |nil=>cases h
  |cons b R=>
   cases R with
   |nil=>cases h
   |cons c d=>
    cases d with
    |nil=>exact#[a,b,c,Z]
    |cons _ _=>cases h
noncomputable abbrev tU:Stmt:=bu 52
noncomputable abbrev oG:Stmt:=bu 53
structure Df where
 f:Str
 p:Addr
 pa:Addr
 pb:Addr
 b:Bd
def yH(H:Hp)(d:Df)(v:V):Prop:=∃B,v= .ref d.p/\H d.p=some (.tup [.str d.f,.ref d.pa,.ref d.pb])/\H d.pb=some (.tup B)/\dw H d.b B
def cj(H:Hp):List Df->List V->Prop
 | [],a=>a=[]
 |d::D,a=>∃v r,a=v::r/\yH H d v/\cj H D r
theorem yH.mono(k:al H a)(h:yH H d v):yH a d v:=by
 obtain⟨b,e,c,f,g⟩:=h
 exact#[b,e,k _ _ c,k _ _ f,g.mono k]
theorem cj.mono(k:al H b):∀{a:List V},cj H D a->cj b D a:=by
 induction D with
 |nil=>exactλh=>h
 |cons d D i=>rintro a ⟨v,r,e,c,f⟩;exact#[v,r,e,c.mono k,i f]
theorem cj.snoc{d:Df}(a:yH H d v):∀{D:List Df} {b:List V},cj H D b->cj H (D++[d]) (b++[v])
 | [],_,h=>by have e:_=[]:=h;rw[e];exact#[v,[],Z,a,Z]
 |_::_,_,z=>by obtain⟨u,r,e,c,f⟩:=z;exact #[u,r++[v],by rw[e];rfl,c,cj.snoc a f]
theorem cj.len:∀{d:List Df} {v:List V},cj H d v->v.length=d.length
 | [],_,h=>by have e:_=[]:=h;rw[e];rfl
 |_::_,_,z=>by obtain⟨u,r,e,b,a⟩:=z;rw[e,IH,IH,cj.len a]
theorem cj.at:∀{D:List Df} {b:List V},cj H D b->∀(i:Nat) (v:V),b[i]?=some v->∃d,D[i]?=some d/\yH H d v
 | [],_,h,i,v,a=>by have e:_=[]:=h;rw[e]at a;simp at a
 |d::_,_,q,0,v,a=>by obtain⟨u,r,e,c,f⟩:=q;rw[e]at a;cases a;exact#[d,Z,c]
 |_::D,_,q,i+1,v,a=>by obtain⟨u,r,e,c,f⟩:=q;rw[e]at a;simpa using cj.at f i v (by simpa using a)
def nF(d:Df):Prop:=(∃y:List Str,y.length<=20/\d.b.Ok y)/\d.b.dep < 8/\d.b.size<=3000
noncomputable def Gm(n:Addr):Pc:=#[λx=>x∈(Tm.num 0).vars,#[[],.give n]]
noncomputable def gK(n:Addr)(d:Df):Pc×List Ct:=pB (d.b.cuts:Int) d.b (Gm n) []
noncomputable def eO(n:Addr)(d:Df):Tr:=aE [aJ d.f,pO d.pa,gQ (gK n d).1.w,aE ((gK n d).2.reverse.map DQ)]
def nJ(K:Frag)(n:Addr):Prop:=∀H:Hp,ay K H n [.str "num",.int 0]
inductive oZ(C:Addr)(f:List V)(H:Hp)(Q:VK)(c:XK):Prop
 |mk(e d a:Addr)(b:Bd)(g:List V)(_:f=[.ref e,.ref a])(_:H e=some (.ins C d []))(_:H a=some (.tup g))(_:dw H b g)(_:b.size<=10000000)(_:∀(fa:Addr) (H':Hp),H fa=none->Cg H' C e d fa (b.cuts:Int) [] []->aB e H H'->Q .non H')
inductive lW(K:Frag)(c:Addr)(e:List V)(H:Hp)(Q:VK)(a:XK):Prop
 |mk(d:Df)(b:List V)(_:e=[.str d.f,.ref d.pa,.ref d.pb])(_:H d.pb=some (.tup b))(_:dw H d.b b)(_:nF d)(_:∀(v:V) (H':Hp),aN H' (eO c d) v []->ae H H'->Q v H')
inductive lS(K:Frag)(e:Addr)(f:List V)(H:Hp)(Q:VK)(b:XK):Prop
 |mk(a:Addr)(c:List Df)(g:List V)(_:f=[.ref a])(_:H a=some (.tup g))(_:cj H c g)(_:c.length<=1000)(_:∀d∈c,nF d)(_:∀(v:V) (H':Hp),aN H' (aE (c.map (eO e))) v []->ae H H'->Q v H')
theorem ZL{K:Frag}{t:TE}{Q:List V->Hp->Prop}{H:Hp}(x:H a=some (.tup g))(u:cj H D g)(R:D.length<=1000)
  (Pv:Nat->List V->Hp->Prop) (z:Pv 0 [] H) (A:∀i Y h,Pv i Y h->ae H h/\Y.length<=i)
  (C:∀i d B Y h,D[i]?=some d->h d.pb=some (.tup B)->dw h d.b B->Pv i Y h->t (some (.str d.f)::some (.ref d.pa)::some (.ref d.pb)::l) h λy j=>Pv (i+1) (Y++[y]) j)
  (E:∀Y h,Pv D.length Y h->Q Y h):eK (vJ K a) 3 l (g3 K 0 1 2) l7 t Q H:=by
 have F:=aF
 have S:=u.len
 refine#[λi m Y h=>m=D.length - i/\i<=D.length/\Pv i Y h,#[D.length,OH,Il _,z],?_]
 intro i m Y h c
 obtain⟨rfl,T,p⟩:=c
 obtain⟨s,U⟩:=A i Y h p
 have c:ay K h a g:=ay.of (s _ _ x)
 by_cases n:i < D.length
 ·have I:i < g.length:=by omega
  refine .inr #[#[g,g[i],c,HW I],OG,Pv (i+1),λJ j L=>#[D.length - (i+1),OG,Z,n,L],λv j W o y=>?_]
  obtain⟨e,y⟩:=y
  subst e
  have q:=y g c
  obtain⟨d,r,B,rfl,M,N,O⟩:=(u.mono (ae.tm s)).at i v q
  obtain⟨X,t2,t3,rfl⟩:=Gi o
  refine#[d.p,_,Z,ay.of M,Z,_,_,Z,_,_,Z,_,_,Z,Z,#[[some _,some _,some _],Z,Z],?_]
  exact C i d B Y j r N O p
 ·have e:i=D.length:=by omega
  subst e
  exact .inl #[#[g,c,OG],E Y h p]
theorem EK:ai ["self","body"] ["self","body"] (aa tN):=bp
theorem BE(F:aI K "__init__" "Cutting.__init__" tN f t)(d:CK K C)(u:Cl P w K mg base 2 M v ["body"] gD "many_cuts"):af P w K mg base aA 3 f t ["self","body"] (oZ C):=by
 refine F.ok EK ?_ λy A O s H V Q E B h=>?_
 ·rintro _ _ _ _ ⟨i,D,a,b,x,rfl,_⟩
  rfl
 obtain⟨i,D,a,b,x,rfl,G,I,J,L,q⟩:=h
 refine#[_,(jd (@zp _ _ _ _ _ _ _ _ (pv 0) (u.e B.m (ja (pv 1) jb)) Z) (jg (@zp _ _ _ _ _ _ _ _ (pv 0) (jG jb) Z))),?_]
 refine aj λS l=>#[_,Z,a,b,x,Z,I,J,L,λT k=>#[_,Z,i,C,D,_,Z,k _ _ G,d.cl,d.nm,OF,l _ _ ?_]]
 clear l
 refine#[iK,λg n=>#[_,Z,i,C,D,_,Z,ao jc n,d.cl,d.nf,(by show 1 < 1000;decide),?_]]
 have N:g≠i:=λe=>by rw[e,jc]at n;cases n
 have p:H g=none:=by
  cases e:H g with
  |none=>rfl
  |some o=>rw[jh N,k _ _ e]at n;cases n
 refine q g _ p #[jc,by rw[jh N,jc],Z] λc o r e=>?_
 rw[jh r,jh (λz=>by rw[z,p]at e;cases e),jh r]
 exact k _ _ e
theorem n8:ai ["name","params","body","cutting","first"] z16z (aa tU):=bp
theorem wX(F:aI K "part_made" "part_made" tU f fd)(t:CK K C)(mk:Mk K C fI)(GI:af P w K mg base aA 3 fI u ["self","body"] (oZ C))(bI:ax K u ["self","body"] [])(mC:mg "Cutting"=some (.ref C))(M:mg "NOUGHT"=some (.ref n))(no:nJ K n)(GB:af P w K mg base aA 63 fB x z11z (mQ C 8))(bB:ax K x z11z [])(hB:a9 K C "place_of_body" fB)(cG:Cl P w K mg base 8 fG f0 z1z (pi K) "place_of_give")(y:mg "tuple"=none)(z:mg "reversed"=none):af P w K mg base aA 64 f fd z16z (lW K n):=by
 refine F.ok n8 ?_ λc0 A O s H vs Q E B h=>?_
 ·rintro _ _ _ _ ⟨d,G,rfl,_⟩
  rfl
 obtain⟨d,G,rfl,hb,a,I,q⟩:=h
 refine#[_,(jd (jz 3 n8.nd (YJ mk GI B.m Z mC bI .nil aY (ja (pv 2) jb))) (jd (jz 4 n8.nd (j6 (pv 3) t.cl hB GB B.m bB .nil aY (ja (pv 2) (ja (cG.e B.m (ja (qN (v:=.ref n) Z M Z) jb)) jb)))) (jg (jo (ji (ja (pv 0) (ja (pv 1) (ja (jy (pv 4)) (ja (@ZD _ _ _ _ _ _ _ _ _ Z Z y LM Z z boot_reversed (j5 (pv 3) Z) OF OF OF OF OK OK OK OK) jb))))))))),?_]
 have b0:=aF
 obtain⟨⟨ys,y0,ok⟩,J,hz⟩:=I
 refine aj λF1 j=>#[_,Z,λi D N L n0=>?_]
 have S:ae H (ah (ah H D (.own i)) i (.ins C D [])):=λc o e=>by rw[jh (jk e N),jh (jk e L)];exact e
 refine#[i,D,d.pb,d.b,G,Z,jc,S _ _ hb,a.mono (ae.tm S),OG,λp H1 nf R k1=>#[Z,j _ _ ?_]]
 clear j
 have s1:ae H H1:=λc o e=>k1 c o (jk e N) (S _ _ e)
 have T:H p=none:=S.free nf
 refine aj λF1 j=>#[_,Z,i,D,_,Z,R.ins,Z,_,Z,n,ys,Z,no _,OG,λv g H2 p2 n2 k2=>?_]
 have ng:g≠p:=λe=>by rw[e,R.fd]at n2;cases n2
 have U:=s1.trans k2
 refine#[i,D,p,d.pb,g,_,[],[],G,Gm n,v,ys,d.b,Z,#[R.same k2,p2,ng,ok,by show 0+0+d.b.size<=_;omega],U _ _ hb,a.mono (ae.tm U),J,λv3 g3 k V p3 n3 W k3=>j _ _ ?_]
 clear j
 obtain⟨r3,w3,rfl,X,Y⟩:=vj p3
 have s3:ae H V:=λc o e=>k3 c o (jk e T) (U _ _ e)
 refine#[_,Z,_,Z,ju X Z #[_,Z,i,C,D,_,_,Z,W.ins,t.cl,t.nf,Z,p,k,Z,aG.of W.fd,λl nl=>#[pU,λr nr=>?_]]]
 have s5:ae V (ah (ah V l (.tup k.reverse)) r (.tup [.str d.f,.ref d.pa,w3,.ref l])):=(je nl).trans (je nr)
 refine q (.ref r) _ ?_ (s3.trans s5)
 refine jD jc (jl Z jT (jl Z Jh (jl Z (Y.mono (ae.tm s5)) (jl Z (jD (ao jc nr) ?_) jB))))
 have e:=YT (W.tr.mono (ae.tm s5))
 rw[<- List.map_reverse]at e
 exact e
theorem CV:ai ["program"] ["program"] (aa oG):=bp
noncomputable def uD:Scope:=#[.function,[(".0",.local),("name",.local),("params",.local),("body",.local),("part_made",.globalImplicit)],false,false,[]]
theorem Z2:(z16z:List Str).Nodup:=by decide+kernel
theorem DO:bG ["program"] (aa oG) uD z16z 3 []:=rj
theorem wU(F:aI K "made" "made" oG f p)(C:Cl P w K mg base 64 U t z16z (lW K N) "part_made")(M:mg "tuple"=none):af P w K mg base aA 65 f p ["program"] (lS K N):=by
 refine F.ok CV ?_ λu A o s H V Q E x h=>?_
 ·rintro _ _ _ _ ⟨a,D,X,rfl,_⟩
  rfl
 obtain⟨a,D,X,rfl,g,y,B,O,q⟩:=h
 refine#[_,(jg (jo (jE jI Z M LM (ja (@zi _ _ _ _ _ _ _ (z16z) (3) ([]) _ _ _ _ Z (zJ (pv 0)) DO (λ_ _ _ _ _=>(YV (K:=K) (n:=3) Z Z (jA (jv (i:=0) Z2 Z (Or.inl Z)) (jA (jv (i:=1) Z2 Z (Or.inl Z)) (jA (jv (i:=2) Z2 Z (Or.inl Z)) ki))) Z Z)) (λ_ _ _ _ _=>(@zK _)) (λ_ _ _ _ _=>(C.e x.m (ja (pv 0) (ja (pv 1) (ja (pv 2) jb))))) (by intro _;rfl)) jb)))),?_]
 refine#[_,Z,a,Z,#[_,ay.of g],?_]
 refine ZL g y B (λi V b=>aN b (aC ((D.take i).map (eO N))) .non V/\ae H b/\i<=D.length) #[Z,ae.refl _,Il _] (λi V b h=>#[h.2.1,?_]) (λi d G V b c I J h=>?_) (λV b h l L=>?_)
 ·rw[ze h.1,HZ,ID]
  exact Oa ..
 ·have R:i < D.length:=by
   rcases No i D.length with z |z
   ·exact z
   ·rw[Ll z]at c;cases c
  refine#[_,Z,_,Z,_,Z,d,G,Z,I,J,O d (IA c),λv Y T j=>#[?_,h.2.1.trans j,R]]
  rw[LB,c,IJ]
  exact JL (jl Z T jB) (h.1.mono (ae.tm j))
 ·refine#[l,V,Z,.inl #[aG.of jc,λr S=>?_]]
  have s:ae b (ah (ah b l (.lst V)) r (.tup V)):=(je L).trans (je S)
  refine q (.ref r) _ (jD jc ?_) (h.2.1.trans s)
  have e:=h.1
  rw[Lj]at e
  exact e.mono (ae.tm s)
noncomputable abbrev tW:Stmt:=bu 63
noncomputable abbrev tX:Stmt:=bu 64
noncomputable abbrev oE:Stmt:=bu 65
def aS(p q:Addr)(H h:Hp):Prop:=∀b o,b≠p->b≠q->H b=some o->h b=some o
theorem aS.refl:aS p q H H:=λ_ _ _ _ h=>h
theorem aS.trans(a:aS p q H d)(b:aS p q d e):aS p q H e:=λc o n m h=>b c o n m (a c o n m h)
theorem aB.two(a:aB p H b):aS p q H b:=λc o n _ h=>a c o n h
theorem aS.of_same(a:ae H b):aS p q H b:=λc o _ _ h=>a c o h
theorem aS.at:aS p q H (ah H q o):=λb u _ m e=>by rw[jh m];exact e
def dm(H:Hp)(q:Addr):Prop:=∃k:Int,H q=some (.lst [.int k])
theorem dm.new{o:HO}(h:dm H q)(n:H r=none):dm (ah H r o) q:=let #[k,e]:=h;#[k,ao e n]
theorem dm.ne(h:dm H q)(B:aq H p):q≠p:=by
 obtain⟨k,e⟩:=h
 obtain⟨a,b,_,_,_,d⟩:=B.ob
 exact jO e d (by intro z;cases z)
theorem dm.but(h:dm H q)(B:aq H p)(k:aB p H a):dm a q:=by
 have n:=h.ne B
 obtain⟨z,e⟩:=h
 exact#[z,k _ _ n e]
theorem aS.tm(k:aS p q H h)(B:aq H p)(s:dm H q):al H h:=λb x e=>by
 obtain⟨a,c,_,_,_,f⟩:=B.ob
 obtain⟨z,g⟩:=s
 exact k b _ (jO e f (by intro w;cases w)) (jO e g (by intro w;cases w)) e
noncomputable def gu(H:Hp)(q:Addr):Int:=match H q with
 |some (.lst [.int k])=>k
 |_=>0
theorem Ji{H:Hp}(e:H q=some (.lst [.int k])):gu H q=k:=by unfold gu;rw[e]
theorem XU{h:Hp}(s:dm H q)(k:∀o,H q=some o->h q=some o):gu h q=gu H q:=by
 obtain⟨z,e⟩:=s
 rw[Ji e,Ji (k _ e)]
theorem kJ(B:aq H p)(s:dm H q)(k:aB p H h):gu h q=gu H q:=XU s λo e=>k _ _ (s.ne B) e
theorem ky(s:dm H q)(k:ae H h):gu h q=gu H q:=XU s λo e=>k _ _ e
def Fn(H:Hp)(c:Str×List Str)(v:V):Prop:=∃p t,v= .ref p/\H p=some (.tup [.str c.1,.ref t])/\H t=some (.tup (c.2.map V.str))
def dF(H:Hp):List (Str×List Str)->List V->Prop
 | [],a=>a=[]
 |c::C,a=>∃v r,a=v::r/\Fn H c v/\dF H C r
theorem dF.mono(k:al H b):∀{c:List (Str×List Str)} {a:List V},dF H c a->dF b c a
 | [],_,h=>h
 |_::_,_,z=>by obtain⟨v,r,e,⟨p,t,E,d,f⟩,g⟩:=z;exact #[v,r,e,#[p,t,E,k _ _ d,k _ _ f],dF.mono k g]
theorem dF.snoc(a:Fn H c v):∀{C:List (Str×List Str)} {b:List V},dF H C b->dF H (C++[c]) (b++[v])
 | [],_,h=>by have e:_=[]:=h;rw[e];exact#[v,[],Z,a,Z]
 |_::_,_,z=>by obtain⟨u,r,e,d,f⟩:=z;exact #[u,r++[v],by rw[e];rfl,d,dF.snoc a f]
theorem dF.len:∀{c:List (Str×List Str)} {v:List V},dF H c v->v.length=c.length
 | [],_,h=>by have e:_=[]:=h;rw[e];rfl
 |_::_,_,z=>by obtain⟨u,r,e,b,a⟩:=z;rw[e,IH,IH,dF.len a]
theorem dF.at:∀{C:List (Str×List Str)} {b:List V},dF H C b->∀(i:Nat) (v:V),b[i]?=some v->∃c,C[i]?=some c/\Fn H c v
 | [],_,h,i,v,a=>by have e:_=[]:=h;rw[e]at a;simp at a
 |c::_,_,q,0,v,a=>by obtain⟨u,r,e,d,f⟩:=q;rw[e]at a;cases a;exact#[c,Z,d]
 |_::C,_,q,i+1,v,a=>by obtain⟨u,r,e,d,f⟩:=q;rw[e]at a;simpa using dF.at f i v (by simpa using a)
theorem Cy(h:dF H C a)(i:0<=k)(j:k < (a.length:Int)):∃v c,dD a k=some v/\c∈C/\Fn H c v:=by
 have b:k.toNat < a.length:=by omega
 have d:k=((k.toNat:Nat):Int):=by omega
 have E:a[k.toNat]?=some a[k.toNat]:=HW b
 have e:dD a ((k.toNat:Nat):Int)=some a[k.toNat]:=jK E
 rw[<- d]at e
 obtain⟨c,f,g⟩:=h.at _ _ E
 exact#[_,c,e,IA f,g]
def Bd.fit(h:List (Str×List Str))(y:List Str)(d:Nat)(b:Bd):Prop:=(b.Ok y/\b.Cs (h.map λc=>(c.1,c.2.length)))/\b.dep<=d
theorem YW:Bd.fit h y d .nil:=#[#[IG,IG],Il _]
theorem AZ{H:List (Str×List Str)}{l:Lf}(h:l.Ok y)(k:l.Cs (H.map λc=>(c.1,c.2.length))):Bd.fit H y d (.lf p l .nil):=#[#[#[h,IG],k,IG],Il _]
theorem YX{a b:Bd}(h:a.fit H y d)(k:b.fit H y d):(a.app b).fit H y d:=#[#[Kb h.1.1 k.1.1,Ka h.1.2 k.1.2],by rw[zj];have:=h.2;have:=k.2;omega]
theorem wm{a b:Bd}(c:dh y T)(h:a.fit H y d)(k:b.fit H y d):Bd.fit H y (d+1) (.ite p t T a b .nil):=#[#[#[c,h.1.1,k.1.1,IG],h.1.2,k.1.2,IG],by show max (max a.dep b.dep+1) 0<=d+1;have:=h.2;have:=k.2;omega]
theorem rK{a:Bd}(H:dh y T)(h:a.fit b y d):Bd.fit b y (d+1) (.loop p t T a .nil):=#[#[#[H,h.1.1,IG],h.1.2,IG],by show max (a.dep+1) 0<=d+1;have:=h.2;omega]
noncomputable def Ho:Nat->Nat
 |0=>1
 |d+1=>1+2*(5*Ho d)
inductive iG(b:List V)(H:Hp)(Q:VK)(a:XK):Prop
 |mk(p g:Addr)(c:List Str)(_:b=[.ref p,.ref g])(_:aq H p)(_:H g=some (.lst (c.map V.str)))(_:1<=c.length)(_:c.length<=20)(_:∀(r:Addr) (T:Tm) (H':Hp),ba H' T r->dh c T->aq H' p->aB p H H'->Q (.ref r) H')
structure nh(H:Hp)(p g h sp:Addr)(ys:List Str)(hs:List (Str×List Str)):Prop where
 B:aq H p
 g:H g=some (.lst (ys.map V.str))
 y1:1<=ys.length
 y2:ys.length<=20
 h:∃hv,H h=some (.lst hv)/\dF H hs hv
 h1:1<=hs.length
 h2:hs.length<=20
 h3:∀c∈hs,c.2.length<=6
 s:dm H sp
theorem nh.gsp{H:Hp}{p g h S:Addr}{y:List Str}{b:List (Str×List Str)}(G:nh H p g h S y b):g≠S:=by
 obtain⟨k,e⟩:=G.s
 refine jO G.g e λz=>?_
 injection z with z
 have c:=G.y1
 match y,c,z with
 |a::r,_,z=>injection z with d _;cases d
theorem nh.hsp{H:Hp}{p g h S:Addr}{y:List Str}{f:List (Str×List Str)}(G:nh H p g h S y f):h≠S/\h≠p:=by
 obtain⟨k,e⟩:=G.s
 obtain⟨j,E,l⟩:=G.h
 obtain⟨a,b,_,_,_,m⟩:=G.B.ob
 have n:=G.h1
 have:∃q r,j= .ref q::r:=by
  match f,n,l with
  |c::C,_,#[v,r,e,#[q,t,o,_],_]=>exact#[q,r,by rw[e,o]]
 obtain⟨q,r,rfl⟩:=this
 refine#[jO E e λz=>?_,jO E m λz=>?_]
 ·injection z with z
  injection z with d _
  cases d
 ·injection z with z
  injection z with d _
  cases d
theorem nh.but2{H a:Hp}{p g h S:Addr}{y:List Str}{b:List (Str×List Str)}(G:nh H p g h S y b)(B:aq a p)(s:dm a S)(k:aS p S H a):nh a p g h S y b:=by
 obtain⟨c,e,E⟩:=G.h
 exact#[B,k _ _ (qg G.B G.g) G.gsp G.g,G.y1,G.y2,#[c,k _ _ G.hsp.2 G.hsp.1 e,E.mono (k.tm G.B G.s)],G.h1,G.h2,G.h3,s]
theorem nh.but{H a:Hp}{p g h S:Addr}{y:List Str}{b:List (Str×List Str)}(G:nh H p g h S y b)(B:aq a p)(k:aB p H a):nh a p g h S y b:=G.but2 B (G.s.but G.B k) k.two
inductive iZ(n:Nat)(f:List V)(H:Hp)(Q:VK)(a:XK):Prop
 |mk(p g h e:Addr)(d:Nat)(i:List Str)(c:List (Str×List Str))(_:f=[.ref p,.ref g,.ref h,.ref e,.int (d:Int)])(_:nh H p g h e i c)(_:d < n)(_:0 < gu H e)(_:∀(r:Addr) (b:Bd) (H':Hp),dw H' b [.ref r]->(b.size:Int)+gu H' e<=gu H e->0<=gu H' e->b.fit c i d->aq H' p->dm H' e->aS p e H H'->Q (.ref r) H')
inductive gA(n:Nat)(f:List V)(H:Hp)(Q:VK)(a:XK):Prop
 |mk(p g h e:Addr)(d:Nat)(i:List Str)(c:List (Str×List Str))(_:f=[.ref p,.ref g,.ref h,.ref e,.int (d:Int)])(_:nh H p g h e i c)(_:d < n)(_:0<=gu H e)(_:∀(r:Addr) (b:Bd) (bs:List V) (H':Hp),H' r=some (.tup bs)->dw H' b bs->(b.size:Int)+gu H' e<=gu H e->0<=gu H' e->b.fit c i d->aq H' p->dm H' e->aS p e H H'->Q (.ref r) H')
theorem uA:ai ["_law_box_here","_law_names_here","_law_kind"] z25z (aa tW):=bp
theorem xf(F:aI K "_law_spot" "_law_spot" tW f M)(C:Cl P w K mg base 1 Y N z0z aU "_law_take")(O:Cl P w K mg base 6 fM R z10z (cq 4) "_law_term"):af P w K mg base aA 7 f M z25z iG:=by
 refine F.ok uA ?_ λS A o s H vs Q E a h=>?_
 ·rintro _ _ _ _ ⟨p,g,y,rfl,_⟩
  rfl
 obtain⟨p,g,y,rfl,B,I,i,j,q⟩:=h
 refine#[_,(jd (jz 2 uA.nd (C.e a.m (ja (pv 0) (ja jf jb)))) (jd (jx (jC K2 (pv 2) jf (aH _)) (jg (jo (O.e a (ja (pv 0) (ja (pv 1) (ja jf jb)))))) jp) (jd (jx (za (pv 2)) (jg (jo (ji (ja jm (ja (jw kU (jw kU (jw Jg jf jf) jf) (C.e a.m (ja (pv 0) (ja jf jb)))) jb))))) jp) (jg (jo (ji (ja jm (ja (C.e a.m (ja (pv 0) (ja jf jb))) jb)))))))),?_]
 have k:g≠p:=qg B I
 refine#[_,Z,p,8,Z,B,OF,OF,λkd J k0 k1 l L=>?_]
 have t:J g=some (.lst (y.map V.str)):=by rw[L g k];exact I
 have u:aB p H J:=aB.of_eq L
 refine#[_,Z,_,_,Z,Z,_,Z,?_]
 refine bN (λc=>?_) (λc=>?_)
 ·exact#[_,Z,_,Z,p,g,1,y,Z,l,t,i,j,OF,OF,λr T v U dT W b X=>q r T v U #[W,OG] b (u.trans X)]
 refine#[_,Z,Z,_,Z,?_]
 refine bN (λc=>?_) (λc=>?_)
 ·refine#[_,_,Z,Z,#[OF,OF,OF],_,_,Z,Z,_,Z,p,4,Z,l,OF,OF,λD v d x b z=>#[_,_,Z,Z,bM,λr n=>?_]]
  exact q r (.num (1000000000000000000 - 1 - D)) _ jc #[#[OG,OG],(by show 0 < 6;decide)] (b.upd_new n) ((u.trans (aB.of_eq z)).upd_new n)
 ·refine#[_,Z,p,12,Z,l,OF,OF,λD v d x b z=>#[bM,λr n=>?_]]
  exact q r (.num D) _ jc #[#[d,OG],(by show 0 < 6;decide)] (b.upd_new n) ((u.trans (aB.of_eq z)).upd_new n)
theorem iW:ai z36z z6z (aa tX):=bp
noncomputable def ZM:Scope:=#[.function,[(".0",.local),("_law_one",.local),("_law_term",.globalImplicit),("_law_box_here",.free),("_law_names_here",.free)],false,false,[]]
theorem Bm:(z31z:List Str).Nodup:=by decide+kernel
theorem AR:bG z36z (aa tX) ZM z31z 1 [0,1]:=rj
def RH(p g h s:Addr)(d:Nat)(k:Int)(y:Str)(H:Hp)(a:_L.St)(b:Hp):Prop:=a=[some (.ref p),some (.ref g),some (.ref h),some (.ref s),some (.int (d:Int)),some (.int k),some (.str y),none,none,none]/\b=H
theorem BR(F:aI K "_law_statement" "_law_statement" tX f fd)(cT:Cl P w K mg base 1 fT f0 z0z aU "_law_take")(cM:Cl P w K mg base 6 fM f3 z10z (cq 4) "_law_term")(cP:Cl P w K mg base 7 fP f4 z25z iG "_law_spot"){L:Nat}(cB:Cl P w K mg base (L+9) fB f5 z6z (gA n) "_law_body")(ml:mg "len"=none)(m0:mg "tuple"=none):af P w K mg base aA (L+10) f fd z6z (iZ (n+1)):=by
 refine F.ok iW ?_ λc3 A o1 s H vs Q E U h=>?_
 ·rintro _ _ _ _ ⟨p,g,h,S,d,ys,hs,rfl,_⟩
  rfl
 obtain⟨p,g,h,S,d,ys,hs,rfl,G0,hd,b6,q⟩:=h
 refine#[_,(jd (jz 5 iW.nd (cT.e U.m (ja (pv 0) (ja jf jb)))) (jd (jz 6 iW.nd (jr jq (pv 1) (cT.e U.m (ja (pv 0) (ja (jS jL Z ml Ld (ja (pv 1) jb)) jb))) (λ_ _=>Z))) (jd (zg (jw kU (jr jq (pv 3) jf (λ_ _=>Z)) jf) (qF (pv 3) jf zu)) (jd (jx (jC K2 (pv 5) jf (aH _)) (jg (jo (ji (ja jm (ja (pv 6) (ja (cP.e U.m (ja (pv 0) (ja (pv 1) jb))) jb)))))) jp) (jd (jx (PW.pt (Q2 (za (pv 5)) (J6 (za (pv 5))))) (jg (jo (ji (ja jm (ja (cP.e U.m (ja (pv 0) (ja (pv 1) jb))) (ja (cM.e U.m (ja (pv 0) (ja (pv 1) (ja jf jb)))) jb)))))) jp) (jd (jx (PW.pt (Q2 (za (pv 5)) (J6 (za (pv 5))))) (jd (zg (jr jq (pv 2) (cT.e U.m (ja (pv 0) (ja (jS jL Z ml Ld (ja (pv 2) jb)) jb))) (λ_ _=>Z)) (zn (n:=2) Z (jA (jv (i:=7) iW.nd Z (Or.inl Z)) (jA (jv (i:=8) iW.nd Z (Or.inl Z)) ki)))) (jg (jo (ji (ja jm (ja (pv 6) (ja (pv 7) (ja (jE jI Z m0 LM (ja (@zi _ _ _ _ _ _ _ (z31z) (1) ([0,1]) _ _ _ _ Z (zJ (pv 8)) AR (λ_ _ _ _ _=>(jv (i:=0) Bm Z (Or.inl Z))) (λ_ _ _ _ _=>(@zK _)) (λ_ _ _ _ _=>(cM.e U.m (ja (pv 1) (ja (pv 2) (ja jf jb))))) (by intro _;rfl)) jb)) jb)))))))) jp) (jd (j8 (jx (PW.pt (Qy (za (pv 5)) (JH (jC Js (pv 4) jf (aH _))))) (jd (jz 9 iW.nd (cB.e U (ja (pv 0) (ja (pv 1) (ja (pv 2) (ja (pv 3) (ja (jw kU (pv 4) jf) jb))))))) (jg (jo (ji (ja jm (ja (cM.e U.m (ja (pv 0) (ja (pv 1) (ja jf jb)))) (ja (pv 9) (ja (cB.e U (ja (pv 0) (ja (pv 1) (ja (pv 2) (ja (pv 3) (ja (jw kU (pv 4) jf) jb)))))) jb)))))))) jp)) (jd (j8 (jx (PW.pt (Qy (za (pv 5)) (JH (jC Js (pv 4) jf (aH _))))) (jg (jo (ji (ja jm (ja (cM.e U.m (ja (pv 0) (ja (pv 1) (ja jf jb)))) (ja (cB.e U (ja (pv 0) (ja (pv 1) (ja (pv 2) (ja (pv 3) (ja (jw kU (pv 4) jf) jb)))))) jb)))))) jp)) (jd (jx (za (pv 5)) (jg (jo (ji (ja jm (ja (cM.e U.m (ja (pv 0) (ja (pv 1) (ja jf jb)))) jb))))) jp) (jg (jo (ji (ja jm (ja (pv 6) (ja (cM.e U.m (ja (pv 0) (ja (pv 1) (ja jf jb)))) jb))))))))))))))),?_]
 have b7:=aF
 have B:=G0.B
 have b9:g≠p:=qg B G0.g
 refine aj λF1 u=>#[_,Z,p,10,Z,B,OF,OF,λkd H1 k0 k1 B1 e1=>u _ _ ?_]
 clear u
 have G1:=G0.but B1 (aB.of_eq e1)
 have y1:=G0.y1
 have y2:=G0.y2
 refine aj λF1 u=>#[_,Z,_,Z,_,Z,g,_,Z,.inl (aG.of G1.g),p,_,Z,B1,by rw[HZ];omega,by rw[HZ];omega,λd2 H2 d1 d0 B2 e2=>?_]
 rw[HZ]at d0
 have G2:=G1.but B2 (aB.of_eq e2)
 obtain⟨y,hy,a2⟩:=J9 (ys:=ys) d1 d0
 refine#[g,_,_,_,Z,Z,aG.of G2.g,a2,u _ _ ?_]
 clear u
 obtain⟨k,hk⟩:=G2.s
 have ek:gu H S=k:=((kJ B1 G1.s (aB.of_eq e2)).trans (kJ B G0.s (aB.of_eq e1))).symm.trans (Ji hk)
 refine aj λF1 u=>#[_,Z,S,_,_,_,Z,Z,aG.of hk,Z,_,_,Z,Z,_,Z,S,_,_,0,Z,Z,hk,Z,u _ _ ?_]
 clear u
 have s0:=G2.s.ne B2
 have B3:aq (ah H2 S (.lst ([.int k].set 0 (.int (k - 1))))) p:=B2.eq (jh (IM s0))
 have s3:dm (ah H2 S (.lst ([.int k].set 0 (.int (k - 1))))) S:=#[k - 1,jc]
 have K3:aS p S H (ah H2 S (.lst ([.int k].set 0 (.int (k - 1))))):=((aB.of_eq e1).trans (aB.of_eq e2)).two.trans aS.at
 have G:=G0.but2 B3 s3 K3
 have e3:gu (ah H2 S (.lst ([.int k].set 0 (.int (k - 1))))) S=k - 1:=Ji jc
 generalize ah H2 S (.lst ([.int k].set 0 (.int (k - 1))))=H3 at B3 s3 K3 G e3
 have l0:∀(l:Lf) (M:List V) (j:Hp) (r:Addr),vK j l M->l.Ok ys->l.Cs (hs.map λc=>(c.1,c.2.length))->nh j p g h S ys hs->aS p S H j->gu j S=k - 1->j r=none->Q (.ref r) (ah j r (.tup M)):=λl M j r hl ok cs C K4 e4 nr=>
  q r (.lf r l .nil) _ #[M,[],Z,jc,hl.mono (ae.tm (je nr)),Z] (by rw[ky C.s (je nr)];show((0+1:Nat):Int)+_<=_;omega) (by rw[ky C.s (je nr)];omega) (AZ ok cs) (C.B.upd_new nr) (C.s.new nr) (K4.trans (aS.of_same (je nr)))
 refine aj λF1 u=>oq λG' D=>#[_,Z,_,_,Z,Z,_,Z,D _ _ ?_]
 clear D
 refine bN (λc=>?_) (λc=>u _ _ ?_)
 ·refine#[_,Z,_,Z,_,Z,p,g,ys,Z,G.B,G.g,y1,y2,λr T j W oT B4 J=>#[gE,λt N=>?_]]
  exact l0 (.rd y r T) _ j t #[Z,W] #[hy,oT] IG (G.but B4 J) (K3.trans J.two) ((kJ G.B G.s J).trans e3) N
 have wr:∀(r:Addr) (T0:Tm) (j:Hp),ba j T0 r->dh ys T0->aq j p->aB p H3 j->dQ (cq 4) [] E0 (am (aW 0) (am (aW 1) (am (tC (.int 2)) aK))) [some (.ref p),some (.ref g),some (.ref h),some (.ref S),some (.int (d:Int)),some (.int kd),some (.str y),none,none,none] j (λv o=>3<=sizeLine/\∀t,o t=none->Q (.ref t) (ah o t (.tup [.str "write",.ref r,v]))):=λr T0 j h4 o0 B4 J=>by
  refine#[_,Z,_,Z,p,g,2,ys,Z,B4,(G.but B4 J).g,y1,y2,OF,OF,λX T o W dT gT R a=>#[OF,λt N=>?_]]
  exact l0 (.wr r X T0 T) _ o t #[Z,h4.but B4 a,W] #[o0,gT,OG] IG (G.but R (J.trans a)) (K3.trans (J.trans a).two) ((kJ G.B G.s (J.trans a)).trans e3) N
 refine aj λF1 u=>oq λG' D=>?_
 have Y:G' true H3:=D _ _ (wA #[_,Z,_,Z,p,g,ys,Z,G.B,G.g,y1,y2,λr T0 j h4 o0 B4 J=>wr r T0 j h4 o0 B4 J])
 refine#[_,Z,Z,_,Z,bN (λc=>Y) (λc=>#[_,Z,Z,_,Z,yN Y λc2=>D _ _ (aV c2 (u _ _ ?_))])]
 clear Y D u
 obtain⟨hv,hh,hH⟩:=G.h
 have hl:=hH.len
 have h1:=G0.h1
 have h2:=G0.h2
 have c1:∀(f':Str) (ps:List Str) (h':(f',ps.length)∈hs.map λc=>(c.1,c.2.length)) (t:Addr) (j:Hp),nh j p g h S ys hs->aS p S H j->gu j S=k - 1->j t=some (.tup (ps.map V.str))->ps.length<=6->
   eK (vJ K t) 1 [some (.ref p),some (.ref g)] (bq 0) l7 (dQ (cq 4) [] E0 (am (aW 1) (am (aW 2) (am (tC (.int 1)) aK)))) (λM o=>∀l,o l=none->∃p' y0,[V.ref l]=[.ref p']/\((aG K (ah o l (.lst M)) p' y0/\∀l2,ah o l (.lst M) l2=none->4<=sizeLine/\∀r,ah (ah o l (.lst M)) l2 (.tup y0) r=none->Q (.ref r) (ah (ah (ah o l (.lst M)) l2 (.tup y0)) r (.tup [.str "call",.str y,.str f',.ref l2])))∨(ay K (ah o l (.lst M)) p' y0/\4<=sizeLine/\∀r,ah o l (.lst M) r=none->Q (.ref r) (ah (ah o l (.lst M)) r (.tup [.str "call",.str y,.str f',.ref p']))))) j:=λf' ps h' t j C K4 e4 ht c4=>by
  refine qv (K:=K) (xs:=ps.map V.str) (by rw[HZ];omega) (λi M o=>∃ts:List (Addr×Tm),M=ts.map (λc=>V.ref c.1)/\ts.length=i/\(∀c∈ts,ba o c.2 c.1/\dh ys c.2)/\aq o p/\aB p j o) #[[],Z,Z,(λ_ h=>absurd h IL),C.B,aB.refl] (λi M o h5=>?_) ?_ ?_
  ·obtain⟨ts,rfl,e5,_,_,a⟩:=h5
   exact#[ay.of (a.tm C.B _ _ ht),by rw[HZ,e5];exact Ib _]
  ·intro i x M o hx a3
   obtain⟨ts,rfl,e5,h5,R,a⟩:=a3
   refine#[_,Z,_,Z,p,g,1,ys,Z,R,(C.but R a).g,y1,y2,OF,OF,λX T H6 W dT gT B6 k6=>#[ts++[(X,T)],by rw[IJ];rfl,by rw[Ia,e5];rfl,λc hc=>?_,B6,a.trans k6]]
   rcases List.mem_append.mp hc with hc |hc
   ·exact#[(h5 c hc).1.but R k6,(h5 c hc).2]
   ·rw[List.mem_singleton.mp hc]
    exact#[W,gT,(by show T.depth < 6;omega)]
  ·rintro M o ⟨ts,rfl,e5,h5,R,a⟩ l nl
   refine#[l,_,Z,.inl #[aG.of jc,λl2 n0=>#[OF,λr nr=>?_]]]
   have O:=C.but R a
   have s6:ae o (ah (ah o l (.lst (ts.map λc=>V.ref c.1))) l2 (.tup (ts.map λc=>V.ref c.1))):=(je nl).trans (je n0)
   rw[HZ]at e5
   exact l0 (.cl y f' l2 ts) _ _ r #[Z,jc,λc hc=>(h5 c hc).1.same s6] #[hy,OG,λc hc=>(h5 c hc).2] (by show(f',ts.length)∈_;rw[e5];exact h') (O.but2 ((O.B.upd_new nl).upd_new n0) ((O.s.new nl).new n0) (aS.of_same s6)) ((K4.trans a.two).trans (aS.of_same s6)) ((ky O.s s6).trans ((kJ C.B C.s a).trans e4)) nr
 refine aj λF1 u=>oq λG' D=>?_
 have Y:G' true H3:=by
  refine D _ _ (wA ?_)
  clear u D
  refine aj λF2 f2=>#[_,Z,_,Z,_,Z,h,_,Z,.inl (aG.of hh),p,_,Z,G.B,OG,OG,λd4 j d3 d5 B4 e4=>?_]
  have C:=G.but B4 (aB.of_eq e4)
  have J:aB p H3 j:=aB.of_eq e4
  have a4:=hH.mono (J.tm G.B)
  obtain⟨v,c0,a',a0,p4,t4,rfl,z1,z2⟩:=Cy a4 d3 d5
  refine#[h,_,_,_,Z,Z,aG.of (J _ _ G.hsp.2 hh),a',p4,_,Z,ay.of z1,Z,_,_,Z,_,_,Z,Z,f2 _ _ ?_]
  clear f2
  refine#[_,Z,_,Z,_,Z,t4,Z,#[_,ay.of z2],?_]
  exact c1 c0.1 c0.2 (List.mem_map.mpr #[c0,a0,Z]) t4 j C (K3.trans J.two) ((kJ G.B G.s J).trans e3) z2 (G0.h3 c0 a0)
 refine#[_,Z,Z,_,Z,bN (λc=>Y) (λc=>#[_,Z,Z,_,Z,yN Y λc2=>D _ _ (aV c2 (u _ _ ?_))])]
 clear Y D u
 have l1:∀(c:(0:Int) < (d:Int)),∃d':Nat,d=d'+1:=λc=>#[d - 1,OG]
 refine aj λF1 u=>dB (RH p g h S d kd y H3) (λE6 eR f6=>?_) λσ0 H' z=>?_
 ·clear u
  refine oq λG' D=>#[_,Z,Z,_,Z,?_]
  refine bN (λc=>?_) (λc=>D _ _ (pM (f6 _ _ #[Z,Z])))
  refine#[_,Z,_,_,Z,Z,_,Z,D _ _ ?_]
  clear D
  refine bN (λc2=>?_) (λc2=>f6 _ _ #[Z,Z])
  clear f6
  obtain⟨d',rfl⟩:=l1 (La c2)
  have ed:(((d'+1:Nat):Int) - 1)=((d':Nat):Int):=by omega
  refine#[_,Z,_,Z,_,Z,_,Z,_,Z,_,_,Z,Z,p,g,h,S,d',ys,hs,(by show [V.ref p,V.ref g,V.ref h,V.ref S,V.int (((d'+1:Nat):Int) - 1)]=_;rw[ed]),G,OG,OG,λr b bs j b1 b2 c5 b4 b5 B4 s4 J=>?_]
  have C:=G.but2 B4 s4 J
  refine#[_,Z,_,Z,p,g,2,ys,Z,C.B,C.g,y1,y2,OF,OF,λX T o W dT gT R a=>?_]
  have O:=C.but R a
  refine#[_,Z,_,Z,_,Z,_,Z,_,Z,_,Z,_,_,Z,Z,p,g,h,S,d',ys,hs,(by show [V.ref p,V.ref g,V.ref h,V.ref S,V.int (((d'+1:Nat):Int) - 1)]=_;rw[ed]),O,OG,(by rw[kJ C.B C.s a];exact b4),λr3 b3 b0 H6 h6 h7 a1 h8 h0 B6 s6 k6=>#[pU,λt N=>?_]]
  have G6:=O.but2 B6 s6 k6
  have tm:al j H6:=λb' xs e=>k6.tm O.B O.s _ _ (a.tm C.B _ _ e)
  have I:al H6 (ah H6 t (.tup [.str "if",.ref X,.ref r,.ref r3])):=ae.tm (je N)
  rw[eR]
  refine q t (.ite t X T b b3 .nil) _ #[r,r3,bs,b0,[],Z,jc,(W.mono (k6.tm O.B O.s)).mono I,I _ _ (tm _ _ b1),I _ _ h6,(b2.mono tm).mono I,h7.mono I,Z] (by have x1:=kJ C.B C.s a;rw[ky G6.s (je N)];show((b.size+b3.size+0+1:Nat):Int)+_<=_;omega) (by rw[ky G6.s (je N)];exact h8) (wm #[gT,OG] b5 h0) (G6.B.upd_new N) (G6.s.new N) (((K3.trans J).trans (a.two.trans k6)).trans (aS.of_same (je N)))
 obtain⟨rfl,e⟩:=z
 rw[e]
 refine u _ _ ?_
 clear u
 refine aj λF1 u=>dB (RH p g h S d kd y H3) (λE6 eR f6=>?_) λσ0 H' z=>?_
 ·clear u
  refine oq λG' D=>#[_,Z,Z,_,Z,?_]
  refine bN (λc=>?_) (λc=>D _ _ (pM (f6 _ _ #[Z,Z])))
  refine#[_,Z,_,_,Z,Z,_,Z,D _ _ ?_]
  clear D
  refine bN (λc2=>?_) (λc2=>f6 _ _ #[Z,Z])
  clear f6
  obtain⟨d',rfl⟩:=l1 (La c2)
  have ed:(((d'+1:Nat):Int) - 1)=((d':Nat):Int):=by omega
  refine#[_,Z,_,Z,p,g,2,ys,Z,G.B,G.g,y1,y2,OF,OF,λX T o W dT gT R a=>?_]
  have O:=G.but R a
  refine#[_,Z,_,Z,_,Z,_,Z,_,Z,_,_,Z,Z,p,g,h,S,d',ys,hs,(by show [V.ref p,V.ref g,V.ref h,V.ref S,V.int (((d'+1:Nat):Int) - 1)]=_;rw[ed]),O,OG,(by rw[kJ G.B G.s a];omega),λr3 b3 b0 H6 h6 h7 a1 h8 h0 B6 s6 k6=>#[gE,λt N=>?_]]
  have G6:=O.but2 B6 s6 k6
  have I:al H6 (ah H6 t (.tup [.str "while",.ref X,.ref r3])):=ae.tm (je N)
  rw[eR]
  refine q t (.loop t X T b3 .nil) _ #[r3,b0,[],Z,jc,(W.mono (k6.tm O.B O.s)).mono I,I _ _ h6,h7.mono I,Z] (by have x1:=kJ G.B G.s a;rw[ky G6.s (je N)];show((b3.size+0+1:Nat):Int)+_<=_;omega) (by rw[ky G6.s (je N)];exact h8) (rK #[gT,OG] h0) (G6.B.upd_new N) (G6.s.new N) ((K3.trans (a.two.trans k6)).trans (aS.of_same (je N)))
 obtain⟨rfl,e⟩:=z
 rw[e]
 refine u _ _ ?_
 clear u
 refine aj λF1 u=>oq λG' D=>#[_,Z,Z,_,Z,D _ _ ?_]
 clear D
 refine bN (λc=>?_) (λc=>u _ _ ?_)
 ·refine#[_,Z,_,Z,p,g,2,ys,Z,G.B,G.g,y1,y2,OF,OF,λX T o W dT gT R a=>#[bM,λt N=>?_]]
  exact l0 (.gv X T) _ o t #[Z,W] #[gT,OG] IG (G.but R a) (K3.trans a.two) ((kJ G.B G.s a).trans e3) N
 ·refine#[_,Z,_,Z,_,Z,p,g,3,ys,Z,G.B,G.g,y1,y2,OF,OF,λX T o W dT gT R a=>#[gE,λt N=>?_]]
  exact l0 (.st y X T) _ o t #[Z,W] #[hy,gT,OG] IG (G.but R a) (K3.trans a.two) ((kJ G.B G.s a).trans e3) N
theorem nZ:ai ["_law_box_here","_law_names_here","_law_heads","_law_spare","_law_deep","_law_body_here","_law_k"] z6z (aa oE):=bp
theorem YY(F:aI K "_law_body" "_law_body" oE f fd)(cT:Cl P w K mg base 1 fT f0 z0z aU "_law_take"){L:Nat}(cS:Cl P w K mg base (L+8) fS f1 z6z (iZ n) "_law_statement")(mr:mg "range"=none)(m2:mg "tuple"=none):af P w K mg base aA (L+9) f fd z6z (gA n):=by
 refine F.ok nZ ?_ λc0 A o0 s H v Q E hr h=>?_
 ·rintro _ _ _ _ ⟨p,g,h,S,d,ys,hs,rfl,_⟩
  rfl
 obtain⟨p,g,h,S,d,ys,hs,rfl,G,hd,h0,q⟩:=h
 refine#[_,(jd (jz 5 nZ.nd (jG jb)) (jd (jX IK Z (kW Z mr (ja (cT.e hr.m (ja (pv 0) (ja jf jb))) jb)) (jv (i:=6) nZ.nd Z (Or.inl Z)) (jg (jx (jC Js (jr jq (pv 3) jf (λ_ _=>Z)) jf (aH _)) (jg (jJ (j9 Ii Iy Ix jP (pv 5) (ja (cS.e hr (ja (pv 0) (ja (pv 1) (ja (pv 2) (ja (pv 3) (ja (pv 4) jb)))))) jb)))) jp))) (jg (jo (jE jI Z m2 LM (ja (pv 5) jb)))))),?_]
 have b0:=aF
 refine#[Il _,λl N=>?_]
 have s0:ae H (ah H l (.lst [])):=je N
 have O:nh (ah H l (.lst [])) p g h S ys hs:=G.but2 (G.B.upd_new N) (G.s.new N) (aS.of_same s0)
 have l1:ah H l (.lst []) l=some (.lst []):=jc
 have lp:l≠p:=G.B.ne N
 have D:l≠S:=λe=>by obtain⟨k,z⟩:=G.s;rw[<- e,N]at z;cases z
 have k1:aS p S H (ah H l (.lst [])):=aS.of_same s0
 have R:gu (ah H l (.lst [])) S=gu H S:=ky G.s s0
 generalize ah H l (.lst [])=H1 at O l1 k1 R
 refine#[_,Z,p,6,Z,O.B,OF,OF,λm H2 m0 m1 B2 e2=>#[_,Z,OG,OG,?_]]
 have G2:=O.but B2 (aB.of_eq e2)
 refine Qa (lo:=0) (λi σ I=>∃(o6:Option V) (v:List V) (b:Bd),σ=[some (.ref p),some (.ref g),some (.ref h),some (.ref S),some (.int (d:Int)),some (.ref l),o6]/\I l=some (.lst v)/\dw I b v/\((b.size:Int)+gu I S<=gu H S/\0<=gu I S)/\b.fit hs ys d/\v.length<=i/\aq I p/\dm I S/\aS p S H I)
  #[none,[],.nil,Z,by rw[e2 l lp];exact l1,Z,(by rw[kJ O.B O.s (aB.of_eq e2),R];exact#[by show((0:Nat):Int)+_<=_;omega,h0]),YW,Il _,B2,G2.s,k1.trans (aB.of_eq e2).two] ?_ ?_
 ·intro i σ H3 hi J
  obtain⟨o6,v,b,rfl,a,u,j,x,h1,T,C,U⟩:=J
  have G3:=G.but2 T C U
  obtain⟨kk,W⟩:=id C
  refine#[_,Z,S,_,_,_,Z,Z,aG.of W,Z,_,_,Z,Z,_,Z,?_]
  refine bN (λc=>?_) (λc=>?_)
  ·refine#[_,Z,.inl #[Z,_,aG.of a],_,Z,_,Z,_,Z,_,Z,_,Z,p,g,h,S,d,ys,hs,Z,G3,hd,(by rw[Ji W];exact La c),λr b4 H4 h2 h5 h3 h4 B4 s4 k4=>?_]
   have X:H4 l=some (.lst v):=k4 _ _ lp D a
   refine#[l,_,_,Z,Z,X,OG,?_]
   have tm:al H4 (ah H4 l (.lst (v++[.ref r]))):=λb' xs e=>by rw[jh (jO e X (by intro z;cases z))];exact e
   have Y:al H3 H4:=k4.tm T C
   refine#[_,_,b.app b4,Z,jc,(h2.mono tm).app ((u.mono Y).mono tm),?_,YX x h4,by rw[Ia];show v.length+1<=i+1;omega,B4.eq (jh (IM lp)),?_,λb' o n1 n2 e=>?_]
   ·rw[jZ,XU s4 λo e=>by rw[jh (IM D)];exact e]
    obtain⟨z1,z2⟩:=j
    exact#[OG,h3]
   ·obtain⟨z,hz⟩:=s4
    exact#[z,by rw[jh (IM D)];exact hz]
   ·rw[jh (jk e N)]
    exact k4 _ _ n1 n2 (U _ _ n1 n2 e)
  ·exact#[_,v,b,Z,a,u,j,x,OG,T,C,U]
 ·intro σ H3 J
  obtain⟨o6,v,b,rfl,a,u,j,x,h1,T,C,U⟩:=J
  refine#[_,Z,l,v,Z,.inl #[aG.of a,λt M=>?_]]
  have hm:(m).toNat<=5:=by omega
  refine q t b v _ jc (u.mono (ae.tm (je M))) (by rw[ky C (je M)];exact j.1) (by rw[ky C (je M)];exact j.2) x (T.upd_new M) (C.new M) (U.trans (aS.of_same (je M)))
theorem sy:af P w K mg base aA 8 f c z6z (iZ 0):=by
 have n:∀v H Q E,¬iZ 0 v H Q E:=λv H Q E h=>by
  obtain⟨p,g,h,S,d,y,e,_,_,b,_⟩:=h
  exact absurd b (M1 _)
 exact#[λv H Q E h=>absurd h (n v H Q E),λA o s H a u v Q E _ _ _ _ h=>absurd h (n v H Q E)]
theorem ET(F:aI K "_law_statement" "_law_statement" tX f e)(FB:aI K "_law_body" "_law_body" oE g a)(c:Cl P w K mg base 1 r k z0z aU "_law_take")(C:Cl P w K mg base 6 s l z10z (cq 4) "_law_term")(h:Cl P w K mg base 7 t o z25z iG "_law_spot")(b:ax K e z6z [])(M:mg "_law_statement"=some (.ref f))(B:ax K a z6z [])(i:mg "_law_body"=some (.ref g))(j:mg "len"=none)(m:mg "tuple"=none)(d:mg "range"=none):
  ∀n:Nat,af P w K mg base aA (n+n+8) f e z6z (iZ n)/\af P w K mg base aA (n+n+9) g a z6z (gA n)
 |0=>#[sy,YY (L:=0) FB c #[sy,b,F.kp,M] d m]
 |n+1=>by
  have I:=ET F FB c C h b M B i j m d n
  have E:n+n+10=n+1+(n+1)+8:=by omega
  have p:n+n+2+9=n+1+(n+1)+9:=by omega
  have H:=BR (L:=n+n) F c C h #[I.2,B,FB.kp,i] j m
  have q:=YY (L:=n+n+2) FB c #[H,b,F.kp,M] d m
  rw[<- E,<- p]
  exact#[H,q]
theorem DR{x:List V}(h:k<=x.length):aM x none (some (k:Int))=x.take k:=by
 unfold aM
 rw[HT.sIx_nat,HT.sIx_none]
 have e:min k x.length=k:=by omega
 rw[e]
 simp
noncomputable abbrev Cz:Stmt:=bu 66
theorem wc(h:0<=d)(H:d < 4):∃D:Nat,dD [V.int 3,.int 3,.int 3,.int 5] d=some (.int (D:Int))/\D < 6/\Ho D<=111111/\D<=5:=by
 rcases(by omega:d=0∨d=1∨d=2∨d=3) with rfl |rfl |rfl |rfl
 ·exact#[3,Z,OF,OF,OF]
 ·exact#[3,Z,OF,OF,OF]
 ·exact#[3,Z,OF,OF,OF]
 ·exact#[5,Z,OF,OF,OF]
theorem rA{ys:List Str}{k:Int}(h:ys.length=20)(H:14<=k)(a:k<=20):1<=(be ys (some 8) (some k)).length/\(be ys (some 8) (some k)).length<=20:=by
 refine#[?_,by have:=qk ys (some 8) (some k);omega]
 have e:(8:Int)=((8:Nat):Int):=rfl
 have E:k=((k.toNat:Nat):Int):=by omega
 unfold be
 rw[e,E,HT.sIx_nat,HT.sIx_nat,ID,Lw]
 omega
theorem vZ{ss:List Str}(h:0<=k):(be ss none (some k)).length<=k.toNat:=by
 have e:k=((k.toNat:Nat):Int):=by omega
 unfold be
 rw[e,HT.sIx_nat,HT.sIx_none,ID]
 omega
theorem fQ{t u:TS}(h:∀E:aZ,(∀a b,u D a b->E.nx a b)->t E c H):dC t u D c H:=h { D with nx:=u D } λ_ _ h=>h
def DB(h:List (Str×List Str)):Prop:=∀c∈h,c.1.length<=20/\c.2.length<=6
def Ht(H:Hp)(D:List Df):Prop:=∀d∈D,∃p:List Str,H d.pa=some (.tup (p.map V.str))/\p.length<=100
theorem qZ{a:Type}{P:a->Prop}{X:List a}{x:a}(h:∀c∈X,P c)(H:P x):∀c∈X++[x],P c:=λc b=>by
 rcases List.mem_append.mp b with h1 |h1
 ·exact h c h1
 ·rw[List.mem_singleton.mp h1];exact H
def mf(H:Hp)(D:List Df)(N:List Nat):Prop:=D.length=N.length/\∀(i:Nat) (d:Df) (n:Nat),D[i]?=some d->N[i]?=some n->∃p:List Str,H d.pa=some (.tup (p.map V.str))/\p.length=n/\n<=100
theorem mf.mono(h:mf H D N)(k:al H a):mf a D N:=#[h.1,λi d n b c=>let #[p,e,l]:=h.2 i d n b c;#[p,k _ _ e,l]]
theorem mf.snoc{d:Df}{p:List Str}(h:mf H D N)(e:H d.pa=some (.tup (p.map V.str)))(l:p.length<=100):mf H (D++[d]) (N++[p.length]):=by
 refine#[by rw[Ia,Ia,h.1];rfl,λi c n a b=>?_]
 by_cases f:i < D.length
 ·rw[LU f]at a
  rw[LU (by rw[<- h.1];exact f)]at b
  exact h.2 i c n a b
 ·have g:i < (D++[d]).length:=(List.getElem?_eq_some_iff.mp a).1
  rw[Ia]at g
  have E:i=D.length:=by have:i < D.length+1:=g;omega
  subst E
  rw[LO (Ib _),M4]at a
  rw[h.1,LO (Ib _),M4]at b
  cases a
  cases b
  exact#[p,e,Z,l]
theorem mf.v(h:mf H D n):Ht H D:=λd b=>by
 obtain⟨i,a,e⟩:=List.mem_iff_getElem.mp b
 have c:D[i]?=some d:=by rw[<- e];exact HW a
 obtain⟨p,e,l,k⟩:=h.2 i d _ c (HW (by rw[<- h.1];exact a))
 exact#[p,e,OG]
def pW(D:List Df)(n:List Nat):Prop:=(∀d∈D,nF d/\d.b.Cs ((D.map Df.f).zip n))/\(D.map Df.f).Nodup/\∀y∈D.map Df.f,y.length<=20
inductive oU(c:List V)(H:Hp)(Q:VK)(a:XK):Prop
 |mk(p:Addr)(T b:Int)(_:c=[.ref p,.int T,.int b])(_:aq H p)(_:1<=T)(_:T<=8)(_:0<=b)(_:b<=40)(_:∀(r:Addr) (ds:List Df) (xs:List V) (H':Hp),H' r=some (.tup xs)->cj H' ds xs->(ds.length:Int)=T->∀ns:List Nat,pW ds ns->mf H' ds ns->aq H' p->aB p H H'->Q (.ref r) H')
theorem cQ:ai ["_law_box_here","_law_total","_law_room","_law_words","_law_most","_law_heads","_law_k","_law_turn","_law_row","_law_some","_law_deep","_law_defs","_law_f","_law_params","_law_spare","_law_body_here"] z32z (aa Cz):=bp
inductive AJ(p k:Addr)(T j:Int)(H:Hp)(b:_L.St)(c:Hp):Prop
 |mk(a:List Str)(d:b=[some (.ref p),some (.int T),some (.int j),some (.ref k),none,none,none,none,none,none,none,none,none,none,none,none])(e:c k=some (.lst (a.map V.str)))(f:a.length=20)(g:(∀y∈a,y.length<=20)/\(a.take 8).Nodup)(h:aq c p)(i:aB p H c)
inductive AI(p t k:Addr)(T s m:Int)(u:List Str)(H:Hp)(i:Nat)(v:_L.St)(a:Hp):Prop
 |mk(o q r:Option V)(l:List (Str×List Str))(n:List V)(b:v=[some (.ref p),some (.int T),some (.int s),some (.ref t),some (.int m),some (.ref k),o,q,r,none,none,none,none,none,none,none])(c:a k=some (.lst n))(d:dF a l n)(e:l.length=i)(f:DB l/\l.map (·.1)=u.take i)(g:a t=some (.lst (u.map V.str)))(h:aq a p)(j:aB p H a)
inductive AK(p G y F h:Addr)(T E m:Int)(j:Nat)(I:List Str)(z:List (Str×List Str))(A:List V)(H:Hp)(i:Nat)(J:_L.St)(g:Hp):Prop
 |mk(B C D b c e f:Option V)(k:List Df)(l:List V)(n:J=[some (.ref p),some (.int T),some (.int E),some (.ref G),some (.int m),some (.ref y),B,C,D,some (.ref F),some (.int (j:Int)),some (.ref h),b,c,e,f])(o:g h=some (.lst l))(q:cj g k l)(r:k.length=i)(s:(∀d∈k,nF d/\d.b.Cs (z.map λc=>(c.1,c.2.length)))/\k.map Df.f=(z.map (·.1)).take i)(t:g y=some (.lst A))(u:dF g z A)(v:g F=some (.lst (I.map V.str)))(w:aq g p)(x:aB p H g)(a:mf g k ((z.map λc=>c.2.length).take i))
inductive AL(v:List (Str×List Str))(D:List Str)(p C u z h B A:Addr)(T y m:Int)(i:Nat)(w x:Option V)(c:Str×List Str)(e:Hp)(j:Nat)(E:_L.St)(d:Hp):Prop
 |mk(a:Option V)(f:Addr)(b:Bd)(g:List V)(k:E=[some (.ref p),some (.int T),some (.int y),some (.ref C),some (.int m),some (.ref u),a,w,x,some (.ref z),some (.int (i:Int)),some (.ref h),some (.str c.1),some (.ref B),some (.ref A),some (.ref f)])(l:d f=some (.tup g))(n:dw d b g)(o:(b.size:Int)+gu d A<=y/\0<=gu d A)(q:b.fit v D i)(r:aq d p)(s:dm d A)(t:aS p A e d)
theorem Bt(F:aI K "_law_any" "_law_any" Cz f fd)(cT:Cl P w K mg base 1 fT i' z0z aU "_law_take")(cA:Cl P w K mg base 2 fA j0 z24z f8 "_law_names")(cB:Cl P w K mg base 21 fB j1 z6z (gA 6) "_law_body")(ml:mg "len"=none)(mr:mg "range"=none)(m0:mg "tuple"=none)(mi:mg "int"=none):af P w K mg base aA 22 f fd z32z oU:=by
 refine F.ok cQ ?_ λj2 A o4 s H vs Q E hr h=>?_
 ·rintro _ _ _ _ ⟨p,T,Y,rfl,_⟩
  rfl
 obtain⟨p,T,Y,rfl,B,j3,l4,f5,l5,q⟩:=h
 refine#[_,(jd (jz 3 cQ.nd (cA.e hr.m (ja (pv 0) (ja jf jb)))) (jd (j8 (jx (za (cT.e hr.m (ja (pv 0) (ja jf jb)))) (jg (zg (jH kG (pv 3) jR (jF jf)) (@sX _ _ _ _ _ _ _ _ _ (pv 3) jf jf (by intro _;rfl)))) jp)) (jd (jz 4 cQ.nd (jr jq (jG (ja jf (ja jf jb))) (jE qr Z mi boot_int (ja (qO qw (cT.e hr.m (ja (pv 0) (ja jf jb))) jf (aH _)) jb)) (λ_ _=>Z))) (jd (jz 5 cQ.nd (jG jb)) (jd (jX IK Z (kW Z mr (ja (pv 1) jb)) (jv (i:=6) cQ.nd Z (Or.inl Z)) (jd (jz 7 cQ.nd (jw jY jf (cT.e hr.m (ja (pv 0) (ja jf jb))))) (jd (jz 8 cQ.nd (jw qf (jH kG (pv 3) (jF (pv 7)) (jF jf)) (jH kG (pv 3) (jF jf) (jF (pv 7))))) (jg (jJ (j9 Ii Iy Ix jP (pv 5) (ja (ji (ja (jr jq (pv 3) (pv 6) (λ_ _=>Z)) (ja (jE jI Z m0 LM (ja (jH kG (pv 8) jR (jF (cT.e hr.m (ja (pv 0) (ja (pv 4) jb))))) jb)) jb))) jb))))))) (jd (jz 9 cQ.nd (jH kG (pv 3) (jF jf) (jF (jw jY jf (cT.e hr.m (ja (pv 0) (ja jf jb))))))) (jd (jz 10 cQ.nd (jr jq (jG (ja jf (ja jf (ja jf (ja jf jb))))) (cT.e hr.m (ja (pv 0) (ja jf jb))) (λ_ _=>Z))) (jd (jz 11 cQ.nd (jG jb)) (jd (jX IK Z (zE (pv 5)) (zn (n:=2) Z (jA (jv (i:=12) cQ.nd Z (Or.inl Z)) (jA (jv (i:=13) cQ.nd Z (Or.inl Z)) ki))) (jd (jz 14 cQ.nd (jG (ja (pv 2) jb))) (jd (jz 15 cQ.nd (ji jb)) (jd (jX IK Z (kW Z mr (ja jf jb)) (jv (i:=6) cQ.nd Z (Or.inl Z)) (jg (jz 15 cQ.nd (jw j7 (pv 15) (cB.e hr (ja (pv 0) (ja (pv 9) (ja (pv 5) (ja (pv 14) (ja (pv 10) jb)))))))))) (jg (jJ (j9 Ii Iy Ix jP (pv 11) (ja (ji (ja (pv 12) (ja (pv 13) (ja (pv 15) jb)))) jb)))))))) (jg (jo (jE jI Z m0 LM (ja (pv 11) jb))))))))))))),?_]
 have l6:=aF
 refine fQ λE1 m1=>?_
 refine#[_,Z,p,20,Z,B,OF,OF,λW ys H1 c3 f7 c4 C B1 k1=>?_]
 refine m1 _ _ ?_
 refine fQ λE2 m2=>?_
 have wp:W≠p:=B.ne c3
 refine dB (AJ p W T Y H) (λE0 _ fm=>?_) λσ0 H2 l=>?_
 ·clear m2
  refine oq λG' g'=>#[_,Z,p,2,Z,B1,OF,OF,λd1 H2 l8 l' B2 e2=>?_]
  have h0:H2 W=some (.lst (ys.map V.str)):=by rw[e2 W wp];exact f7
  have k2:=k1.trans (aB.of_eq e2)
  refine#[Z,_,Z,g' _ _ ?_]
  clear g'
  refine bN (λc=>?_) (λc=>fm _ _ #[ys,Z,h0,OG,#[C.1,C.2.sublist (LZ _ _)],B2,k2])
  refine#[_,Z,_,Z,W,_,Z,aG.of h0,λsl n0=>?_]
  have f9:W≠sl:=λe=>by rw[<- e,h0]at n0;cases n0
  have m':=B2.ne n0
  refine#[_,Z,W,sl,_,_,_,_,Z,Z,Z,Z,ao h0 n0,jc,f9,OF,OF,by rw[HZ];omega,?_,?_]
  ·have:=zf (ys.map V.str) none (some 2)
   rw[HZ]at this ⊢
   omega
  have e2:aM (ys.map V.str) none (some 2)=(ys.take 2).map V.str:=by
   rw[show(2:Int)=((2:Nat):Int) from Z,DR (by rw[HZ];omega),Nb]
  refine fm _ _ #[ys.take 8++ys.take 2++ys.drop 10,Z,?_,?_,?_,(B2.upd_new n0).eq (jh (IM wp)),?_]
  ·rw[jc,e2,IJ,IJ,Nb,List.map_drop,Nb]
   rfl
  ·rw[Ia,Ia,ID,ID,Lw]
   omega
  ·refine#[λy hy=>?_,?_]
   ·rcases List.mem_append.mp hy with h |h
    ·rcases List.mem_append.mp h with h |h
     ·exact C.1 y (Lc h)
     ·exact C.1 y (Lc h)
    ·exact C.1 y (List.mem_of_mem_drop h)
   ·rw[M',List.take_append_of_le_length (by rw[ID];omega),Om]
    exact C.2.sublist (LZ _ _)
  ·exact(k2.upd_new n0).upd_own c3
 obtain⟨ys,rfl,h0,c4,C,B2,k2⟩:=l
 refine m2 _ _ ?_
 clear m1 m2
 refine fQ λE3 m3=>?_
 refine#[bM,λl1 n7=>?_]
 refine#[_,Z,p,3,Z,B2.upd_new n7,OF,OF,λd2 H3 o9 o' B3 e3=>?_]
 have k3:aB p H2 H3:=((aB.refl).upd_new n7).trans (aB.of_eq e3)
 have l0:=B2.ne n7
 have f':H3 l1=some (.lst [.int 4,.int 7]):=by rw[e3 l1 l0];exact jc
 refine#[Z,.inr #[_,Z,?_]]
 have a':∀c:Bool,∃m:Int,dD [V.int 4,V.int 7] (if c then 1 else 0)=some (.int m)/\4<=m/\m<=7:=λc=>by
  cases c
  ·exact#[4,Z,OF,OF]
  ·exact#[7,Z,OF,OF]
 obtain⟨m,hm,m4,m7⟩:=a' _
 refine#[l1,_,_,_,Z,Z,aG.of f',hm,?_]
 refine m3 _ _ ?_
 refine fQ λE4 m4=>?_
 have c5:H3 W=some (.lst (ys.map V.str)):=k3 _ _ wp h0
 have k0:=k2.trans k3
 refine#[Il _,λhl n1=>?_]
 refine m4 _ _ ?_
 refine fQ λE5 m5=>?_
 have h4:=B3.ne n1
 have n5:H hl=none:=by
  cases z:H hl with
  |none=>rfl
  |some o=>have:=k0 _ _ h4 z;rw[n1]at this;cases this
 have wh:W≠hl:=λe=>by rw[<- e,c5]at n1;cases n1
 refine dq λJ j=>#[_,Z,T,Z,OG,OG,j _ _ ?_]
 clear j
 refine kB (lo:=0) (AI p W hl T Y m ys H)
  #[none,none,none,[],[],Z,jc,Z,Z,#[(λc hc=>nomatch hc),Z],ao c5 n1,B3.upd_new n1,k0.upd_own n5] ?_ ?_
 ·intro D' _ i σ H4 hi f0 Gq u l
  obtain⟨o6,o7,o8,hs,hv,rfl,b1,h6,c6,h7,b2,B4,k4⟩:=l
  refine u ?_
  clear u m5 m3 m4
  show dC (du _ _) _ D' _ _
  refine fQ λF1 f1=>?_
  refine#[_,Z,p,6,Z,B4,OF,OF,λD H5 g0 g1 B5 e5=>?_]
  have k5:aB p H4 H5:=aB.of_eq e5
  have h8:=k5 _ _ wp b2
  have b3:=k5 _ _ h4 b1
  have b4:=h6.mono (k5.tm B4)
  refine#[_,_,Z,Z,?_]
  refine f1 _ _ ?_
  show dC (du _ _) _ D' _ _
  refine fQ λF2 f2=>?_
  refine#[_,Z,_,Z,_,Z,_,Z,W,_,Z,aG.of h8,λs1 n9=>?_]
  refine#[_,Z,_,Z,_,Z,_,Z,W,_,Z,aG.of (ao h8 n9),λs2 n'=>?_]
  have L1:=qk ys (some (8+D)) (some 14)
  have L0:=qk ys (some 8) (some (8+D))
  have L3:=zf (ys.map V.str) (some (8+D)) (some 14)
  have L4:=zf (ys.map V.str) (some 8) (some (8+D))
  rw[HZ]at L3 L4
  refine#[s1,s2,_,_,Z,Z,ao jc n',jc,OG,λrl c9=>?_]
  refine f2 _ _ ?_
  have er:aM (ys.map V.str) (some (8+D)) (some 14)++aM (ys.map V.str) (some 8) (some (8+D))=(be ys (some (8+D)) (some 14)++be ys (some 8) (some (8+D))).map V.str:=by
   rw[zz,zz,IJ]
  have s6:ae H5 (ah (ah (ah H5 s1 (.lst (aM (ys.map V.str) (some (8+D)) (some 14)))) s2 (.lst (aM (ys.map V.str) (some 8) (some (8+D))))) rl (.lst (aM (ys.map V.str) (some (8+D)) (some 14)++aM (ys.map V.str) (some 8) (some (8+D))))):=((je n9).trans (je n')).trans (je c9)
  have r6:ah (ah (ah H5 s1 (.lst (aM (ys.map V.str) (some (8+D)) (some 14)))) s2 (.lst (aM (ys.map V.str) (some 8) (some (8+D))))) rl (.lst (aM (ys.map V.str) (some (8+D)) (some 14)++aM (ys.map V.str) (some 8) (some (8+D)))) rl=some (.lst ((be ys (some (8+D)) (some 14)++be ys (some 8) (some (8+D))).map V.str)):=by rw[jc,er]
  have B6:aq (ah (ah (ah H5 s1 (.lst (aM (ys.map V.str) (some (8+D)) (some 14)))) s2 (.lst (aM (ys.map V.str) (some 8) (some (8+D))))) rl (.lst (aM (ys.map V.str) (some (8+D)) (some 14)++aM (ys.map V.str) (some 8) (some (8+D))))) p:=((B5.upd_new n9).upd_new n').upd_new c9
  generalize ah (ah (ah H5 s1 (.lst (aM (ys.map V.str) (some (8+D)) (some 14)))) s2 (.lst (aM (ys.map V.str) (some 8) (some (8+D))))) rl (.lst (aM (ys.map V.str) (some (8+D)) (some 14)++aM (ys.map V.str) (some 8) (some (8+D))))=H6 at s6 r6 B6
  have LR:(be ys (some (8+D)) (some 14)++be ys (some 8) (some (8+D))).length<=40:=by rw[Ia];omega
  generalize be ys (some (8+D)) (some 14)++be ys (some 8) (some (8+D))=r0 at r6 LR
  have c':=s6 _ _ h8
  have h':=s6 _ _ b3
  have ei:(0:Int)+(i:Int)=(i:Int):=Int.zero_add _
  rw[ei]
  obtain⟨y,b5⟩:∃y,ys[i]?=some y:=#[_,HW (by omega:i < ys.length)]
  have hy:=IA b5
  have a':dD (ys.map V.str) (i:Int)=some (.str y):=jK (by rw[Ir,b5];rfl)
  have rp:rl≠p:=qg B6 r6
  refine#[_,Z,.inl #[Z,_,aG.of h'],_,Z,_,Z,W,_,_,_,Z,Z,aG.of c',a',_,Z,_,Z,_,Z,p,m,Z,B6,OG,OG,λd7 H7 d0 d4 B7 e7=>?_]
  have k7:aB p H6 H7:=aB.of_eq e7
  refine#[_,Z,rl,_,Z,aG.of (k7 _ _ rp r6),λs3 d6=>?_]
  refine#[s3,_,Z,.inl #[aG.of jc,λt nt=>#[bM,λr nr=>?_]]]
  rw[zz]at nt nr ⊢
  have L8:=vZ (ss:=r0) d0
  generalize be r0 none (some d7)=ps at*
  have s8:ae H7 (ah (ah (ah H7 s3 (.lst (ps.map V.str))) t (.tup (ps.map V.str))) r (.tup [.str y,.ref t])):=((je d6).trans (je nt)).trans (je nr)
  have t8:ah (ah (ah H7 s3 (.lst (ps.map V.str))) t (.tup (ps.map V.str))) r (.tup [.str y,.ref t]) t=some (.tup (ps.map V.str)):=ao jc nr
  have r8:ah (ah (ah H7 s3 (.lst (ps.map V.str))) t (.tup (ps.map V.str))) r (.tup [.str y,.ref t]) r=some (.tup [.str y,.ref t]):=jc
  have B8:aq (ah (ah (ah H7 s3 (.lst (ps.map V.str))) t (.tup (ps.map V.str))) r (.tup [.str y,.ref t])) p:=((B7.upd_new d6).upd_new nt).upd_new nr
  generalize ah (ah (ah H7 s3 (.lst (ps.map V.str))) t (.tup (ps.map V.str))) r (.tup [.str y,.ref t])=R at s8 t8 r8 B8
  have d8:=s8 _ _ (k7 _ _ h4 h')
  have g2:=s8 _ _ (k7 _ _ wp c')
  have h5:=h6.len
  refine#[hl,_,_,Z,Z,d8,OG,?_]
  have tm:al R (ah R hl (.lst (hv++[.ref r]))):=λb xs e=>by rw[jh (jO e d8 (by intro z;cases z))];exact e
  have g4:=((b4.mono (ae.tm s6)).mono (k7.tm B6)).mono (ae.tm s8)
  refine f0 _ _ #[_,_,_,hs++[(y,ps)],_,Z,jc,(g4.mono tm).snoc #[r,t,Z,tm _ _ r8,tm _ _ t8],by rw[Ia,c6];rfl,#[qZ h7.1 #[C.1 y hy,by show ps.length<=6;omega],by rw[IJ,h7.2,Mq,b5];rfl],by rw[jh wh];exact g2,B8.eq (jh (IM h4)),?_]
  refine aB.upd_own (λb o n e=>?_) n5
  exact s8 _ _ (k7 _ _ n (s6 _ _ (k5 _ _ n (k4 _ _ n e))))
 intro σ H4 l
 obtain⟨o6,o7,o8,hs,hv,rfl,b1,h6,c6,⟨h7,d'⟩,b2,B4,k4⟩:=l
 refine m5 _ _ ?_
 refine fQ λE6 m6=>?_
 refine#[_,Z,_,Z,_,Z,p,7,Z,B4,OF,OF,λD H5 g0 g1 B5 e5=>?_]
 have k5:aB p H4 H5:=aB.of_eq e5
 have h8:=k5 _ _ wp b2
 have b3:=k5 _ _ h4 b1
 have b4:=h6.mono (k5.tm B4)
 refine#[_,_,Z,Z,_,Z,W,_,Z,aG.of h8,λsm n3=>?_]
 refine m6 _ _ ?_
 refine fQ λE7 m7=>?_
 obtain⟨z1,z2⟩:=rA (ys:=ys) (k:=14+D) c4 OG OG
 have m6:ah H5 sm (.lst (aM (ys.map V.str) (some 8) (some (14+D)))) sm=some (.lst ((be ys (some 8) (some (14+D))).map V.str)):=by rw[jc,zz]
 have k6:aB p H (ah H5 sm (.lst (aM (ys.map V.str) (some 8) (some (14+D))))):=(k4.trans k5).upd_new n3
 have h':=ao (o:=.lst (aM (ys.map V.str) (some 8) (some (14+D)))) b3 n3
 have e0:=b4.mono (ae.tm (je (o:=.lst (aM (ys.map V.str) (some 8) (some (14+D)))) n3))
 have B6:=B5.upd_new (o:=.lst (aM (ys.map V.str) (some 8) (some (14+D)))) n3
 generalize ah H5 sm (.lst (aM (ys.map V.str) (some 8) (some (14+D))))=H6 at m6 k6 h' e0 B6
 generalize be ys (some 8) (some (14+D))=zs at m6 z1 z2
 have s':=qg B6 m6
 refine#[pU,λl2 b6=>?_]
 refine#[_,Z,p,4,Z,B6.upd_new b6,OF,OF,λd7 H7 d0 d4 B7 e7=>?_]
 have k7:aB p H6 H7:=((aB.refl).upd_new b6).trans (aB.of_eq e7)
 have l3:=B6.ne b6
 have g5:H7 l2=some (.lst [.int 3,.int 3,.int 3,.int 5]):=by rw[e7 l2 l3];exact jc
 obtain⟨dp,g6,g7,p1,p2⟩:=wc d0 d4
 refine#[l2,_,_,_,Z,Z,aG.of g5,g6,?_]
 refine m7 _ _ ?_
 refine fQ λE8 m8=>?_
 have m7:=k7 _ _ s' m6
 have b7:=k7 _ _ h4 h'
 have g8:=e0.mono (k7.tm B6)
 have k9:=k6.trans k7
 refine#[Il _,λdl N=>?_]
 refine m8 _ _ ?_
 refine fQ λE9 m9=>?_
 have d3:=B7.ne N
 have n6:H dl=none:=by
  cases z:H dl with
  |none=>rfl
  |some o=>have:=k9 _ _ d3 z;rw[N]at this;cases this
 have e4:hl≠dl:=λe=>by rw[<- e,b7]at N;cases N
 have s5:sm≠dl:=λe=>by rw[<- e,m7]at N;cases N
 have p3:=h6.len
 refine dq λJ j=>#[_,Z,hl,Z,#[_,aG.of (ao b7 N)],j _ _ ?_]
 clear j
 refine qu (K:=K) (a:=hl) (xs:=hv) (AK p W hl sm dl T Y m dp zs hs hv H)
  #[_,_,_,_,_,_,_,[],[],Z,jc,Z,Z,#[(λc hc=>nomatch hc),Z],ao b7 N,g8.mono (ae.tm (je N)),ao m7 N,B7.upd_new N,k9.upd_own n6,#[Z,(λi d n h=>nomatch h)]] ?_ ?_ ?_
 ·intro i σ R _ l
  obtain⟨o6,o7,o8,o0,o1,o2,o3,ds,dv,rfl,h5,hD,a0,x,hh,hd,b',B8,k8,p0⟩:=l
  exact aG.of hh
 ·intro D' _ i v σ R hx f0 Gq u l
  obtain⟨o6,o7,o8,o0,o1,o2,o3,ds,dv,rfl,h5,hD,a0,x,hh,hd,b',B8,k8,p0⟩:=l
  have p4:i < hv.length:=(List.getElem?_eq_some_iff.mp hx).1
  obtain⟨c,hc,q0,t0,rfl,w1,w2⟩:=hd.at i v hx
  refine u ?_
  clear u m9
  have g9:=IA hc
  have e6:=h7 c g9
  refine HM λF6 f6=>#[q0,_,Z,ay.of w1,Z,_,_,Z,_,_,Z,Z,f6 _ _ ?_]
  clear f6
  show dC (du _ _) _ D' _ _
  refine fQ λF1 f1=>?_
  refine#[_,Z,lY,λM n2=>?_]
  refine f1 _ _ ?_
  show dC (du _ _) _ D' _ _
  refine fQ λF2 f2=>?_
  refine#[iK,λb0 n4=>?_]
  refine f2 _ _ ?_
  show dC (yq _ _ _) _ D' _ _
  refine fQ λF3 f3=>?_
  have s9:ae R (ah (ah R M (.lst [.int Y])) b0 (.tup [])):=(je n2).trans (je n4)
  have s4:dm (ah (ah R M (.lst [.int Y])) b0 (.tup [])) M:=#[Y,ao jc n4]
  have b9:ah (ah R M (.lst [.int Y])) b0 (.tup []) b0=some (.tup []):=jc
  have B9:aq (ah (ah R M (.lst [.int Y])) b0 (.tup [])) p:=(B8.upd_new n2).upd_new n4
  have e9:gu (ah (ah R M (.lst [.int Y])) b0 (.tup [])) M=Y:=Ji (ao jc n4)
  generalize ah (ah R M (.lst [.int Y])) b0 (.tup [])=H9 at s9 s4 b9 B9 e9
  have e8:H M=none:=by
   cases z:H M with
   |none=>rfl
   |some o=>have:=k8 _ _ (B8.ne n2) z;rw[n2]at this;cases this
  have i0:dl≠M:=λe=>by rw[<- e,h5]at n2;cases n2
  have G9:nh H9 p sm hl M zs hs:=#[B9,s9 _ _ b',z1,z2,#[hv,s9 _ _ hh,hd.mono (ae.tm s9)],OG,OG,λc hc=>(h7 c hc).2,s4]
  refine dq λJ j=>#[_,Z,OF,OF,j _ _ ?_]
  clear j
  refine kB (lo:=0) (AL hs zs p W hl sm dl t0 M T Y m dp o7 o8 c H9)
   #[_,b0,.nil,[],Z,b9,Z,(by rw[e9];exact#[by show((0:Nat):Int)+_<=_;omega,f5]),YW,B9,s4,aS.refl] ?_ ?_
  ·intro D0 _ j σ G hj fin2 Gq u l
   obtain⟨o5,bb,Bb,bs,rfl,c0,a1,a2,I,B',U,L⟩:=l
   refine u ?_
   clear u f1 f2 f3
   have G0:=G9.but2 B' U L
   refine#[_,Z,_,Z,_,Z,_,Z,_,Z,_,Z,p,sm,hl,M,dp,zs,hs,Z,G0,g7,a2.2,λr b p5 H0 X a4 i1 c1 c2 a3 S k'=>?_]
   have tm:=k'.tm B' U
   have lb:=a1.len
   have p6:=a4.len
   obtain⟨i2,i3⟩:=a2
   refine#[bb,r,_,_,Z,Z,tm _ _ c0,X,OG,λr2 H' e' s0=>?_]
   have i4:aq H' p:=by
    obtain⟨a,b,h1,h2,h3,h⟩:=a3.ob
    exact#[a,b,h1,h2,h3,s0 _ _ h]
   have s7:dm H' M:=by
    obtain⟨z,hz⟩:=S
    exact#[z,s0 _ _ hz]
   refine fin2 _ _ #[_,r2,Bb.app b,_,Z,e',(a4.mono (ae.tm s0)).app ((a1.mono tm).mono (ae.tm s0)),?_,YX I c2,i4,s7,L.trans (k'.trans (aS.of_same s0))]
   rw[jZ,ky S s0]
   exact#[OG,c1]
  ·intro σ G l
   obtain⟨o5,bb,Bb,bs,rfl,c0,a1,a2,I,B',U,L⟩:=l
   refine f3 _ _ ?_
   have O:G dl=some (.lst dv):=L _ _ d3 i0 (s9 _ _ h5)
   have G0:=G9.but2 B' U L
   have t3:al R G:=λb xs e=>L.tm B9 s4 _ _ (s9 _ _ e)
   refine#[_,Z,.inl #[Z,_,aG.of O],_,Z,_,Z,_,Z,gE,λr nr=>?_]
   have S:ae G (ah G r (.tup [.str c.1,.ref t0,.ref bb])):=je nr
   have i5:=hD.len
   have f4:Bb.size<=40:=by obtain⟨i2,i3⟩:=a2;omega
   refine#[dl,_,_,Z,Z,S _ _ O,OG,?_]
   have X:ah G r (.tup [.str c.1,.ref t0,.ref bb]) r=some (.tup [.str c.1,.ref t0,.ref bb]):=jc
   have a3:=B'.upd_new (o:=.tup [.str c.1,.ref t0,.ref bb]) nr
   generalize ah G r (.tup [.str c.1,.ref t0,.ref bb])=H0 at S X a3
   have tm:al H0 (ah H0 dl (.lst (dv++[.ref r]))):=λb xs e=>by rw[jh (jO e (S _ _ O) (by intro z;cases z))];exact e
   have t2:al G (ah H0 dl (.lst (dv++[.ref r]))):=λb xs e=>tm _ _ (S _ _ e)
   have t1:al R (ah H0 dl (.lst (dv++[.ref r]))):=λb xs e=>t2 _ _ (t3 _ _ e)
   refine f0 _ _ #[_,_,_,_,_,_,_,ds++[#[c.1,r,t0,bb,Bb]],_,Z,jc,(hD.mono t1).snoc #[bs,Z,tm _ _ X,t2 _ _ c0,a1.mono t2],by rw[Ia,a0];rfl,#[qZ x.1 #[#[#[zs,z2,I.1.1],LF I.2 OG,Ik f4 OF],I.1.2],by rw[IJ,x.2,Mq,Ir,hc];rfl],?_,hd.mono t1,?_,a3.eq (jh (IM d3)),?_,(by rw[Mq,Ir,hc];exact(p0.mono t1).snoc (d:=#[c.1,r,t0,bb,Bb]) (t1 _ _ w2) (Ik e6.2 OF))]
   ·obtain⟨p9,e1,e2⟩:=G0.h
    rw[jh e4]
    exact S _ _ (L _ _ G9.hsp.2 G9.hsp.1 (s9 _ _ hh))
   ·rw[jh s5]
    exact S _ _ G0.g
   ·refine aB.upd_own (λb o n e=>?_) n6
    exact S _ _ (L _ _ n (jk e e8) (s9 _ _ (k8 _ _ n e)))
 ·intro σ R l
  obtain⟨o6,o7,o8,o0,o1,o2,o3,ds,dv,rfl,h5,hD,a0,x,hh,hd,b',B8,k8,p0⟩:=l
  refine m9 _ _ ?_
  refine#[_,Z,dl,dv,Z,.inl #[aG.of h5,λt nt=>?_]]
  have nn:(ds.map Df.f).Nodup:=by
   rw[x.2,d']
   refine List.Nodup.sublist (LZ _ _) ?_
   have e:∀m,m<=8->ys.take m=(ys.take 8).take m:=λm hm=>by rw[Om,LW hm]
   rw[e _ OG]
   exact C.2.sublist (LZ _ _)
  exact q t ds dv _ jc (hD.mono (ae.tm (je nt))) OG (hs.map λc=>c.2.length) #[λd hd=>#[(x.1 d hd).1,by have e:=x.2;rw[LA (by rw[HZ];omega)]at e;rw[e];have z:=(x.1 d hd).2;rw[show(hs.map λc=>(c.1,c.2.length))=(hs.map (·.1)).zip (hs.map λc=>c.2.length) by rw[List.zip_map']]at z;exact z],nn,λy hy=>by rw[x.2,d']at hy;exact C.1 y (Lc (Lc hy))] (by have z:=p0.mono (ae.tm (je (o:=.tup dv) nt));rw[LA (by rw[HZ];omega)]at z;exact z) (B8.upd_new nt) (k8.upd_new nt)
theorem iK:0<=sizeLine:=by decide
theorem lY:1<=sizeLine:=by decide
theorem bM:2<=sizeLine:=by decide
theorem gE:3<=sizeLine:=by decide
theorem pU:4<=sizeLine:=by decide
theorem al.trans(a:al H h)(b:al h d):al H d:=λc x e=>b c x (a c x e)
theorem al.refl:al H H:=λ_ _ e=>e
def gr(H:Hp)(y:List Str)(k:Nat)(a:Addr):Prop:=∃T,ba H T a/\T.Good y/\T.depth<=k
theorem gr.mono(h:gr H y k a)(m:al H b):gr b y k a:=let #[T,c,d]:=h;#[T,c.mono m,d]
theorem gr.ok(h:gr H y k a)(m:k < 6):∃T,ba H T a/\dh y T:=let #[T,b,c,d]:=h;#[T,b,c,LF d m]
section
variable {Cf:hZ}{H:Hp}{ys:List Str}
theorem Dc(h:H a=some (.tup [.str "num",.int n]))(b:0<=n)(c:n < 1000000000000000000):gr H ys 0 a:=#[.num n,h,#[b,c],Il _]
theorem va(h:H a=some (.tup [.str "var",.str x]))(b:x∈ys):gr H ys 0 a:=#[.var x,h,b,Il _]
def Sg(s:Str):Prop:=∃i,i < 6/\s=Gv i
theorem Ay(h:H a=some (.tup [.str "op",.str s,.ref b,.ref c]))(d:Sg s)(e:gr H ys j b)(f:gr H ys k c)(q:j < n)(r:k < n):gr H ys n a:=by
 obtain⟨i,g,rfl⟩:=d
 obtain⟨B,l,m,t⟩:=e
 obtain⟨C,o,p,u⟩:=f
 exact#[.op i B C,#[b,c,h,l,o],#[g,m,p],by show max B.depth C.depth+1<=n;omega]
theorem zk:Sg "+":=#[0,OF,OJ]
theorem Xm:Sg "-":=#[1,OF,OJ]
theorem Xn:Sg "*":=#[2,OF,OJ]
theorem yh:Sg "/":=#[3,OF,OJ]
theorem QO:Sg "<":=#[4,OF,OJ]
theorem ER:Sg "=":=#[5,OF,OJ]
theorem xE(h:0<=d)(a:d < 4):∃s,dD [V.str "+",.str "+",.str "*",.str "-"] d=some (.str s)/\Sg s:=by
 rcases(by omega:d=0∨d=1∨d=2∨d=3) with rfl |rfl |rfl |rfl
 ·exact#[_,Z,zk]
 ·exact#[_,Z,zk]
 ·exact#[_,Z,Xn]
 ·exact#[_,Z,Xm]
theorem xC(h:0<=d)(a:d < 3):∃c,dD (Str.cps "<=*").toList d=some c/\Sg #[(List.toArray [c])]:=by
 rcases(by omega:d=0∨d=1∨d=2) with rfl |rfl |rfl
 ·exact#[_,Z,QO]
 ·exact#[_,Z,ER]
 ·exact#[_,Z,Xn]
theorem Eu{P:Addr->Prop}(e:0<=d)(f:d < 2)(h:P a)(c:P b):∃x,dD [V.ref a,.ref b] d=some (.ref x)/\P x:=by
 rcases(by omega:d=0∨d=1) with rfl |rfl
 ·exact#[_,Z,h]
 ·exact#[_,Z,c]
theorem Ew{P:Addr->Prop}(g:0<=d)(i:d < 3)(h:P a)(e:P b)(f:P c):∃x,dD [V.ref a,.ref b,.ref c] d=some (.ref x)/\P x:=by
 rcases(by omega:d=0∨d=1∨d=2) with rfl |rfl |rfl
 ·exact#[_,Z,h]
 ·exact#[_,Z,e]
 ·exact#[_,Z,f]
theorem Ex{P:Addr->Prop}(h:P a)(d:P b)(c:Bool):∃x,dD [V.ref a,.ref b] (if c then 1 else 0)=some (.ref x)/\P x:=by
 cases c
 ·exact#[_,Z,h]
 ·exact#[_,Z,d]
def cn(Cf:hZ)(H:Hp)(ys:List Str)(d:Nat)(v:V):Prop:=∃s,gU H v s/\(s.Ok ys/\s.Cs Cf)/\s.dep<=d/\s.size<=1+20*d
def gI(Cf:hZ)(H:Hp)(ys:List Str)(d:Nat)(x:List V):Prop:=∃b,dw H b x/\(b.Ok ys/\b.Cs Cf)/\b.dep<=d/\b.size<=(1+20*d)*x.length
theorem cn.mono(h:cn Cf H ys d v)(m:al H a):cn Cf a ys d v:=let #[s,b,c]:=h;#[s,b.mono m,c]
theorem gI.mono(h:gI Cf H ys d x)(m:al H a):gI Cf a ys d x:=let #[s,b,c]:=h;#[s,b.mono m,c]
theorem cn.up(h:cn Cf H ys 0 v):cn Cf H ys d v:=let #[s,a,b,c,e]:=h;#[s,a,b,OG,OG]
theorem Kd:gI Cf H ys d []:=#[.nil,Z,#[IG,IG],Il _,Il _]
theorem Jj{xs:List V}(h:gI Cf H ys d xs)(g:gI Cf H ys d z):gI Cf H ys d (xs++z):=by
 obtain⟨a,c,A,f,i⟩:=h
 obtain⟨b,e,B,j,k⟩:=g
 refine#[a.app b,e.app c,#[Kb A.1 B.1,Ka A.2 B.2],by rw[zj];omega,?_]
 rw[jZ,Ia,Nat.mul_add]
 omega
theorem zq(h:cn Cf H ys d v):gI Cf H ys d [v]:=by
 obtain⟨s,a,b,c,e⟩:=h
 exact#[s,a.bd,b,c,by show s.size<=(1+20*d)*1;omega]
theorem jW(h:cn Cf H ys d v)(g:gI Cf H ys d xs):gI Cf H ys d (v::xs):=Jj (xs:=[v]) (zq h) g
theorem Q3{l:Lf}(h:H p=some (.tup v))(a:vK H l v)(b:l.Ok ys)(c:l.Cs Cf):cn Cf H ys 0 (.ref p):=#[.lf p l .nil,.lf p l v h a,#[#[b,IG],c,IG],Ib 0,Ib 1]
theorem EX(h:H p=some (.tup [.str "read",.str x,.ref t]))(a:x∈ys)(b:gr H ys k t)(c:k < 6:=by decide):cn Cf H ys 0 (.ref p):=by
 obtain⟨T,d,e⟩:=b.ok c
 exact Q3 (l:=.rd x t T) h #[Z,d] #[a,e] IG
theorem EY(h:H p=some (.tup [.str "set",.str x,.ref t]))(a:x∈ys)(b:gr H ys k t)(c:k < 6:=by decide):cn Cf H ys 0 (.ref p):=by
 obtain⟨T,d,e⟩:=b.ok c
 exact Q3 (l:=.st x t T) h #[Z,d] #[a,e] IG
theorem EV(h:H p=some (.tup [.str "give",.ref t]))(a:gr H ys k t)(b:k < 6:=by decide):cn Cf H ys 0 (.ref p):=by
 obtain⟨T,c,d⟩:=a.ok b
 exact Q3 (l:=.gv t T) h #[Z,c] d IG
theorem EZ(h:H p=some (.tup [.str "write",.ref t,.ref u]))(a:gr H ys k t)(b:gr H ys j u)(c:k < 6:=by decide)(d:j < 6:=by decide):cn Cf H ys 0 (.ref p):=by
 obtain⟨T,e,f⟩:=a.ok c
 obtain⟨U,g,i⟩:=b.ok d
 exact Q3 (l:=.wr t u T U) h #[Z,e,g] #[f,i] IG
theorem EU{f:Str}(h:H p=some (.tup [.str "call",.str x,.str f,.ref q]))(b:x∈ys)(a:(f,2)∈Cf)(d:H q=some (.tup [.ref t,.ref u]))(e:gr H ys k t)(g:gr H ys j u)(i:k < 6:=by decide)(m:j < 6:=by decide):cn Cf H ys 0 (.ref p):=by
 obtain⟨T,n,o⟩:=e.ok i
 obtain⟨U,r,s⟩:=g.ok m
 refine Q3 (l:=.cl x f q [(t,T),(u,U)]) h #[Z,d,λc hc=>?_] #[b,(by show 2<=6;decide),λc hc=>?_] a
 ·rcases List.mem_cons.mp hc with rfl |hc
  ·exact n
  ·rw[List.mem_singleton.mp hc];exact r
 ·rcases List.mem_cons.mp hc with rfl |hc
  ·exact o
  ·rw[List.mem_singleton.mp hc];exact s
theorem EW(h:H p=some (.tup [.str "if",.ref t,.ref q,.ref Q]))(e:gr H ys k t)(f:H q=some (.tup A))(g:H Q=some (.tup B))(G:gI Cf H ys 0 A)(i:gI Cf H ys 0 B)(r:A.length+B.length<=20)(j:k < 6:=by decide):cn Cf H ys 1 (.ref p):=by
 obtain⟨T,l,m⟩:=e.ok j
 obtain⟨a,n,c,s,u⟩:=G
 obtain⟨b,o,d,v,x⟩:=i
 exact#[.ite p t T a b .nil,.ite p t T a b q Q A B h l f g n o,#[#[m,c.1,d.1,IG],c.2,d.2,IG],(by show max (max a.dep b.dep+1) 0<=1;omega),(by show a.size+b.size+0+1<=21;omega)]
theorem uO(h:H p=some (.tup [.str "while",.ref t,.ref q]))(c:gr H ys k t)(d:H q=some (.tup A))(g:gI Cf H ys 0 A)(l:A.length<=20)(e:k < 6:=by decide):cn Cf H ys 1 (.ref p):=by
 obtain⟨T,f,i⟩:=c.ok e
 obtain⟨a,j,b,m,n⟩:=g
 exact#[.loop p t T a .nil,.loop p t T a q A h f d j,#[#[i,b.1,IG],b.2,IG],(by show max (a.dep+1) 0<=1;omega),(by show a.size+0+1<=21;omega)]
def pQ(Cf:hZ)(n:Nat)(H:Hp)(r:Addr)(f:Str):Prop:=∃d:Df,yH H d (.ref r)/\(nF d/\d.b.Cs Cf)/\∃p:List Str,H d.pa=some (.tup (p.map V.str))/\p.length=n/\d.f=f
theorem pQ.mono(h:pQ Cf n H r f)(m:al H a):pQ Cf n a r f:=let #[d,b,c,p,e,g]:=h;#[d,b.mono m,c,p,m _ _ e,g]
theorem DY{f:Str}{p:List Str}(h:H r=some (.tup [.str f,.ref a,.ref b]))(d:H a=some (.tup (p.map V.str)))(e:p.length=n)(i:H b=some (.tup x))(g:gI Cf H ys 1 x)(l:x.length<=100)(j:ys.length<=20):pQ Cf n H r f:=by
 obtain⟨c,k,C,m,o⟩:=g
 exact#[#[f,r,a,b,c],#[x,Z,h,i,k],#[#[#[ys,j,C.1],(by show c.dep < 8;omega),(by show c.size<=3000;omega)],C.2],p,d,e,Z]
structure Wd(H0 H:Hp)(p wl:Addr)(ys:List Str):Prop where
 B:aq H p
 K:aB p H0 H
 w:H wl=some (.lst (ys.map V.str))
theorem Wd.np(h:Wd b H p a ys):a≠p:=qg h.B h.w
theorem Wd.same(h:Wd a H p b ys)(s:ae H c):Wd a c p b ys:=#[h.B.same s,h.K.trans (aB.of_same s),s _ _ h.w]
theorem Wd.but(h:Wd b H p c ys)(B:aq a p)(k:aB p H a):Wd b a p c ys:=#[B,h.K.trans k,k _ _ h.np h.w]
theorem Wd.own{xs:List V}(h:Wd a H p b ys)(n:a l=none)(L:l≠p)(c:l≠b):Wd a (ah H l (.lst z)) p b ys:=#[h.B.eq (jh (IM L)),h.K.upd_own n,by rw[jh (IM c)];exact h.w]
theorem QC(h:H l=some (.lst x)):al H (ah H l (.lst a)):=λb u e=>by rw[jh (jO e h (by intro z;cases z))];exact e
end
inductive mO(d:List V)(H:Hp)(Q:VK)(c:XK):Prop
 |mk(p a b:Addr)(e:List Str)(k:Nat)(_:d=[.ref p,.ref a,.ref b])(_:aq H p)(_:gr H e k a)(_:gr H e k b)(_:∀(r:Addr) (H':Hp),gr H' e (k+1) r->aq H' p->aB p H H'->Q (.ref r) H')
inductive c8(n:Nat)(b:List V)(H:Hp)(Q:VK)(a:XK):Prop
 |mk(p c:Addr)(f g:Str)(d:List Str)(_:b=[.ref p,.str f,.str g,.ref c])(_:aq H p)(_:H c=some (.lst (d.map V.str)))(_:d.length=6)(_:∀(r:Addr) (H':Hp),pQ [(g,2)] n H' r f->aq H' p->aB p H H'->Q (.ref r) H')
noncomputable abbrev Gr:Stmt:=bu 67
noncomputable abbrev nV:Stmt:=bu 68
noncomputable abbrev gW:Stmt:=bu 69
noncomputable abbrev fj:Stmt:=bu 70
noncomputable abbrev tI:Stmt:=bu 71
theorem Gj{A:List V}(h:A.length=5):∃a b c d e,A=[a,b,c,d,e]:=by
 cases A with
 |nil=>cases h
 |cons a r=>
  cases r with
  |nil=>cases h
  |cons b R=>
   cases R with
   |nil=>cases h
   |cons c f=>
    cases f with
    |nil=>cases h
    |cons d g=>
     cases g with
     |nil=>cases h
     |cons e i=>
      cases i with
      |nil=>exact#[a,b,c,d,e,Z]
      |cons _ _=>cases h
theorem Hy{n:Nat}:nQ (n+1) 0=some 0:=by unfold nQ;rw[Io OF,Io OG];rfl
theorem Hz{n:Nat}:nQ (n+2) 1=some 1:=by unfold nQ;rw[Io OF,Io OG];rfl
theorem iR:dD (v::u::y) 1=some u:=jK (j:=1) Z
structure Fw(p:Addr)(H H':Hp):Prop where
 t:al H H'
 b:aB p H H'
theorem Fw.refl:Fw p H H:=#[al.refl,aB.refl]
theorem Fw.trans(a:Fw p H h)(b:Fw p h c):Fw p H c:=#[a.t.trans b.t,a.b.trans b.b]
theorem Fw.new{p:Addr}{H:Hp}{o:HO}(n:H r=none):Fw p H (ah H r o):=#[ae.tm (je n),aB.of_same (je n)]
theorem Fw.same(s:ae H h):Fw p H h:=#[ae.tm s,aB.of_same s]
theorem Fw.but(B:aq H p)(c:aB p H h):Fw p H h:=#[c.tm B,c]
def om(P:Hp->V->Prop):Prop:=∀H h v,al H h->P H v->P h v
def Ev(a:Hp)(p W:Addr)(y:List Str)(b:Hp)(c:_L.St)(t:TE)(P:Hp->V->Prop):Prop:=∀(H:Hp) (Q:VK),Fw p b H->Wd a H p W y->(∀v h,P h v->Wd a h p W y->Fw p H h->Q v h)->t c H Q
def PT(y:List Str)(k:Nat)(H:Hp)(v:V):Prop:=∃a,v= .ref a/\gr H y k a
def PB(C:hZ)(y:List Str)(d n:Nat)(H:Hp)(v:V):Prop:=∃a x,v= .ref a/\H a=some (.tup x)/\gI C H y d x/\x.length<=n
def PN(y:List Str)(_:Hp)(v:V):Prop:=∃x,v= .str x/\x∈y
def PG(_:Hp)(v:V):Prop:=∃s,v= .str s/\Sg s
def PP(n:Nat)(H:Hp)(v:V):Prop:=∃(a:Addr) (x:List Str),v= .ref a/\H a=some (.tup (x.map V.str))/\x.length=n
def vM(y:Str)(_:Hp)(v:V):Prop:=v= .str y
def PD(C:hZ)(n:Nat)(f:Str)(H:Hp)(v:V):Prop:=∃a,v= .ref a/\pQ C n H a f
section
variable {Cf:hZ}{ys:List Str}{H0 Hb:Hp}{p wl:Addr}{σ:_L.St}
theorem ar:om (PT ys k):=λ_ _ _ m #[a,e,h]=>#[a,e,h.mono m]
theorem dJ:om (PB Cf ys d n):=λ_ _ _ m #[a,x,e,h,H,b]=>#[a,x,e,m _ _ h,H.mono m,b]
theorem dS:om λH v=>cn Cf H ys d v:=λ_ _ _ m h=>h.mono m
theorem i9:om (PD Cf n f):=λ_ _ _ m #[a,e,h]=>#[a,e,h.mono m]
theorem Ev.up{P R:Hp->V->Prop}(h:Ev H0 p wl ys Hb σ t P)(k:∀H v,P H v->R H v):Ev H0 p wl ys Hb σ t R:=λH Q m W q=>h H Q m W λv a x=>q v a (k _ _ x)
theorem jM{P:Hp->V->Prop}(e:σ[i]?=some (some v))(M:om P)(h:P Hb v):Ev H0 p wl ys Hb σ (aW i) P:=λH Q m W q=>#[v,e,q v H (M _ _ _ m.t h) W .refl]
theorem qe(h:Sg s):Ev H0 p wl ys Hb σ (tC (.str s)) PG:=λH Q m W q=>q _ H #[s,Z,h] W .refl
theorem kQ{K:Frag}(e:σ[j]?=some (some (.ref wl)))(a:0<=i)(b:i < (ys.length:Int)):Ev H0 p wl ys Hb σ (dR (iP K) (aW j) (tC (.int i))) (PN ys):=λH Q m W q=>by
 obtain⟨y,c,h⟩:=J9 (ys:=ys) a b
 exact#[_,e,wl,_,_,_,Z,Z,aG.of W.w,h,q _ H #[y,Z,c] W .refl]
theorem kK{Q:VK}{P:Hp->V->Prop}(W:Wd H0 H p wl ys)(q:∀v h,P h v->Wd H0 h p wl ys->Fw p H h->Q v h)(n:H r=none)(x:al H (ah H r o)->ah H r o r=some o->P (ah H r o) (.ref r)):Q (.ref r) (ah H r o):=
 q _ _ (x (ae.tm (je n)) jc) (W.same (je n)) (.new n)
abbrev vE(n:Int):TE:=dQ aU [] E0 (am (aW 0) (am (tC (.int n)) aK))
def PK(n:Int)(_:Hp)(v:V):Prop:=∃d:Int,v= .int d/\0<=d/\d < n
theorem kX(e:σ[0]?=some (some (.ref p)))(h:1<=n)(c:n<=1000):Ev H0 p wl ys Hb σ (vE n) (PK n):=λH Q m W q=>
 #[_,e,p,n,Z,W.B,OG,OG,λd f D a b E=>q _ _ #[d,Z,D,a] (W.but b (aB.of_eq E)) (.but W.B (aB.of_eq E))]
theorem kL(h:Ev H0 p wl ys Hb σ t (PK n))(g:n<=1000000000000000000):Ev H0 p wl ys Hb σ (bV (am (tC (.str "num")) (am t aK))) (PT ys 0):=λH Q m W q=>
 h H _ m W λv i #[d,e,D,j] a b=>#[bM,λr N=>kK (P:=PT ys 0) a (λV c x f k=>q V c x f (b.trans k)) N λ_ z=>#[r,Z,Dc (by rw[z,e]) D OG]]
theorem Qw(h:0<=n)(a:n < m):Ev H0 p wl ys Hb σ (tC (.int n)) (PK m):=λH Q _ W q=>q _ H #[n,Z,h,a] W .refl
theorem QD(h:Ev H0 p wl ys Hb σ t (PK n))(c:0<=m):Ev H0 p wl ys Hb σ (dR (vC λi j=>V.int (i+j)) (tC (.int m)) t) (PK (m+n)):=λH Q M W q=>
 h H _ M W λv a #[d,e,D,f] b k=>#[m,d,Z,e,q _ a #[m+d,Z,OG,OG] b k]
theorem JW(h:Ev H0 p wl ys Hb σ t (PN ys)):Ev H0 p wl ys Hb σ (bV (am (tC (.str "var")) (am t aK))) (PT ys 0):=λH Q m W q=>
 h H _ m W λv i #[d,e,a] b c=>#[bM,λr n=>kK (P:=PT ys 0) b (λV f x g k=>q V f x g (c.trans k)) n λ_ z=>#[r,Z,va (by rw[z,e]) a]]
theorem z9{n:Nat}(h:Ev H0 p wl ys Hb σ T PG)(f:Ev H0 p wl ys Hb σ g (PT ys j))(i:Ev H0 p wl ys Hb σ l (PT ys k))(o:j < n)(u:k < n):Ev H0 p wl ys Hb σ (bV (am (tC (.str "op")) (am T (am g (am l aK))))) (PT ys n):=λH Q m W q=>
 h H _ m W λM v #[s,E,X] y c=>f v _ (m.trans c) y λO A #[a,B,C] D d=>i A _ ((m.trans c).trans d) D λR S #[b,F,G] I e=>#[pU,λr N=>kK (P:=PT ys n) I (λV J x L k=>q V J x L (((c.trans d).trans e).trans k)) N λt z=>
  #[r,Z,Ay (by rw[z,E,B,F]) X ((C.mono e.t).mono t) (G.mono t) o u]]
theorem D6(e:σ[0]?=some (some (.ref p))):Ev H0 p wl ys Hb σ (dR xM (tC (.str "<=*")) (vE 3)) PG:=λH Q m W q=>
 kX e OF OF H _ m W λv h #[d,E,D,a] b k=>by
  obtain⟨g,i,x⟩:=xC D a
  exact#["<=*",d,g,Z,E,OJ,i,q _ h #[_,Z,x] b k]
theorem YC{K:Frag}(e:σ[0]?=some (some (.ref p)))(r:Ev H0 p wl ys Hb σ T (PT ys k))(s:Ev H0 p wl ys Hb σ u (PT ys k)):Ev H0 p wl ys Hb σ (dR (iP K) (mX (am T (am u aK))) (vE 2)) (PT ys k):=λH Q m W q=>
 r H _ m W λV y #[a,E,X] z c=>s y _ (m.trans c) z λA C #[b,D,F] h f=>#[bM,λl n=>kX e OF OF _ _ (((m.trans c).trans f).trans (.new n)) (h.same (je n)) λv G #[d,I,J,L] M j=>by
  obtain⟨g,i,x⟩:=Eu (P:=gr C ys k) J L (X.mono f.t) F
  rw[<- E,<- D]at i
  have t:=(Fw.new (p:=p) (o:=HO.lst [V,A]) n).trans j
  exact#[l,_,d,_,Z,I,aG.of (j.b _ _ (h.B.ne n) jc),i,q _ G #[g,Z,x.mono t.t] M ((c.trans f).trans t)]]
theorem yU{K:Frag}(e:σ[0]?=some (some (.ref p)))(u:Ev H0 p wl ys Hb σ T (PT ys k))(y:Ev H0 p wl ys Hb σ z (PT ys k))(A:Ev H0 p wl ys Hb σ C (PT ys k)):Ev H0 p wl ys Hb σ (dR (iP K) (mX (am T (am z (am C aK)))) (vE 3)) (PT ys k):=λH Q m W q=>
 u H _ m W λV D #[a,E,X] F f=>y D _ (m.trans f) F λG I #[b,J,L] M h=>A I _ ((m.trans f).trans h) M λN O #[c,R,S] r j=>#[gE,λl n=>kX e OF OF _ _ ((((m.trans f).trans h).trans j).trans (.new n)) (r.same (je n)) λv U #[d,Y,d0,d1] W4 s=>by
  obtain⟨g,i,x⟩:=Ew (P:=gr O ys k) d0 d1 (X.mono (h.trans j).t) (L.mono j.t) S
  rw[<- E,<- J,<- R]at i
  have t:=(Fw.new (p:=p) (o:=HO.lst [V,G,N]) n).trans s
  exact#[l,_,d,_,Z,Y,aG.of (s.b _ _ (r.B.ne n) jc),i,q _ U #[g,Z,x.mono t.t] W4 (((f.trans h).trans j).trans t)]]
theorem D4{K:Frag}(e:σ[0]?=some (some (.ref p)))(r:1<=n)(s:n<=1000)(u:Ev H0 p wl ys Hb σ T (PT ys k))(y:Ev H0 p wl ys Hb σ z (PT ys k)):Ev H0 p wl ys Hb σ (dR (iP K) (mX (am T (am z aK))) (Fx (λX H Q=>(∃i,X=[V.int i]/\Q (V.int i) H)∨∃k,X=[V.bl k]/\Q (V.int (if k=true then 1 else 0)) H) (am (dR Cu (vE n) (tC (.int 0))) aK))) (PT ys k):=λH Q m W q=>
 u H _ m W λA C #[a,E,D] F c=>y C _ (m.trans c) F λG I #[b,J,L] h f=>#[bM,λl N=>kX e r s _ _ (((m.trans c).trans f).trans (.new N)) (h.same (je N)) λv M #[d,O,S,U] R j=>by
  subst O
  refine#[Z,.inr #[_,Z,?_]]
  obtain⟨g,i,x⟩:=Ex (P:=gr I ys k) (D.mono f.t) L _
  rw[<- E,<- J]at i
  have t:=(Fw.new (p:=p) (o:=HO.lst [A,G]) N).trans j
  exact#[l,_,_,_,Z,Z,aG.of (j.b _ _ (h.B.ne N) jc),i,q _ M #[g,Z,x.mono t.t] R ((c.trans f).trans t)]]
theorem JX(e:σ[0]?=some (some (.ref p)))(h:Ev H0 p wl ys Hb σ T (PT ys k))(g:Ev H0 p wl ys Hb σ i (PT ys k)):Ev H0 p wl ys Hb σ (dQ mO [] E0 (am (aW 0) (am T (am i aK)))) (PT ys (k+1)):=λH Q m W q=>
 #[_,e,h H _ m W λv j #[a,E,x] l d=>g j _ (m.trans d) l λV y #[b,n,X] c f=>#[p,a,b,ys,k,by rw[E,n];rfl,c.B,x.mono f.t,X,λr o s u C=>q _ o #[r,Z,s] (c.but u C) ((d.trans f).trans (.but c.B C))]]
theorem wg{w:Str}{T a:TE}{A B R:Hp->V->Prop}(M:om A)(d:om B)(e:Ev H0 p wl ys Hb σ T A)(f:Ev H0 p wl ys Hb σ a B)(h:∀H r u v,H r=some (.tup [.str w,u,v])->A H u->B H v->R H (.ref r)):Ev H0 p wl ys Hb σ (bV (am (tC (.str w)) (am T (am a aK)))) R:=λH Q m W q=>
 e H _ m W λC g X i b=>f g _ (m.trans b) i λD E j l c=>#[gE,λr n=>kK (P:=R) l (λo s x y k=>q o s x y ((b.trans c).trans k)) n λt z=>h _ _ _ _ z (M _ _ _ t (M _ _ _ c.t X)) (d _ _ _ t j)]
theorem Gc{w:Str}{T:TE}{A R:Hp->V->Prop}(M:om A)(a:Ev H0 p wl ys Hb σ T A)(h:∀H r u,H r=some (.tup [.str w,u])->A H u->R H (.ref r)):Ev H0 p wl ys Hb σ (bV (am (tC (.str w)) (am T aK))) R:=λH Q m W q=>
 a H _ m W λf g X b c=>#[bM,λr n=>kK (P:=R) b (λv d x e k=>q v d x e (c.trans k)) n λt z=>h _ _ _ z (M _ _ _ t X)]
theorem DZ{w:Str}{T d e:TE}{A B C R:Hp->V->Prop}(M:om A)(f:om B)(g:om C)(i:Ev H0 p wl ys Hb σ T A)(j:Ev H0 p wl ys Hb σ d B)(l:Ev H0 p wl ys Hb σ e C)(h:∀H r u v x,H r=some (.tup [.str w,u,v,x])->A H u->B H v->C H x->R H (.ref r)):Ev H0 p wl ys Hb σ (bV (am (tC (.str w)) (am T (am d (am e aK))))) R:=λH Q m W q=>
 i H _ m W λL n X o a=>j n _ (m.trans a) o λO s y D b=>l s _ ((m.trans a).trans b) D λS U E F c=>#[pU,λr N=>kK (P:=R) F (λG I x J k=>q G I x J (((a.trans b).trans c).trans k)) N λt z=>h _ _ _ _ _ z (M _ _ _ t (M _ _ _ (b.trans c).t X)) (f _ _ _ t (f _ _ _ c.t y)) (g _ _ _ t E)]
theorem Bk:om (PN ys):=λ_ _ _ _ h=>h
theorem JY{t T:TE}{k:Nat}(h:Ev H0 p wl ys Hb σ t (PN ys))(b:Ev H0 p wl ys Hb σ T (PT ys k))(c:k < 6):Ev H0 p wl ys Hb σ (bV (am (tC (.str "read")) (am t (am T aK)))) (λH v=>cn Cf H ys 0 v):=wg Bk ar h b λH r u v z #[x,e,d] #[a,E,f]=>EX (by rw[z,e,E]) d f c
theorem Jt{t T:TE}{k:Nat}(h:Ev H0 p wl ys Hb σ t (PN ys))(b:Ev H0 p wl ys Hb σ T (PT ys k))(c:k < 6):Ev H0 p wl ys Hb σ (bV (am (tC (.str "set")) (am t (am T aK)))) (λH v=>cn Cf H ys 0 v):=wg Bk ar h b λH r u v z #[x,e,d] #[a,E,f]=>EY (by rw[z,e,E]) d f c
theorem JZ{t T:TE}{j k:Nat}(h:Ev H0 p wl ys Hb σ t (PT ys j))(b:Ev H0 p wl ys Hb σ T (PT ys k))(c:j < 6)(d:k < 6):Ev H0 p wl ys Hb σ (bV (am (tC (.str "write")) (am t (am T aK)))) (λH v=>cn Cf H ys 0 v):=wg ar ar h b λH r u v z #[x,e,f] #[a,E,g]=>EZ (by rw[z,e,E]) f g c d
theorem Q4{t:TE}{k:Nat}(h:Ev H0 p wl ys Hb σ t (PT ys k))(b:k < 6):Ev H0 p wl ys Hb σ (bV (am (tC (.str "give")) (am t aK))) (λH v=>cn Cf H ys 0 v):=Gc ar h λH r v z #[a,e,c]=>EV (by rw[z,e]) c b
theorem Z3{n o T c:TE}{j k:Nat}(C:Ev H0 p wl ys Hb σ n (PN ys)){f:Str}(D:Ev H0 p wl ys Hb σ o (vM f))(d:(f,2)∈Cf)(F:Ev H0 p wl ys Hb σ T (PT ys j))(G:Ev H0 p wl ys Hb σ c (PT ys k))(I:j < 6)(J:k < 6):Ev H0 p wl ys Hb σ (bV (am (tC (.str "call")) (am n (am o (am (bV (am T (am c aK))) aK))))) (λH v=>cn Cf H ys 0 v):=by
 let R:Hp->V->Prop:=λH v=>∃q a b,v= .ref q/\H q=some (.tup [.ref a,.ref b])/\gr H ys j a/\gr H ys k b
 have M:om R:=λ_ _ _ m #[q,a,b,e,g,L,i]=>#[q,a,b,e,m _ _ g,L.mono m,i.mono m]
 have N:Ev H0 p wl ys Hb σ (bV (am T (am c aK))) R:=λH Q m W q=>
  F H _ m W λv2 O #[a,E,X] S s=>G O _ (m.trans s) S λv3 H3 #[b,l,U] Y A=>#[bM,λr nr=>kK (P:=R) Y (λv' H' x W' k=>q v' H' x W' ((s.trans A).trans k)) nr λt z=>#[r,a,b,Z,by rw[z,E,l],(X.mono A.t).mono t,U.mono t]]
 exact DZ Bk (B:=vM f) (λ_ _ _ _ h=>h) M C D N λH r u v x z #[y,e1,g] (E:v= .str f) #[q,a,b,l,i,h4,h5]=>EU (f:=f) (by rw[z,e1,E,l]) g d i h4 h5 I J
theorem yS{t T b:TE}{k n m:Nat}(h:Ev H0 p wl ys Hb σ t (PT ys k))(c:Ev H0 p wl ys Hb σ T (PB Cf ys 0 n))(d:Ev H0 p wl ys Hb σ b (PB Cf ys 0 m))(e:k < 6)(s:n+m<=20):Ev H0 p wl ys Hb σ (bV (am (tC (.str "if")) (am t (am T (am b aK))))) (λH v=>cn Cf H ys 1 v):=
 DZ ar dJ dJ h c d λH r u v x z #[a,E,f] #[Q,X,g,i,j,y] #[A,B,l,o,q,C]=>EW (by rw[z,E,g,l]) f i o j q OG e
theorem yY{t T:TE}{k n:Nat}(h:Ev H0 p wl ys Hb σ t (PT ys k))(b:Ev H0 p wl ys Hb σ T (PB Cf ys 0 n))(c:k < 6)(i:n<=20):Ev H0 p wl ys Hb σ (bV (am (tC (.str "while")) (am t (am T aK)))) (λH v=>cn Cf H ys 1 v):=
 wg ar dJ h b λH r u v z #[a,e,d] #[q,x,E,f,g,j]=>uO (by rw[z,e,E]) d f g OG c
theorem yR{d:Nat}:Ev H0 p wl ys Hb σ (bV aK) (PB Cf ys d 0):=λH Q m W q=>#[iK,λr n=>kK (P:=PB Cf ys d 0) W q n λt z=>#[r,[],Z,z,Kd,Ib 0]]
theorem J1(h:Ev H0 p wl ys Hb σ T (λH v=>cn Cf H ys d v)):Ev H0 p wl ys Hb σ (bV (am T aK)) (PB Cf ys d 1):=λH Q m W q=>
 h H _ m W λf g X a b=>#[lY,λr n=>kK (P:=PB Cf ys d 1) a (λV c x e k=>q V c x e (b.trans k)) n λt z=>#[r,_,Z,z,zq (X.mono t),Ib 1]]
theorem YD(h:Ev H0 p wl ys Hb σ T (λH v=>cn Cf H ys d v))(c:Ev H0 p wl ys Hb σ e (λH v=>cn Cf H ys d v)):Ev H0 p wl ys Hb σ (bV (am T (am e aK))) (PB Cf ys d 2):=λH Q m W q=>
 h H _ m W λs f X g a=>c f _ (m.trans a) g λu y i j b=>#[bM,λr n=>kK (P:=PB Cf ys d 2) j (λV l x o k=>q V l x o ((a.trans b).trans k)) n λt z=>#[r,_,Z,z,jW ((X.mono b.t).mono t) (zq (i.mono t)),Ib 2]]
theorem D2(h:Ev H0 p wl ys Hb σ T (λH v=>cn Cf H ys d v))(e:Ev H0 p wl ys Hb σ f (λH v=>cn Cf H ys d v))(g:Ev H0 p wl ys Hb σ i (λH v=>cn Cf H ys d v)):Ev H0 p wl ys Hb σ (bV (am T (am f (am i aK)))) (PB Cf ys d 3):=λH Q m W q=>
 h H _ m W λC j X l a=>e j _ (m.trans a) l λD n o s b=>g n _ ((m.trans a).trans b) s λE F u y c=>#[gE,λr N=>kK (P:=PB Cf ys d 3) y (λV A x B k=>q V A x B (((a.trans b).trans c).trans k)) N λt z=>#[r,_,Z,z,jW ((X.mono (b.trans c).t).mono t) (jW ((o.mono c.t).mono t) (zq (u.mono t))),Ib 3]]
theorem qH(h:Ev H0 p wl ys Hb σ T (PB Cf ys d n))(e:Ev H0 p wl ys Hb σ f (PB Cf ys d m))(B:n+m<=100):Ev H0 p wl ys Hb σ (dR tF T f) (PB Cf ys d (n+m)):=λH Q M W q=>
 h H _ M W λV g #[a,x,E,i,X,L] j c=>e g _ (M.trans c) j λC D #[b,z,l,o,u,F] v k=>#[a,b,x,z,E,l,k.t _ _ i,o,Ik (show x.length+z.length<=100 by omega) OF,λr y A s=>q _ y #[r,_,Z,A,Jj ((X.mono k.t).mono (ae.tm s)) (u.mono (ae.tm s)),by rw[Ia];omega] (v.same s) ((c.trans k).trans (.same s))]
theorem K7(e:σ[i]?=some (some (.str x))):Ev H0 p wl ys Hb σ (aW i) (vM x):=jM e (λ_ _ _ _ h=>h) Z
theorem YE(h:Ev H0 p wl ys Hb σ T (vM f))(g:Ev H0 p wl ys Hb σ i (PP m))(j:Ev H0 p wl ys Hb σ l (PB Cf ys 1 n))(O:n<=100)(o:ys.length<=20):Ev H0 p wl ys Hb σ (bV (am T (am i (am l aK)))) (PD Cf m f):=λH Q M W q=>
 h H _ M W λv s (E:v= .str f) u c=>g s _ (M.trans c) u λR y #[a,S,A,B,L] C d=>j y _ ((M.trans c).trans d) C λU Y #[b,xs,D,F,X,l4] G e=>#[gE,λr N=>kK (P:=PD Cf m f) G (λV I x J k=>q V I x J (((c.trans d).trans e).trans k)) N λt z=>
  #[r,Z,DY (f:=f) (by rw[z,E,A,D]) (t _ _ (e.t _ _ B)) L (t _ _ F) (X.mono t) OG o]]
theorem yV(h:Ev H0 p wl ys Hb σ T (PN ys)):Ev H0 p wl ys Hb σ (bV (am T aK)) (PP 1):=λH Q m W q=>
 h H _ m W λV f #[X,e,_] a b=>#[lY,λr n=>kK (P:=PP 1) a (λv c x d k=>q v c x d (b.trans k)) n λt z=>#[r,[X],Z,by rw[z,e];rfl,Z]]
theorem yW(h:Ev H0 p wl ys Hb σ T (PN ys))(b:Ev H0 p wl ys Hb σ c (PN ys)):Ev H0 p wl ys Hb σ (bV (am T (am c aK))) (PP 2):=λH Q m W q=>
 h H _ m W λV d #[X,e,_] f a=>b d _ (m.trans a) f λs u #[g,E,_] i j=>#[bM,λr n=>kK (P:=PP 2) i (λv l x o k=>q v l x o ((a.trans j).trans k)) n λt z=>#[r,[X,g],Z,by rw[z,e,E];rfl,Z]]
theorem cn.lift(h:cn Cf H ys 0 v):cn Cf H ys 1 v:=h.up
theorem PB.lift(h:PB Cf ys 0 n H v):PB Cf ys 1 n H v:=let #[a,x,e,c,#[b,B,d,g,i],f]:=h;#[a,x,e,c,#[b,B,d,OG,OG],f]
theorem PB.more(h:PB Cf ys d n H v)(k:n<=m):PB Cf ys d m H v:=let #[a,x,e,b,c,f]:=h;#[a,x,e,b,c,Ik f k]
theorem qL{a b:TS}(W:Wd H0 H p wl ys)(e:σ[0]?=some (some (.ref p)))(g:1<=n)(i:n<=1000)(j:∀h,Wd H0 h p wl ys->Fw p H h->a D σ h)(l:∀h,Wd H0 h p wl ys->Fw p H h->b D σ h):gF (i6 (dR Cu (vE n) (tC (.int 0)))) a b D σ H:=
 kX (Hb:=H) e g i H _ .refl W λv c #[d,E,m,o] f k=>by
  subst E
  exact#[Z,_,Z,bN (λ_=>j c f k) (λ_=>l c f k)]
theorem jV{D:aZ}{P:Hp->V->Prop}(W:Wd H0 H p wl ys)(h:Ev H0 p wl ys H σ t P)(q:∀v a,P a v->Wd H0 a p wl ys->Fw p H a->D.nx (σ.set i (some v)) a):du t (bq i) D σ H:=h H _ .refl W q
theorem QE{D:aZ}{P:Hp->V->Prop}(W:Wd H0 H p wl ys)(h:Ev H0 p wl ys H σ t P)(q:∀v a,P a v->Wd H0 a p wl ys->D.rt v a):gn t D σ H:=h H _ .refl W λv a x b _=>q v a x b
theorem yf{K:Frag}{D:aZ}(W:Wd H0 H p wl ys)(d:Ev H0 p wl ys H σ T (PT ys 0))(e:Ev H0 p wl ys H σ f (PT ys 0))(g:Ev H0 p wl ys H σ l (PT ys 0))
  (q:∀u v w h,PT ys 0 h u->PT ys 0 h v->PT ys 0 h w->Wd H0 h p wl ys->Fw p H h->D.nx (((σ.set k (some w)).set j (some v)).set i (some u)) h):Aq K (bV (am T (am f (am l aK)))) i j k D σ H:=
 d H _ .refl W λV m x o a=>e m _ a o λs y X z b=>g y _ (a.trans b) z λA E B C c=>#[gE,λr n=>#[r,_,_,_,Z,ay.of jc,q V s A _ (ar _ _ _ (ae.tm (je n)) (ar _ _ _ (b.trans c).t x)) (ar _ _ _ (ae.tm (je n)) (ar _ _ _ c.t X)) (ar _ _ _ (ae.tm (je n)) B) (C.same (je n)) (((a.trans b).trans c).trans (.new n))]]
structure Ow(H0 H:Hp)(p wl l:Addr)(xs:List V):Prop where
 hl:H l=some (.lst xs)
 np:l≠p
 lw:l≠wl
 l0:H0 l=none
theorem Ow.fw(o:Ow H0 H p wl l x)(k:Fw p H h):Ow H0 h p wl l x:=#[k.b _ _ o.np o.hl,o.np,o.lw,o.l0]
theorem Ow.new(W:Wd H0 H p wl ys)(n:H l=none):Ow H0 (ah H l (.lst x)) p wl l x:=#[jc,W.B.ne n,(λe=>by have z:=W.w;rw[<- e,n]at z;cases z),W.K.none W.B n]
theorem Er{D:aZ}(W:Wd H0 H p wl ys)(b:Ev H0 p wl ys H σ t (λH v=>cn Cf H ys 0 v))(q:∀l v h,Ow H0 h p wl l [v]->cn Cf h ys 0 v->Wd H0 h p wl ys->Fw p H h->D.nx (σ.set i (some (.ref l))) h):du (mX (am t aK)) (bq i) D σ H:=
 b H _ .refl W λV c x a k=>#[lY,λl n=>q l V _ (.new a n) (x.mono (ae.tm (je n))) (a.same (je n)) (k.trans (.new n))]
theorem Es{D:aZ}(W:Wd H0 H p wl ys)(c:Ev H0 p wl ys H σ T (λH v=>cn Cf H ys 0 v))(d:Ev H0 p wl ys H σ e (λH v=>cn Cf H ys 0 v))(q:∀l u v h,Ow H0 h p wl l [u,v]->cn Cf h ys 0 u->cn Cf h ys 0 v->Wd H0 h p wl ys->Fw p H h->D.nx (σ.set i (some (.ref l))) h):du (mX (am T (am e aK))) (bq i) D σ H:=
 c H _ .refl W λV f x g k=>d f _ k g λj m X a b=>#[bM,λl n=>q l V j _ (.new a n) ((x.mono b.t).mono (ae.tm (je n))) (X.mono (ae.tm (je n))) (a.same (je n)) ((k.trans b).trans (.new n))]
theorem Jk{K:Frag}{D:aZ}(W:Wd H0 H p wl ys)(a:σ[i]?=some (some (.ref l)))(o:Ow H0 H p wl l xs)(b:xs.length<=100)(c:Ev H0 p wl ys H σ T (λH v=>cn Cf H ys 0 v))
  (q:∀v h,cn Cf h ys 0 v->Ow H0 h p wl l (xs++[v])->Wd H0 h p wl ys->al H h->D.nx σ h):px (Gz K "list" le (aW i) (am T aK)) D σ H:=
 #[_,a,.inl #[Z,_,aG.of o.hl],c H _ .refl W λv e x d k=>#[l,xs,v,Z,Z,(o.fw k).hl,LF b OF,q v _ (x.mono (QC (o.fw k).hl)) #[jc,o.np,o.lw,o.l0] (d.own (xs:=xs) o.l0 o.np o.lw) (k.t.trans (QC (o.fw k).hl))]]
theorem yp{K:Frag}{D:aZ}(W:Wd H0 H p wl ys)(h:σ[i]?=some (some (.ref l)))(o:Ow H0 H p wl l (u::v::z))
  (q:∀a,Ow H0 a p wl l (v::u::z)->Wd H0 a p wl ys->al H a->D.nx σ a):du (bV (am (dR (iP K) (aW i) (tC (.int 1))) (am (dR (iP K) (aW i) (tC (.int 0))) aK))) (pK K 2 (di (A1 (aW i) (tC (.int 0)) oC) (di (A1 (aW i) (tC (.int 1)) oC) rQ))) D σ H:=
 #[_,h,l,_,_,_,Z,Z,aG.of o.hl,iR,_,h,l,_,_,_,Z,Z,aG.of o.hl,eZ,bM,λt N=>#[t,_,Z,ay.of jc,Z,_,_,Z,_,h,l,_,0,0,Z,Z,ao o.hl N,Hy (n:=z.length+1),_,_,Z,_,h,l,_,1,1,Z,Z,jc,Hz (n:=z.length),Z,
  q _ #[jc,o.np,o.lw,o.l0] (((W.same (je N)).own (xs:=u::v::z) o.l0 o.np o.lw).own (xs:=u::v::z) o.l0 o.np o.lw) (((ae.tm (je N)).trans (QC (ao o.hl N))).trans (QC jc))]]
theorem yX{K:Frag}{n:Nat}(e:σ[i]?=some (some (.ref l)))(o:Ow H0 Hb p wl l x)(h:gI Cf Hb ys 0 x)(a:x.length<=n):Ev H0 p wl ys Hb σ (Fx (λx H Q=>∃p ys,x=[V.ref p]/\((aG K H p ys/\∀(l:Addr),H l=none->Q (V.ref l) (ah H l (HO.tup ys)))∨ay K H p ys/\Q (V.ref p) H)) (am (aW i) aK)) (PB Cf ys 0 n):=λH Q m W q=>
 #[_,e,l,x,Z,.inl #[aG.of (o.fw m).hl,λr N=>kK (P:=PB Cf ys 0 n) W q N λt z=>#[r,x,Z,z,(h.mono m.t).mono t,a]]]
theorem AN{D:aZ}(W:Wd H0 H p wl ys)(u:σ[i]?=some (some (.ref l)))(y:σ[j]?=some (some (.ref m)))(o:Ow H0 H p wl l x)(O:Ow H0 H p wl m z)(C:x.length+z.length<=100)(E:gI Cf H ys 0 x)(F:gI Cf H ys 0 z)
  (G:Ev H0 p wl ys H σ T (λH v=>cn Cf H ys 0 v)) (I:Ev H0 p wl ys H σ J (λH v=>cn Cf H ys 0 v)) (q:∀r U h,Ow H0 h p wl r U->gI Cf h ys 0 U->U.length<=x.length+z.length+2->Wd H0 h p wl ys->Fw p H h->D.nx (σ.set i (some (.ref r))) h):
  du (dR xJ (dR xJ (aW i) (aW j)) (mX (am T (am J aK)))) (bq i) D σ H:=
 #[_,u,_,y,l,m,_,_,Z,Z,o.hl,O.hl,Ik C OF,λc n=>G _ _ (.new n) (W.same (je n)) λV L X M k=>I L _ ((Fw.new n).trans k) M λe R Q A s=>#[bM,λd N=>#[c,d,_,_,Z,Z,ao ((k.trans s).b _ _ (W.B.ne n) jc) N,jc,by
  have:=aF
  show(x++z).length+2<=sizeLine
  rw[Ia]
  omega,λr a=>q r _ _ (.new (A.same (je N)) a) (by
   have f:=(((Fw.new n).trans k).trans s).trans ((Fw.new (p:=p) (o:=HO.lst [V,e]) N).trans (Fw.new (o:=HO.lst ((x++z)++[V,e])) a))
   have g:=(Fw.new (p:=p) (o:=HO.lst [V,e]) N).trans (Fw.new (o:=HO.lst ((x++z)++[V,e])) a)
   exact Jj (Jj (E.mono f.t) (F.mono f.t)) (jW ((X.mono s.t).mono g.t) (zq (Q.mono g.t)))) (by rw[Ia,Ia];exact Ib _) ((A.same (je N)).same (je a)) ((((Fw.new n).trans k).trans s).trans ((Fw.new N).trans (Fw.new a)))]]]
theorem YZ{K:Frag}{D:aZ}(W:Wd H0 H p wl ys)(k:σ[3]?=some (some (.ref wl)))(l:ys.length=6)
  (q:∀a b c d e g,PT ys 0 g a->PT ys 0 g b->PT ys 0 g c->PT ys 0 g d->PT ys 0 g e->Wd H0 g p wl ys->D.nx (((((σ.set 4 (some a)).set 5 (some b)).set 6 (some c)).set 7 (some d)).set 8 (some e)) g):
  du (uQ (y8 K (Fy (xN K) (aW 3) l9 (mY (tC (V.int 5))))) 1 [] (bq 0) l7 (bV (am (tC (V.str "var")) (am (aW 0) aK)))) (Ge K 5 (di (bq 4) (di (bq 5) (di (bq 6) (di (bq 7) (di (bq 8) rQ)))))) D σ H:=by
 have B:=aF
 refine#[_,k,_,Z,wl,_,Z,aG.of W.w,λs n=>?_]
 have E:aM (ys.map V.str) none (some 5)=(ys.take 5).map V.str:=by rw[show(5:Int)=((5:Nat):Int) from Z,DR (by rw[HZ];omega),Nb]
 have t:ah H s (.lst (aM (ys.map V.str) none (some 5))) s=some (.lst ((ys.take 5).map V.str)):=by rw[E];exact jc
 have S:=je (o:=HO.lst (aM (ys.map V.str) none (some 5))) n
 generalize ah H s (.lst (aM (ys.map V.str) none (some 5)))=A at t S
 refine#[s,Z,#[_,aG.of t],?_]
 refine ZJ (K:=K) (a:=s) (xs:=(ys.take 5).map V.str) (by rw[HZ,ID];omega) (λi j g=>j.length=i/\(∀v∈j,PT ys 0 g v)/\ae A g) #[Z,(λ_ h=>absurd h IL),ae.refl _] (λi j g h=>#[aG.of (h.2.2 _ _ t),N4 h.1]) (λi x j g C h=>?_) (λj F h L N=>?_)
 ·obtain⟨y,l,rfl⟩:=List.mem_map.mp (IA C)
  exact#[_,Z,bM,λr u=>#[by rw[Ia,h.1];rfl,qZ (λa z=>ar _ _ _ (ae.tm (je u)) (h.2.1 a z)) #[r,Z,va jc (Lc l)],h.2.2.trans (je u)]]
 ·have e:=h.1
  rw[HZ,ID]at e
  obtain⟨a,b,c,d,f,rfl⟩:=Gj (show j.length=5 by omega)
  have m:=ae.tm (je (o:=HO.lst [a,b,c,d,f]) N)
  exact#[L,_,Z,aG.of jc,Z,_,_,Z,_,_,Z,_,_,Z,_,_,Z,_,_,Z,Z,q a b c d f _ (ar _ _ _ m (h.2.1 a OH)) (ar _ _ _ m (h.2.1 b OH)) (ar _ _ _ m (h.2.1 c OH)) (ar _ _ _ m (h.2.1 d OH)) (ar _ _ _ m (h.2.1 f OH)) (((W.same S).same h.2.2).same (je N))]
end
theorem Gs:ai z15z z15z (aa Gr):=bp
theorem El(F:aI K "_law_op" "_law_op" Gr f t)(C:Cl P w K mg base 1 T u z0z aU "_law_take"):af P w K mg base aA 2 f t z15z mO:=by
 refine F.ok Gs ?_ λv A O s H V Q E x h=>?_
 ·rintro _ _ _ _ ⟨p,a,b,y,k,rfl,_⟩
  rfl
 obtain⟨p,a,b,y,k,rfl,B,z,D,q⟩:=h
 refine#[_,(jg (jo (ji (ja jm (ja (jr jq (jG (ja jm (ja jm (ja jm (ja jm jb))))) (C.e x.m (ja (pv 0) (ja jf jb))) (λ_ _=>Z)) (ja (pv 1) (ja (pv 2) jb))))))),?_]
 refine#[pU,λl n=>#[_,Z,p,4,Z,B.upd_new n,OF,OF,λd G I J L j=>?_]]
 obtain⟨s,c,M⟩:=xE I J
 have g:aB p H G:=((aB.refl).upd_new n).trans (aB.of_eq j)
 refine#[l,_,_,_,Z,Z,aG.of (by rw[j l (B.ne n)];exact jc),c,_,Z,_,Z,pU,λr N=>?_]
 have S:=je (o:=HO.tup [.str "op",.str s,.ref a,.ref b]) N
 exact q r _ (Ay jc M ((z.mono (g.tm B)).mono (ae.tm S)) ((D.mono (g.tm B)).mono (ae.tm S)) (Ls _) (Ls _)) (L.upd_new N) (g.trans (aB.of_same S))
theorem bP:ai ["_law_box_here","_law_f","_law_g","_law_w","_law_x","_law_i","_law_y","_law_spot_here","_law_body_here","_law_deeper","_law_test","_law_early","_law_last"] z33z (aa nV):=bp
theorem sI(F:aI K "_law_inner" "_law_inner" nV f fd)(I:Cl P w K mg base 1 fT c0 z0z aU "_law_take")(cO:Cl P w K mg base 2 fO c1 z15z mO "_law_op"):af P w K mg base aA 3 f fd z33z (c8 2):=by
 refine F.ok bP ?_ λc2 A o0 s H vs Q E l h=>?_
 ·rintro _ _ _ _ ⟨p,T,f0,g,Y,rfl,_⟩
  rfl
 obtain⟨p,T,f0,g,Y,rfl,B,hw,h2,q⟩:=h
 refine#[_,(jd (@xF _ _ _ _ _ _ _ _ (4) (5) (6) Z bP.nd Z Z Z (Or.inl Z) (Or.inl Z) (Or.inl Z) (ji (ja (ji (ja jm (ja (jr jq (pv 3) jf (λ_ _=>Z)) jb))) (ja (ji (ja jm (ja (jr jq (pv 3) jf (λ_ _=>Z)) jb))) (ja (ji (ja jm (ja (jr jq (pv 3) jf (λ_ _=>Z)) jb))) jb)))) (by first |exact .inl Z |exact .inr Z) (by first |exact .inl Z |exact .inr Z) (by first |exact .inl Z |exact .inr Z) OK OK) (jd (jz 7 bP.nd (ji (ja jm (ja jm (ja (jr jq (jG (ja (pv 4) (ja (pv 5) jb))) (I.e l.m (ja (pv 0) (ja jf jb))) (λ_ _=>Z)) (ja (ji (ja jm (ja (I.e l.m (ja (pv 0) (ja jf jb))) jb))) jb)))))) (jd (jz 8 bP.nd (ji (ja (ji (ja jm (ja (jr jq (pv 3) jf (λ_ _=>Z)) (ja (pv 7) jb)))) jb))) (jd (j8 (jx (za (I.e l.m (ja (pv 0) (ja jf jb)))) (jd (jz 7 bP.nd (ji (ja jm (ja jm (ja (pv 5) (ja (ji (ja jm (ja (jw jY jf (I.e l.m (ja (pv 0) (ja jf jb)))) jb))) jb)))))) (jg (jz 8 bP.nd (jw j7 (pv 8) (ji (ja (ji (ja jm (ja (pv 7) (ja (cO.e l.m (ja (pv 0) (ja (pv 4) (ja (pv 6) jb)))) jb)))) jb)))))) jp)) (jd (j8 (jx (za (I.e l.m (ja (pv 0) (ja jf jb)))) (jd (jz 9 bP.nd (ji (ja jm (ja (jr jq (pv 3) jf (λ_ _=>Z)) (ja (pv 2) (ja (ji (ja (ji (ja jm (ja jm (ja (pv 5) (ja (ji (ja jm (ja jf jb))) jb))))) (ja (pv 6) jb))) jb)))))) (jg (jz 8 bP.nd (jw j7 (pv 8) (ji (ja (ji (ja jm (ja (pv 5) (ja (ji (ja (pv 9) jb)) (ja (ji jb) jb))))) jb)))))) jp)) (jd (jz 10 bP.nd (ji (ja jm (ja (jr J7 jm (I.e l.m (ja (pv 0) (ja jf jb))) (λ_ _=>Z)) (ja (pv 6) (ja (ji (ja jm (ja (I.e l.m (ja (pv 0) (ja jf jb))) jb))) jb)))))) (jd (jz 11 bP.nd (ji (ja jm (ja (cO.e l.m (ja (pv 0) (ja (pv 4) (ja (pv 6) jb)))) jb)))) (jd (jz 12 bP.nd (ji (ja jm (ja (cO.e l.m (ja (pv 0) (ja (pv 6) (ja (pv 5) jb)))) jb)))) (jd (jz 8 bP.nd (jw j7 (pv 8) (ji (ja (ji (ja jm (ja (pv 10) (ja (ji (ja (pv 11) jb)) (ja (ji jb) jb))))) (ja (pv 12) jb))))) (jg (jo (ji (ja (pv 1) (ja (ji (ja (jr jq (pv 3) jf (λ_ _=>Z)) (ja (jr jq (pv 3) jf (λ_ _=>Z)) jb))) (ja (pv 8) jb))))))))))))))),?_]
 have W0:Wd H H p T Y:=#[B,aB.refl,hw]
 refine aj λF1 f1=>yf W0 (JW (kQ Z OF OG)) (JW (kQ Z OF OG)) (JW (kQ Z OF OG)) λvx vi vy J xx X U W1 k1=>f1 _ _ ?_
 refine aj λF2 f2=>jV W1 (z9 (n:=1) (qe zk) (YC Z (jM Z ar xx) (jM Z ar X)) (kL (kX Z OF OF) OF) OF OF) λv2 H2 x2 W2 k2=>f2 _ _ ?_
 refine aj λF3 f3=>jV W2 (J1 (JY (Cf:=[(g,2)]) (kQ Z OF OG) (jM Z ar x2) OF)) λv3 H3 x3 W3 k3=>f3 _ _ ?_
 refine aj λF4 f4=>dB (λL u=>∃(o:Option V) (b:V),L=[some (V.ref p),some (V.str f0),some (V.str g),some (V.ref T),some (vx),some (vi),some (vy),o,some b,none,none,none,none]/\PB [(g,2)] Y 1 2 u b/\Wd H u p T Y/\al H3 u) (λE4 _ f5=>qL W3 Z OF OF (λH6 W6 k6=>?_) (λH6 W6 k6=>?_)) λσ0 H5 h0=>?_
 ·clear f4
  have C:al J H6:=((k2.t.trans k3.t).trans k6.t)
  refine aj λF7 f7=>jV W6 (z9 (n:=1) (qe zk) (jM Z ar (ar _ _ _ C X)) (kL (QD (kX Z OF OF) OF) OF) OF OF) λv7 H7 x7 W7 k7=>f7 _ _ ?_
  have D:al H3 H7:=(k6.t.trans k7.t)
  have G:al J H7:=(C.trans k7.t)
  refine jV W7 (qH (jM Z dJ (dJ _ _ _ D x3)) (J1 (JZ (Cf:=[(g,2)]) (jM Z ar x7) (JX Z (jM Z ar (ar _ _ _ G xx)) (jM Z ar (ar _ _ _ G U))) OF OF)) OF) λv8 H8 x8 W8 k8=>f5 _ _ ?_
  have m0:al H3 H8:=(D.trans k8.t)
  exact#[_,_,Z,(PB.lift x8),W8,m0]
 ·clear f4
  exact f5 _ _ #[_,_,Z,(PB.more (PB.lift (dJ _ _ _ k6.t x3)) OF),W6,k6.t]
 obtain⟨o5,b5,rfl,x5,W5,k5⟩:=h0
 refine f4 _ _ ?_
 clear f4
 refine aj λF9 f9=>dB (λL u=>∃(o:Option V) (b:V),L=[some (V.ref p),some (V.str f0),some (V.str g),some (V.ref T),some (vx),some (vi),some (vy),o5,some b,o,none,none,none]/\PB [(g,2)] Y 1 3 u b/\Wd H u p T Y/\al H5 u) (λE9 _ f6=>qL W5 Z OF OF (λH0 W k=>?_) (λH0 W k=>?_)) λσ1 H4 h1=>?_
 ·clear f9
  have M:al J H0:=(((k2.t.trans k3.t).trans k5).trans k.t)
  refine aj λF0 f'=>jV W (Z3 (Cf:=[(g,2)]) (kQ Z OF OG) (K7 Z) Iz (z9 (n:=1) (qe Xm) (jM Z ar (ar _ _ _ M X)) (kL (Qw OF (by decide:(1:Int) < 2)) OF) OF OF) (jM Z ar (ar _ _ _ M U)) OF OF) λv0 H9 x0 W4 k0=>f' _ _ ?_
  have c:al H5 H9:=(k.t.trans k0.t)
  have N:al J H9:=(M.trans k0.t)
  refine jV W4 (qH (jM Z dJ (dJ _ _ _ c x5)) (J1 (yS (jM Z ar (ar _ _ _ N X)) (J1 (jM Z dS x0)) (yR (Cf:=[(g,2)]) (d:=0)) OF OF)) OF) λv1 a2 x1 W9 k9=>f6 _ _ ?_
  have O:al H5 a2:=(c.trans k9.t)
  exact#[_,_,Z,x1,W9,O]
 ·clear f9
  exact f6 _ _ #[_,_,Z,(PB.more (dJ _ _ _ k.t x5) OF),W,k.t]
 obtain⟨o1,c3,rfl,x4,a3,k'⟩:=h1
 refine f9 _ _ ?_
 clear f9
 have i:al J H4:=(((k2.t.trans k3.t).trans k5).trans k')
 refine aj λF5 a4=>jV a3 (z9 (n:=1) (D6 Z) (jM Z ar (ar _ _ _ i U)) (kL (kX Z OF OF) OF) OF OF) λv4 a0 x9 a' k4=>a4 _ _ ?_
 have a:al J a0:=(i.trans k4.t)
 refine aj λF6 b0=>jV a' (Q4 (Cf:=[(g,2)]) (JX Z (jM Z ar (ar _ _ _ a xx)) (jM Z ar (ar _ _ _ a U))) OF) λv5 b1 x' b2 R=>b0 _ _ ?_
 have j:al J b1:=(a.trans R.t)
 refine aj λc4 b3=>jV b2 (Q4 (Cf:=[(g,2)]) (JX Z (jM Z ar (ar _ _ _ j U)) (jM Z ar (ar _ _ _ j X))) OF) λv9 a1 b4 b6 S=>b3 _ _ ?_
 have y:al H4 a1:=((k4.t.trans R.t).trans S.t)
 have z:al a0 a1:=(R.t.trans S.t)
 refine aj λc5 b7=>jV b6 (qH (jM Z dJ (dJ _ _ _ y x4)) (YD (yS (jM Z ar (ar _ _ _ z x9)) (J1 (jM Z dS (dS _ _ _ S.t x'))) (yR (Cf:=[(g,2)]) (d:=0)) OF OF) (Ev.up (jM Z dS b4) λ_ _=>cn.lift)) OF) λv' c6 b9 b' c9=>b7 _ _ ?_
 refine QE b' (YE (K7 Z) (yW (kQ Z OF OG) (kQ Z OF OG)) (jM Z dJ b9) OF OG) λv u x W'=>?_
 obtain⟨r,rfl,x⟩:=x
 exact q r u x W'.B W'.K
theorem bn:ai z37z z17z (aa gW):=bp
noncomputable def K0:Scope:=#[.function,[(".0",.local),("_law_one",.local)],false,false,[]]
theorem Yt:(["_law_one"]:List Str).Nodup:=by decide+kernel
theorem Yu:bG z37z (aa gW) K0 ["_law_one"] 1 []:=rj
theorem ZN(F:aI K "_law_looped" "_law_looped" gW f fd)(C:Cl P w K mg base 1 fT d5 z0z aU "_law_take")(cO:Cl P w K mg base 2 fO d6 z15z mO "_law_op")(mi:mg "int"=none)(m6:mg "tuple"=none):af P w K mg base aA 3 f fd z17z (c8 1):=by
 refine F.ok bn ?_ λd7 A b1 s H vs Q E l h=>?_
 ·rintro _ _ _ _ ⟨p,W,f0,g,Y,rfl,_⟩
  rfl
 obtain⟨p,W,f0,g,Y,rfl,B,hw,h2,q⟩:=h
 refine#[_,(jd (zg (@zi _ _ _ _ _ _ _ (["_law_one"]) (1) ([]) _ _ _ _ Z (zE (jH kG (pv 3) jR (jF jf))) Yu (λ_ _ _ _ _=>(jv (i:=0) Yt Z (Or.inl Z))) (λ_ _ _ _ _=>(@zK _)) (λ_ _ _ _ _=>(ji (ja jm (ja (pv 0) jb)))) (by intro _;rfl)) (@YO _ _ _ _ (5) _ Z (jA (jv (i:=4) bn.nd Z (Or.inl Z)) (jA (jv (i:=5) bn.nd Z (Or.inl Z)) (jA (jv (i:=6) bn.nd Z (Or.inl Z)) (jA (jv (i:=7) bn.nd Z (Or.inl Z)) (jA (jv (i:=8) bn.nd Z (Or.inl Z)) ki))))) OK OK)) (jd (jz 9 bn.nd (jG (ja (ji (ja jm (ja (jr jq (pv 3) jf (λ_ _=>Z)) (ja (ji (ja jm (ja jm (ja (pv 5) (ja (ji (ja jm (ja (C.e l.m (ja (pv 0) (ja jf jb))) jb))) jb))))) jb)))) jb))) (jd (jJ (j9 Ii Iy Ix jP (pv 9) (ja (ji (ja jm (ja (jr jq (pv 3) jf (λ_ _=>Z)) (ja (pv 2) (ja (ji (ja (pv 7) (ja (jr jq (jG (ja (pv 5) (ja (pv 6) jb))) (jE qr Z mi boot_int (ja (qO qw (C.e l.m (ja (pv 0) (ja jf jb))) jf (aH _)) jb)) (λ_ _=>Z)) jb))) jb))))) jb))) (jd (j8 (jx (za (C.e l.m (ja (pv 0) (ja jf jb)))) (jd (jz 10 bn.nd (ji (ja jm (ja jm (ja (pv 5) (ja (ji (ja jm (ja (jw jY jf (C.e l.m (ja (pv 0) (ja jf jb)))) jb))) jb)))))) (jg (jJ (j9 Ii Iy Ix jP (pv 9) (ja (ji (ja jm (ja (pv 10) (ja (jr jq (jG (ja (pv 6) (ja (pv 8) (ja (pv 7) jb)))) (C.e l.m (ja (pv 0) (ja jf jb))) (λ_ _=>Z)) jb)))) jb))))) jp)) (jd (jJ (j9 Ii Iy Ix jP (pv 9) (ja (ji (ja jm (ja (jr jq (pv 3) jf (λ_ _=>Z)) (ja (cO.e l.m (ja (pv 0) (ja (jr jq (jG (ja (pv 6) (ja (pv 6) (ja (pv 7) jb)))) (C.e l.m (ja (pv 0) (ja jf jb))) (λ_ _=>Z)) (ja (pv 8) jb)))) jb)))) jb))) (jd (j8 (jx (za (C.e l.m (ja (pv 0) (ja jf jb)))) (jg (zg (ji (ja (jr jq (pv 9) jf (λ_ _=>Z)) (ja (jr jq (pv 9) jf (λ_ _=>Z)) jb))) (zn (n:=2) Z (jA (qF (pv 9) jf zu) (jA (qF (pv 9) jf zu) ki))))) jp)) (jd (jJ (j9 Ii Iy Ix jP (pv 9) (ja (ji (ja jm (ja (jr jq (pv 3) jf (λ_ _=>Z)) (ja (ji (ja jm (ja jm (ja (pv 5) (ja (ji (ja jm (ja jf jb))) jb))))) jb)))) jb))) (jd (jz 11 bn.nd (ji (ja (ji (ja jm (ja (jr jq (pv 3) jf (λ_ _=>Z)) (ja (ji (ja jm (ja (C.e l.m (ja (pv 0) (ja jf jb))) jb))) jb)))) (ja (ji (ja jm (ja (jr jq (pv 3) jf (λ_ _=>Z)) (ja (ji (ja jm (ja (C.e l.m (ja (pv 0) (ja jf jb))) jb))) jb)))) jb)))) (jd (j8 (jx (za (C.e l.m (ja (pv 0) (ja jf jb)))) (jd (jz 11 bn.nd (jw j7 (pv 11) (ji (ja (ji (ja jm (ja (jr jq (pv 3) jf (λ_ _=>Z)) (ja (ji (ja jm (ja (jw jY jf (C.e l.m (ja (pv 0) (ja jf jb)))) jb))) jb)))) jb)))) (jg (jz 11 bn.nd (jw j7 (pv 11) (ji (ja (ji (ja jm (ja (jr jq (pv 3) jf (λ_ _=>Z)) (ja (ji (ja jm (ja jm (ja (pv 4) (ja (ji (ja jm (ja jf jb))) jb))))) jb)))) jb)))))) jp)) (jd (jz 12 bn.nd (ji (ja jm (ja (ji (ja jm (ja jm (ja (pv 5) (ja (pv 4) jb))))) (ja (jE jI Z m6 LM (ja (pv 9) jb)) jb))))) (jg (jo (ji (ja (pv 1) (ja (ji (ja (jr jq (pv 3) jf (λ_ _=>Z)) jb)) (ja (jw j7 (pv 11) (ji (ja (pv 12) (ja (ji (ja jm (ja (ji (ja jm (ja jf jb))) (ja (pv 6) jb)))) (ja (ji (ja jm (ja (pv 6) jb))) jb))))) jb)))))))))))))))),?_]
 have W0:Wd H H p W Y:=#[B,aB.refl,hw]
 refine aj λF1 f1=>YZ W0 Z h2 λvn vi vs vx vy U xn xi xs xx xy W1=>f1 _ _ ?_
 refine aj λF2 f2=>Er W1 (JY (Cf:=[(g,2)]) (kQ Z OF OG) (z9 (n:=1) (qe zk) (jM Z ar xi) (kL (kX Z OF OF) OF) OF OF) OF) λlb u2 H2 o2 x2 W2 k2=>f2 _ _ ?_
 refine aj λF3 f3=>Jk W2 Z o2 (show 1<=100 by decide) (Z3 (Cf:=[(g,2)]) (kQ Z OF OG) (K7 Z) Iz (jM Z ar (ar _ _ _ k2.t xx)) (D4 Z OF OF (jM Z ar (ar _ _ _ k2.t xi)) (jM Z ar (ar _ _ _ k2.t xs))) OF OF) λu3 H3 x3 o3 W3 k3=>f3 _ _ ?_
 refine aj λF4 f4=>dB (λu c=>∃(o:Option V) (G:List V),u=[some (V.ref p),some (V.str f0),some (V.str g),some (V.ref W),some (vn),some (vi),some (vs),some (vx),some (vy),some (V.ref lb),o,none,none]/\Ow H c p W lb (u2::u3::G)/\gI [(g,2)] c Y 0 G/\G.length<=1/\Wd H c p W Y/\al H3 c) (λE4 _ f5=>qL W3 Z OF OF (λH6 W6 k6=>?_) (λH6 W6 k6=>?_)) λσ2 H5 h3=>?_
 ·clear f4
  have o6:=o3.fw k6
  have R:al U H6:=((k2.t.trans k3).trans k6.t)
  refine aj λF7 f7=>jV W6 (z9 (n:=1) (qe zk) (jM Z ar (ar _ _ _ R xi)) (kL (QD (kX Z OF OF) OF) OF) OF OF) λv7 H7 x7 W7 k7=>f7 _ _ ?_
  have o7:=o6.fw k7
  have y:al U H7:=(R.trans k7.t)
  refine Jk W7 Z o7 (show 2<=100 by decide) (JZ (Cf:=[(g,2)]) (jM Z ar x7) (yU Z (jM Z ar (ar _ _ _ y xs)) (jM Z ar (ar _ _ _ y xy)) (jM Z ar (ar _ _ _ y xx))) OF OF) λu8 H8 x8 o8 W8 k8=>f5 _ _ ?_
  have m5:al H3 H8:=((k6.t.trans k7.t).trans k8)
  exact#[_,[u8],Z,o8,zq x8,Ib 1,W8,m5]
 ·clear f4
  have o6:=o3.fw k6
  exact f5 _ _ #[_,[],Z,o6,Kd,OF,W6,k6.t]
 obtain⟨w5,G,rfl,o5,zx,zl,W5,k5⟩:=h3
 refine f4 _ _ ?_
 clear f4
 have M:al U H5:=((k2.t.trans k3).trans k5)
 refine aj λF9 f9=>Jk W5 Z o5 (show G.length+1+1<=100 by omega) (Jt (Cf:=[(g,2)]) (kQ Z OF OG) (JX Z (yU Z (jM Z ar (ar _ _ _ M xs)) (jM Z ar (ar _ _ _ M xs)) (jM Z ar (ar _ _ _ M xx))) (jM Z ar (ar _ _ _ M xy))) OF) λu9 H9 x9 o9 W9 k9=>f9 _ _ ?_
 have zy:gI [(g,2)] H9 Y 0 (G++[u9]):=Jj (zx.mono k9) (zq x9)
 have zm:(G++[u9]).length<=2:=by rw[Ia];exact LD zl
 refine aj λF0 I=>dB (λu c=>∃(X:List V),u=[some (V.ref p),some (V.str f0),some (V.str g),some (V.ref W),some (vn),some (vi),some (vs),some (vx),some (vy),some (V.ref lb),w5,none,none]/\Ow H c p W lb X/\gI [(g,2)] c Y 0 X/\X.length<=4/\Wd H c p W Y/\al H9 c) (λE1 _ S=>qL W9 Z OF OF (λH0 W4 k=>?_) (λH0 W4 k=>?_)) λσ0 b2 h0=>?_
 ·clear I
  have o0:=o9.fw k
  refine yp W4 Z o0 λH4 b3 b4 k0=>S _ _ ?_
  have m0:al H3 H4:=(((k5.trans k9).trans k.t).trans k0)
  have m1:al H2 H4:=((((k3.trans k5).trans k9).trans k.t).trans k0)
  have z:al H9 H4:=(k.t.trans k0)
  exact#[_,Z,b3,jW ((dS _ _ _ m0 x3)) (jW ((dS _ _ _ m1 x2)) (zy.mono z)),(show(G++[u9]).length+1+1<=4 by omega),b4,z]
 ·clear I
  have o0:=o9.fw k
  have m2:al H2 H0:=(((k3.trans k5).trans k9).trans k.t)
  have m3:al H3 H0:=((k5.trans k9).trans k.t)
  exact S _ _ #[_,Z,o0,jW ((dS _ _ _ m2 x2)) (jW ((dS _ _ _ m3 x3)) (zy.mono k.t)),(show(G++[u9]).length+1+1<=4 by omega),W4,k.t]
 obtain⟨X,rfl,b5,ux,ul,b6,b7⟩:=h0
 refine I _ _ ?_
 clear I
 have d:al U b2:=((M.trans k9).trans b7)
 refine aj λF5 f6=>Jk b6 Z b5 OG (Jt (Cf:=[(g,2)]) (kQ Z OF OG) (z9 (n:=1) (qe zk) (jM Z ar (ar _ _ _ d xi)) (kL (Qw OF (by decide:(1:Int) < 2)) OF) OF OF) OF) λu0 a1 x1 b9 b' k1=>f6 _ _ ?_
 have b0:gI [(g,2)] a1 Y 0 (X++[u0]):=Jj (ux.mono k1) (zq x1)
 have bl:(X++[u0]).length<=5:=by rw[Ia];exact LD ul
 refine aj λF6 f'=>jV b' (YD (Jt (Cf:=[(g,2)]) (kQ Z OF OG) (kL (kX Z OF OF) OF) OF) (Jt (Cf:=[(g,2)]) (kQ Z OF OG) (kL (kX Z OF OF) OF) OF)) λv0 a2 x0 c0 J=>f' _ _ ?_
 have o4:=b9.fw J
 refine aj λd8 L=>dB (λu c=>∃(b:V),u=[some (V.ref p),some (V.str f0),some (V.str g),some (V.ref W),some (vn),some (vi),some (vs),some (vx),some (vy),some (V.ref lb),w5,some b,none]/\Ow H c p W lb (X++[u0])/\PB [(g,2)] Y 0 4 c b/\Wd H c p W Y/\al a2 c) (λE2 _ T=>qL c0 Z OF OF (λc1 a0 a=>?_) (λc1 a0 a=>?_)) λσ1 a3 h1=>?_
 ·clear L
  have o1:=o4.fw a
  refine aj λd' c2=>jV a0 (qH (jM Z dJ (dJ _ _ _ a.t x0)) (J1 (JY (Cf:=[(g,2)]) (kQ Z OF OG) (kL (QD (kX Z OF OF) OF) OF) OF)) OF) λv1 c3 x4 c4 k4=>c2 _ _ ?_
  have c5:=o1.fw k4
  have m4:al U c3:=((((d.trans k1).trans J.t).trans a.t).trans k4.t)
  refine jV c4 (qH (jM Z dJ x4) (J1 (Jt (Cf:=[(g,2)]) (kQ Z OF OG) (z9 (n:=1) (qe yh) (jM Z ar (ar _ _ _ m4 xn)) (kL (Qw OF (by decide:(2:Int) < 3)) OF) OF OF) OF)) OF) λv2 c6 x5 c9 a4=>T _ _ ?_
  have c':=c5.fw a4
  have N:al a2 c6:=((a.t.trans k4.t).trans a4.t)
  exact#[_,Z,c',x5,c9,N]
 ·clear L
  have o1:=o4.fw a
  exact T _ _ #[_,Z,o1,(PB.more (dJ _ _ _ a.t x0) OF),a0,a.t]
 obtain⟨e0,rfl,o',x',d0,a'⟩:=h1
 refine L _ _ ?_
 clear L
 have j:al U a3:=(((d.trans k1).trans J.t).trans a')
 have O:al a1 a3:=(J.t.trans a')
 refine aj λe1 d1=>jV d0 (yY (z9 (n:=1) (qe QO) (jM Z ar (ar _ _ _ j xi)) (jM Z ar (ar _ _ _ j xn)) OF OF) (yX (n:=5) Z o' (b0.mono O) bl) OF OF) λv3 d2 d3 d4 k'=>d1 _ _ ?_
 have e2:=o'.fw k'
 have D:al U d2:=(j.trans k'.t)
 refine QE d4 (YE (K7 Z) (yV (kQ Z OF OG)) (qH (Ev.up (jM Z dJ (dJ _ _ _ k'.t x')) λ_ _=>PB.lift) (D2 (jM Z dS d3) (Ev.up (JZ (Cf:=[(g,2)]) (kL (Qw OF (by decide:(30:Int) < 31)) OF) (jM Z ar (ar _ _ _ D xs)) OF OF) λ_ _=>cn.lift) (Ev.up (Q4 (Cf:=[(g,2)]) (jM Z ar (ar _ _ _ D xs)) OF) λ_ _=>cn.lift)) OF) OF OG) λv c x W'=>?_
 obtain⟨r,rfl,x⟩:=x
 exact q r c x W'.B W'.K
theorem F8(b:0<=d)(c:d < 2)(h:cn C H y 0 u)(a:cn C H y 0 v):gI C H y 0 (aM [u,v] none (some (1+d)))/\(aM [u,v] none (some (1+d))).length<=2:=by
 rcases(by omega:d=0∨d=1) with rfl |rfl
 ·exact#[zq h,by show 1<=2;decide]
 ·exact#[jW h (zq a),by show 2<=2;decide]
def P2(C:hZ)(y:List Str)(H:Hp)(w:V):Prop:=∃a u v,w= .ref a/\H a=some (.tup [u,v])/\cn C H y 0 u/\cn C H y 0 v
theorem Ae:om (P2 C y):=λ_ _ _ m #[a,u,v,e,h,H,b]=>#[a,u,v,e,m _ _ h,H.mono m,b.mono m]
section
variable {Cf:hZ}{ys:List Str}{H0 Hb:Hp}{p wl:Addr}{σ:_L.St}
theorem AX(h:Ev H0 p wl ys Hb σ T (λH v=>cn Cf H ys 0 v))(c:Ev H0 p wl ys Hb σ d (λH v=>cn Cf H ys 0 v)):Ev H0 p wl ys Hb σ (bV (am T (am d aK))) (P2 Cf ys):=λH Q m W q=>
 h H _ m W λo e X f a=>c e _ (m.trans a) f λs u g i b=>#[bM,λr n=>kK (P:=P2 Cf ys) i (λV j x l k=>q V j x l ((a.trans b).trans k)) n λt z=>#[r,_,_,Z,z,(X.mono b.t).mono t,g.mono t]]
theorem AW(e:σ[i]?=some (some v))(E:σ[0]?=some (some (.ref p)))(h:P2 Cf ys Hb v):Ev H0 p wl ys Hb σ (Fy Cw (aW i) l9 (mY (dR (vC λi j=>V.int (i+j)) (tC (.int 1)) (vE 2)))) (PB Cf ys 0 2):=λH Q m W q=>
 #[v,e,kX E OF OF H _ m W λw y #[d,b,D,c] f k=>#[1,d,Z,b,_,Z,by
  obtain⟨a,u,A,rfl,g,l,n⟩:=Ae _ _ _ (m.trans k).t h
  have z:=F8 D c l n
  exact#[a,_,Z,g,λr o x s=>q _ o #[r,_,Z,x,z.1.mono (ae.tm s),z.2] (f.same s) (k.trans (.same s))]]]
end
theorem aP:ai z38z z17z (aa fj):=bp
noncomputable def KK:Scope:=#[.function,[(".0",.local),("_law_one",.local)],false,false,[]]
theorem XO:(["_law_one"]:List Str).Nodup:=by decide+kernel
theorem XQ:bG z38z (aa fj) KK ["_law_one"] 1 []:=rj
theorem Yv(F:aI K "_law_ticking" "_law_ticking" fj f fd)(C:Cl P w K mg base 1 fT b5 z0z aU "_law_take")(cO:Cl P w K mg base 2 fO b6 z15z mO "_law_op")(mi:mg "int"=none)(m1:mg "tuple"=none):af P w K mg base aA 3 f fd z17z (c8 1):=by
 refine F.ok aP ?_ λc0 A o2 s H vs Q E c h=>?_
 ·rintro _ _ _ _ ⟨p,W,f0,g,ys,rfl,_⟩
  rfl
 obtain⟨p,W,f0,g,ys,rfl,B,hw,h1,q⟩:=h
 refine#[_,(jd (zg (@zi _ _ _ _ _ _ _ (["_law_one"]) (1) ([]) _ _ _ _ Z (zE (jH kG (pv 3) jR (jF jf))) XQ (λ_ _ _ _ _=>(jv (i:=0) XO Z (Or.inl Z))) (λ_ _ _ _ _=>(@zK _)) (λ_ _ _ _ _=>(ji (ja jm (ja (pv 0) jb)))) (by intro _;rfl)) (@YO _ _ _ _ (5) _ Z (jA (jv (i:=4) aP.nd Z (Or.inl Z)) (jA (jv (i:=5) aP.nd Z (Or.inl Z)) (jA (jv (i:=6) aP.nd Z (Or.inl Z)) (jA (jv (i:=7) aP.nd Z (Or.inl Z)) (jA (jv (i:=8) aP.nd Z (Or.inl Z)) ki))))) OK OK)) (jd (jz 9 aP.nd (ji (ja jm (ja (jw jY jf (C.e c.m (ja (pv 0) (ja jf jb)))) jb)))) (jd (jz 10 aP.nd (jG (ja (ji (ja jm (ja (jr jq (pv 3) jf (λ_ _=>Z)) (ja (pv 9) jb)))) (ja (ji (ja jm (ja (jr jq (pv 3) jf (λ_ _=>Z)) (ja (jr jq (jG (ja (pv 5) (ja (ji (ja jm (ja (C.e c.m (ja (pv 0) (ja jf jb))) jb))) jb))) (C.e c.m (ja (pv 0) (ja jf jb))) (λ_ _=>Z)) jb)))) jb)))) (jd (jJ (j9 Ii Iy Ix jP (pv 10) (ja (ji (ja jm (ja (jr jq (pv 3) jf (λ_ _=>Z)) (ja (pv 2) (ja (ji (ja (jr jq (jG (ja (pv 7) (ja (ji (ja jm (ja jf jb))) jb))) (C.e c.m (ja (pv 0) (ja jf jb))) (λ_ _=>Z)) (ja (jr jq (jG (ja (pv 5) (ja (ji (ja jm (ja jf jb))) jb))) (C.e c.m (ja (pv 0) (ja jf jb))) (λ_ _=>Z)) jb))) jb))))) jb))) (jd (j8 (jx (za (C.e c.m (ja (pv 0) (ja jf jb)))) (jg (jJ (j9 Ii Iy Ix jP (pv 10) (ja (ji (ja jm (ja (ji (ja jm (ja jm (ja (pv 5) (ja (ji (ja jm (ja (C.e c.m (ja (pv 0) (ja jf jb))) jb))) jb))))) (ja (pv 8) jb)))) jb)))) jp)) (jd (jz 11 aP.nd (ji (ja jm (ja jf jb)))) (jd (jz 12 aP.nd (jG (ja (ji (ja jm (ja (jr jq (pv 3) jf (λ_ _=>Z)) (ja (pv 11) jb)))) (ja (ji (ja jm (ja (pv 11) (ja (cO.e c.m (ja (pv 0) (ja (pv 6) (ja (pv 8) jb)))) jb)))) jb)))) (jd (j8 (jx (za (C.e c.m (ja (pv 0) (ja jf jb)))) (jg (jz 12 aP.nd (jG (ja (ji (ja jm (ja (jr jq (pv 3) jf (λ_ _=>Z)) (ja (cO.e c.m (ja (pv 0) (ja (pv 6) (ja (pv 8) jb)))) jb)))) jb)))) jp)) (jd (jz 10 aP.nd (jw qf (jw qf (pv 10) (pv 12)) (jG (ja (ji (ja jm (ja (pv 9) (ja (ji (ja jm (ja jm (ja (pv 5) (ja (ji (ja jm (ja jf jb))) jb))))) jb)))) (ja (ji (ja jm (ja (jr jq (pv 3) jf (λ_ _=>Z)) (ja (ji (ja jm (ja jm (ja (pv 5) (ja (pv 4) jb))))) jb)))) jb))))) (jd (jz 13 aP.nd (ji (ja (ji (ja jm (ja (jr jq (pv 3) jf (λ_ _=>Z)) (ja (ji (ja jm (ja jf jb))) jb)))) (ja (ji (ja jm (ja (pv 9) (ja (ji (ja jm (ja (C.e c.m (ja (pv 0) (ja jf jb))) jb))) jb)))) jb)))) (jd (jz 14 aP.nd (ji (ja jm (ja (ji (ja jm (ja (jr jq (pv 3) jf (λ_ _=>Z)) jb))) (ja (jE jI Z m1 LM (ja (pv 10) jb)) jb))))) (jg (jo (ji (ja (pv 1) (ja (ji (ja (jr jq (pv 3) jf (λ_ _=>Z)) jb)) (ja (jw j7 (jH kc (pv 13) jR (jF (jw jY jf (C.e c.m (ja (pv 0) (ja jf jb)))))) (ji (ja (pv 14) (ja (ji (ja jm (ja (pv 6) jb))) jb)))) jb))))))))))))))))),?_]
 have W0:Wd H H p W ys:=#[B,aB.refl,hw]
 refine aj λF1 f1=>YZ W0 Z h1 λvn vi vs vx vy H1 xn xi xs xx xy W1=>f1 _ _ ?_
 refine aj λF2 f2=>jV W1 (kL (QD (kX Z OF OF) OF) OF) λv2 H2 x2 W2 k2=>f2 _ _ ?_
 refine aj λF3 f3=>Es W2 (JY (Cf:=[(g,2)]) (kQ Z OF OG) (jM Z ar x2) OF) (JY (Cf:=[(g,2)]) (kQ Z OF OG) (YC Z (jM Z ar (ar _ _ _ k2.t xi)) (kL (kX Z OF OF) OF)) OF) λlb u3 w3 H3 o3 x3 y3 W3 k3=>f3 _ _ ?_
 have a:al H1 H3:=(k2.t.trans k3.t)
 refine aj λF4 f4=>Jk W3 Z o3 (show 2<=100 by decide) (Z3 (Cf:=[(g,2)]) (kQ Z OF OG) (K7 Z) Iz (YC Z (jM Z ar (ar _ _ _ a xx)) (kL (Qw OF (by decide:(3:Int) < 4)) OF)) (YC Z (jM Z ar (ar _ _ _ a xi)) (kL (Qw OF (by decide:(2:Int) < 3)) OF)) OF OF) λu4 H4 x4 o4 W4 k4=>f4 _ _ ?_
 refine aj λF5 f5=>dB (λN d=>∃(us:List V),N=[some (V.ref p),some (V.str f0),some (V.str g),some (V.ref W),some (vn),some (vi),some (vs),some (vx),some (vy),some (v2),some (V.ref lb),none,none,none,none]/\Ow H d p W lb us/\gI [(g,2)] d ys 0 us/\us.length<=4/\Wd H d p W ys/\al H4 d) (λE5 _ f6=>qL W4 Z OF OF (λH7 W7 u=>?_) (λH7 W7 u=>?_)) λσ1 H6 h2=>?_
 ·clear f5
  have o7:=o4.fw u
  have D:al H1 H7:=((a.trans k4).trans u.t)
  refine Jk W7 Z o7 (show 3<=100 by decide) (JZ (Cf:=[(g,2)]) (z9 (n:=1) (qe zk) (jM Z ar (ar _ _ _ D xi)) (kL (kX Z OF OF) OF) OF OF) (jM Z ar (ar _ _ _ D xy)) OF OF) λu8 H8 x8 o8 W8 k8=>f6 _ _ ?_
  have G:al H4 H8:=(u.t.trans k8)
  have I:al H3 H8:=((k4.trans u.t).trans k8)
  exact#[_,Z,o8,(jW ((dS _ _ _ I x3)) (jW ((dS _ _ _ I y3)) (jW ((dS _ _ _ G x4)) (jW (x8) Kd)))),(show 4<=4 by decide),W8,G]
 ·clear f5
  have o7:=o4.fw u
  have J:al H3 H7:=(k4.trans u.t)
  exact f6 _ _ #[_,Z,o7,(jW ((dS _ _ _ J x3)) (jW ((dS _ _ _ J y3)) (jW ((dS _ _ _ u.t x4)) Kd))),(show 3<=4 by decide),W7,u.t]
 obtain⟨us,rfl,o6,ux,ul,W6,k6⟩:=h2
 refine f5 _ _ ?_
 clear f5
 refine aj λF9 f9=>jV W6 (kL (Qw OF (by decide:(30:Int) < 31)) OF) λv9 H9 x9 W9 k9=>f9 _ _ ?_
 have o9:=o6.fw k9
 have b:al H1 H9:=(((a.trans k4).trans k6).trans k9.t)
 refine aj λF0 f7=>Es W9 (JY (Cf:=[(g,2)]) (kQ Z OF OG) (jM Z ar x9) OF) (JZ (Cf:=[(g,2)]) (jM Z ar x9) (JX Z (jM Z ar (ar _ _ _ b xs)) (jM Z ar (ar _ _ _ b xy))) OF OF) λlm u0 w0 H0 z0 x0 y0 W5 j=>f7 _ _ ?_
 have o0:=o9.fw j
 refine aj λF6 y=>dB (λN d=>∃(m:Addr) (zs:List V),N=[some (V.ref p),some (V.str f0),some (V.str g),some (V.ref W),some (vn),some (vi),some (vs),some (vx),some (vy),some (v2),some (V.ref lb),some (v9),some (.ref m),none,none]/\Ow H d p W lb us/\Ow H d p W m zs/\gI [(g,2)] d ys 0 zs/\zs.length<=2/\Wd H d p W ys/\al H0 d) (λE1 _ L=>qL W5 Z OF OF (λH5 O k=>?_) (λH5 O k=>?_)) λσ0 R h0=>?_
 ·clear y
  have S:=o0.fw k
  have z1:=z0.fw k
  have l:al H1 H5:=((b.trans j.t).trans k.t)
  refine Er O (Jt (Cf:=[(g,2)]) (kQ Z OF OG) (JX Z (jM Z ar (ar _ _ _ l xs)) (jM Z ar (ar _ _ _ l xy))) OF) λlq u1 a0 z2 x1 a1 k1=>L _ _ ?_
  have o5:=S.fw k1
  have z:al H0 a0:=(k.t.trans k1.t)
  exact#[_,_,Z,o5,z2,zq x1,(show 1<=2 by decide),a1,z]
 ·clear y
  have S:=o0.fw k
  have z1:=z0.fw k
  exact L _ _ #[_,_,Z,S,z1,(jW ((dS _ _ _ k.t x0)) (jW ((dS _ _ _ k.t y0)) Kd)),(show 2<=2 by decide),O,k.t]
 obtain⟨lm,zs,rfl,o',z3,zx,zl,a2,T⟩:=h0
 refine y _ _ ?_
 clear y
 have o:al H2 R:=(((((k3.t.trans k4).trans k6).trans k9.t).trans j.t).trans T)
 have M:al H1 R:=((b.trans j.t).trans T)
 have U:al H6 R:=((k9.t.trans j.t).trans T)
 refine aj λF7 f'=>AN a2 Z Z o' z3 OG (ux.mono U) zx (JZ (Cf:=[(g,2)]) (jM Z ar (ar _ _ _ o x2)) (z9 (n:=1) (qe zk) (jM Z ar (ar _ _ _ M xi)) (kL (Qw OF (by decide:(1:Int) < 2)) OF) OF OF) OF OF) (Jt (Cf:=[(g,2)]) (kQ Z OF OG) (z9 (n:=1) (qe QO) (jM Z ar (ar _ _ _ M xi)) (jM Z ar (ar _ _ _ M xn)) OF OF) OF) λlc cs a3 a4 cx cl a' k5=>f' _ _ ?_
 have cm:cs.length<=8:=by omega
 have X:al H2 a3:=(o.trans k5.t)
 refine aj λb7 b0=>jV a' (AX (Jt (Cf:=[(g,2)]) (kQ Z OF OG) (kL (Qw OF (by decide:(1:Int) < 2)) OF) OF) (JZ (Cf:=[(g,2)]) (jM Z ar (ar _ _ _ X x2)) (kL (kX Z OF OF) OF) OF OF)) λv0 b9 x5 b1 Y=>b0 _ _ ?_
 have o1:=a4.fw Y
 refine aj λb' b2=>jV b1 (yY (JW (kQ Z OF OG)) (yX (n:=8) Z o1 (cx.mono Y.t) cm) OF OF) λv1 b3 x7 b4 k0=>b2 _ _ ?_
 have c1:=o1.fw k0
 have m0:al H1 b3:=(((M.trans k5.t).trans Y.t).trans k0.t)
 refine QE b4 (YE (K7 Z) (yV (kQ Z OF OG)) (qH (Ev.up (AW Z Z (Ae _ _ _ k0.t x5)) λ_ _=>PB.lift) (YD (jM Z dS x7) (Ev.up (Q4 (Cf:=[(g,2)]) (jM Z ar (ar _ _ _ m0 xs)) OF) λ_ _=>cn.lift)) OF) OF OG) λv d x W'=>?_
 obtain⟨r,rfl,x⟩:=x
 exact q r d x W'.B W'.K
theorem F'{y:List Str}{lo:Nat}(h:y.length=14)(H:lo<=8):(be y (some (lo:Int)) (some ((lo+6:Nat):Int))).length=6:=by
 unfold be
 rw[HT.sIx_nat,HT.sIx_nat,ID,Lw,h,LW (Ik H OF),LW (Nat.add_le_add_right H 6),Nat.add_sub_cancel_left]
 exact LW (Nat.le_sub_of_add_le (Ik (Nat.add_le_add_left H 6) OF))
theorem HC{k:Nat}(h:k < n):nQ n (k:Int)=some k:=by unfold nQ;rw[Io OG,Io OG,IW]
theorem pQ.more(h:pQ C n H r f)(k:∀y∈C,y∈D):pQ D n H r f:=let #[d,b,a,c]:=h;#[d,b,#[a.1,kI k a.2],c]
theorem Gb(r:pQ [(l,N),(m,j),(o,k)] N H a l)(s:pQ [(l,N),(m,j),(o,k)] j H b m)(t:pQ [(l,N),(m,j),(o,k)] k H c o)(p:N<=100/\j<=100/\k<=100):∃D,cj H D [.ref a,.ref b,.ref c]/\D.length=3/\((∀d∈D,nF d/\d.b.Cs [(l,N),(m,j),(o,k)])/\D.map Df.f=[l,m,o])/\mf H D [N,j,k]:=by
 obtain⟨d,u,v,O,y,z,E⟩:=r
 obtain⟨e,A,B,Q,C,F,G⟩:=s
 obtain⟨f,I,J,R,g3,L,M⟩:=t
 refine#[[d,e,f],#[_,_,Z,u,_,_,Z,A,_,_,Z,I,Z],Z,#[λx q=>?_,by rw[<- E,<- G,<- M];rfl],Z,λi x n h g=>?_]
 ·simp only[Md,IL,M5]at q
  rcases q with rfl |rfl |rfl
  ·exact v
  ·exact B
  ·exact J
 ·match i,h,g with
  |0,h,g=>cases h;cases g;exact#[_,y,z,p.1]
  |1,h,g=>cases h;cases g;exact#[_,C,F,p.2.1]
  |2,h,g=>cases h;cases g;exact#[_,g3,L,p.2.2]
inductive lK(b:List V)(H:Hp)(Q:VK)(a:XK):Prop
 |mk(p:Addr)(_:b=[.ref p])(_:aq H p)(_:∀(r:Addr) (ds:List Df) (xs:List V) (H':Hp),H' r=some (.tup xs)->cj H' ds xs->ds.length=3->∀ns,pW ds ns->mf H' ds ns->(∃r,ns=1::r)->aq H' p->aB p H H'->Q (.ref r) H')
def DI(L:List Str)(_:Hp)(v:V):Prop:=∃x,v= .str x/\x∈L
section
variable {ys:List Str}{H0 Hb:Hp}{p wl:Addr}{σ:_L.St}
theorem D5{K:Frag}(e:σ[0]?=some (some (.ref p)))(r:Ev H0 p wl ys Hb σ t (vM a))(s:Ev H0 p wl ys Hb σ T (vM b))(u:Ev H0 p wl ys Hb σ x (vM c)):Ev H0 p wl ys Hb σ (dR (iP K) (mX (am t (am T (am x aK)))) (vE 3)) (DI [a,b,c]):=λH Q m W q=>
 r H _ m W λy z (E:y= .str a) A k=>s z _ (m.trans k) A λC D (F:C= .str b) G f=>u D _ ((m.trans k).trans f) G λI R (J:I= .str c) h j=>#[gE,λl n=>kX e OF OF _ _ ((((m.trans k).trans f).trans j).trans (.new n)) (h.same (je n)) λv L #[d,M,S,U] N o=>by
  obtain⟨g,i,O⟩:∃g,dD [V.str a,.str b,.str c] d=some (.str g)/\g∈[a,b,c]:=by
   rcases(by omega:d=0∨d=1∨d=2) with rfl |rfl |rfl
   ·exact#[a,Z,OH]
   ·exact#[b,Z,OH]
   ·exact#[c,Z,OH]
  rw[<- E,<- F,<- J]at i
  exact#[l,_,d,_,Z,M,aG.of (o.b _ _ (h.B.ne n) jc),i,q _ L #[g,Z,O] N (((k.trans f).trans j).trans ((Fw.new n).trans o))]]
theorem Z4{K:Frag}{lo:Nat}(e:σ[0]?=some (some (.ref p)))(E:σ[1]?=some (some (.ref wl)))(d:Ev H0 p wl ys Hb σ t (vM f))(l:Ev H0 p wl ys Hb σ T (DI L))(h:ys.length=14)(o:lo<=8)(s:i=(lo:Int))(u:j=((lo+6:Nat):Int)):
  Ev H0 p wl ys Hb σ (dQ (c8 n) [] E0 (am (aW 0) (am t (am T (am (Fy (xN K) (aW 1) (mY (tC (.int i))) (mY (tC (.int j)))) aK))))) (PD (L.map λy=>(y,2)) n f):=λH Q m W q=>
 #[_,e,d H _ m W λv x (z:v= .str f) A k=>l x _ (m.trans k) A λV M #[g,D,c] b F=>#[_,E,_,Z,_,Z,wl,_,Z,aG.of b.w,λr N=>#[p,r,f,g,be ys (some i) (some j),by rw[z,D];rfl,b.B.upd_new N,by rw[jc,zz],by rw[s,u];exact F' h o,λa G X I C=>
  q _ G #[a,Z,X.more λy J=>by rw[List.mem_singleton.mp J];exact List.mem_map.mpr #[g,c,Z]] ((b.same (je N)).but I C) ((k.trans F).trans ((Fw.new N).trans (.but (b.B.upd_new N) C)))]]]
theorem qM{K:Frag}{k:Nat}(e:σ[j]?=some (some (.ref wl)))(a:i=(k:Int))(h:ys[k]?=some y):Ev H0 p wl ys Hb σ (dR (iP K) (aW j) (tC (.int i))) (vM y):=λH Q m W q=>
 #[_,e,wl,_,_,_,Z,Z,aG.of W.w,(by rw[a];exact jK (by rw[Ir,h];rfl)),q _ H Z W .refl]
theorem D3{n1 n2 n3:Nat}(s:n1<=100/\n2<=100/\n3<=100)(u:Ev H0 p wl ys Hb σ T (PD [(e,n1),(h,n2),(i,n3)] n1 e))(y:Ev H0 p wl ys Hb σ z (PD [(e,n1),(h,n2),(i,n3)] n2 h))(A:Ev H0 p wl ys Hb σ B (PD [(e,n1),(h,n2),(i,n3)] n3 i)):Ev H0 p wl ys Hb σ (bV (am T (am z (am B aK)))) (λH v=>∃r D x,v= .ref r/\H r=some (.tup x)/\cj H D x/\D.length=3/\((∀d∈D,nF d/\d.b.Cs [(e,n1),(h,n2),(i,n3)])/\D.map Df.f=[e,h,i])/\mf H D [n1,n2,n3]):=λH Q m W q=>
 u H _ m W λV C X E k=>y C _ (m.trans k) E λF G I J j=>A G _ ((m.trans k).trans j) J λL H4 M N l=>#[gE,λr n=>q _ _ (by
  have t:=ae.tm (je (o:=HO.tup [V,F,L]) n)
  obtain⟨a,O,R⟩:=i9 _ _ _ t (i9 _ _ _ (j.trans l).t X)
  obtain⟨b,S,U⟩:=i9 _ _ _ t (i9 _ _ _ l.t I)
  obtain⟨c,Y,h3⟩:=i9 _ _ _ t M
  obtain⟨D,g⟩:=Gb R U h3 s
  exact#[r,D,_,Z,by rw[jc,O,S,Y],g]) (N.same (je n)) (((k.trans j).trans l).trans (.new n))]
end
theorem eS:ai ["_law_box_here","_law_w","_law_body_here","_law_deeper","_law_further","_law_first"] z2z (aa tI):=bp
theorem wM(F:aI K "_law_busy" "_law_busy" tI f fd)(T:Cl P w K mg base 1 fT f0 z0z aU "_law_take")(cO:Cl P w K mg base 2 fO f1 z15z mO "_law_op")(cA:Cl P w K mg base 2 fA f7 z24z f8 "_law_names")(cL:Cl P w K mg base 3 fL f9 z17z (c8 1) "_law_looped")(cK:Cl P w K mg base 3 fK f' z17z (c8 1) "_law_ticking")(cI:Cl P w K mg base 3 fI a0 z33z (c8 2) "_law_inner"):af P w K mg base aA 4 f fd z2z lK:=by
 refine F.ok eS ?_ λc0 A U s H vs Q E i h=>?_
 ·rintro _ _ _ _ ⟨p,rfl,_⟩
  rfl
 obtain⟨p,rfl,B,q⟩:=h
 refine#[_,(jd (jz 1 eS.nd (cA.e i.m (ja (pv 0) (ja jf jb)))) (jd (j8 (jx (za (T.e i.m (ja (pv 0) (ja jf jb)))) (jg (zg (jr jq (pv 1) jf (λ_ _=>Z)) (qF (pv 1) jf zu))) jp)) (jd (jz 2 eS.nd (ji (ja (ji (ja jm (ja (jr jq (pv 1) jf (λ_ _=>Z)) (ja (ji (ja jm (ja (jr jq (pv 1) jf (λ_ _=>Z)) jb))) jb)))) (ja (ji (ja jm (ja (cO.e i.m (ja (pv 0) (ja (ji (ja jm (ja (jr jq (pv 1) jf (λ_ _=>Z)) jb))) (ja (ji (ja jm (ja (jr jq (pv 1) jf (λ_ _=>Z)) jb))) jb)))) jb))) jb)))) (jd (jz 3 eS.nd (ji (ja (jr jq (pv 1) jf (λ_ _=>Z)) (ja (ji (ja (jr jq (pv 1) jf (λ_ _=>Z)) (ja (jr jq (pv 1) jf (λ_ _=>Z)) jb))) (ja (pv 2) jb))))) (jd (jz 4 eS.nd (jr jq (jG (ja (jr jq (pv 1) jf (λ_ _=>Z)) (ja (jr jq (pv 1) jf (λ_ _=>Z)) (ja (jr jq (pv 1) jf (λ_ _=>Z)) jb)))) (T.e i.m (ja (pv 0) (ja jf jb))) (λ_ _=>Z))) (jd (jz 5 eS.nd (cL.e i.m (ja (pv 0) (ja (jr jq (pv 1) jf (λ_ _=>Z)) (ja (jr jq (pv 1) jf (λ_ _=>Z)) (ja (jH kG (pv 1) (jF jf) (jF jf)) jb)))))) (jd (j8 (jx (za (T.e i.m (ja (pv 0) (ja jf jb)))) (jg (jz 5 eS.nd (cK.e i.m (ja (pv 0) (ja (jr jq (pv 1) jf (λ_ _=>Z)) (ja (jr jq (pv 1) jf (λ_ _=>Z)) (ja (jH kG (pv 1) (jF jf) (jF jf)) jb))))))) jp)) (jg (jo (ji (ja (pv 5) (ja (cI.e i.m (ja (pv 0) (ja (jr jq (pv 1) jf (λ_ _=>Z)) (ja (pv 4) (ja (jH kG (pv 1) (jF jf) (jF jf)) jb))))) (ja (pv 3) jb))))))))))))),?_]
 refine aj λFa o=>#[_,Z,p,14,Z,B,OF,OF,λj ys Ha X u c d Ba ka=>o _ _ ?_]
 clear o
 have wp:j≠p:=qg Ba u
 refine aj λFa o=>dB (λn g=>∃Y:List Str,n=[some (V.ref p),some (V.ref j),none,none,none,none]/\g j=some (.lst (Y.map V.str))/\(Y.length=14/\(Y.take 3).Nodup/\∀y∈Y.take 3,y.length<=20)/\aq g p/\aB p H g) (λE0 _ fm=>qL (W:=#[Ba,ka,u]) Z OF OF (λHb l kb=>?_) (λHb l kb=>fm _ _ #[_,Z,l.w,#[OG,d.2.sublist (LZ _ _),λy hy=>d.1 y (Lc hy)],l.B,l.K])) λσ1 H0 h3=>?_
 ·clear o
  obtain⟨v1,h6,z⟩:=J9 (ys:=ys) (k:=1) OF OG
  refine#[_,Z,j,_,_,_,Z,Z,aG.of l.w,z,_,Z,j,_,8,8,Z,Z,l.w,HC (k:=8) (by rw[HZ];omega),fm _ _ #[ys.set 8 v1,Z,?_,#[by rw[Nw];omega,by rw[List.take_set_of_le OF];exact#[d.2.sublist (LZ _ _),λy hy=>d.1 y (Lc hy)]],l.B.eq (jh (IM wp)),l.K.upd_own X]]
  rw[jc,List.map_set]
 obtain⟨ys,rfl,h4,⟨c,C,D⟩,B1,k1⟩:=h3
 obtain⟨y0,h0⟩:∃y,ys[0]?=some y:=#[_,HW (by omega:0 < ys.length)]
 obtain⟨G,I⟩:∃y,ys[1]?=some y:=#[_,HW (by omega:1 < ys.length)]
 obtain⟨y2,N⟩:∃y,ys[2]?=some y:=#[_,HW (by omega:2 < ys.length)]
 have e3:ys.take 3=[y0,G,y2]:=by rw[Mq,Mq,Mq,h0,I,N];rfl
 rw[e3]at C D
 refine o _ _ ?_
 clear o
 have W1:Wd H H0 p j ys:=#[B1,k1,h4]
 generalize H0=H1 at W1
 refine aj λF2 f2=>jV W1 (YD (JY (Cf:=[]) (kQ Z OF OG) (JW (kQ Z OF OG)) OF) (Q4 (Cf:=[]) (JX Z (JW (kQ Z OF OG)) (JW (kQ Z OF OG))) OF)) λv2 H2 x2 W2 k2=>f2 _ _ ?_
 refine aj λF3 f3=>jV W2 (YE (Cf:=[]) (qM (k:=2) Z Z N) (yW (kQ Z OF OG) (kQ Z OF OG)) (Ev.up (jM Z dJ x2) λ_ _=>PB.lift) OF OG) λv3 H3 x3 W3 k3=>f3 _ _ ?_
 refine aj λF4 f4=>jV W3 (D5 Z (qM (k:=1) Z Z I) (qM (k:=2) Z Z N) (qM (k:=2) Z Z N)) λv4 H4 x4 W4 k4=>f4 _ _ ?_
 refine aj λF5 f5=>jV W4 (Z4 (lo:=6) Z Z (qM (k:=0) Z Z h0) (Ev.up (R:=DI [G]) (qM (k:=1) Z Z I) λ_ _ e=>#[_,e,Iz]) c OF Z Z) λv5 H5 x5 W5 k5=>f5 _ _ ?_
 refine aj λF6 O=>dB (λn g=>∃(b:V),n=[some (V.ref p),some (V.ref j),some (v2),some (v3),some (v4),some b]/\PD [(G,2)] 1 y0 g b/\Wd H g p j ys/\al H5 g) (λE6 _ J=>qL W5 Z OF OF (λH8 W8 S=>?_) (λH8 W8 S=>?_)) λσ2 H7 h5=>?_
 ·clear O
  refine jV W8 (Z4 (lo:=6) Z Z (qM (k:=0) Z Z h0) (Ev.up (R:=DI [G]) (qM (k:=1) Z Z I) λ_ _ e=>#[_,e,Iz]) c OF Z Z) λv9 H9 x9 W9 k9=>J _ _ ?_
  have M:al H5 H9:=(S.t.trans k9.t)
  exact#[_,Z,x9,W9,M]
 ·clear O
  exact J _ _ #[_,Z,(i9 _ _ _ S.t x5),W8,S.t]
 obtain⟨b7,rfl,x7,W7,k7⟩:=h5
 refine O _ _ ?_
 clear O
 have L:al H3 H7:=((k4.t.trans k5.t).trans k7)
 refine QE W7 (D3 (n1:=1) (n2:=2) (n3:=2) #[OF,OF,OF] (Ev.up (jM Z i9 x7) (λ_ _ #[a,e,h]=>#[a,e,h.more OH])) (Ev.up (Z4 (lo:=7) Z Z (qM (k:=1) Z Z I) (jM (P:=DI [G,y2,y2]) Z (λ_ _ _ _ h=>h) x4) c OF Z Z) (λ_ _ #[a,e,h]=>#[a,e,h.more OH])) (Ev.up (jM Z i9 (i9 _ _ _ L x3)) (λ_ _ #[a,e,h]=>#[a,e,h.more OH]))) λv g x W'=>?_
 obtain⟨r,ds,xs,rfl,g0,g1,g2,g3,g4⟩:=x
 exact q r ds xs g g0 g1 g2 [1,2,2] #[by rw[g3.2];exact g3.1,by rw[g3.2];exact#[C,D]] g4 #[_,Z] W'.B W'.K
noncomputable abbrev oF:Stmt:=bu 72
theorem C8(h:0<=d)(H:d < 4):∃m:Int,dD [V.int 3,.int 3,.int 3,.int 8] d=some (.int m)/\3<=m/\m<=8:=by
 rcases(by omega:d=0∨d=1∨d=2∨d=3) with rfl |rfl |rfl |rfl
 ·exact#[3,Z,OF,OF]
 ·exact#[3,Z,OF,OF]
 ·exact#[3,Z,OF,OF]
 ·exact#[8,Z,OF,OF]
theorem AT(h:cj H D v)(f:0<=k)(g:k < (v.length:Int)):∃d,dD v k=some (.ref d.p)/\d∈D/\yH H d (.ref d.p):=by
 have a:k.toNat < v.length:=by omega
 have E:k=((k.toNat:Nat):Int):=by omega
 obtain⟨d,c,b⟩:=h.at k.toNat _ (HW a)
 have e:v[k.toNat]= .ref d.p:=b.elim λ_ z=>z.1
 refine#[d,?_,IA c,by rw[<- e];exact b]
 rw[E]
 exact jK (by rw[<- e];exact HW a)
def Dv(H:Hp)(D:List Df)(v a:V):Prop:=∃(d:Df) (p:List Str) (t:Addr) (I:List Int),d∈D/\v= .str d.f/\H d.pa=some (.tup (p.map V.str))/\a= .ref t/\H t=some (.tup (I.map V.int))/\I.length=p.length/\I.length<=100/\∀i∈I,0<=i/\i < 1000000000000000000
inductive lM(b:List V)(H:Hp)(Q:VK)(a:XK):Prop
 |mk(p:Addr)(_:b=[.ref p])(_:aq H p)(_:∀(t r:Addr) (v2 v3:V) (ds:List Df) (xs:List V) (H':Hp),H' t=some (.tup [.ref r,v2,v3])->H' r=some (.tup xs)->cj H' ds xs->1<=ds.length->ds.length<=8->∀ns,pW ds ns->mf H' ds ns->Dv H' ds v2 v3->aq H' p->aB p H H'->Q (.ref t) H')
theorem eU:ai z39z z2z (aa oF):=bp
noncomputable def XS:Scope:=#[.function,[(".0",.local),("_law_one",.local),("_law_number",.globalImplicit),("_law_box_here",.free)],false,false,[]]
theorem sr:(["_law_one","_law_box_here"]:List Str).Nodup:=by decide+kernel
theorem rh:bG z39z (aa oF) XS ["_law_one","_law_box_here"] 1 [0]:=rj
theorem wN(F:aI K "_law_case" "_law_case" oF f fd)(M:Cl P w K mg base 1 fT f0 z0z aU "_law_take")(cN:Cl P w K mg base 2 fN f3 z2z gM "_law_number")(cY:Cl P w K mg base 4 fY f4 z2z lK "_law_busy")(cZ:Cl P w K mg base 22 fZ f5 z32z oU "_law_any")(ml:mg "len"=none)(m0:mg "tuple"=none):af P w K mg base aA 23 f fd z2z lM:=by
 refine F.ok eU ?_ λc0 A o0 s H vs Q E y h=>?_
 ·rintro _ _ _ _ ⟨p,rfl,_⟩
  rfl
 obtain⟨p,rfl,B,q⟩:=h
 refine#[_,(jd (jx (jC Js (M.e y.m (ja (pv 0) (ja jf jb))) jf (aH _)) (jd (jz 1 eU.nd (cY.e y.m (ja (pv 0) jb))) (jg (jo (ji (ja (pv 1) (ja (jy (jr jN (pv 1) jf (λ_ _=>Z))) (ja (ji (ja (M.e y.m (ja (pv 0) (ja jf jb))) jb)) jb))))))) jp) (jd (jz 2 eU.nd (jr jq (jG (ja jf (ja jf (ja jf (ja jf jb))))) (M.e y.m (ja (pv 0) (ja jf jb))) (λ_ _=>Z))) (jd (jz 1 eU.nd (cZ.e y.m (ja (pv 0) (ja (jw jY jf (M.e y.m (ja (pv 0) (ja (pv 2) jb)))) (ja jf jb))))) (jd (zg (jr jN (pv 1) (M.e y.m (ja (pv 0) (ja (jS jL Z ml Ld (ja (pv 1) jb)) jb))) (λ_ _=>Z)) (zn (n:=3) Z (jA (jv (i:=3) eU.nd Z (Or.inl Z)) (jA (jv (i:=4) eU.nd Z (Or.inl Z)) (jA (jv (i:=5) eU.nd Z (Or.inl Z)) ki))))) (jg (jo (ji (ja (pv 1) (ja (pv 3) (ja (jE jI Z m0 LM (ja (@zi _ _ _ _ _ _ _ (["_law_one","_law_box_here"]) (1) ([0]) _ _ _ _ Z (zJ (pv 4)) rh (λ_ _ _ _ _=>(jv (i:=0) sr Z (Or.inl Z))) (λ_ _ _ _ _=>(@zK _)) (λ_ _ _ _ _=>(cN.e y.m (ja (pv 1) jb))) (by intro _;rfl)) jb)) jb)))))))))),?_]
 have b0:=aF
 refine aj λF1 a=>oq λG1 g1=>#[_,Z,p,3,Z,B,OF,OF,λd1 H1 a0 a1 B1 e1=>#[_,_,Z,Z,_,Z,g1 _ _ ?_]]
 clear g1
 have k1:aB p H H1:=aB.of_eq e1
 refine bN (λc=>?_) (λc=>a _ _ ?_)
 ·clear a
  refine aj λF2 f2=>#[_,Z,p,Z,B1,λr ds xs H2 N C hl ns D b O B2 k2=>f2 _ _ ?_]
  clear f2
  have ln:=C.len
  obtain⟨nr,rfl⟩:=O
  cases ds with
  |nil=>cases hl
  |cons d r0=>
  obtain⟨p0,R,S,_⟩:=b.2 0 d 1 Z Z
  have h0:=C
  obtain⟨u0,rr,rfl,⟨bs,rfl,hp,_⟩,_⟩:=h0
  have g:dD (V.ref d.p::rr) 0=some (.ref d.p):=eZ
  refine#[_,Z,ju N g #[d.p,_,_,_,Z,Z,ay.of hp,eZ,_,Z,p,6,Z,B2,OF,OF,λd3 H3 d0 d4 B3 e3=>?_]]
  have c3:aB p H2 H3:=aB.of_eq e3
  refine#[lY,λu nu=>#[gE,λt U=>?_]]
  have s4:ae H3 (ah (ah H3 u (.tup [.int d3])) t (.tup [.ref r,.str d.f,.ref u])):=(je nu).trans (je U)
  have T:=(c3.tm B2).trans (ae.tm s4)
  exact q t r _ _ _ _ _ jc (T _ _ N) (C.mono T) OG OG _ D (b.mono T) #[d,p0,u,[d3],Iz,Z,T _ _ R,Z,ao jc U,by rw[S];rfl,(by show 1<=100;decide),λi hi=>by rw[List.mem_singleton.mp hi];omega] (B3.same s4) ((k1.trans k2).trans (c3.trans (aB.of_same s4)))
 clear a
 refine aj λF1 a=>#[pU,λl W=>#[_,Z,p,4,Z,B1.upd_new W,OF,OF,λd2 H2 d6 d7 B2 e2=>?_]]
 have k2:aB p H1 H2:=((aB.refl).upd_new W).trans (aB.of_eq e2)
 obtain⟨m,g,m3,m8⟩:=C8 d6 d7
 refine#[l,_,_,_,Z,Z,aG.of (by rw[e2 l (B1.ne W)];exact jc),g,a _ _ ?_]
 clear a
 refine aj λF1 a=>#[_,Z,_,Z,_,Z,p,m,Z,B2,OG,OG,λd3 H3 d0 d4 B3 e3=>#[_,_,Z,Z,p,1+d3,12,Z,B3,OG,OG,OF,OF,λr ds xs H4 G C hl ns D b B4 k4=>a _ _ ?_]]
 clear a
 have ln:=C.len
 have K4:aB p H H4:=(k1.trans k2).trans ((aB.of_eq e3).trans k4)
 refine aj λF1 a=>#[_,Z,_,Z,_,Z,r,_,Z,.inr (ay.of G),p,_,Z,B4,OG,OG,λd5 H5 d8 d' B5 e5=>?_]
 have c5:aB p H4 H5:=aB.of_eq e5
 have o:=c5.tm B4
 obtain⟨d,g,hd,bs,e,hp,_⟩:=AT (C.mono o) d8 d'
 refine#[r,_,_,_,Z,Z,ay.of (o _ _ G),g,d.p,_,Z,ay.of hp,Z,_,_,Z,_,_,Z,_,_,Z,Z,a _ _ ?_]
 clear a
 obtain⟨pv,X,h4⟩:=b.v d hd
 have z:=o _ _ X
 refine#[_,Z,_,Z,_,Z,d.pa,Z,#[_,ay.of z],?_]
 refine qv (K:=K) (xs:=pv.map V.str) (by rw[HZ];omega) (λi L J=>(∃I:List Int,L=I.map V.int/\I.length=i/\∀j∈I,0<=j/\j < 1000000000000000000)/\aq J p/\aB p H5 J) #[#[[],Z,Z,(λ_ h=>nomatch h)],B5,aB.refl] (λi L J k=>?_) (λi x L J hx k=>?_) (λL J k l W=>?_)
 ·exact#[ay.of (k.2.2.tm B5 _ _ z),let #[I,e,l,_]:=k.1;by rw[e,HZ,l];exact Ib _]
 ·exact#[_,Z,p,Z,k.2.1,λe H7 e0 e1 B7 e7=>#[let #[I,h1,l,h2]:=k.1;#[I++[e],by rw[h1,IJ];rfl,by rw[Ia,l];rfl,qZ h2 #[e0,e1]],B7,k.2.2.trans (aB.of_eq e7)]]
 ·refine#[l,_,Z,.inl #[aG.of jc,λl2 n0=>#[gE,λt U=>?_]]]
  have s7:ae J (ah (ah (ah J l (.lst L)) l2 (.tup L)) t (.tup [.ref r,.str d.f,.ref l2])):=((je W).trans (je n0)).trans (je U)
  have T:=o.trans ((k.2.2.tm B5).trans (ae.tm s7))
  obtain⟨I,hz,Y,h3⟩:=k.1
  rw[HZ]at Y
  exact q t r _ _ ds xs _ jc (T _ _ G) (C.mono T) OG OG ns D (b.mono T) #[d,pv,l2,I,hd,Z,T _ _ X,Z,by rw[<- hz];exact ao jc U,Y,OG,h3] (k.2.1.same s7) (K4.trans (c5.trans (k.2.2.trans (aB.of_same s7))))
noncomputable abbrev lv:Stmt:=bu 12
noncomputable abbrev lI:Stmt:=bu 13
abbrev a8:=List (bE×V)
def gp(x:Int):Prop:=0<=x/\x < 1000000000000000000
def GT(k:a8):Prop:=∀p∈k,∃i,p.2= .int i/\gp i
theorem GT.nil:GT []:=λ_ h=>absurd h IL
theorem GT.put(h:GT a)(k:bE)(H:gp i):GT (a5 a k (.int i)):=by
 intro p hp
 unfold a5 at hp
 split at hp
 ·obtain⟨q,b,rfl⟩:=List.mem_map.mp hp
  by_cases e:q.1=k
  ·rw[Io e];exact#[i,Z,H]
  ·rw[Iu e];exact h q b
 ·rcases List.mem_append.mp hp with hp |hp
  ·exact h p hp
  ·rw[List.mem_singleton.mp hp];exact#[i,Z,H]
theorem GT.val(h:GT a)(e:bX a k=some v):∃i,v= .int i/\gp i:=by
 unfold bX at e
 obtain⟨p,H,rfl⟩:=Option.map_eq_some_iff.mp e
 exact h p (List.mem_of_find?_eq_some H)
noncomputable def look(a:a8)(k:bE)(z:Int):Int:=match bX a k with
 |some (.int i)=>i
 |_=>z
theorem Kj(h:GT a)(k:bE)(z:Int):(bX a k).getD (.int z)= .int (look a k z):=by
 unfold look
 cases e:bX a k with
 |none=>rfl
 |some v=>obtain⟨i,rfl,_⟩:=h.val e;rfl
theorem ZO(h:GT a)(e:bX a k=some v)(z:Int):v= .int (look a k z):=by
 unfold look
 obtain⟨i,rfl,_⟩:=h.val e
 rw[e]
theorem ZP(e:bX a k=none)(z:Int):look a k z=z:=by
 unfold look
 rw[e]
theorem JN(h:GT a)(H:gp z):gp (look a k z):=by
 unfold look
 cases e:bX a k with
 |none=>exact H
 |some v=>obtain⟨i,rfl,b⟩:=h.val e;exact b
theorem JO:gp 0:=#[OF,OF]
noncomputable def jn(i:Nat)(x y:Int):Int:=match i with
 |0=>(x+y) % 1000000000000000000
 |1=>(x - y) % 1000000000000000000
 |2=>x*y % 1000000000000000000
 |3=>if y=0 then 0 else x / y
 |4=>if x < y then 1 else 0
 |_=>if x=y then 1 else 0
noncomputable def Tm.ev(k:a8):Tm->Int
 | .num n=>n
 | .var x=>look k (.inr x) 0
 | .op i a b=>jn i (a.ev k) (b.ev k)
theorem Ea(H:gp x)(c:gp y):gp (jn i x y):=by
 have a:(1000000000000000000:Int)≠0:=by decide
 have b:(0:Int) < 1000000000000000000:=by decide
 match i with
 |0=>exact#[Le _ a,IX _ b]
 |1=>exact#[Le _ a,IX _ b]
 |2=>exact#[Le _ a,IX _ b]
 |3=>
  show gp (if y=0 then 0 else x / y)
  by_cases h:y=0
  ·rw[Io h];exact#[OF,OF]
  ·rw[Iu h]
   have e:=c.1
   have d:0 < y:=by omega
   refine#[Int.ediv_nonneg H.1 OG,Int.lt_of_le_of_lt ?_ H.2]
   exact Int.ediv_le_self _ H.1
 |4=>
  show gp (if x < y then 1 else 0)
  split<;>exact#[OF,OF]
 |n+5=>
  show gp (if x=y then 1 else 0)
  split<;>exact#[OF,OF]
theorem Ju(g:GT k):∀{t:Tm},t.Good y->gp (t.ev k)
 | .num _,h=>h
 | .var x,_=>JN g JO
 | .op _ _ _,h=>Ea (Ju g h.2.1) (Ju g h.2.2)
inductive iE(b:List V)(H:Hp)(Q:VK)(a:XK):Prop
 |mk(i:Nat)(x y:Int)(_:b=[.str (Gv i),.int x,.int y])(_:i < 6)(_:gp x)(_:gp y)(_:Q (.int (jn i x y)) H)
def Hj(K:Frag)(H:Hp)(T:Tm)(a:Addr):Prop:=ba H T a∨(T= .num 0/\ay K H a [.str "num",.int 0])
inductive cg(K:Frag)(n:Nat)(e:List V)(H:Hp)(Q:VK)(b:XK):Prop
 |mk(a d:Addr)(T:Tm)(f:List Str)(c:a8)(_:e=[.ref a,.ref d])(_:Hj K H T a)(_:T.depth < n)(_:T.Good f)(_:H d=some (.dK c))(_:GT c)(_:Q (.int (T.ev c)) H)
theorem uk:ai z21z z21z (aa lv):=bp
theorem ZQ(F:aI K "joined" "joined" lv f b)(m:mg "TOP"=some (.int 1000000000000000000 t)):af P w K mg base aA 1 f b z21z iE:=by
 refine F.ok uk (λd H Q E h=>?_) (λe A o s H d Q E r h=>?_)
 ·obtain⟨i,x,y,rfl,_⟩:=h
  rfl
 obtain⟨i,x,y,rfl,u,g,j,q⟩:=h
 refine#[_,(jd (jx (kh (pv 0)) (jg (jo (jw zb (jw jY (pv 1) (pv 2)) (qN (v:=.int 1000000000000000000) Z m #[_,Z])))) jp) (jd (jx (kh (pv 0)) (jg (jo (jw zb (jw kU (pv 1) (pv 2)) (qN (v:=.int 1000000000000000000) Z m #[_,Z])))) jp) (jd (jx (kh (pv 0)) (jg (jo (jw zb (jw zo (pv 1) (pv 2)) (qN (v:=.int 1000000000000000000) Z m #[_,Z])))) jp) (jd (jx (kh (pv 0)) (jg (jo (kM (za (pv 2)) jf (jw Kh (pv 1) (pv 2))))) jp) (jd (jx (kh (pv 0)) (jg (jo (kM (jC K2 (pv 1) (pv 2) (aH _)) jf jf))) jp) (jg (jo (kM (jC qw (pv 1) (pv 2) (aH _)) jf jf)))))))),?_]
 obtain⟨k,l⟩:=g
 obtain⟨n,p⟩:=j
 rcases(by omega:i=0∨i=1∨i=2∨i=3∨i=4∨i=5) with rfl |rfl |rfl |rfl |rfl |rfl
 ·refine#[_,Z,Z,_,Z,cy OJ ?_]
  exact#[_,Z,_,Z,_,_,Z,Z,_,_,Z,Z,(by show(0:Int) < 1000000000000000000;decide),q]
 ·refine#[_,Z,Z,_,Z,aV OJ ?_]
  refine#[_,Z,Z,_,Z,cy OJ ?_]
  exact#[_,Z,_,Z,_,_,Z,Z,_,_,Z,Z,(by show(0:Int) < 1000000000000000000;decide),q]
 ·refine#[_,Z,Z,_,Z,aV OJ ?_]
  refine#[_,Z,Z,_,Z,aV OJ ?_]
  refine#[_,Z,Z,_,Z,cy OJ ?_]
  exact#[_,Z,_,Z,_,_,Z,Z,.inl #[OG,OG],_,_,Z,Z,(by show(0:Int) < 1000000000000000000;decide),q]
 ·refine#[_,Z,Z,_,Z,aV OJ ?_]
  refine#[_,Z,Z,_,Z,aV OJ ?_]
  refine#[_,Z,Z,_,Z,aV OJ ?_]
  refine#[_,Z,Z,_,Z,cy OJ ?_]
  have a:Q (.int (if y=0 then 0 else x / y)) H:=q
  refine#[_,Z,Z,_,Z,?_]
  refine bN (λc=>?_) (λc=>?_)
  ·have C:V.int y=V.int 0:=La c
   injection C with C
   rw[Io C]at a
   exact a
  ·have C:y≠0:=λz=>c (by rw[z];rfl)
   rw[Iu C]at a
   exact#[_,Z,_,Z,_,_,Z,Z,#[OG,OG],a]
 ·refine#[_,Z,Z,_,Z,aV OJ ?_]
  refine#[_,Z,Z,_,Z,aV OJ ?_]
  refine#[_,Z,Z,_,Z,aV OJ ?_]
  refine#[_,Z,Z,_,Z,aV OJ ?_]
  refine#[_,Z,Z,_,Z,cy OJ ?_]
  have a:Q (.int (if x < y then 1 else 0)) H:=q
  refine#[_,Z,_,Z,_,_,Z,Z,_,Z,?_]
  refine bN (λc=>?_) (λc=>?_)
  ·rw[Io (La c)]at a
   exact a
  ·rw[Iu (ME (Bool.eq_false_iff.mpr c))]at a
   exact a
 ·refine#[_,Z,Z,_,Z,aV OJ ?_]
  refine#[_,Z,Z,_,Z,aV OJ ?_]
  refine#[_,Z,Z,_,Z,aV OJ ?_]
  refine#[_,Z,Z,_,Z,aV OJ ?_]
  refine#[_,Z,Z,_,Z,aV OJ ?_]
  have a:Q (.int (if x=y then 1 else 0)) H:=q
  refine#[_,Z,_,Z,Z,_,Z,?_]
  refine bN (λc=>?_) (λc=>?_)
  ·have C:V.int x=V.int y:=La c
   injection C with C
   rw[Io C]at a
   exact a
  ·have C:x≠y:=λz=>c (by rw[z];exact IB Z)
   rw[Iu C]at a
   exact a
theorem ye:ai z9z z9z (aa lI):=bp
theorem sR(F:aI K "worth" "worth" lI f p)(C:Cl P w K mg base (n+1) f p z9z (cg K n) "worth")(v:Cl P w K mg base 1 R B z21z iE "joined"):af P w K mg base aA (n+2) f p z9z (cg K (n+1)):=by
 refine F.ok ye (λV H Q E h=>?_) (λD A o s H V Q E j h=>?_)
 ·obtain⟨a,d,T,y,c,rfl,_⟩:=h
  rfl
 obtain⟨a,d,T,y,c,rfl,t,I,g,l,G,q⟩:=h
 refine#[_,(jd (jx (kh (jy (pv 0))) (jg (jo (jy (pv 0)))) jp) (jd (jx (kh (jy (pv 0))) (jg (jo (@Ki _ _ _ _ _ _ _ _ _ (qd j) (pv 1) (jy (pv 0)) jf #[OK,OK,OK,OK]))) jp) (jg (jo (v.e j.m (ja (jy (pv 0)) (ja (C.e j (ja (jy (pv 0)) (ja (pv 1) jb))) (ja (C.e j (ja (jy (pv 0)) (ja (pv 1) jb))) jb)))))))),?_]
 cases T with
 |num m=>
  have b:ay K H a [.str "num",.int m]:=t.elim (λh=>ay.of h) λz=>by cases z.1;exact z.2
  refine#[_,Z,a,_,_,_,Z,Z,b,Z,Z,_,Z,cy OJ ?_]
  exact#[_,Z,a,_,_,_,Z,Z,b,Z,q]
 |var x=>
  have b:H a=some (.tup [.str "var",.str x]):=t.resolve_right λz=>by cases z.1
  refine(ju b Z #[Z,_,Z,aV OJ ?_])
  refine(ju b Z #[Z,_,Z,cy OJ ?_])
  refine#[_,Z,d,Z,.inl #[c,.inl l],ju b Z #[_,fb.k (k:=Sum.inr x) l,?_]]
  rw[Kj G]
  exact q
 |op i r u=>
  obtain⟨J,L,b,M,N⟩:=t.resolve_right λz=>by cases z.1
  have O:max r.depth u.depth+1 < n+1:=I
  refine(ju b Z #[Z,_,Z,aV OJ ?_])
  refine(ju b Z #[Z,_,Z,aV OJ ?_])
  refine(ju b Z ?_)
  refine(ju b Z #[_,Z,J,d,r,y,c,Z,.inl M,OG,g.2.1,l,G,?_])
  refine(ju b Z #[_,Z,L,d,u,y,c,Z,.inl N,OG,g.2.2,l,G,?_])
  exact#[i,_,_,Z,g.1,Ju G g.2.1,Ju G g.2.2,q]
theorem sC:af P w K mg base aA 1 f e z9z (cg K 0):=by
 have n:∀v H Q E,¬cg K 0 v H Q E:=λv H Q E h=>by
  obtain⟨a,d,T,y,k,_,_,c,_⟩:=h
  exact absurd c (M1 _)
 exact#[λv H Q E h=>absurd h (n v H Q E),λA o s H b u v Q E _ _ _ _ h=>absurd h (n v H Q E)]
theorem vm(F:aI K "worth" "worth" lI f a)(b:ax K a z9z [])(m:mg "worth"=some (.ref f))(c:Cl P w K mg base 1 e d z21z iE "joined"):
  ∀n:Nat,af P w K mg base aA (n+1) f a z9z (cg K n)
 |0=>sC
 |n+1=>sR F #[(vm F b m c n),b,F.kp,m] c
def TV(H:Hp)(y:List Str)(t:Addr)(T:Tm):Prop:=ba H T t/\dh y T
theorem TV.mono(k:al H a)(h:TV H y t T):TV a y t T:=#[h.1.mono k,h.2]
inductive Gl where
 |give (t:Addr) (T:Tm) |nought |go (n:Nat)
structure WD where
 sets:List (Str×Addr×Tm)
 goal:Gl
noncomputable def Gl.gol(N:Addr):Gl->Fm
 | .give t _=>.give t
 | .nought=>.give N
 | .go n=>.go (n:Int)
noncomputable def WD.wy(n:Addr)(w:WD):Wy:=#[w.sets.map λs=>(s.1,s.2.1),w.goal.gol n]
def DA(H:Hp)(y:List Str)(m:Nat):Gl->Prop
 | .give t T=>TV H y t T
 | .nought=>True
 | .go n=>n < m
structure vw(H:Hp)(ys:List Str)(m N:Nat)(w:WD):Prop where
 sets:∀s∈w.sets,TV H ys s.2.1 s.2.2
 len:w.sets.length<=N
 goal:DA H ys m w.goal
def ms(H:Hp)(y:List Str)(n:Addr)(m N:Nat)(w:Wy):Prop:=∃d:WD,d.wy n=w/\vw H y m N d
def G8(F:hZ)(H:Hp)(y:List Str):Dd->Prop
 | .st p=>∃(l:Lf) (v:List V),H p=some (.tup v)/\vK H l v/\l.Ok y/\l.isCut=true/\l.Cs F
 | .ask t=>∃T,TV H y t T
noncomputable def Dd.ways:Dd->Nat
 | .st _=>1
 | .ask _=>2
structure vG(F:hZ)(H:Hp)(ys:List Str)(nA:Addr)(m N:Nat)(c:Ct):Prop where
 mem:∀x,c.M x->x∈ys
 deed:G8 F H ys c.d
 ways:∀w∈c.ws,ms H ys nA m N w
 len:c.ws.length=c.d.ways
structure vv(H:Hp)(ys:List Str)(nA:Addr)(m N:Nat)(pc:Pc):Prop where
 mem:∀x,pc.M x->x∈ys
 way:ms H ys nA m N pc.w
section
variable {F:hZ}{H H':Hp}{ys:List Str}{nA:Addr}{m N N':Nat}
theorem DA.mono(k:al H H')(h:DA H ys m g):DA H' ys m g:=by
 cases g with
 |give t T=>exact TV.mono k h
 |nought=>trivial
 |go n=>exact h
theorem vw.mono(k:al H H'){w:WD}(h:vw H ys m N w):vw H' ys m N w:=#[λs a=>(h.sets s a).mono k,h.len,h.goal.mono k]
theorem ms.up(a:N<=N'){w:Wy}(h:ms H ys nA m N w):ms H ys nA m N' w:=let #[d,e,v]:=h;#[d,e,v.sets,Ik v.len a,v.goal]
theorem vG.up(a:N<=N')(h:vG F H ys nA m N c):vG F H ys nA m N' c:=#[h.mem,h.deed,λw b=>(h.ways w b).up a,h.len]
theorem vv.up(a:N<=N')(h:vv H ys nA m N p):vv H ys nA m N' p:=#[h.mem,h.way.up a]
theorem XV{n:Nat}(a:k=(n:Int))(b:n < m):ms H ys nA m N #[[],.go k]:=#[#[[],.go n],by rw[a];rfl,(λ_ h=>absurd h IL),Il _,b]
theorem J2:∀(b:Bd) {X:List V} {g:Pc} {fs:List Ct} {N:Nat},dw H b X->b.Ok ys->b.Cs F->vv H ys nA m N g->(∀c∈fs,vG F H ys nA m N c)->fs.length+b.cuts<=m->
  vv H ys nA m (N+b.size) (pB (m:Int) b g fs).1/\∀c∈(pB (m:Int) b g fs).2,vG F H ys nA m (N+b.size) c
 | .nil,_,_,_,_,_,_,_,o,y,_=>#[o,y]
 | .lf p l r,X,g,fs,N,C,i,k,o,y,D=>by
  obtain⟨vs,zs,_,h1,I,h3⟩:=C
  have E:fs.length+(l.cut+r.cuts)<=m:=D
  obtain⟨R,A⟩:=J2 r h3 i.2 k.2 o y OG
  have hl:=kj (m:Int) r g fs
  have S:N+r.size<=N+(r.size+1):=by omega
  have j:=Lf.use_in i.1 R.mem
  have J:l.isCut=true->l.cut=1->vv H ys nA m (N+(r.size+1)) #[l.use (pB (m:Int) r g fs).1.M,#[[],.go ((m:Int) - ((pB (m:Int) r g fs).2.length:Int) - 1)]]/\∀c∈(pB (m:Int) r g fs).2++[#[l.use (pB (m:Int) r g fs).1.M,.st p,[(pB (m:Int) r g fs).1.w]]],vG F H ys nA m (N+(r.size+1)) c:=λG h0=>
   #[#[j,XV (n:=m - (fs.length+r.cuts) - 1) (by rw[hl];omega) OG],λc L=>by
    rcases List.mem_append.mp L with z |z
    ·exact(A c z).up S
    ·rw[List.mem_singleton.mp z]
     exact#[j,#[l,vs,h1,I,i.1,G,k.1],λw hw=>by rw[List.mem_singleton.mp hw];exact R.way.up S,Z]]
  show vv H ys nA m (N+(r.size+1)) (pL (m:Int) p l (pB (m:Int) r g fs)).1/\∀c∈(pL (m:Int) p l (pB (m:Int) r g fs)).2,vG F H ys nA m (N+(r.size+1)) c
  cases l with
  |gv t T=>exact#[#[j,#[#[[],.give t T],Z,(λ_ h=>absurd h IL),Il _,I.2,i.1]],λc G=>(A c G).up S]
  |st x t T=>
   refine#[#[j,?_],λc G=>(A c G).up S]
   show ms H ys nA m _ (iw x t (pB (m:Int) r g fs).1)
   unfold iw
   split
   ·obtain⟨d,e,v⟩:=R.way
    refine#[#[(x,t,T)::d.sets,d.goal],by rw[<- e];rfl,λs hs=>?_,LD v.len,v.goal]
    rcases List.mem_cons.mp hs with rfl |hs
    ·exact#[I.2,i.1.2]
    ·exact v.sets s hs
   ·exact R.way.up S
  |rd x t T |wr t u T U |cl x f q ts=>exact J Z Z
 | .ite p t T a c r,X,g,fs,N,C,i,k,o,y,D=>by
  obtain⟨qa,qb,as,bs,zs,_,g1,O,g2,g3,Q,g5,W⟩:=C
  have E:fs.length+(1+a.cuts+c.cuts+r.cuts)<=m:=D
  obtain⟨R,A⟩:=J2 r W i.2.2.2 k.2.2 o y OG
  have B:=kj (m:Int) r g fs
  obtain⟨c1,c2⟩:=J2 c g5 i.2.2.1 k.2.1 R A OG
  have h4:=kj (m:Int) c (pB (m:Int) r g fs).1 (pB (m:Int) r g fs).2
  obtain⟨Y,a2⟩:=J2 a Q i.2.1 k.1 (R.up (Mt _ _)) c2 OG
  have S:N+r.size+c.size+a.size<=N+(a.size+c.size+r.size+1):=by omega
  have j:∀x,(Bd.ite p t T a c .nil).use (pB (m:Int) r g fs).1.M x->x∈ys:=Bd.use_in #[i.1,i.2.1,i.2.2.1,IG] R.mem
  have hk:(m:Int) - ((pB (m:Int) r g fs).2.length:Int) - ((Bd.ite p t T a c .nil).cuts:Int)=((m - (fs.length+r.cuts) - (1+a.cuts+c.cuts):Nat):Int):=by
   show(m:Int) - _ - ((1+a.cuts+c.cuts+0:Nat):Int)=_
   rw[B]
   omega
  unfold pB
  dsimp only
  refine#[#[j,XV hk OG],λe he=>?_]
  rcases List.mem_append.mp he with z |z
  ·exact(a2 e z).up S
  ·rw[List.mem_singleton.mp z]
   refine#[j,#[T,O,i.1],λw hw=>?_,Z]
   rcases List.mem_cons.mp hw with rfl |hw
   ·exact Y.way.up S
   ·rw[List.mem_singleton.mp hw]
    exact c1.way.up (by show _<=N+(a.size+c.size+r.size+1);omega)
 | .loop p t T a r,X,g,fs,N,C,i,k,o,y,D=>by
  obtain⟨qa,as,zs,_,g1,O,g2,Q,W⟩:=C
  have E:fs.length+(1+a.cuts+r.cuts)<=m:=D
  obtain⟨R,A⟩:=J2 r W i.2.2 k.2 o y OG
  have B:=kj (m:Int) r g fs
  have j:∀x,(Bd.loop p t T a .nil).use (pB (m:Int) r g fs).1.M x->x∈ys:=Bd.use_in #[i.1,i.2.1,IG] R.mem
  have hk:(m:Int) - ((pB (m:Int) r g fs).2.length:Int) - ((Bd.loop p t T a .nil).cuts:Int)=((m - (fs.length+r.cuts) - (1+a.cuts):Nat):Int):=by
   show(m:Int) - _ - ((1+a.cuts+0:Nat):Int)=_
   rw[B]
   omega
  have pl:vv H ys nA m (N+r.size) #[(Bd.loop p t T a .nil).use (pB (m:Int) r g fs).1.M,#[[],.go ((m:Int) - ((pB (m:Int) r g fs).2.length:Int) - ((Bd.loop p t T a .nil).cuts:Int))]]:=#[j,XV hk OG]
  obtain⟨Y,a2⟩:=J2 a Q i.2.1 k.1 pl A OG
  have S:N+r.size+a.size<=N+(a.size+r.size+1):=by omega
  unfold pB
  dsimp only
  refine#[pl.up (by show _<=N+(a.size+r.size+1);omega),λe he=>?_]
  rcases List.mem_append.mp he with z |z
  ·exact(a2 e z).up S
  ·rw[List.mem_singleton.mp z]
   refine#[j,#[T,O,i.1],λw hw=>?_,Z]
   rcases List.mem_cons.mp hw with rfl |hw
   ·exact Y.way.up S
   ·rw[List.mem_singleton.mp hw]
    exact R.way.up (by show _<=N+(a.size+r.size+1);omega)
end
noncomputable def bK(n:Addr)(d:Df):List Ct:=(gK n d).2.reverse
theorem Y0(n:Addr)(d:Df):(bK n d).length=d.b.cuts:=by
 unfold bK
 rw[NM]
 exact(kj _ _ _ _).trans (MP _)
theorem Aj{nA:Addr}{d:Df}(f:dw H d.b B)(g:d.b.Ok y):vv H y nA d.b.cuts d.b.size (gK nA d).1/\∀c∈bK nA d,vG d.b.calls H y nA d.b.cuts d.b.size c:=by
 have p:vv H y nA d.b.cuts 0 (Gm nA):=#[λx i=>absurd i IL,#[[],.nought],Z,(λ_ h=>absurd h IL),Ib _,IG]
 obtain⟨a,e⟩:=J2 (m:=d.b.cuts) d.b f g (zA d.b) p (fs:=[]) (λ_ h=>absurd h IL) (by show 0+_<=_;omega)
 rw[MP]at a e
 exact#[a,λc j=>e c (List.mem_reverse.mp j)]
theorem Qv{M:Str->Prop}{y:List Str}(h:∀x,M x->x∈y):(canon M).length<=y.length:=by
 by_cases e:∃s,Nm s M
 ·obtain⟨s,H⟩:=e
  rw[<- H.canon]
  exact H.len h
 ·unfold canon
  rw[dif_neg e]
  exact Il _
noncomputable def c7:List (Str×Addr×Tm)->a8->a8
 | [],k=>k
 |s::r,k=>c7 r (a5 k (.inr s.1) (.int (s.2.2.ev k)))
noncomputable def dP(N:Addr)(d:Df)(n:Nat):List Str:=match (bK N d)[n]? with
 |some c=>canon c.M
 |none=>[]
noncomputable def sg(N:Nat->List Str)(k:a8):Gl->Tr
 | .give _ T=>aE [aJ "give",aw (T.ev k)]
 | .nought=>aE [aJ "give",aw 0]
 | .go n=>aE [aJ "go",aw (n:Int),aE ((N n).map λx=>aw (look k (.inr x) 0))]
theorem qT{H:Hp}{ys:List Str}:∀{ss:List (Str×Addr×Tm)} {k:a8},(∀s∈ss,TV H ys s.2.1 s.2.2)->GT k->GT (c7 ss k)
 | [],_,_,g=>g
 |s::r,k,h,g=>qT (H:=H) (ys:=ys) (ss:=r) (λS a=>h S (II _ a)) (g.put _ (Ju g (h s Iz).2.1))
theorem ZR{S:List (Str×Addr×Tm)}:∀{i:Nat} {s:Str×Addr×Tm} {k:a8},S[i]?=some s->c7 (S.take (i+1)) k=a5 (c7 (S.take i) k) (.inr s.1) (.int (s.2.2.ev (c7 (S.take i) k))):=by
 induction S with
 |nil=>intro i s k h;simp at h
 |cons a r I=>
  intro i s k h
  cases i with
  |zero=>
   cases h
   rfl
  |succ i=>exact I (by simpa using h)
theorem zR{kvs:a8}{k:bE}{v:V}:(a5 kvs k v).length<=kvs.length+1:=by
 unfold a5
 split
 ·rw[HZ];exact Lu _
 ·rw[Ia];exact Ib _
theorem Xo:∀{ss:List (Str×Addr×Tm)} {k:a8},(c7 ss k).length<=k.length+ss.length
 | [],_=>Ib _
 |s::r,k=>by
  have h:=Xo (ss:=r) (k:=a5 k (.inr s.1) (.int (s.2.2.ev k)))
  have H:=zR (kvs:=k) (k:=.inr s.1) (v:=.int (s.2.2.ev k))
  show(c7 r _).length<=k.length+(r.length+1)
  omega
noncomputable def bh(n:List Str)(i:List Int):a8:=cX [] ((n.map Sum.inr).zip (i.map V.int))
theorem Xp:∀{m:a8} {k:a8},GT k->GT m->GT (cX k m)
 | [],_,g,_=>g
 |p::r,k,g,h=>by
  obtain⟨i,e,H⟩:=h p Iz
  have E:a5 k p.1 p.2=a5 k p.1 (.int i):=by rw[e]
  show GT (cX (a5 k p.1 p.2) r)
  rw[E]
  exact Xp (g.put _ H) λq a=>h q (II _ a)
theorem Ke(h:∀i∈I,gp i):GT (bh n I):=by
 refine Xp GT.nil λp H=>?_
 obtain⟨i,a,e⟩:=List.mem_map.mp (Nv H).2
 exact#[i,e.symm,h i a]
theorem Y1{ns:List Str}{is:List Int}:(bh ns is).length<=ns.length:=by
 have h:=qB ((ns.map Sum.inr).zip (is.map V.int)) []
 rw[Ob,HZ]at h
 show(cX [] _).length<=_
 have H:(cX [] ((ns.map Sum.inr).zip (is.map V.int))).length<=0+min ns.length (is.map V.int).length:=h
 omega
noncomputable abbrev nU:Stmt:=bu 23
noncomputable abbrev ls:Stmt:=bu 24
noncomputable abbrev fi:Stmt:=bu 28
noncomputable abbrev lr:Stmt:=bu 29
noncomputable abbrev ig:Stmt:=bu 30
noncomputable abbrev lF:Stmt:=bu 31
structure mh(H:Hp)(nA:Addr)(d:Df)(ys:List Str)(v:V):Prop where
 tr:aN H (eO nA d) v []
 bd:∃bs,dw H d.b bs
 ok:d.b.Ok ys
 y20:ys.length<=20
 sz:d.b.size<=3000
structure Dy(H:Hp)(nA:Addr)(d:Df)(ys:List Str)(c:Ct)(ka na wa:Addr)(dv:V)(wvs:List V):Prop where
 at':H ka=some (.tup [.ref na,dv,.ref wa])
 nms:H na=some (.tup ((canon c.M).map V.str))
 deed:aN H (Fu c.d) dv []
 wat:H wa=some (.tup wvs)
 ways:aN H (aC (c.ws.map gQ)) .non wvs
 v:vG d.b.calls H ys nA d.b.cuts d.b.size c
theorem Y2:∀{S:List Str} {v:List V},aN H (aC (S.map aJ)) .non v->v=S.map V.str
 | [],v,h=>h
 |s::S,v,h=>by
  obtain⟨_,_,y,Y,rfl,⟨rfl,_⟩,a⟩:=h
  rw[Y2 a]
  rfl
section
variable {H H':Hp}{nA:Addr}{d:Df}{ys:List Str}{v:V}
theorem mh.mono(k:al H H')(h:mh H nA d ys v):mh H' nA d ys v:=#[h.tr.mono k,let #[b,a]:=h.bd;#[b,a.mono k],h.ok,h.y20,h.sz]
theorem mh.parts(h:mh H nA d ys v):∃(a c:Addr) (W:V) (C:List V),v= .ref a/\H a=some (.tup [.str d.f,.ref d.pa,W,.ref c])/\aN H (gQ (gK nA d).1.w) W []/\H c=some (.tup C)/\aN H (aC ((bK nA d).map DQ)) .non C:=by
 obtain⟨_,a,x,rfl,i,_,_,n,Y,rfl,⟨rfl,_⟩,_,_,o,j,rfl,⟨rfl,_⟩,_,_,W,k,rfl,l,_,_,p,y,rfl,m,e⟩:=h.tr
 have e:y=[]:=e
 subst e
 obtain⟨_,c,C,rfl,b,g⟩:=m
 exact#[a,c,W,C,Z,i,l,b,g]
theorem mh.cut{C:List V}(h:mh H nA d ys v)(a:aN H (aC ((bK nA d).map DQ)) .non C){n:Nat}{c:Ct}(g:(bK nA d)[n]?=some c):∃k N i D W,C[n]?=some (.ref k)/\Dy H nA d ys c k N i D W:=by
 have L:=ze a
 rw[HZ]at L
 have u:n < C.length:=by rw[L];exact(List.getElem?_eq_some_iff.mp g).1
 have j:C[n]?=some C[n]:=HW u
 obtain⟨T,b,t⟩:=qG a n _ j
 rw[Ir,g]at b
 cases b
 obtain⟨B,y⟩:=h.bd
 have z:=(Aj (nA:=nA) y h.ok).2 c (IA g)
 generalize C[n]=x at j t
 obtain⟨_,k,E,rfl,l,_,_,F,G,rfl,m,_,_,D,I,rfl,o,_,_,J,A,rfl,p,e⟩:=t
 have e:A=[]:=e
 subst e
 obtain⟨_,N,M,rfl,f,q⟩:=m
 obtain⟨_,i,W,rfl,r,s⟩:=p
 rw[Y2 q]at f
 exact#[k,N,i,D,W,j,l,f,o,r,s,z]
theorem mh.way(h:mh H nA d ys v):ms H ys nA d.b.cuts d.b.size (gK nA d).1.w:=let #[B,a]:=h.bd;(Aj (nA:=nA) a h.ok).1.way
theorem sw(h:(bK nA d)[n]?=some c):dP nA d n=canon c.M:=by
 unfold dP
 rw[h]
end
structure FV(H:Hp)(nA:Addr)(w:WD)(wa sa ga:Addr)(ss:List V)(wd:Str)(u:V):Prop where
 at':H wa=some (.tup [.ref sa,.ref ga])
 sat:H sa=some (.tup ss)
 sets:∀(i:Nat) (x:V),ss[i]?=some x->∃(s:Str×Addr×Tm) (p:Addr),w.sets[i]?=some s/\x= .ref p/\H p=some (.tup [.str s.1,.ref s.2.1])
 len:ss.length=w.sets.length
 gat:H ga=some (.tup [.str wd,u])
 goal:match w.goal with
  | .give t _=>wd="give"/\u= .ref t
  | .nought=>wd="give"/\u= .ref nA
  | .go n=>wd="go"/\u= .int (n:Int)
theorem yx{w:WD}(h:aN H (gQ (w.wy N)) v []):∃(l S G:Addr) (A:List V) (W:Str) (u:V),v= .ref l/\FV H N w l S G A W u:=by
 obtain⟨_,r,X,rfl,C,_,_,y0,D,rfl,⟨_,s,c,rfl,E,m⟩,_,_,Y,y,rfl,b,e⟩:=h
 have e:y=[]:=e
 subst e
 have L:=ze m
 have st:∀(i:Nat) (x:V),c[i]?=some x->∃(s:Str×Addr×Tm) (p:Addr),w.sets[i]?=some s/\x= .ref p/\H p=some (.tup [.str s.1,.ref s.2.1]):=λi x F=>by
  obtain⟨tr,o,I⟩:=qG m i x F
  rw[Ir]at o
  obtain⟨q,J,rfl⟩:=Option.map_eq_some_iff.mp o
  have a:(w.sets.map λs=>(s.1,s.2.1))[i]?=some q:=J
  rw[Ir]at a
  obtain⟨z,M,rfl⟩:=Option.map_eq_some_iff.mp a
  obtain⟨_,p,X,rfl,O,_,_,Q,R,rfl,⟨rfl,_⟩,_,_,U,B,rfl,⟨rfl,_⟩,e⟩:=I
  have e:B=[]:=e
  subst e
  exact#[z,p,M,Z,O]
 have ln:c.length=w.sets.length:=by
  rw[L,HZ]
  exact HZ ..
 have f:∀g:Gl,w.goal=g->aN H (wu (g.gol N)) Y []->∃(G:Addr) (W:Str) (u:V),Y= .ref G/\H G=some (.tup [.str W,u])/\match g with
  | .give t _=>W="give"/\u= .ref t
  | .nought=>W="give"/\u= .ref N
  | .go n=>W="go"/\u= .int (n:Int):=λg _ b=>by
  cases g with
  |give t T |nought |go n=>
   obtain⟨_,gl,X,rfl,d,_,_,Q,R,rfl,⟨rfl,_⟩,_,_,U,B,rfl,⟨rfl,_⟩,e⟩:=b
   have e:B=[]:=e
   subst e
   exact#[gl,_,_,Z,d,Z,Z]
 obtain⟨G,W,u,rfl,j,k⟩:=f w.goal Z b
 exact#[r,s,G,c,W,u,Z,C,E,st,ln,j,k]
inductive iy(b:Addr)(e:List V)(H:Hp)(Q:VK)(a:XK):Prop
 |mk(v:V)(n:Nat)(d:Df)(f:List Str)(c:Ct)(_:e=[v,.int (n:Int)])(_:mh H b d f v)(_:(bK b d)[n]?=some c)(_:∀(ka na wa:Addr) (dv:V) (wvs:List V),Dy H b d f c ka na wa dv wvs->Q (.ref ka) H)
inductive iD(f:Addr)(g:List V)(H:Hp)(Q:VK)(a:XK):Prop
 |mk(v:V)(n:Nat)(b:Addr)(d:Df)(h:List Str)(c:Ct)(e:List Int)(_:g=[v,.int (n:Int),.ref b])(_:mh H f d h v)(_:(bK f d)[n]?=some c)(_:H b=some (.tup (e.map V.int)))(_:e.length=(canon c.M).length)(_:∀dd:Addr,H dd=none->Q (.ref dd) (ah H dd (.dK (bh (canon c.M) e))))
theorem Y3:∀(s:List Str),(s.map (Sum.inr:Str->bE)).map kV=s.map V.str:=λs=>by rw[Mu];rfl
theorem yc:ai ["part","n"] ["part","n"] (aa nU):=bp
theorem sF{f:Addr}{g:FuncData}{N:Addr}(F:aI K "cut_at" "cut_at" nU f g):af P w K mg base aA 1 f g ["part","n"] (iy N):=by
 refine F.ok yc ?_ λl A o s H V Q E B h=>?_
 ·rintro _ _ _ _ ⟨v,n,d,y,c,rfl,_⟩
  rfl
 obtain⟨v,n,d,y,c,rfl,i,m,q⟩:=h
 refine#[_,(jg (jo (jr jN (jy (pv 0)) (pv 1) (λ_ _=>Z)))),?_]
 obtain⟨a,p,I,J,rfl,r,L,b,e⟩:=i.parts
 obtain⟨t,u,x,D,W,z,C⟩:=i.cut e m
 exact#[_,Z,a,_,_,_,Z,Z,ay.of r,jK (j:=3) Z,_,Z,p,_,_,_,Z,Z,ay.of b,jK z,q t u x D W C]
theorem uj:ai z12z z12z (aa ls):=bp
theorem ZS(F:aI K "held_at" "held_at" ls f g)(i:Cl P w K mg base 1 J j ["part","n"] (iy N) "cut_at")(m:mg "dict"=none)(a:mg "zip"=none):af P w K mg base aA 2 f g z12z (iD N):=by
 refine F.ok uj ?_ λp A o s H V Q E r h=>?_
 ·rintro _ _ _ _ ⟨v,n,b,d,y,c,I,rfl,_⟩
  rfl
 obtain⟨v,n,b,d,y,c,I,rfl,t,u,x,z,q⟩:=h
 refine#[_,(jg (jo (@YR _ _ _ _ _ _ _ _ Z m Z a Z (ja (jr jN (i.e r (ja (pv 0) (ja (pv 1) jb))) jf (λ_ _=>Z)) (ja (pv 2) jb)) OK OK OK OK))),?_]
 refine#[_,Z,_,Z,v,n,d,y,c,Z,t,u,λB D O R W C=>#[B,_,_,_,Z,Z,ay.of C.at',eZ,_,Z,D,b,(canon c.M).map Sum.inr,_,Z,by rw[Y3];exact ay.of C.nms,ay.of x,by rw[HZ,HZ,z],λl G=>q l G]]
inductive Wh where
 |rd (a i:Int) |wr (a b:Int) |ask (b:Int) |cl (f:Str) (is:List Int) (i:Int)
def AE(H:Hp)(u:V):Wh->Prop
 | .rd a i=>∃p,u= .ref p/\H p=some (.tup [.str "read",.int a,.int i])
 | .wr a b=>∃p,u= .ref p/\H p=some (.tup [.str "write",.int a,.int b])
 | .ask b=>∃p,u= .ref p/\H p=some (.tup [.str "ask",.int b])
 | .cl f I i=>∃p c g e,u= .ref p/\H p=some (.tup [.str "call",.ref c])/\H c=some (.tup [.str f,.ref g,e,.int i])/\H g=some (.tup (I.map V.int))
theorem AE.mono{H d:Hp}(k:al H d){u:V}{w:Wh}(h:AE H u w):AE d u w:=by
 cases w with
 |rd a i |wr a b |ask b=>obtain⟨p,e,h⟩:=h;exact#[p,e,k _ _ h]
 |cl f I i=>obtain⟨p,c,g,e,E,j,l,m⟩:=h;exact#[p,c,g,e,E,k _ _ j,k _ _ l,k _ _ m]
inductive DD where
 |st (p:Addr) (l:Lf) |ask (t:Addr) (T:Tm)
noncomputable def DD.dd:DD->Dd
 | .st p _=>.st p
 | .ask t _=>.ask t
def yG(H:Hp)(y:List Str):DD->Prop
 | .st p l=>∃v,H p=some (.tup v)/\vK H l v/\l.Ok y/\l.isCut=true
 | .ask t T=>TV H y t T
theorem yG.mono(k:al H a)(h:yG H y d):yG a y d:=by
 cases d with
 |st p l=>obtain⟨v,b,c,e⟩:=h;exact#[v,k _ _ b,c.mono k,e]
 |ask t T=>exact TV.mono k h
def DD.Cs(F:hZ):DD->Prop
 | .st _ l=>l.Cs F
 | .ask _ _=>True
theorem DU{F:hZ}(h:G8 F H y d):∃e:DD,e.dd=d/\yG H y e/\e.Cs F:=by
 cases d with
 |st p=>obtain⟨l,v,a,b,c,f,g⟩:=h;exact#[.st p l,Z,#[v,a,b,c,f],g]
 |ask t=>obtain⟨T,h⟩:=h;exact#[.ask t T,Z,h,IG]
def Fj:DD->Wh->Prop
 | .st _ (.rd _ _ _),.rd _ i=>gp i
 | .st _ (.wr _ _ _ _),.wr _ _=>True
 | .st _ (.cl _ _ _ _),.cl _ _ i=>gp i
 | .ask _ _,.ask b=>b=0∨b=1
 |_,_=>False
noncomputable def pS(d:DD)(w:Wh)(k:a8):a8:=match d,w with
 | .st _ (.rd x _ _),.rd _ i=>a5 k (.inr x) (.int i)
 | .st _ (.cl x _ _ _),.cl _ _ i=>a5 k (.inr x) (.int i)
 |_,_=>k
noncomputable def Wh.side:Wh->Nat
 | .ask b=>if b=0 then 1 else 0
 |_=>0
def rN(Q:VK)(H:Hp):Wh->Prop
 | .rd _ i=>Q (.int i) H
 | .cl _ _ i=>Q (.int i) H
 |_=>False
inductive eG(b:List V)(H:Hp)(Q:VK)(a:XK):Prop
 |mk(u:V)(w:Wh)(_:b=[u])(_:AE H u w)(_:rN Q H w)
inductive mK(c:Addr)(e:List V)(H:Hp)(Q:VK)(a:XK):Prop
 |mk(v f:V)(b:Addr)(d:Df)(g:List Str)(w:WD)(k:a8)(_:e=[v,f,.ref b])(_:mh H c d g v)(_:aN H (gQ (w.wy c)) f [])(_:vw H g d.b.cuts d.b.size w)(_:H b=some (.dK k))(_:GT k)(_:k.length<=200)(_:∀(u:V) (H':Hp),aN H' (sg (dP c d) (c7 w.sets k) w.goal) u []->aB b H H'->Q u H')
inductive EI(c:Addr)(a:_L.St)(j:List (Str×Addr×Tm))(k:a8)(H:Hp)(i:Nat)(l:_L.St)(b:Hp):Prop
 |mk(g h:Option V)(d:l=a++[g,h,none,none])(e:b c=some (.dK (c7 (j.take i) k)))(f:aB c H b)
theorem JP{H:Hp}:∀{is:List Int},aN H (aC (is.map aw)) .non (is.map V.int)
 | []=>rfl
 |i::is=>jl Z jU (JP (is:=is))
theorem iV:ai ["what"] ["what"] (aa fi):=bp
theorem sH(F:aI K "found_in" "found_in" fi f n):af P w K mg base aA 1 f n ["what"] eG:=by
 refine F.ok iV ?_ λC A o s H v Q E t h=>?_
 ·rintro _ _ _ _ ⟨u,W,rfl,_⟩
  rfl
 obtain⟨u,W,rfl,d,q⟩:=h
 refine#[_,(jg (jo (kM (kh (jy (pv 0))) (jy (jr jN (pv 0) jf (λ_ _=>Z))) (jr jN (pv 0) (YA Qz jf) (λ_ _=>Z))))),?_]
 cases W with
 |rd a i=>
  obtain⟨p,rfl,l⟩:=d
  exact(ju l eZ #[Z,_,Z,aV OJ #[_,Z,_,Z,p,_,_,_,Z,Z,ay.of l,Z,q]])
 |cl f I i=>
  obtain⟨p,c,g,e,rfl,m,r,_⟩:=d
  exact(ju m eZ #[Z,_,Z,cy OJ (ju m iR #[c,_,_,_,Z,Z,ay.of r,jK (j:=3) Z,q])])
 |wr a b |ask b=>exact q.elim
theorem fu:ai ["part","way","numbers","name","term","goal","held"] ["part","way","numbers"] (aa lr):=bp
noncomputable def Yw:Scope:=#[.function,[(".0",.local),("name",.local),("numbers",.free)],false,false,[]]
theorem wF:(["name","numbers"]:List Str).Nodup:=by decide+kernel
theorem vX:bG ["part","way","numbers","name","term","goal","held"] (aa lr) Yw ["name","numbers"] 1 [2]:=rj
theorem sG(F:aI K "end_of" "end_of" lr f fd)(cC:Cl P w K mg base 1 fC f2 ["part","n"] (iy U) "cut_at")(cW:Cl P w K mg base 7 fW f3 z9z (cg K 6) "worth")(m0:mg "tuple"=none)(no:nJ K U):af P w K mg base aA 8 f fd ["part","way","numbers"] (mK U):=by
 refine F.ok fu ?_ λc0 A o0 s H vs Q E Y h=>?_
 ·rintro _ _ _ _ ⟨v,w1,D,d,ys,O,k,rfl,_⟩
  rfl
 obtain⟨v,w1,D,d,ys,O,k,rfl,hp,hw,wv,hd,gk,hk,q⟩:=h
 refine#[_,(jd (jX IK Z (zJ (jy (pv 1))) (zn (n:=2) Z (jA (jv (i:=3) fu.nd Z (Or.inl Z)) (jA (jv (i:=4) fu.nd Z (Or.inl Z)) ki))) (jg (qQ (qd Y) (pv 2) (pv 3) (cW.e Y.m (ja (pv 4) (ja (pv 2) jb))) Z))) (jd (jz 5 fu.nd (jy (pv 1))) (jd (jx (kh (jy (pv 5))) (jg (jo (ji (ja jm (ja (cW.e Y.m (ja (jy (pv 5)) (ja (pv 2) jb))) jb))))) jp) (jd (@YM _ _ _ _ _ _ _ _ _ _ (6) (["name","numbers"]) (1) ([2]) _ _ _ _ fu.nd Z (Or.inl Z) Z (zJ (jr jN (cC.e Y.m (ja (pv 0) (ja (jy (pv 5)) jb))) jf (λ_ _=>Z))) vX (λ_ _ _ _ _=>(jv (i:=0) wF Z (Or.inl Z))) (λ_ _ _ _ _=>(@zK _)) (λ_ _ _ _ _=>(@Ki _ _ _ _ _ _ _ _ _ (qd Y) (pv 1) (pv 0) jf #[OK,OK,OK,OK])) OK (by first |exact .inl Z |exact .inr Z) (by intro _;rfl)) (jg (jo (ji (ja jm (ja (jy (pv 5)) (ja (jE jI Z m0 LM (ja (pv 6) jb)) jb)))))))))),?_]
 have b0:=aF
 obtain⟨wa,sa,ga,ss,wd,u,rfl,W⟩:=yx hw
 have R:∀g,aB D H g->al H g:=λg k b xs e=>k b _ (jO e hd (by intro z;cases z)) e
 have h2:=hp.sz
 have h3:=wv.len
 refine aj λF1 C=>dq λJ j=>(ju W.at' eZ #[sa,Z,#[_,ay.of W.sat],j _ _ ?_])
 clear j
 refine qj (K:=K) (xs:=ss) (EI D [some v,some (.ref wa),some (.ref D)] O.sets k H) #[_,_,Z,hd,aB.refl] (λi σ g _ h=>?_) ?_ (λσ g h=>C _ _ ?_)
 ·obtain⟨_,_,_,_,I⟩:=h
  exact ay.of (R _ I _ _ W.sat)
 ·intro E _ i x σ H1 hx f0 Gq kq h
  obtain⟨o3,o4,rfl,L,I⟩:=h
  clear C
  obtain⟨s,p,hs,rfl,h0⟩:=W.sets i x hx
  have S:=R _ I
  have tv:=(wv.sets s (IA hs)).mono S
  have g1:GT (c7 (O.sets.take i) k):=qT (H:=H) (ys:=ys) (λs hs=>wv.sets s (Lc hs)) gk
  have l1:=Xo (ss:=O.sets.take i) (k:=k)
  rw[ID]at l1
  refine kq ?_
  clear kq
  refine#[p,_,Z,ay.of (S _ _ h0),Z,_,_,Z,_,_,Z,Z,?_]
  refine#[_,Z,_,Z,s.2.1,D,s.2.2,ys,_,Z,.inl tv.1,tv.2.2,tv.2.1,L,g1,_,Z,_,Z,D,_,Z,.inl #[_,.inr s.1,L,Z,OG,Z],f0 _ _ #[_,_,Z,?_,λc o X e=>by rw[jh X];exact I c o X e]]
  rw[ZR hs]
  exact jc
 ·obtain⟨o3,o4,rfl,L,I⟩:=h
  rw[W.len,Lj]at L
  have S:=R _ I
  have g1:GT (c7 O.sets k):=qT (H:=H) (ys:=ys) wv.sets gk
  have B:=wv.goal
  have a:=W.goal
  generalize c7 O.sets k=N at L g1 q
  refine aj λF1 C=>(ju (S _ _ W.at') iR (C _ _ ?_))
  clear C
  have G:=S _ _ W.gat
  refine aj λF1 C=>nP λG1 k3 k0=>(ju G eZ #[Z,_,Z,?_])
  have give:∀(t:Addr) (T:Tm),wd="give"->u= .ref t->Hj K g T t->dh ys T->(∀(u':V) (H9:Hp),aN H9 (aE [aJ "give",aw (T.ev N)]) u' []->aB D H H9->Q u' H9)->G1 (decide (V.str wd=V.str "give")) g:=by
   intro t T e1 e2 x1 x2 x3
   subst e1
   subst e2
   rw[IB Z]
   refine k3 _ (ju G iR #[_,Z,t,D,T,ys,N,Z,x1,x2.2,x2.1,L,g1,bM,λr nr=>?_])
   exact x3 _ _ (jD jc (jl Z jT (jl Z jU jB))) λc o X e=>je nr _ _ (I c o X e)
  cases hg:O.goal with
  |give t T=>
   rw[hg]at B a q
   exact give t T a.1 a.2 (.inl (B.1.mono S)) B.2 q
  |nought=>
   rw[hg]at a q
   exact give U (.num 0) a.1 a.2 (.inr #[Z,no _]) #[#[OF,OF],OF] q
  |go n=>
   rw[hg]at B a q
   clear give k3
   obtain⟨e1,e2⟩:=a
   subst e1
   subst e2
   have hn:n < (bK U d).length:=by rw[Y0];exact B
   obtain⟨c,hc⟩:∃c,(bK U d)[n]?=some c:=#[_,HW hn]
   have e0:decide (V.str "go"=V.str "give")=false:=by decide+kernel
   rw[e0]
   refine k0 _ (C _ _ ?_)
   clear k0 C
   refine aj λF1 C=>#[_,Z,ju G iR #[v,n,d,ys,c,Z,hp.mono S,hc,λka na w2 dv w3 ca=>#[ka,_,_,_,Z,Z,ay.of ca.at',eZ,na,Z,#[_,ay.of ca.nms],?_]]]
   have cl:=Ik (Qv ca.v.mem) hp.y20
   have q:∀(u:V) (g:Hp),aN g (aE [aJ "go",aw (n:Int),aE ((dP U d n).map λx=>aw (look N (.inr x) 0))]) u []->aB D H g->Q u g:=q
   rw[sw hc]at q
   refine qv (K:=K) (xs:=(canon c.M).map V.str) (by rw[HZ];omega) (λi zs Hx=>zs=((canon c.M).take i).map (λx=>V.int (look N (.inr x) 0))/\Hx=g) #[Z,Z] (λi zs Hx h=>?_) (λi x zs Hx hx h=>?_) (λzs Hx h l nl=>C _ _ ?_)
   ·obtain⟨rfl,rfl⟩:=h
    exact#[ay.of ca.nms,by rw[HZ,ID];omega]
   ·obtain⟨rfl,rfl⟩:=h
    rw[Ir]at hx
    obtain⟨y,hy,rfl⟩:=Option.map_eq_some_iff.mp hx
    refine#[_,Z,D,Z,.inl #[N,.inl L],_,Z,_,fb.k (k:=Sum.inr y) L,?_,Z]
    rw[Kj g1,LB,hy,IJ]
    rfl
   ·obtain⟨rfl,rfl⟩:=h
    rw[HZ,Lj]
    refine(ju (je nl _ _ G) iR #[_,Z,l,_,Z,.inl #[aG.of jc,λtl n0=>#[gE,λr nr=>?_]]])
    refine q _ _ (jD jc (jl Z jT (jl Z jU (jl Z (jD (ao jc nr) ?_) jB)))) λc' o X e=>je nr _ _ (je n0 _ _ (je nl _ _ (I c' o X e)))
    have:=JP (H:=ah (ah (ah Hx l (.lst ((canon c.M).map (λx=>V.int (look N (.inr x) 0))))) tl (.tup ((canon c.M).map (λx=>V.int (look N (.inr x) 0))))) r (.tup [.str "go",.int (n:Int),.ref tl])) (is:=(canon c.M).map λx=>look N (.inr x) 0)
    rw[Mu,Mu]at this
    exact this
structure mq(H:Hp)(nA:Addr)(d:Df)(ys:List Str)(v:V)(sa:Addr)(n:Nat)(hv:Addr)(uw:V)(c:Ct)(is:List Int)(wh:Wh)(e:DD)(wd:WD):Prop where
 prt:mh H nA d ys v
 at':H sa=some (.tup [.int (n:Int),.ref hv,uw])
 cut:(bK nA d)[n]?=some c
 hat:H hv=some (.tup (is.map V.int))
 hl:is.length=(canon c.M).length
 hin:∀i∈is,gp i
 whv:AE H uw wh
 ed:e.dd=c.d
 dv:yG H ys e
 fit:Fj e wh
 way:c.ws[wh.side]?=some (wd.wy nA)
 wdv:vw H ys d.b.cuts d.b.size wd
theorem mq.mono(k:al H a)(h:mq H N d y v s n b u c i f e g):mq a N d y v s n b u c i f e g:=
 #[h.prt.mono k,k _ _ h.at',h.cut,k _ _ h.hat,h.hl,h.hin,h.whv.mono k,h.ed,h.dv.mono k,h.fit,h.way,h.wdv.mono k]
noncomputable def Gk(n:Addr)(d:Df)(c:Ct)(i:List Int)(a:Wh)(e:DD)(W:WD):Tr:=sg (dP n d) (c7 W.sets (pS e a (bh (canon c.M) i))) W.goal
inductive fX(e:Addr)(g:List V)(H:Hp)(Q:VK)(a:XK):Prop
 |mk(v:V)(b:Addr)(d:Df)(h f:List Str)(c:List Int)(w:WD)(_:g=[v,.ref b])(_:mh H e d h v)(_:H d.pa=some (.tup (f.map V.str)))(_:f.length<=100)(_:H b=some (.tup (c.map V.int)))(_:c.length=f.length)(_:∀i∈c,gp i)(_:w.wy e=(gK e d).1.w)(_:vw H h d.b.cuts d.b.size w)(_:∀(u:V) (H':Hp),aN H' (sg (dP e d) (c7 w.sets (bh f c)) w.goal) u []->ae H H'->Q u H')
inductive uK(g:Addr)(j:List V)(H:Hp)(Q:VK)(a:XK):Prop
 |mk(v i:V)(h b:Addr)(n:Nat)(d:Df)(m:List Str)(c:Ct)(f:List Int)(l:Wh)(e:DD)(k:WD)(_:j=[v,.ref h])(_:mq H g d m v h n b i c f l e k)(_:∀(u:V) (H':Hp),aN H' (Gk g d c f l e k) u []->ae H H'->Q u H')
theorem re(h:Fj e a)(g:GT k):GT (pS e a k):=by
 unfold pS
 split
 ·exact g.put _ h
 ·exact g.put _ h
 ·exact g
theorem vS{e:DD}{wh:Wh}{k:a8}:(pS e wh k).length<=k.length+1:=by
 unfold pS
 split
 ·exact zR
 ·exact zR
 ·exact Lu _
theorem pP:ai ["part","args"] ["part","args"] (aa ig):=bp
theorem Yx(F:aI K "first_of" "first_of" ig f I)(J:Cl P w K mg base 8 fE L ["part","way","numbers"] (mK T) "end_of")(M:mg "dict"=none)(b:mg "zip"=none):af P w K mg base aA 9 f I ["part","args"] (fX T):=by
 refine F.ok pP ?_ λR A O s H vs Q E U h=>?_
 ·rintro _ _ _ _ ⟨v,x,d,y,p,is,z,rfl,_⟩
  rfl
 obtain⟨v,x,d,y,p,is,z,rfl,C,g,V,i,n,r,t,W,q⟩:=h
 refine#[_,(jg (jo (J.e U.m (ja (pv 0) (ja (jy (pv 0)) (ja (@YR _ _ _ _ _ _ _ _ Z M Z b Z (ja (jy (pv 0)) (ja (pv 1) jb)) OK OK OK OK) jb)))))),?_]
 obtain⟨a,ca,X,cs,rfl,D,G,Y,h0⟩:=C.parts
 rw[<- t]at G
 refine#[_,Z,_,Z,a,_,_,_,Z,Z,ay.of D,jK (j:=2) Z,ju D iR #[_,Z,d.pa,x,p.map Sum.inr,_,Z,by rw[Y3];exact ay.of g,ay.of i,by rw[HZ,HZ,n],λl N=>?_]]
 have S:ae H (ah H l (.dK (bh p is))):=je N
 have zl:=Y1 (ns:=p) (is:=is)
 exact#[.ref a,X,l,d,y,z,bh p is,Z,C.mono (ae.tm S),G.mono (ae.tm S),W.mono (ae.tm S),jc,Ke r,OG,λu H' tu k=>q u H' tu λc o e=>k c o (jk e N) (S _ _ e)]
theorem eB:ai ["part","step","cut","numbers","what","way"] ["part","step"] (aa lF):=bp
theorem ZT{f:Addr}{fd:FuncData}{nA fC fD fF fE:Addr}{f0 f3 f4 f5:FuncData}(F:aI K "onward" "onward" lF f fd)(cC:Cl P w K mg base 1 fC f0 ["part","n"] (iy nA) "cut_at")(cD:Cl P w K mg base 2 fD f3 z12z (iD nA) "held_at")(cF:Cl P w K mg base 1 fF f4 ["what"] eG "found_in")(cE:Cl P w K mg base 8 fE f5 ["part","way","numbers"] (mK nA) "end_of"):af P w K mg base aA 9 f fd ["part","step"] (uK nA):=by
 refine F.ok eB ?_ λc0 A o1 s H vs Q E hr h=>?_
 ·rintro _ _ _ _ ⟨v,L,Y,hv,n,d,ys,c,is,wh,e,wd,rfl,_⟩
  rfl
 obtain⟨v,L,Y,hv,n,d,ys,c,is,wh,e,wd,rfl,C,q⟩:=h
 refine#[_,(jd (jz 2 eB.nd (cC.e hr.m (ja (pv 0) (ja (jy (pv 1)) jb)))) (jd (jz 3 eB.nd (cD.e hr.m (ja (pv 0) (ja (jy (pv 1)) (ja (jy (pv 1)) jb))))) (jd (jz 4 eB.nd (jy (pv 1))) (jd (jx (jC zc (jy (pv 4)) (ji (ja jm (ja jm jb))) Z) (jg (qQ (qd hr) (pv 3) (jy (jr jN (pv 2) jf (λ_ _=>Z))) (cF.e hr.m (ja (pv 4) jb)) Z)) jp) (jd (jz 5 eB.nd (kM (jC (BZ (qd hr)) (pv 4) (ji (ja jm (ja jf jb))) (aH _)) (jy (jr jN (pv 2) jf (λ_ _=>Z))) (jy (jr jN (pv 2) jf (λ_ _=>Z))))) (jg (jo (cE.e hr.m (ja (pv 0) (ja (pv 5) (ja (pv 3) jb))))))))))),?_]
 have b0:=aF
 obtain⟨a,ca,wv,cs,rfl,ha,hw,a0,a1⟩:=C.prt.parts
 have h0:=C.at'
 refine aj λF1 J=>#[_,Z,ju h0 eZ #[_,n,d,ys,c,Z,C.prt,C.cut,λka na wa dv w0 cu=>J _ _ ?_]]
 clear J
 refine aj λF1 J=>#[_,Z,ju h0 eZ (ju h0 iR #[_,n,hv,d,ys,c,is,Z,C.prt,C.cut,C.hat,C.hl,λD n0=>J _ _ ?_])]
 clear J
 have s1:ae H (ah H D (.dK (bh (canon c.M) is))):=je n0
 have d1:ah H D (.dK (bh (canon c.M) is)) D=some (.dK (bh (canon c.M) is)):=jc
 generalize ah H D (.dK (bh (canon c.M) is))=H1 at s1 d1
 have O:=C.mono (ae.tm s1)
 have g0:GT (bh (canon c.M) is):=Ke C.hin
 have z0:=Y1 (ns:=canon c.M) (is:=is)
 have z1:=Qv cu.v.mem
 have z2:=C.prt.y20
 generalize h7:bh (canon c.M) is=k0 at d1 g0 z0
 refine aj λF1 J=>#[_,Z,Y,_,_,_,Z,Z,ay.of O.at',jK (j:=2) Z,J _ _ ?_]
 clear J
 have o0:Gk nA d c is wh e wd=sg (dP nA d) (c7 wd.sets (pS e wh k0)) wd.goal:=by unfold Gk;rw[h7]
 rw[o0]at q
 have h1:=ze cu.ways
 rw[HZ]at h1
 have G:∃x,w0[wh.side]?=some x/\aN H (gQ (wd.wy nA)) x []:=by
  have hj:wh.side < w0.length:=by rw[h1];exact(List.getElem?_eq_some_iff.mp C.way).1
  obtain⟨tr,ht,tx⟩:=qG cu.ways wh.side _ (HW hj)
  rw[Ir,C.way]at ht
  cases ht
  exact#[_,HW hj,tx]
 obtain⟨wx,G,t0⟩:=G
 have h4:=cu.at'
 have h8:=cu.wat
 refine aj λF1 J=>?_
 have r0:∀(H3:Hp),H3 D=some (.dK (pS e wh k0))->aB D H1 H3->F1 [some (.ref a),some (.ref Y),some (.ref ka),some (.ref D),some L,none] H3:=by
  intro H3 h3 k3
  refine J _ _ ?_
  clear J
  have s3:ae H H3:=λc o x=>k3 c o (jk x n0) (s1 _ _ x)
  have l3:=vS (e:=e) (wh:=wh) (k:=k0)
  refine aj λF2 f2=>?_
  have f6:∀H4,ae H3 H4->F2 [some (.ref a),some (.ref Y),some (.ref ka),some (.ref D),some L,some wx] H4:=λH4 s4=>f2 _ _ (by
   have S:=s3.trans s4
   exact#[_,Z,_,Z,_,Z,.ref a,wx,D,d,ys,wd,_,Z,C.prt.mono (ae.tm S),t0.mono (ae.tm S),C.wdv.mono (ae.tm S),s4 _ _ h3,re C.fit g0,OG,λu R tu k=>q u R tu λc o x=>k c o (jk x n0) (S _ _ x)])
  clear f2
  have wk:=C.whv.mono (ae.tm s3)
  have eI:∀(H4:Hp) (j:Nat),ae H3 H4->w0[j]?=some wx->dR (fh K) (dR (fh K) (aW 2) (tC (.int 2))) (tC (.int (j:Int))) [some (.ref a),some (.ref Y),some (.ref ka),some (.ref D),some L,none] H4 λx H5=>F2 ([some (.ref a),some (.ref Y),some (.ref ka),some (.ref D),some L,none].set 5 (some x)) H5:=λH4 j s4 hj=>
   #[_,Z,ka,_,_,_,Z,Z,ay.of ((s3.trans s4) _ _ h4),jK (j:=2) Z,wa,_,_,_,Z,Z,ay.of ((s3.trans s4) _ _ h8),jK hj,f6 H4 s4]
  cases wh with
  |rd a' i |wr a' b=>
   obtain⟨p,rfl,B⟩:=wk
   exact#[_,Z,bM,λt N=>#[p,t,_,_,Z,Z,ay.of (je N _ _ B),ay.of jc,.inl #[Z,Z,_,Z,aV (by unfold rH;exact NG _) (eI _ 0 (je N) G)]]]
  |ask b=>
   obtain⟨p,rfl,B⟩:=wk
   have hb:b=0∨b=1:=by
    have:=C.fit
    cases e with
    |st p l=>cases l<;>exact this.elim
    |ask t T=>exact this
   rcases hb with rfl |rfl
   ·exact#[_,Z,bM,λt N=>#[p,t,_,_,Z,Z,ay.of (je N _ _ B),ay.of jc,.inl #[Z,Z,_,Z,cy OJ (eI _ 1 (je N) G)]]]
   ·exact#[_,Z,bM,λt N=>#[p,t,_,_,Z,Z,ay.of (je N _ _ B),ay.of jc,.inl #[Z,Z,_,Z,aV OJ (eI _ 0 (je N) G)]]]
  |cl f' i0 i=>
   obtain⟨p,c',g,e',rfl,B,h',_⟩:=wk
   exact#[_,Z,bM,λt N=>#[p,t,_,_,Z,Z,ay.of (je N _ _ B),ay.of jc,.inr #[_,c',_,_,_,Z,ay.of (je N _ _ h'),Z,_,Z,aV Z (eI _ 0 (je N) G)]]]
 have wk:=O.whv
 have dk:=O.dv
 have fk:=O.fit
 have h5:=s1 _ _ h4
 have d0:=cu.deed
 rw[<- C.ed]at d0
 have skip:∀(p:Addr) (W:Str) (r:List V),L= .ref p->H1 p=some (.tup (.str W::r))->ou (.str W) [.str "read",.str "call"]=false->pS e wh k0=k0->gF (i6 (dR (EB K false) (dR (fh K) (aW 4) (tC (.int 0))) (bV (am (tC (.str "read")) (am (tC (.str "call")) aK))))) (tJ (aW 3) (dR (fh K) (dR (fh K) (aW 2) (tC (.int 1))) (tC (.int 1))) (dQ eG [] E0 (am (aW 4) aK))) uU { nx:=F1,rt:=Q } [some (.ref a),some (.ref Y),some (.ref ka),some (.ref D),some L,none] H1:=by
  intro p W r I B e2 e3
  subst I
  refine nP λG1 k1 k2=>(ju B eZ #[bM,λt N=>#[t,_,Z,.inr (ay.of jc),Z,Z,_,Z,?_]])
  show G1 (ou (.str W) [.str "read",.str "call"]) _
  rw[e2]
  exact k2 _ (r0 _ (by rw[e3];exact ao d1 N) λc o _ x=>je N _ _ x)
 have p0:∀(p p':Addr) (W:Str) (r:List V) (i:Int) (x:Str) (y:V) (r':List V),L= .ref p->H1 p=some (.tup (.str W::r))->ou (.str W) [.str "read",.str "call"]=true->dv= .ref p'->H1 p'=some (.tup (y:: .str x::r'))->(∀R:Hp,ae H1 R->AE R L wh)->(∀(Q':VK) (R:Hp),Q' (.int i) R->rN Q' R wh)->pS e wh k0=a5 k0 (.inr x) (.int i)->gF (i6 (dR (EB K false) (dR (fh K) (aW 4) (tC (.int 0))) (bV (am (tC (.str "read")) (am (tC (.str "call")) aK))))) (tJ (aW 3) (dR (fh K) (dR (fh K) (aW 2) (tC (.int 1))) (tC (.int 1))) (dQ eG [] E0 (am (aW 4) aK))) uU { nx:=F1,rt:=Q } [some (.ref a),some (.ref Y),some (.ref ka),some (.ref D),some L,none] H1:=by
  intro p p' W r i x y r' I B e2 e4 X e5 e6 e3
  subst I
  subst e4
  refine nP λG1 k1 k2=>(ju B eZ #[bM,λt N=>#[t,_,Z,.inr (ay.of jc),Z,Z,_,Z,?_]])
  show G1 (ou (.str W) [.str "read",.str "call"]) _
  rw[e2]
  refine k1 _ #[_,Z,.ref p,wh,Z,e5 _ (je N),e6 _ _ ?_]
  exact#[_,Z,ju (je N _ _ h5) iR #[p',_,_,_,Z,Z,ay.of (je N _ _ X),iR,D,_,Z,.inl #[k0,.inr x,ao d1 N,Z,OG,Z],r0 _ (by rw[e3];exact jc) λc o nc z=>by rw[jh nc];exact je N _ _ z]]
 cases e with
 |ask t T=>
  cases wh with
  |ask b=>obtain⟨p,I,B⟩:=wk;exact skip p _ _ I B OJ Z
  |_=>exact fk.elim
 |st p' l=>
  obtain⟨vs,X,h6,_⟩:=dk
  have ed:dv= .ref p':=d0.1
  cases l with
  |rd x t T=>
   cases wh with
   |rd b i=>obtain⟨p,I,B⟩:=wk;obtain⟨rfl,_⟩:=h6;exact p0 p p' _ _ i x _ _ I B OJ ed X (λR s'=>#[p,I,s' _ _ B]) (λ_ _ h=>h) Z
   |_=>exact fk.elim
  |wr t u T U=>
   cases wh with
   |wr b i=>obtain⟨p,I,B⟩:=wk;exact skip p _ _ I B OJ Z
   |_=>exact fk.elim
  |cl x f' q' ts=>
   cases wh with
   |cl f2 i1 i=>obtain⟨p,c2,g2,e2,I,B,h2,h3⟩:=wk;obtain⟨rfl,_⟩:=h6;exact p0 p p' _ _ i x _ _ I B OJ ed X (λR s'=>#[p,c2,g2,e2,I,s' _ _ B,s' _ _ h2,s' _ _ h3]) (λ_ _ h=>h) Z
   |_=>exact fk.elim
  |st x t T |gv t T=>cases wh<;>exact fk.elim
noncomputable abbrev gX:Stmt:=bu 25
noncomputable abbrev lg:Stmt:=bu 26
noncomputable def DV(k:a8):DD->Tr
 | .st _ (.rd _ _ T)=>aE [aJ "read",aw (T.ev k)]
 | .st _ (.wr _ _ T U)=>aE [aJ "write",aw (T.ev k),aw (U.ev k)]
 | .st _ (.cl _ f _ t)=>aE [aJ "call",aJ f,aE (t.map λc=>aw (c.2.ev k))]
 | .ask _ T=>aE [aJ "ask",aw (if T.ev k=0 then 0 else 1)]
 |_=>.nil
inductive fV(g:Addr)(h:List V)(H:Hp)(Q:VK)(a:XK):Prop
 |mk(v:V)(n:Nat)(b:Addr)(d:Df)(j:List Str)(c:Ct)(f:List Int)(e:DD)(_:h=[v,.int (n:Int),.ref b])(_:mh H g d j v)(_:(bK g d)[n]?=some c)(_:H b=some (.tup (f.map V.int)))(_:f.length=(canon c.M).length)(_:∀i∈f,gp i)(_:e.dd=c.d)(_:yG H j e)(_:∀(u:V) (H':Hp),aN H' (DV (bh (canon c.M) f) e) u []->ae H H'->Q u H')
inductive gj(f:List V)(H:Hp)(Q:VK)(b:XK):Prop
 |mk(a d:Addr)(e:List (Addr×Tm))(g:List Str)(k:a8)(_:f=[.ref a,.ref d])(_:H a=some (.tup (e.map λc=>V.ref c.1)))(_:e.length<=6)(_:∀c∈e,ba H c.2 c.1/\dh g c.2)(_:H d=some (.dK k))(_:GT k)(_:∀(r:Addr) (H':Hp),H' r=some (.tup (e.map λc=>V.int (c.2.ev k)))->ae H H'->Q (.ref r) H')
theorem uC:ai ["terms","numbers"] ["terms","numbers"] (aa gX):=bp
noncomputable def Yy:Scope:=#[.function,[(".0",.local),("term",.local),("worth",.globalImplicit),("numbers",.free)],false,false,[]]
theorem wG:(["term","numbers"]:List Str).Nodup:=by decide+kernel
theorem vY:bG ["terms","numbers"] (aa gX) Yy ["term","numbers"] 1 [1]:=rj
theorem ZU(F:aI K "worths" "worths" gX f v)(C:Cl P w K mg base 7 U B z9z (cg K 6) "worth")(M:mg "tuple"=none):af P w K mg base aA 8 f v ["terms","numbers"] gj:=by
 refine F.ok uC ?_ λG A o s H R Q E I h=>?_
 ·rintro _ _ _ _ ⟨a,D,t,g,k,rfl,_⟩
  rfl
 obtain⟨a,D,t,g,k,rfl,p,W,b,J,L,q⟩:=h
 refine#[_,(jg (jo (jE jI Z M LM (ja (@zi _ _ _ _ _ _ _ (["term","numbers"]) (1) ([1]) _ _ _ _ Z (zJ (pv 0)) vY (λ_ _ _ _ _=>(jv (i:=0) wG Z (Or.inl Z))) (λ_ _ _ _ _=>(@zK _)) (λ_ _ _ _ _=>(C.e I.m (ja (pv 0) (ja (pv 1) jb)))) (by intro _;rfl)) jb)))),?_]
 have N:=aF
 refine#[_,Z,a,Z,#[_,ay.of p],?_]
 refine qv (K:=K) (xs:=t.map λc=>V.ref c.1) (by rw[HZ];omega) (λi z d=>z=(t.take i).map (λc=>V.int (c.2.ev k))/\d=H) #[Z,Z] (λi z d h=>?_) (λi x z d r h=>?_) (λz d h l O=>?_)
 ·obtain⟨rfl,rfl⟩:=h
  exact#[ay.of p,by rw[HZ,ID];omega]
 ·obtain⟨rfl,rfl⟩:=h
  rw[Ir]at r
  obtain⟨y,u,rfl⟩:=Option.map_eq_some_iff.mp r
  have Y:=IA u
  refine#[_,Z,_,Z,y.1,D,y.2,g,k,Z,.inl (b y Y).1,(b y Y).2.2,(b y Y).2.1,J,L,?_,Z]
  rw[LB,u,IJ]
  rfl
 ·obtain⟨rfl,rfl⟩:=h
  rw[HZ,Lj]
  exact#[l,_,Z,.inl #[aG.of jc,λT n=>q T _ jc ((je O).trans (je n))]]
theorem fq:ai ["part","n","held","numbers","deed","word"] z12z (aa lg):=bp
theorem ZV(F:aI K "deed_at" "deed_at" lg f fd)(cH:Cl P w K mg base 2 fH f0 z12z (iD nA) "held_at")(cC:Cl P w K mg base 1 fC f2 ["part","n"] (iy nA) "cut_at")(cW:Cl P w K mg base 7 fW f3 z9z (cg K 6) "worth")(cS:Cl P w K mg base 8 fS f4 ["terms","numbers"] gj "worths"):af P w K mg base aA 9 f fd z12z (fV nA):=by
 refine F.ok fq ?_ λc0 A o0 s H vs Q E L h=>?_
 ·rintro _ _ _ _ ⟨v,n,hv,d,Y,c,is,e,rfl,_⟩
  rfl
 obtain⟨v,n,hv,d,Y,c,is,e,rfl,hp,hc,hh,hl,h0,h1,h2,q⟩:=h
 refine#[_,(jd (jz 3 fq.nd (cH.e L.m (ja (pv 0) (ja (pv 1) (ja (pv 2) jb))))) (jd (jz 4 fq.nd (jr jN (cC.e L.m (ja (pv 0) (ja (pv 1) jb))) jf (λ_ _=>Z))) (jd (jz 5 fq.nd (jy (pv 4))) (jd (jx (kh (pv 5)) (jg (jo (ji (ja (pv 5) (ja (kM (jC qw (cW.e L.m (ja (jy (pv 4)) (ja (pv 3) jb))) jf (aH _)) jf jf) jb))))) jp) (jd (jx (kh (pv 5)) (jg (jo (ji (ja (pv 5) (ja (jy (pv 4)) (ja (cS.e L.m (ja (jy (pv 4)) (ja (pv 3) jb))) jb)))))) jp) (jd (jx (kh (pv 5)) (jg (jo (ji (ja (pv 5) (ja (cW.e L.m (ja (jy (pv 4)) (ja (pv 3) jb))) jb))))) jp) (jg (jo (jw j7 (ji (ja (pv 5) jb)) (cS.e L.m (ja (jH kc (pv 4) (jF jf) jR) (ja (pv 3) jb)))))))))))),?_]
 have b0:=aF
 obtain⟨a,ca,p0,cs,rfl,ha,_,h7,h8⟩:=hp.parts
 refine aj λi b=>#[_,Z,_,Z,_,Z,.ref a,n,hv,d,Y,c,is,Z,hp,hc,hh,hl,λC n0=>b _ _ ?_]
 clear b
 have S:ae H (ah H C (.dK (bh (canon c.M) is))):=je n0
 have O:ah H C (.dK (bh (canon c.M) is)) C=some (.dK (bh (canon c.M) is)):=jc
 show dC _ _ _ _ (ah H C (.dK (bh (canon c.M) is)))
 generalize ah H C (.dK (bh (canon c.M) is))=H1 at S O
 have V:GT (bh (canon c.M) is):=Ke h0
 generalize bh (canon c.M) is=k at O V q
 have dk:=h2.mono (ae.tm S)
 refine aj λi b=>#[_,Z,_,Z,.ref a,n,d,Y,c,Z,hp.mono (ae.tm S),hc,λka na wa dv w0 cu=>#[ka,_,_,_,Z,Z,ay.of cu.at',iR,b _ _ ?_]]
 clear b
 have D:=cu.deed
 rw[<- h1]at D
 cases e with
 |ask t T=>
  obtain⟨_,p,xs,rfl,g,_,_,y0,z0,rfl,⟨rfl,_⟩,_,_,y1,z1,rfl,⟨rfl,_⟩,e⟩:=D
  have e:z1=[]:=e
  subst e
  refine aj λi b=>(ju g eZ (b _ _ ?_))
  clear b
  refine aj λi b=>#[_,Z,Z,_,Z,cy OJ #[_,Z,ju g iR #[_,Z,t,C,T,Y,k,Z,.inl dk.1,dk.2.2,dk.2.1,O,V,Z,_,Z,?_]]]
  by_cases z:T.ev k=0
  ·refine cy (by rw[z];decide+kernel) #[bM,λr G=>q _ _ (jD jc (jl Z jT (jl Z #[?_,Z] jB))) (S.trans (je G))]
   rw[Io z]
  ·refine aV (by rw[Im];intro e;injection e with e;exact z e) #[bM,λr G=>q _ _ (jD jc (jl Z jT (jl Z #[?_,Z] jB))) (S.trans (je G))]
   rw[Iu z]
 |st p l=>
  have ed:dv= .ref p:=D.1
  subst ed
  obtain⟨vs,g,I,B,h3⟩:=dk
  cases l with
  |rd x t T=>
   obtain⟨rfl,ht⟩:=I
   refine aj λi b=>(ju g eZ (b _ _ ?_))
   clear b
   refine aj λi b=>#[_,Z,Z,_,Z,aV OJ (b _ _ ?_)]
   clear b
   refine aj λi b=>#[_,Z,Z,_,Z,aV OJ (b _ _ ?_)]
   clear b
   refine aj λi b=>#[_,Z,Z,_,Z,cy OJ #[_,Z,_,Z,p,_,_,_,Z,Z,ay.of g,jK (j:=2) Z,_,Z,t,C,T,Y,k,Z,.inl ht,B.2.2,B.2.1,O,V,bM,λr G=>?_]]
   exact q _ _ (jD jc (jl Z jT (jl Z jU jB))) (S.trans (je G))
  |wr t u T U=>
   obtain⟨rfl,ht,hu⟩:=I
   refine aj λi b=>(ju g eZ (b _ _ ?_))
   clear b
   refine aj λi b=>#[_,Z,Z,_,Z,aV OJ (b _ _ ?_)]
   clear b
   refine aj λi b=>#[_,Z,Z,_,Z,aV OJ (b _ _ ?_)]
   clear b
   refine aj λi b=>#[_,Z,Z,_,Z,aV OJ (b _ _ ?_)]
   clear b
   refine#[_,Z,lY,λr1 N=>#[_,Z,1,Z,p,_,Z,je N _ _ g,λr2 H2 J R=>#[_,Z,r2,C,[(t,T),(u,U)],Y,k,Z,J,(by show 2<=6;decide),?_,R _ _ (je N _ _ O),V,λr3 H3 h4 s3=>#[r1,r3,_,_,Z,Z,s3 _ _ (R _ _ jc),h4,gE,λr4 H4 h5 s4=>?_]]]]
   ·intro y W
    have X:=(je (o:=.tup [.str "write"]) N).trans R
    simp only[Md,IL,M5]at W
    rcases W with rfl |rfl
    ·exact#[ht.same X,B.1]
    ·exact#[hu.same X,B.2]
   ·exact q _ _ (jD h5 (jl Z jT (jl Z jU (jl Z jU jB)))) (S.trans ((je N).trans (R.trans (s3.trans s4))))
  |cl x f' qa ts=>
   obtain⟨rfl,hq,h6⟩:=I
   refine aj λi b=>(ju g eZ (b _ _ ?_))
   clear b
   refine aj λi b=>#[_,Z,Z,_,Z,aV OJ (b _ _ ?_)]
   clear b
   have l6:ts.length<=6:=B.2.1
   refine aj λi b=>#[_,Z,Z,_,Z,cy OJ #[_,Z,_,Z,p,_,_,_,Z,Z,ay.of g,jK (j:=2) Z,_,Z,p,_,_,_,Z,Z,ay.of g,jK (j:=3) Z,_,Z,qa,C,ts,Y,k,Z,hq,l6,λy W=>#[h6 y W,B.2.2 y W],O,V,λr2 H2 J R=>#[gE,λr G=>?_]]]
   refine q _ _ (jD jc (jl Z jT (jl Z jT (jl Z (jD (ao J G) ?_) jB)))) (S.trans (R.trans (je G)))
   have:=JP (H:=ah H2 r (.tup [.str "call",.str f',.ref r2])) (is:=ts.map λc=>c.2.ev k)
   rw[Mu,Mu]at this
   exact this
  |st x t T |gv t T=>cases h3
noncomputable abbrev lD:Stmt:=bu 17
noncomputable abbrev nR:Stmt:=bu 18
noncomputable abbrev lh:Stmt:=bu 19
noncomputable abbrev tY:Stmt:=bg (bu 20) 0
noncomputable abbrev nY:Stmt:=bg (bu 20) 1
noncomputable abbrev ua:Stmt:=bg (bu 20) 2
noncomputable abbrev lG:Stmt:=bu 22
def Dl(H:Hp)(x:V)(g:Str):Prop:=∃p r,x= .ref p/\H p=some (.tup (.str g::r))
inductive lT(c:List V)(H:Hp)(Q:VK)(b:XK):Prop
 |mk(a:Addr)(f:Str)(d:List V)(i:Nat)(v:V)(_:c=[.ref a,.str f])(_:H a=some (.tup d))(_:d[i]?=some v)(_:Dl H v f)(_:∀j x,j < i->d[j]?=some x->∃g,Dl H x g/\g≠f)(_:Q v H)
inductive gZ(e:List V)(H:Hp)(Q:VK)(b:XK):Prop
 |mk(a g:Addr)(f:Str)(h k:List V)(i:Nat)(v:V)(p c:Addr)(r d:List V)(_:e=[.ref a,.str f,.ref g])(_:H a=some (.tup h))(_:h[i]?=some v)(_:v= .ref p)(_:H p=some (.tup (.str f:: .ref c::r)))(_:H c=some (.tup d))(_:H g=some (.tup k))(_:k.length=d.length)(_:∀j x,j < i->h[j]?=some x->∃g,Dl H x g/\g≠f)(_:Q v H)
noncomputable def hX(c l p:Addr)(m:Int)(t:Nat):List (Str×V):=[("cells",.ref c),("most",.int m),("left",.ref l),("turns",.int (t:Int)),("parts",.ref p)]
structure Rn(H:Hp)(C r dx cA lA pA:Addr)(m:Int)(t:Nat)(L Cs:a8):Prop where
 ins:H r=some (.ins C dx (hX cA lA pA m t))
 lf:H lA=some (.dK L)
 ce:H cA=some (.dK Cs)
 iL:GT L
 iC:GT Cs
 cl:cA≠lA
structure RK(K:Frag)(C:Addr):Prop where
 cl:pF K C
 n1:aX K C "cells"
 n2:aX K C "most"
 n3:aX K C "left"
 n4:aX K C "turns"
 n5:aX K C "parts"
inductive gf(C:Addr)(h:List V)(H:Hp)(Q:VK)(a:XK):Prop
 |mk(r e d f g:Addr)(m c:Int)(t:Nat)(L b:a8)(_:h=[.ref r,.int c])(_:Rn H C r e d f g m t L b)(_:Q (.int (look L (.inl c) (look b (.inl c) 0))) H)
inductive lX(C:Addr)(d:List V)(H:Hp)(Q:VK)(a:XK):Prop
 |mk(r c b:Addr)(m:Int)(_:d=[.ref r,.ref b,.int m])(_:H r=some (.ins C c []))(_:∀lA,H lA=none->Q .non (ah (ah H lA (.dK [])) r (.ins C c [("cells",.ref b),("most",.int m),("left",.ref lA),("turns",.int 0)])))
structure XM(K:Frag)(mg:Str->Option Value)(x:Str)(L:Addr):Prop where
 ex:excIn K L pH "ValueError.__new__"=true
 kp:keepIn K (.ref L)=true
 xc:p8 K L
 ty:typeIn K (.ref L)=some (.type "type")
 m:mg x=some (.ref L)
def NX(o:HO):Prop:=∀a,o≠ .ext a
def Kp(H h:Hp):Prop:=∀b o,NX o->H b=some o->h b=some o
theorem Kp.of_same(s:ae H h):Kp H h:=λb o _ e=>s _ _ e
theorem Kp.trans(a:Kp H h)(b:Kp h d):Kp H d:=λc o n e=>b c o n (a c o n e)
def oA(E:XK):XK:=λC d H=>∀x T t c,C= .ref c->H x=some (gN c d T x)->H T=some (gq T)->H t=none->E (.ref c) d (ah (ah H t (gq t)) x (gN c d t x))
theorem zS{P:Program}{w:World}{K:Frag}{mg:Str->Option Value}{base:Heap}:cV (eX P w) (fe (eX P w) P w K mg base N q s f g A o a H E) (oA E):=
 xw λx C d T t i b c e h=>h x T t C Z b c e
theorem JQ{H h:Hp}(e:h b=some o)(n:NX o)(a:h x=some (gN C d T x))(c:h t=none):ah (ah h t (gq t)) x (gN C d t x) b=some o:=by
 have N:b≠x:=λz=>by
  rw[z,a]at e
  injection e with e
  exact n _ e.symm
 rw[jh N,jh (jk e c)]
 exact e
def Fl(E:XK)(L:Addr)(R:Hp->Prop):Prop:=∀(_:Unit) H,R H->E (.ref L) none H
inductive iH(C L:Addr)(e:List V)(H:Hp)(Q:VK)(E:XK):Prop
 |mk(r b a c d:Addr)(m:Int)(t:Nat)(_:e=[.ref r])(_:H r=some (.ins C b (hX a c d m t)))(_:(t:Int) < m->Q .non (ah H r (.ins C b (hX a c d m (t+1)))))(_:m<=(t:Int)->Fl E L (Kp H))
inductive eF(D:Addr)(a:List V)(H:Hp)(Q:VK)(E:XK):Prop
 |mk(d:Int)(_:a=[.int d])(_:d < 15->Q (.int (d+1)) H)(_:15<=d->Fl E D (Kp H))
theorem Xq{H:Hp}(a:H x=none)(N:ah H x (yI L none x) T=none):ae H (ah (ah (ah H x (yI L none x)) T (gq T)) x (gN L d T x)):=by
 intro b o e
 have n:b≠x:=jk e a
 rw[jh n,jh (λz=>by rw[<- z,jh n,e]at N;cases N),jh n]
 exact e
theorem mG:ai ["ones","f","one"] ["ones","f"] (aa lD):=bp
theorem ZW(F:aI K "named" "named" lD f D):af P w K mg base aA 1 f D ["ones","f"] lT:=by
 refine F.ok mG ?_ λG A o s H W Q E X h=>?_
 ·rintro _ _ _ _ ⟨a,f,xs,i,v,rfl,_⟩
  rfl
 obtain⟨a,f,xs,i,v,rfl,t,u,L,d,q⟩:=h
 refine#[_,(jd (jX IK Z (zJ (pv 0)) (jv (i:=2) mG.nd Z (Or.inl Z)) (jg (jx (jC qw (jy (pv 2)) (pv 1) (aH _)) (jg (jo (pv 2))) jp))) (@tw _ _)),?_]
 have M:i < xs.length:=(List.getElem?_eq_some_iff.mp u).1
 refine aj λY f1=>dq λJ j=>#[_,Z,a,Z,#[_,ay.of t],j _ _ ?_]
 clear j
 refine qj (K:=K) (xs:=xs) (λk c e=>(∃O,c=[some (.ref a),some (.str f),O])/\e=H/\k<=i) #[#[_,Z],Z,Il _] (λk c e _ h=>by rw[h.2.1];exact ay.of t) ?_ (λc e h=>?_)
 ·intro l R k x c H2 m N I b h
  obtain⟨⟨O,rfl⟩,rfl,y⟩:=h
  refine b ?_
  clear b
  by_cases S:k=i
  ·subst S
   rw[u]at m
   cases m
   obtain⟨p,r,rfl,n⟩:=id L
   show gF _ _ _ l _ _
   refine nP λT B C=>(ju n eZ #[_,Z,Z,_,Z,?_])
   rw[IB (Z:V.str f=V.str f)]
   refine B _ ?_
   show gn _ l _ _
   unfold gn
   rw[R]
   exact#[_,Z,q]
  ·obtain⟨g,⟨p,r,rfl,n⟩,U⟩:=d k x OG m
   show gF _ _ _ l _ _
   refine nP λT B C=>(ju n eZ #[_,Z,Z,_,Z,?_])
   rw[Im (λz=>U (by injection z))]
   exact C _ (N _ _ #[#[_,Z],Z,OG])
 ·obtain⟨_,_,y⟩:=h
  exact absurd y OG
theorem uu:ai ["parts","f"] ["parts","f"] (aa lG):=bp
theorem ZX(F:aI K "part_of" "part_of" lG f c)(C:Cl P w K mg base 1 r d ["ones","f"] lT "named"):af P w K mg base aA 2 f c ["parts","f"] lT:=by
 refine F.ok uu ?_ λg A o s H V Q E j h=>?_
 ·rintro _ _ _ _ ⟨a,f,x,i,v,rfl,_⟩
  rfl
 obtain⟨a,f,x,i,v,rfl,l,n,p,b,q⟩:=h
 refine#[_,(jg (jo (C.e j.m (ja (pv 0) (ja (pv 1) jb))))),?_]
 exact#[_,Z,_,Z,a,f,x,i,v,Z,l,n,p,b,q]
theorem oK:ai ["ones","f","args","one"] ["ones","f","args"] (aa nR):=bp
theorem sD(F:aI K "begun" "begun" nR f j)(C:Cl P w K mg base 1 N l ["ones","f"] lT "named")(M:mg "len"=none):af P w K mg base aA 2 f j ["ones","f","args"] gZ:=by
 refine F.ok oK ?_ λn A o s H V Q E t h=>?_
 ·rintro _ _ _ _ ⟨a,g,f,x,y,i,v,p,c,r,u,rfl,_⟩
  rfl
 obtain⟨a,g,f,x,y,i,v,p,c,r,u,rfl,z,B,rfl,d,D,G,I,J,q⟩:=h
 refine#[_,(jd (jz 3 oK.nd (C.e t.m (ja (pv 0) (ja (pv 1) jb)))) (jd (jx (jC YB (jS jL Z M Ld (ja (pv 2) jb)) (jS jL Z M Ld (ja (jy (pv 3)) jb)) (aH _)) (@tw _ _) jp) (jg (jo (pv 3))))),?_]
 refine aj λL b=>#[_,Z,_,Z,a,f,x,i,.ref p,Z,z,B,#[p,_,Z,d],J,b _ _ ?_]
 clear b
 refine aj λL b=>#[_,Z,g,_,Z,.inr (ay.of G),ju d iR #[c,_,Z,.inr (ay.of D),Z,_,Z,aV (by rw[I];simp) (b _ _ #[_,Z,q])]]
theorem uh:ai ["deep"] ["deep"] (aa lh):=bp
theorem ZY(F:aI K "deeper" "deeper" lh f a)(M:mg "DEEPEST"=some (.int 15 t))(X:XM K mg "TooDeep" D):af P w K mg base (eX P w) 1 f a ["deep"] (eF D):=by
 refine F.ok1 uh ?_ λC A o s H V Q E g h=>?_
 ·rintro _ _ _ _ ⟨d,rfl,_⟩
  rfl
 obtain⟨d,rfl,q,e⟩:=h
 refine#[_,(jd (jx (jC Z1 (pv 0) (qN (v:=.int 15) Z M #[t,Z]) (aH _)) (jg (@Xe _ _ _ _ _ Z Qn (@Qk _ _ _ _ _ X.ex X.kp Z X.m OF))) jp) (jg (jo (jw jY (pv 0) jf)))),?_]
 refine aj λi b=>#[_,Z,_,_,Z,Z,_,Z,?_]
 by_cases c:(15:Int)<=d
 ·refine cy (IB c) λx n=>?_
  exact#[x,D,none,Z,jc,X.xc,X.ty,λT N=>e c () _ (Kp.of_same (Xq n N))]
 ·exact aV (Im c) (b _ _ #[_,Z,_,_,Z,Z,q OG])
theorem CY:ai z22z z22z (aa tY):=bp
theorem xj(F:aI K "__init__" "Turns.__init__" tY f v)(c:RK K C):af P w K mg base aA 1 f v z22z (lX C):=by
 refine F.ok CY ?_ λx A o s H V Q E B h=>?_
 ·rintro _ _ _ _ ⟨r,D,y,m,rfl,_⟩
  rfl
 obtain⟨r,D,y,m,rfl,g,q⟩:=h
 refine#[_,(jd (@zp _ _ _ _ _ _ _ _ (pv 0) (pv 1) Z) (jd (@zp _ _ _ _ _ _ _ _ (pv 0) (pv 2) Z) (jd (@zp _ _ _ _ _ _ _ _ (pv 0) Xd Z) (jg (@zp _ _ _ _ _ _ _ _ (pv 0) jf Z))))),?_]
 refine aj λj a=>#[_,Z,_,Z,r,C,D,_,Z,g,c.cl,c.n1,OF,a _ _ ?_]
 clear a
 refine aj λj a=>#[_,Z,_,Z,r,C,D,_,Z,jc,c.cl,c.n2,(by show 1 < 1000;decide),a _ _ ?_]
 clear a
 refine aj λj a=>λl n=>#[_,Z,r,C,D,_,Z,ao jc n,c.cl,c.n3,(by show 2 < 1000;decide),a _ _ ?_]
 clear a
 refine#[_,Z,r,C,D,_,Z,jc,c.cl,c.n4,(by show 3 < 1000;decide),?_]
 have N:l≠r:=λe=>by rw[e,jc]at n;cases n
 have z:H l=none:=by rw[jh N,jh N]at n;exact n
 have e:∀p t u O:HO,ah (ah (ah (ah (ah H r p) r t) l (.dK [])) r u) r O=ah (ah H l (.dK [])) r O:=λp t u O=>by
  funext b
  by_cases d:b=r
  ·rw[d,jc,jc]
  ·rw[jh d,jh d,jh d]
   by_cases i:b=l
   ·rw[i,jc,jc]
   ·rw[jh i,jh d,jh d,jh i]
 rw[e]
 exact q l z
theorem yd:ai ["self"] ["self"] (aa nY):=bp
theorem sN(F:aI K "take_turn" "Turns.take_turn" nY f g)(b:RK K C)(X:XM K mg "TooLong" L):af P w K mg base (eX P w) 1 f g ["self"] (iH C L):=by
 refine F.ok1 yd ?_ λi A o s H v Q E y h=>?_
 ·rintro _ _ _ _ ⟨r,d,j,l,p,m,t,rfl,_⟩
  rfl
 obtain⟨r,d,j,l,p,m,t,rfl,a,q,e⟩:=h
 refine#[_,(jd (jx (jC Z1 (j5 (pv 0) Z) (j5 (pv 0) Z) (aH _)) (jg (@Xe _ _ _ _ _ Z Qn (@Qk _ _ _ _ _ X.ex X.kp Z X.m OF))) jp) (jg (@Zn _ _ _ _ _ _ _ _ _ _ (pv 0) jf A5))),?_]
 refine aj λz n=>#[_,Z,r,C,d,_,_,Z,a,b.cl,b.n4,Z,_,Z,r,C,d,_,_,Z,a,b.cl,b.n2,Z,_,_,Z,Z,_,Z,?_]
 by_cases c:m<=(t:Int)
 ·refine cy (IB c) λx N=>?_
  exact#[x,L,none,Z,jc,X.xc,X.ty,λT u=>e c () _ (Kp.of_same (Xq N u))]
 ·exact aV (Im c) (n _ _ #[_,Z,r,C,d,_,_,Z,a,b.cl,b.n4,Z,_,_,Z,Z,d,_,a,(by show 5 < 1000;decide),q OG])
theorem CZ:ai ["self","cell"] ["self","cell"] (aa ua):=bp
theorem xo(F:aI K "number_in" "Turns.number_in" ua f p)(b:RK K C):af P w K mg base aA 1 f p ["self","cell"] (gf C):=by
 refine F.ok CZ ?_ λu A o s H V Q E g h=>?_
 ·rintro _ _ _ _ ⟨r,d,i,l,x,m,c,t,L,j,rfl,_⟩
  rfl
 obtain⟨r,d,i,l,x,m,c,t,L,j,rfl,a,q⟩:=h
 refine#[_,(jg (jo (kM (J5 (@Cd _ _ _ _ _ (qd g) (pv 1) (j5 (pv 0) Z))) (xA (qd g) (j5 (pv 0) Z) (pv 1) (λ_ _=>Z)) (@Ki _ _ _ _ _ _ _ _ _ (qd g) (j5 (pv 0) Z) (pv 1) jf #[OK,OK,OK,OK])))),?_]
 refine#[_,Z,_,Z,r,C,d,_,_,Z,a.ins,b.cl,b.n3,Z,l,_,Z,fb.k (k:=.inl c) a.lf,_,Z,?_]
 cases e:bX L (.inl c) with
 |some v=>
  refine cy Z #[_,Z,r,C,d,_,_,Z,a.ins,b.cl,b.n3,Z,_,Z,l,v,Z,by rw[<- e];exact fb.k (k:=.inl c) a.lf,?_]
  rw[ZO a.iL e (look j (.inl c) 0)]
  exact q
 |none=>
  refine aV Z #[_,Z,r,C,d,_,_,Z,a.ins,b.cl,b.n1,Z,i,Z,.inl #[_,.inl a.ce],_,Z,_,fb.k (k:=.inl c) a.ce,?_]
  rw[Kj a.iC]
  rw[ZP e]at q
  exact q
noncomputable abbrev tH:Stmt:=bg (bu 55) 0
noncomputable abbrev xO:Stmt:=bg (bu 55) 1
noncomputable abbrev xP:Stmt:=bg (bu 55) 2
noncomputable abbrev CQ:Stmt:=bu 56
inductive Sk where
 |nil |st (n:Int) (hs:List Int) (w r:Sk) |ask (b:Int) |rd (c i:Int) |wr (c i:Int) |cl (f:Str) (is:List Int) (s:Sk) (a:Int)
noncomputable def Sk.dep:Sk->Nat
 | .st _ _ w r=>max w.dep r.dep
 | .cl _ _ s _=>s.dep+1
 |_=>0
noncomputable def Sk.size:Sk->Nat
 | .st _ _ w r=>w.size+r.size+1
 | .cl _ _ s _=>s.size
 |_=>0
def Sk.ok:Bool->Sk->Prop
 |true,.nil=>True
 |true,.st _ _ w r=>w.ok false/\r.ok true
 |false,.cl _ _ s _=>s.ok true
 |false,.ask _=>True
 |false,.rd _ _=>True
 |false,.wr _ _=>True
 |_,_=>False
def dH(H:Hp):Sk->V->List V->Prop
 | .nil,_,x=>x=[]
 | .st n d w r,_,x=>∃p h u y,x= .ref p::y/\H p=some (.tup [.int n,.ref h,u])/\H h=some (.tup (d.map V.int))/\dH H w u []/\dH H r .non y
 | .ask b,u,_=>∃p,u= .ref p/\H p=some (.tup [.str "ask",.int b])
 | .rd c i,u,_=>∃p,u= .ref p/\H p=some (.tup [.str "read",.int c,.int i])
 | .wr c i,u,_=>∃p,u= .ref p/\H p=some (.tup [.str "write",.int c,.int i])
 | .cl f I s a,u,_=>∃p c g e S,u= .ref p/\H p=some (.tup [.str "call",.ref c])/\H c=some (.tup [.str f,.ref g,.ref e,.int a])/\H g=some (.tup (I.map V.int))/\H e=some (.tup S)/\dH H s .non S
theorem dH.mono(k:al H i):∀{s:Sk} {u:V} {x:List V},dH H s u x->dH i s u x
 | .nil,_,_,h=>h
 | .st _ _ _ _,_,_,z=>by obtain⟨p,h,u,y,e,a,b,d,f⟩:=z;exact #[p,h,u,y,e,k _ _ a,k _ _ b,dH.mono k d,dH.mono k f]
 | .ask _,_,_,z=>by obtain⟨p,e,h⟩:=z;exact #[p,e,k _ _ h]
 | .rd _ _,_,_,z=>by obtain⟨p,e,h⟩:=z;exact #[p,e,k _ _ h]
 | .wr _ _,_,_,z=>by obtain⟨p,e,h⟩:=z;exact #[p,e,k _ _ h]
 | .cl _ _ _ _,_,_,z=>by obtain⟨p,c,g,e,S,E,a,b,d,f,j⟩:=z;exact #[p,c,g,e,S,E,k _ _ a,k _ _ b,k _ _ d,k _ _ f,dH.mono k j]
noncomputable def Sk.put(n:Int)(h:List Int)(W:Sk):Sk->Sk
 | .st a b c r=>.st a b c (Sk.put n h W r)
 |_=>.st n h W .nil
theorem Ag{H:Hp}{n:Int}{a:List Int}{w:Sk}{p h:Addr}{u:V}(b:H p=some (.tup [.int n,.ref h,u]))(c:H h=some (.tup (a.map V.int)))(d:dH H w u []):∀{s:Sk} {x:List V},s.ok true->dH H s .non x->dH H (Sk.put n a w s) .non (x++[.ref p])
 | .nil,_,_,e=>by have e:_=[]:=e;rw[e];exact#[p,h,u,[],Z,b,c,d,Z]
 | .st _ _ _ r,_,o,z=>by obtain⟨f,g,U,y,e,i,j,k,l⟩:=z;rw[e];exact#[f,g,U,y++[.ref p],Z,i,j,k,Ag b c d o.2 l]
theorem Y4{w:Sk}(h:w.ok false):∀{s:Sk},s.ok true->(Sk.put n H w s).ok true
 | .nil,_=>#[h,IG]
 | .st _ _ _ _,o=>#[o.1,Y4 h o.2]
theorem Xr{n:Int}{hs:List Int}{w:Sk}:∀{s:Sk},s.ok true->(Sk.put n hs w s).size=s.size+(w.size+1)
 | .nil,_=>by show w.size+0+1=0+(w.size+1);omega
 | .st _ _ c r,o=>by have:=Xr (n:=n) (hs:=hs) (w:=w) (s:=r) o.2;show c.size+(Sk.put n hs w r).size+1=c.size+r.size+1+(w.size+1);omega
theorem Y5{n:Int}{hs:List Int}{w:Sk}{j:Nat}(H:w.dep<=j):∀{s:Sk},s.ok true->s.dep<=j->(Sk.put n hs w s).dep<=j
 | .nil,_,_=>by show max w.dep 0<=j;omega
 | .st _ _ c r,o,h=>by have h:max c.dep r.dep<=j:=h;have:=Y5 (n:=n) (hs:=hs) H (s:=r) o.2 OG;show max c.dep (Sk.put n hs w r).dep<=j;omega
theorem Jl:∀{s:Sk} {x:List V},s.ok true->dH H s .non x->x.length<=s.size
 | .nil,_,_,e=>by have e:_=[]:=e;rw[e];exact Ib 0
 | .st _ _ w r,_,o,z=>by obtain⟨_,_,_,y,e,_,_,_,h⟩:=z;have:=Jl o.2 h;rw[e];show y.length+1<=w.size+r.size+1;omega
def nD(H:Hp)(f:Str)(i:List Int)(s:Sk)(a:Int)(u:V):Prop:=∃c g e S,u= .ref c/\H c=some (.tup [.str f,.ref g,.ref e,.int a])/\H g=some (.tup (i.map V.int))/\H e=some (.tup S)/\dH H s .non S
noncomputable def Sk.wh:Sk->Wh
 | .ask b=>.ask b
 | .rd c i=>.rd c i
 | .wr c i=>.wr c i
 | .cl f I _ a=>.cl f I a
 |_=>.ask 0
theorem GX{s:Sk}(o:s.ok false)(h:dH H s u []):AE H u s.wh:=by
 cases s with
 |nil |st=>exact o.elim
 |ask b |rd c i |wr c i=>exact h
 |cl f I s a=>obtain⟨p,c,g,e,S,E,d,j,k,_⟩:=h;exact#[p,c,g,.ref e,E,d,j,k]
inductive Gd where
 |give (a:Int) |go (n:Nat) (hs:List Int)
noncomputable def i8(N:Nat->List Str)(k:a8):Gl->Gd
 | .give _ T=>.give (T.ev k)
 | .nought=>.give 0
 | .go n=>.go n ((N n).map λx=>look k (.inr x) 0)
structure Dw where
 nm:List Str
 e:DD
 ws:List WD
structure dU where
 f:Str
 ps:List Str
 way:WD
 cs:List Dw
structure Dx(H:Hp)(ys:List Str)(nA:Addr)(d:Df)(c:Ct)(cd:Dw):Prop where
 nm:cd.nm=canon c.M
 ed:cd.e.dd=c.d
 dv:yG H ys cd.e
 cs:cd.e.Cs d.b.calls
 len:cd.ws.length=c.ws.length
 ws:∀(j:Nat) (w:Wy) (wd:WD),c.ws[j]?=some w->cd.ws[j]?=some wd->wd.wy nA=w/\vw H ys d.b.cuts d.b.size wd
structure vN(H:Hp)(nA:Addr)(d:Df)(ys:List Str)(pd:dU):Prop where
 f:pd.f=d.f
 ps:H d.pa=some (.tup (pd.ps.map V.str))
 wy:pd.way.wy nA=(gK nA d).1.w
 wv:vw H ys d.b.cuts d.b.size pd.way
 len:pd.cs.length=(bK nA d).length
 cs:∀(n:Nat) (c:Ct) (cd:Dw),(bK nA d)[n]?=some c->pd.cs[n]?=some cd->Dx H ys nA d c cd
theorem Dx.mono(k:al H f)(h:Dx H y n d c C):Dx f y n d c C:=#[h.nm,h.ed,h.dv.mono k,h.cs,h.len,λj w W a b=>let #[e,v]:=h.ws j w W a b;#[e,v.mono k]]
theorem vN.mono(k:al H e)(h:vN H N d y p):vN e N d y p:=#[h.f,k _ _ h.ps,h.wy,h.wv.mono k,h.len,λn c C a b=>(h.cs n c C a b).mono k]
theorem vU{c d:Type}{R:c->d->Prop}:∀(l:List c),(∀a∈l,∃b,R a b)->∃m:List d,m.length=l.length/\∀(i:Nat) (a:c) (b:d),l[i]?=some a->m[i]?=some b->R a b
 | [],_=>#[[],Z,λi a b h=>by simp at h]
 |a::l,h=>by
  obtain⟨b,g⟩:=h a Iz
  obtain⟨m,e,j⟩:=vU l λx k=>h x (II _ k)
  refine#[b::m,by rw[IH,IH,e],λi x y H f=>?_]
  cases i with
  |zero=>cases H;cases f;exact g
  |succ i=>exact j i x y (by simpa using H) (by simpa using f)
noncomputable def vA(p:dU)(n:Nat):List Str:=match p.cs[n]? with
 |some c=>c.nm
 |none=>[]
theorem vN.nms(h:vN H N d y p):dP N d=vA p:=by
 funext n
 unfold dP vA
 by_cases a:n < p.cs.length
 ·have b:n < (bK N d).length:=by rw[<- h.len];exact a
  rw[HW a,HW b]
  exact(h.cs n _ _ (HW b) (HW a)).nm.symm
 ·rw[Ll (Nj a),Ll (by rw[<- h.len];exact Nj a)]
inductive OW where
 |ok (w:Sk) (L:a8) (t:Nat) |long |deep
inductive OC where
 |ok (s:Sk) (a:Int) (L:a8) (t:Nat) |long |deep
noncomputable def OC.cons(n:Int)(h:List Int)(w:Sk):OC->OC
 | .ok s a L t=>.ok (.st n h w s) a L t
 | .long=>.long
 | .deep=>.deep
noncomputable def Sk.app:Sk->Sk->Sk
 | .st n h w r,s=>.st n h w (r.app s)
 |_,s=>s
noncomputable def OC.pre(S:Sk):OC->OC
 | .ok s a L t=>.ok (S.app s) a L t
 | .long=>.long
 | .deep=>.deep
theorem Xs:∀{s:Sk},s.ok true->s.app .nil=s
 | .nil,_=>rfl
 | .st n h w r,o=>by show Sk.st n h w (r.app .nil)=_;rw[Xs o.2]
theorem Y6{w:Sk}:∀{s:Sk},s.ok true->(Sk.put n h w s).app q=s.app (.st n h w q)
 | .nil,_=>rfl
 | .st a b c r,o=>by show Sk.st a b c ((Sk.put n h w r).app q)=Sk.st a b c (r.app (.st n h w q));rw[Y6 o.2]
theorem tq{w s:Sk}(o:OC)(h:s.ok true):(o.cons n H w).pre s=o.pre (Sk.put n H w s):=by
 cases o with
 |ok q a L t=>show OC.ok (s.app (.st n H w q)) a L t= .ok ((Sk.put n H w s).app q) a L t;rw[Y6 h]
 |long |deep=>rfl
abbrev nC:=Str->List Int->a8->Nat->OC
noncomputable def OC.cl(f:Str)(i:List Int):OC->OW
 | .ok s a L t=>.ok (.cl f i s a) L t
 | .long=>.long
 | .deep=>.deep
noncomputable def gV(call:nC)(C:a8)(k L:a8)(t:Nat)(e:DD):OW:=if t < 60 then match e with
 | .ask _ T=>.ok (.ask (if T.ev k=0 then 0 else 1)) L (t+1)
 | .st _ (.rd _ _ T)=>.ok (.rd (T.ev k) (look L (.inl (T.ev k)) (look C (.inl (T.ev k)) 0))) L (t+1)
 | .st _ (.wr _ _ T U)=>.ok (.wr (T.ev k) (U.ev k)) (a5 L (.inl (T.ev k)) (.int (U.ev k))) (t+1)
 | .st _ (.cl _ f _ a)=>(call f (a.map λc=>c.2.ev k) L (t+1)).cl f (a.map λc=>c.2.ev k)
 |_=>.long
 else .long
theorem Y7{call:nC}(h:¬t < 60):gV call C k L t e= .long:=by unfold gV;rw[Iu h]
theorem XX{call:nC}(h:t < 60):gV call C k L t (.ask p T)= .ok (.ask (if T.ev k=0 then 0 else 1)) L (t+1):=by unfold gV;rw[Io h]
theorem Z5{call:nC}(h:t < 60):gV call C k L t (.st p (.rd x a T))= .ok (.rd (T.ev k) (look L (.inl (T.ev k)) (look C (.inl (T.ev k)) 0))) L (t+1):=by unfold gV;rw[Io h]
theorem Z6{call:nC}(h:t < 60):gV call C k L t (.st p (.wr a b T U))= .ok (.wr (T.ev k) (U.ev k)) (a5 L (.inl (T.ev k)) (.int (U.ev k))) (t+1):=by unfold gV;rw[Io h]
theorem K8{call:nC}(h:t < 60):gV call C k L t (.st p (.cl x f q T))=(call f (T.map λc=>c.2.ev k) L (t+1)).cl f (T.map λc=>c.2.ev k):=by unfold gV;rw[Io h]
noncomputable def BW(p:dU)(c:Dw)(h:List Int)(w:Wh):Gd:=match c.ws[w.side]? with
 |some W=>i8 (vA p) (c7 W.sets (pS c.e w (bh c.nm h))) W.goal
 |none=>.give 0
noncomputable def nq(call:nC)(C:a8)(p:dU):Nat->Gd->a8->Nat->OC
 |0,_,_,_=>.long
 |_+1,.give a,L,t=>.ok .nil a L t
 |m+1,.go n h,L,t=>match p.cs[n]? with
  |none=>.long
  |some c=>match gV call C (bh c.nm h) L t c.e with
   | .ok w l T=>(nq call C p m (BW p c h w.wh) l T).cons (n:Int) h w
   | .long=>.long
   | .deep=>.deep
noncomputable def eI:List dU->Str->Option dU
 | [],_=>none
 |p::r,f=>if p.f=f then some p else eI r f
theorem Y8:∀{b:List dU} {i:Nat} {a:dU},b[i]?=some a->(∀(j:Nat) (p:dU),j < i->b[j]?=some p->p.f≠a.f)->eI b a.f=some a
 | [],i,a,h,_=>by simp at h
 |p::r,0,a,h,_=>by cases h;show(if p.f=p.f then some p else _)=_;rw[Io Z]
 |p::r,i+1,a,h,k=>by
  show(if p.f=a.f then some p else eI r a.f)=_
  rw[Iu (k 0 p (Nat.succ_pos _) Z)]
  exact Y8 (i:=i) (by simpa using h) λj q H c=>k (j+1) q (Nat.succ_lt_succ H) (by simpa using c)
noncomputable def cf(p:List dU)(C:a8):Nat->nC
 |0=>λ_ _ _ _=>.deep
 |j+1=>λf i L t=>match eI p f with
  |none=>.long
  |some a=>nq (cf p C j) C a 62 (i8 (vA a) (c7 a.way.sets (bh a.ps i)) a.way.goal) L t
structure Ps(H:Hp)(nA pA:Addr)(ds:List Df)(ns:List Nat)(xs:List V)(pds:List dU):Prop where
 at':H pA=some (.tup xs)
 tr:aN H (aC (ds.map (eO nA))) .non xs
 dv:∃zs,cj H ds zs
 ok:pW ds ns
 pa:mf H ds ns
 dl:pds.length=ds.length
 pr:∀(i:Nat) (d:Df) (pd:dU),ds[i]?=some d->pds[i]?=some pd->∃ys,(d.b.Ok ys/\ys.length<=20)/\vN H nA d ys pd
theorem Ps.mono(h:Ps H n c D N x p)(k:al H e):Ps e n c D N x p:=#[k _ _ h.at',h.tr.mono k,let #[f,z]:=h.dv;#[f,z.mono k],h.ok,h.pa.mono k,h.dl,λi d g a b=>let #[Y,y,r]:=h.pr i d g a b;#[Y,y,r.mono k]]
theorem Y9(h:aN H (eO n d) v []):Dl H v d.f:=by
 obtain⟨_,a,x,rfl,b,_,_,Y,y,rfl,⟨rfl,_⟩,_⟩:=h
 exact#[a,_,Z,b]
theorem Z7:∀{D:List Df} {z:List V},cj H D z->∀{i:Nat} {d:Df},D[i]?=some d->∃B,dw H d.b B
 |_::_,_,q,0,d,a=>by obtain⟨u,r,e,⟨B,_,_,_,h⟩,c⟩:=q;cases a;exact#[B,h]
 |_::_,_,#[u,r,e,_,c],i+1,d,a=>Z7 c (by simpa using a)
section
variable {H:Hp}{nA pA:Addr}{ds:List Df}{ns:List Nat}{xs:List V}{pds:List dU}
theorem Ps.part(h:Ps H nA pA ds ns xs pds){i:Nat}{d:Df}{v:V}(b:ds[i]?=some d)(q:xs[i]?=some v):∃y c,mh H nA d y v/\pds[i]?=some c/\vN H nA d y c/\eI pds d.f=some c:=by
 obtain⟨T,n,t⟩:=qG h.tr i v q
 rw[Ir,b]at n
 cases n
 obtain⟨z,r⟩:=h.dv
 obtain⟨_,_,s⟩:=(h.ok.1 d (IA b)).1
 have u:i < ds.length:=(List.getElem?_eq_some_iff.mp b).1
 have g:pds[i]?=some (pds[i]'(by rw[h.dl];exact u)):=HW _
 obtain⟨y,⟨O,Y⟩,k⟩:=h.pr i d _ b g
 refine#[y,_,#[t,Z7 r b,O,Y,s],g,k,?_]
 rw[<- k.f]
 refine Y8 g λj p A l e=>?_
 have a:j < ds.length:=by omega
 obtain⟨_,_,m⟩:=h.pr j _ p (HW a) l
 rw[m.f,k.f]at e
 have x:(ds.map Df.f)[j]?=some (ds[j]).f:=by rw[Ir,HW a];rfl
 have o:(ds.map Df.f)[i]?=some d.f:=by rw[Ir,b];rfl
 rw[<- e]at o
 have:=(List.getElem?_inj (by rw[HZ];exact a) h.ok.2.1).mp (x.trans o.symm)
 omega
theorem Ps.cs(h:Ps H nA pA ds ns xs pds){i:Nat}{d:Df}(a:ds[i]?=some d):∀f∈d.b.calls,f∈(ds.map Df.f).zip ns:=zB (h.ok.1 d (IA a)).2
theorem Ps.at(h:Ps H nA pA ds ns xs pds){i:Nat}{d:Df}(b:ds[i]?=some d):∃v,xs[i]?=some v/\aN H (eO nA d) v []/\Dl H v d.f/\∀j x,j < i->xs[j]?=some x->∃g,Dl H x g/\g≠d.f:=by
 have L:=ze h.tr
 rw[HZ]at L
 have r:i < ds.length:=(List.getElem?_eq_some_iff.mp b).1
 have t:∀(j:Nat) (x:V),xs[j]?=some x->∃c,ds[j]?=some c/\aN H (eO nA c) x []:=λj x k=>by
  obtain⟨s,m,t⟩:=qG h.tr j x k
  rw[Ir]at m
  obtain⟨c,a,rfl⟩:=Option.map_eq_some_iff.mp m
  exact#[c,a,t]
 have n:xs[i]?=some (xs[i]'OG):=HW OG
 obtain⟨c,a,T⟩:=t _ _ n
 rw[b]at a
 cases a
 refine#[_,n,T,Y9 T,λj x u k=>?_]
 obtain⟨c,a,q⟩:=t j x k
 refine#[c.f,Y9 q,λe=>?_]
 have o:(ds.map Df.f)[j]?=some c.f:=by rw[Ir,a];rfl
 have p:(ds.map Df.f)[i]?=some d.f:=by rw[Ir,b];rfl
 rw[<- e]at p
 have l:j < (ds.map Df.f).length:=(List.getElem?_eq_some_iff.mp o).1
 have:=(List.getElem?_inj l h.ok.2.1).mp (o.trans p.symm)
 omega
theorem Ps.find(h:Ps H nA pA ds ns xs pds)(a:(f,n)∈(ds.map Df.f).zip ns):∃(i:Nat) (d:Df),ds[i]?=some d/\ns[i]?=some n/\d.f=f:=by
 obtain⟨i,b,e⟩:=List.mem_iff_getElem.mp a
 have E:((ds.map Df.f).zip ns)[i]?=some (f,n):=by rw[<- e];exact HW b
 rw[Op]at E
 rw[Ir]at E
 obtain⟨d,c,g⟩:=Option.map_eq_some_iff.mp E.1
 exact#[i,d,c,E.2,g]
end
theorem Rn.tm(h:Rn H C r d c l p m t L f)(k:aS r l H a):al H a:=λb x e=>k b _ (jO e h.ins (by intro z;cases z)) (jO e h.lf (by intro z;cases z)) e
theorem Rn.same(h:Rn H C r d c l p m t L a)(s:ae H b):Rn b C r d c l p m t L a:=#[s _ _ h.ins,s _ _ h.lf,s _ _ h.ce,h.iL,h.iC,h.cl]
theorem Rn.rl(h:Rn H C r d c l p m t L a):r≠l/\r≠c:=#[jO h.ins h.lf (by intro z;cases z),jO h.ins h.ce (by intro z;cases z)]
def Dk(r l:Addr)(H h:Hp):Prop:=∀b o,b≠r->b≠l->NX o->H b=some o->h b=some o
theorem Fl.next(h:Fl E L (Dk r l H)):Fl (oA E) L (Dk r l H):=λd i k x T t c e a j f=>by
 cases e
 exact h d _ λb o N g n e=>JQ (H:=H) (k b o N g n e) n a f
theorem Fl.nextK(h:Fl E L (Kp H)):Fl (oA E) L (Kp H):=λd g k x T t c e a i f=>by
 cases e
 exact h d _ λb o n e=>JQ (H:=H) (k b o n e) n a f
theorem Fl.mono{R S:Hp->Prop}(h:Fl E L R)(k:∀H,S H->R H):Fl E L S:=λd H s=>h d H (k H s)
inductive lU(C:Addr)(e:List V)(H:Hp)(Q:VK)(a:XK):Prop
 |mk(r c d b:Addr)(m:Int)(_:e=[.ref r,.ref d,.ref b,.int m])(_:H r=some (.ins C c []))(_:∀lA,H lA=none->Q .non (ah (ah H lA (.dK [])) r (.ins C c (hX b lA d m 0))))
def nM(A B:Prop)(E:XK)(T t:Addr)(R:Hp->Prop):Prop:=(A->Fl E T R)/\(B->Fl E t R)
theorem nM.mono{R S:Hp->Prop}(h:nM A B E T t R)(k:∀H,S H->R H):nM A B E T t S:=#[λa=>(h.1 a).mono k,λb=>(h.2 b).mono k]
theorem nM.next(h:nM A B E T t (Dk r l H)):nM A B (oA E) T t (Dk r l H):=#[λa=>(h.1 a).next,λb=>(h.2 b).next]
theorem nM.imp{R:Hp->Prop}(h:nM A B E T t R)(a:c->A)(b:d->B):nM c d E T t R:=#[λx=>h.1 (a x),λx=>h.2 (b x)]
inductive dM(C g f p:Addr)(j:Nat)(w:List V)(H:Hp)(Q:VK)(E:XK):Prop
 |mk(r m k o s h:Addr)(b t i:Nat)(L e:a8)(v:V)(d:Df)(l:List Df)(q:List Nat)(x:List V)(c:List dU)(n:List Int)(_:w=[.ref r,v,.ref h,.int (b:Int)])(_:b+j=16)(_:1<=j)(_:Rn H C r m k o s 60 t L e)(_:L.length<=t)(_:t<=60)(_:Ps H p s l q x c)(_:l[i]?=some d)(_:q[i]?=some n.length)(_:x[i]?=some v)(_:H h=some (.tup (n.map V.int)))(_:∀z∈n,gp z)(_:∀(u:V) (sk:Sk) (a:Int) (L':a8) (H':Hp),cf c e j d.f n L t= .ok sk a L' (t+sk.size)->nD H' d.f n sk a u->sk.ok true->sk.dep+1<=j->gp a->Rn H' C r m k o s 60 (t+sk.size) L' e->L'.length<=t+sk.size->t+sk.size<=60->aS r o H H'->Q u H')(_:nM (cf c e j d.f n L t= .long) (cf c e j d.f n L t= .deep) E g f (Dk r o H))
inductive oj(C f d m:Addr)(j:Nat)(p:List V)(H:Hp)(Q:VK)(E:XK):Prop
 |mk(r i g l o:Addr)(a t:Nat)(L c k:a8)(u:V)(e:DD)(s:List Str)(h:List Df)(n:List Nat)(q:List V)(b:List dU)(_:p=[.ref r,u,.int (a:Int)])(_:a+j=15)(_:Rn H C r i g l o 60 t L c)(_:L.length<=t)(_:t<=60)(_:Ps H m o h n q b)(_:aN H (DV k e) u [])(_:yG H s e)(_:GT k)(_:e.Cs ((h.map Df.f).zip n))(_:∀(w:Sk) (v:V) (L':a8) (H':Hp),gV (cf b c j) c k L t e= .ok w L' (t+1+w.size)->dH H' w v []->w.ok false->Fj e w.wh->w.dep<=j->Rn H' C r i g l o 60 (t+1+w.size) L' c->L'.length<=t+1+w.size->t+1+w.size<=60->aS r l H H'->Q v H')(_:nM (gV (cf b c j) c k L t e= .long) (gV (cf b c j) c k L t e= .deep) E f d (Dk r l H))
theorem CW:ai z23z z23z (aa tH):=bp
theorem wY(F:aI K "__init__" "BookRun.__init__" tH f t)(j:RK K C)(GT:af P w K mg base aA 1 u c z22z (lX C))(B:ax K c z22z [])(M:mg "Turns"=some (.ref T))(v:Az K T "__init__" u):af P w K mg base aA 2 f t z23z (lU C):=by
 refine F.ok CW ?_ λx A o s H V Q E y h=>?_
 ·rintro _ _ _ _ ⟨r,d,z,k,m,rfl,_⟩
  rfl
 obtain⟨r,d,z,k,m,rfl,g,q⟩:=h
 refine#[_,(jd (jJ (@xz _ _ _ _ _ _ _ _ _ _ _ _ _ _ _ _ _ _ _ _ Z M v GT y.m B .nil aY (ja (pv 0) (ja (pv 2) (ja (pv 3) jb))) OF OK OK OK)) (jg (@zp _ _ _ _ _ _ _ _ (pv 0) (pv 1) Z))),?_]
 refine aj λD n=>#[_,Z,_,Z,_,Z,r,d,k,m,Z,g,λL N=>n _ _ ?_]
 clear n
 refine#[_,Z,_,Z,r,C,d,_,Z,jc,j.cl,j.n5,(by show 4 < 1000;decide),?_]
 have e:∀(i:Hp) (p O:HO),ah (ah i r p) r O=ah i r O:=λi p O=>by
  funext b
  by_cases a:b=r
  ·rw[a,jc,jc]
  ·rw[jh a,jh a,jh a]
 rw[e]
 exact q L N
theorem JR(h:aN H (aE t) u []):∃a x,u= .ref a/\H a=some (.tup x)/\aN H (aC t) .non x:=let #[_,a,x,e,b,c]:=h;#[a,x,e,b,c]
theorem zU(h:aN H (aC (t::T)) .non x):∃y Y,x=y::Y/\aN H t y []/\aN H (aC T) .non Y:=let #[_,_,y,Y,e,a,b]:=h;#[y,Y,e,a,b]
theorem Za(h:aN H (aJ x) y []):y= .str x:=h.1
theorem JS(h:aN H (aw n) y []):y= .int n:=h.1
theorem Kk:∀{I:List Int} {v:List V},aN H (aC (I.map aw)) .non v->v=I.map V.int
 | [],v,h=>h
 |i::I,v,h=>by obtain⟨y,Y,rfl,a,b⟩:=zU h;rw[JS a,Kk b];rfl
theorem QP{H:Hp}{w:Str}{t:List Tr}{u:V}(h:aN H (aE (aJ w::t)) u []):∃a x,u= .ref a/\H a=some (.tup (.str w::x))/\aN H (aC t) .non x:=by
 obtain⟨a,x,rfl,b,h⟩:=JR h
 obtain⟨y,Y,rfl,c,d⟩:=zU h
 rw[Za c]at b
 exact#[a,Y,Z,b,d]
theorem QF{H:Hp}{w:Str}{i:Int}{u:V}(h:aN H (aE [aJ w,aw i]) u []):∃a,u= .ref a/\H a=some (.tup [.str w,.int i]):=by
 obtain⟨a,x,rfl,b,h⟩:=QP h
 obtain⟨y,Y,rfl,c,d⟩:=zU h
 have e:Y=[]:=d
 rw[JS c,e]at b
 exact#[a,Z,b]
theorem vg{H:Hp}{w:Str}{i:Int}{t:Tr}{u:V}(h:aN H (aE [aJ w,aw i,t]) u []):∃a y,u= .ref a/\H a=some (.tup [.str w,.int i,y])/\aN H t y []:=by
 obtain⟨a,x,rfl,b,h⟩:=QP h
 obtain⟨y,Y,rfl,c,d⟩:=zU h
 obtain⟨z,f,rfl,g,j⟩:=zU d
 have e:f=[]:=j
 rw[JS c,e]at b
 exact#[a,z,Z,b,g]
theorem EG:ai z18z z18z (aa xP):=bp
theorem By(F:aI K "what_of" "BookRun.what_of" xP f fd)(ck:RK K C)(GT:af P w K mg base (eX P w) 1 fT f0 ["self"] (iH C TL))(bT:ax K f0 ["self"] [])(m0:a9 K C "take_turn" fT)(GI:af P w K mg base aA 1 fI f2 ["self","cell"] (gf C))(bI:ax K f2 ["self","cell"] [])(m1:a9 K C "number_in" fI)(GD:af P w K mg base (eX P w) 1 fD f3 ["deep"] (eF TD))(bD:ax K f3 ["deep"] [])(kD:keepIn K (.ref fD)=true)(mD:mg "deeper"=some (.ref fD))(cP:Cl P w K mg base 2 fP f6 ["parts","f"] lT "part_of")(GC:af P w K mg base (eX P w) (2*j+12) fC f4 z13z (dM C TL TD nA j))(bC:ax K f4 z13z [])(m2:a9 K C "chain_of" fC):af P w K mg base (eX P w) (2*j+13) f fd z18z (oj C TL TD nA j):=by
 refine F.ok1 EG ?_ λc5 A o1 s H vs Q E hr h=>?_
 ·rintro _ _ _ _ ⟨r,D,W,I,O,M,t,L,Cs,k,u,e,ys,ds,ns,X,p1,rfl,_⟩
  rfl
 obtain⟨r,D,W,I,O,M,t,L,Cs,k,u,e,ys,ds,ns,X,p1,rfl,h4,J,h5,ht,hP,B,h0,hk,h1,q,t0⟩:=h
 refine#[_,(jd (jJ (sV (pv 0) ck.cl m0 GT hr.m bT .nil zS)) (jd (jx (kh (jy (pv 1))) (jg (jo (ji (ja jm (ja (jy (pv 1)) (ja (j6 (pv 0) ck.cl m1 GI hr.m bI .nil aY (ja (jy (pv 1)) jb)) jb)))))) jp) (jd (jx (kh (jy (pv 1))) (jg (jo (ji (ja jm (ja (j6 (pv 0) ck.cl m2 GC hr.m bC .nil zS (ja (cP.e hr.m (ja (j5 (pv 0) Z) (ja (jy (pv 1)) jb))) (ja (jy (pv 1)) (ja (kN GD hr.m Z mD kD bD .nil zS (ja (pv 2) jb)) jb)))) jb))))) jp) (jd (jx (kh (jy (pv 1))) (jg (qQ (qd hr) (j5 (pv 0) Z) (jy (pv 1)) (jy (pv 1)) Z)) jp) (jg (jo (pv 1))))))),?_]
 have b0:=aF
 refine aj λY n=>#[_,Z,r,D,_,Z,J.ins,Z,r,D,W,I,O,60,t,Z,J.ins,λlt=>n _ _ ?_,λge=>((t0.1 (Y7 OG)).mono λH' kk=>λb o _ _ nx e=>kk b o nx e).nextK]
 clear n
 have t1:al H (ah H r (.ins C D (hX W I O 60 (t+1)))):=λb X e=>by rw[jh (jO e J.ins (by intro z;cases z))];exact e
 have R:Rn (ah H r (.ins C D (hX W I O 60 (t+1)))) C r D W I O 60 (t+1) L Cs:=#[jc,by rw[jh J.rl.1.symm];exact J.lf,by rw[jh J.rl.2.symm];exact J.ce,J.iL,J.iC,J.cl]
 have k1:aS r I H (ah H r (.ins C D (hX W I O 60 (t+1)))):=λb o n1 n2 e=>by rw[jh n1];exact e
 generalize ah H r (.ins C D (hX W I O 60 (t+1)))=H1 at t1 R k1
 have B:=B.mono t1
 have lt':t+1<=60:=by omega
 have f5:∀(w:Sk) (X:List V) (S:Hp) (v:Addr),S v=none->dH (ah S v (.tup X)) w (.ref v) []->w.ok false->gV (cf p1 Cs j) Cs k L t e= .ok w L (t+1)->Fj e w.wh->w.size=0->w.dep<=j->H1=S->Q (.ref v) (ah S v (.tup X)):=λw X S v nv hw ok eq ft sz dp e2=>by
  subst e2
  exact q w _ L _ (by rw[sz];exact eq) hw ok ft dp (by rw[sz];exact R.same (je nv)) OG OG (k1.trans (aS.of_same (je nv)))
 cases e with
 |ask ta T=>
  obtain⟨p,rfl,G⟩:=QF B
  refine aj λY n=>(ju G Z #[Z,_,Z,aV OJ (n _ _ ?_)])
  clear n
  refine aj λY n=>(ju G Z #[Z,_,Z,aV OJ (n _ _ ?_)])
  clear n
  refine aj λY n=>(ju G Z #[Z,_,Z,aV OJ (n _ _ ?_)])
  clear n
  refine#[_,Z,q (.ask (if T.ev k=0 then 0 else 1)) _ L _ (XX OG) #[p,Z,G] IG ?_ (Il _) R (by show L.length<=t+1+0;omega) lt' k1]
  show(if T.ev k=0 then (0:Int) else 1)=0∨(if T.ev k=0 then (0:Int) else 1)=1
  split
  ·exact .inl Z
  ·exact .inr Z
 |st p0 l=>
  obtain⟨vs,_,h6,o0,c0⟩:=h0
  cases l with
  |gv ta T |st x ta T=>cases c0
  |rd x ta T=>
   obtain⟨p,rfl,G⟩:=QF B
   refine aj λY n=>(ju G Z #[Z,_,Z,cy OJ (ju G Z #[_,Z,r,D,_,Z,R.ins,Z,ju G Z #[r,D,W,I,O,60,_,_,_,_,Z,R,gE,λv nv=>?_]])])
   exact f5 (.rd (T.ev k) (look L (.inl (T.ev k)) (look Cs (.inl (T.ev k)) 0))) _ _ v nv #[v,Z,jc] IG (Z5 OG) (JN R.iL (JN R.iC JO)) Z (Il _) Z
  |wr ta ub T U=>
   obtain⟨p,y,rfl,G,hy⟩:=vg B
   rw[JS hy]at G
   refine aj λY n=>(ju G Z #[Z,_,Z,aV OJ (n _ _ ?_)])
   clear n
   refine aj λY n=>(ju G Z #[Z,_,Z,aV OJ (n _ _ ?_)])
   clear n
   refine aj λY n=>(ju G Z #[Z,_,Z,cy OJ (ju G Z #[_,Z,r,C,D,_,_,Z,R.ins,ck.cl,ck.n3,Z,ju G Z #[I,_,Z,nE.k (k:=.inl (T.ev k)) R.lf OG,n _ _ ?_]])])
   clear n
   have pl:=zR (kvs:=L) (k:=.inl (T.ev k)) (v:=.int (U.ev k))
   have t3:al H1 (ah H1 I (.dK (a5 L (.inl (T.ev k)) (.int (U.ev k))))):=λb X e=>by rw[jh (jO e R.lf (by intro z;cases z))];exact e
   refine#[_,Z,q (.wr (T.ev k) (U.ev k)) _ (a5 L (.inl (T.ev k)) (.int (U.ev k))) _ (Z6 OG) #[p,Z,t3 _ _ G] IG IG (Il _) #[by rw[jh J.rl.1];exact R.ins,jc,by rw[jh J.cl];exact R.ce,R.iL.put _ (Ju hk o0.2.1),R.iC,R.cl] (by show _<=t+1+0;omega) lt' λb o n1 n2 e=>?_]
   rw[jh n2]
   exact k1 b o n1 n2 e
  |cl x f q' ts=>
   obtain⟨p,y3,rfl,G,hy⟩:=QP B
   obtain⟨y1,y4,rfl,e1,hy⟩:=zU hy
   obtain⟨y2,y0,rfl,e2,hy⟩:=zU hy
   have e3:y0=[]:=hy
   subst e3
   rw[Za e1]at G
   obtain⟨ag,a0,rfl,ha,N⟩:=JR e2
   have N:aN H1 (aC ((ts.map λc=>c.2.ev k).map aw)) .non a0:=by rw[Mu];exact N
   rw[Kk N]at ha
   obtain⟨i,d,hd,hn,rfl⟩:=hP.find h1
   have P1:=hP.mono t1
   obtain⟨v,hv,_,h2,h3⟩:=P1.at hd
   refine aj λY n=>(ju G Z #[Z,_,Z,aV OJ (n _ _ ?_)])
   clear n
   refine aj λY n=>(ju G Z #[Z,_,Z,cy OJ ?_])
   clear n
   refine#[_,Z,r,D,_,Z,R.ins,Z,_,Z,r,C,D,_,_,Z,R.ins,ck.cl,ck.n5,Z,ju G Z #[O,d.f,X,i,v,Z,P1.at',hv,h2,h3,ju G Z #[_,Z,(M:Int),Z,λdl=>?_,λdg=>((t0.2 (by have z:j=0:=OG;rw[K8 OG,z];rfl)).mono λS kk=>λb o n1 n2 nx e=>kk b o nx (k1 b o n1 n2 e)).nextK]]]
   refine#[r,D,W,I,O,ag,M+1,t+1,i,L,Cs,v,d,ds,ns,X,p1,ts.map λc=>c.2.ev k,Z,OG,OG,R,OG,lt',P1,hd,by rw[HZ];exact hn,hv,ha,λz hz=>?_,λu sk a L' S eq hc ok dp ia R2 l2 t2 k2=>?_,nM.next ((t0.imp (λz=>by rw[K8 OG,z];rfl) (λz=>by rw[K8 OG,z];rfl)).mono λS kk=>λb o n1 n2 nx e=>kk b o n1 n2 nx (k1 b o n1 n2 e))]
   ·obtain⟨c,hc,rfl⟩:=List.mem_map.mp hz
    exact Ju hk (o0.2.2 c hc).1
   ·obtain⟨c,g,ee,ss,rfl,c1,c2,c3,c4⟩:=hc
    refine#[bM,λv2 nv=>?_]
    have s2:ae S (ah S v2 (.tup [.str "call",.ref c])):=je nv
    refine q (.cl d.f (ts.map λc=>c.2.ev k) sk a) _ L' _ (by rw[K8 OG,eq];rfl) #[v2,c,g,ee,ss,Z,jc,s2 _ _ c1,s2 _ _ c2,s2 _ _ c3,c4.mono (ae.tm s2)] ok ia (by show sk.dep+1<=j;omega) (R2.same s2) l2 t2 ((k1.trans k2).trans (aS.of_same s2))
theorem AH:dD (s++[x]) (-1)=some x:=by
 have l:(s++[x]).length=s.length+1:=by rw[Ia];rfl
 unfold dD nQ
 rw[l,Iu OG,Io OG]
 have e:(-1+((s.length+1:Nat):Int)).toNat=s.length:=by omega
 show(s++[x])[(-1+((s.length+1:Nat):Int)).toNat]?=_
 rw[e]
 simp
inductive Fk(H:Hp)(nA:Addr)(d:Df)(u:V):Gd->Prop
 |give (p:Addr) (a:Int) (e:u= .ref p) (h:H p=some (.tup [.str "give",.int a])) (i:gp a):Fk H nA d u (.give a)
 |go (p hv:Addr) (n:Nat) (c:Ct) (is:List Int) (e:u= .ref p) (h:H p=some (.tup [.str "go",.int (n:Int),.ref hv])) (h2:H hv=some (.tup (is.map V.int))) (hc:(bK nA d)[n]?=some c) (hl:is.length=(canon c.M).length) (hi:∀i∈is,gp i):Fk H nA d u (.go n is)
theorem sh{H:Hp}(h:aN f (sg (dP N d) k g) u [])(j:GT k)(l:DA H Y d.b.cuts g):Fk f N d u (i8 (dP N d) k g):=by
 cases g with
 |give t T=>obtain⟨p,e,h⟩:=QF h;exact .give p _ e h (Ju j l.2.1)
 |nought=>obtain⟨p,e,h⟩:=QF h;exact .give p 0 e h JO
 |go n=>
  obtain⟨p,y,e,h,q⟩:=vg h
  obtain⟨a,X,rfl,m,c⟩:=JR q
  have r:n < (bK N d).length:=by rw[Y0];exact l
  have o:(bK N d)[n]?=some (bK N d)[n]:=HW r
  have c:aN f (aC (((dP N d n).map λx=>look k (.inr x) 0).map aw)) .non X:=by rw[Mu];exact c
  rw[Kk c]at m
  refine .go p a n _ _ e h m o (by rw[HZ,sw o]) λi s=>?_
  obtain⟨x,_,rfl⟩:=List.mem_map.mp s
  exact JN j JO
inductive CI(a:nC)(K:dU)(h:OC)(C r o n F J l N G:Addr)(b t j:Nat)(i:a8)(v:V)(d:Df)(H:Hp)(E:Nat)(P:_L.St)(k:Hp):Prop
 |mk(I:Option V)(u:V)(g:Gd)(m:Nat)(M:Sk)(O:List V)(L:a8)(p:P=[some (.ref r),some v,some (.ref l),some (.int (b:Int)),some (.ref N),some u,I])(q:k N=some (.lst O))(s:dH k M .non O)(w:M.ok true)(x:M.dep+1<=j)(y:Fk k G d u g)(z:Rn k C r o n F J 60 (t+M.size) L i)(A:L.length<=t+M.size)(B:t+M.size<=60)(D:aS r F H k)(c:E+t+M.size=61)(e:(nq a i K m g L (t+M.size)).pre M=h)(f:62<=m+(t+M.size))
theorem my:ai ["self","part","args","deep","steps","goal","what"] z13z (aa xO):=bp
theorem Bu(F:aI K "chain_of" "BookRun.chain_of" xO f fd)(ck:RK K C)(cF:Cl P w K mg base 9 fF f2 ["part","args"] (fX nA) "first_of")(cD:Cl P w K mg base 9 fD f3 z12z (fV nA) "deed_at")(cO:Cl P w K mg base 9 fO f4 ["part","step"] (uK nA) "onward")(GW:af P w K mg base (eX P w) (2*j+13) fW f0 z18z (oj C TL TD nA j))(bW:ax K f0 z18z [])(m0:a9 K C "what_of" fW)(m1:mg "tuple"=none):af P w K mg base (eX P w) (2*j+14) f fd z13z (dM C TL TD nA (j+1)):=by
 refine F.ok1 my ?_ λc3 A o1 s H vs Q E hr h=>?_
 ·rintro _ _ _ _ ⟨r,dx,cA,lA,pA,ag,U,t,i,L,y,v,d,ds,ns,xs,x,is,rfl,_⟩
  rfl
 obtain⟨r,dx,cA,lA,pA,ag,U,t,i,L,y,v,d,ds,ns,xs,x,is,rfl,b4,_,hR,a0,ht,hP,hd,hn,hv,ha,h3,q,t4⟩:=h
 refine#[_,(jd (jz 4 my.nd (jG jb)) (jd (jz 5 my.nd (cF.e hr.m (ja (pv 1) (ja (pv 2) jb)))) (jd (Q6 PassesOwn.leaving (kh (jy (pv 5))) (jd (jz 6 my.nd (j6 (pv 0) ck.cl m0 GW hr.m bW .nil zS (ja (cD.e hr.m (ja (pv 1) (ja (jy (pv 5)) (ja (jy (pv 5)) jb)))) (ja (pv 3) jb)))) (jd (jJ (j9 PySem.F.plainAttrs_list PySem.F.slot_list_append PySem.F.type_list_append jP (pv 4) (ja (ji (ja (jy (pv 5)) (ja (jy (pv 5)) (ja (pv 6) jb)))) jb))) (jg (jz 5 my.nd (cO.e hr.m (ja (pv 1) (ja (jr jq (pv 4) (YA Qz jf) (λ_ _=>Z)) jb)))))))) (jg (jo (ji (ja (jy (pv 1)) (ja (pv 2) (ja (jE jI Z m1 boot_tuple (ja (pv 4) jb)) (ja (jy (pv 5)) jb)))))))))),?_]
 have b5:=aF
 obtain⟨ys,g,h1,b6,pr,a1⟩:=hP.part hd hv
 obtain⟨ps,h4,a2,a3⟩:=hP.pa.2 i d _ hd hn
 have e3:ps=g.ps:=by
  have z:=h4.symm.trans pr.ps
  injection z with z
  injection z with z
  exact(List.map_inj_right λa b e=>by injection e).mp z
 subst e3
 have e0:cf x y (j+1) d.f is L t=nq (cf x y j) y g 62 (i8 (vA g) (c7 g.way.sets (bh g.ps is)) g.way.goal) L t:=by
  show(match eI x d.f with |none=>OC.long |some g=>nq (cf x y j) y g 62 (i8 (vA g) (c7 g.way.sets (bh g.ps is)) g.way.goal) L t)=_
  rw[a1]
 generalize cf x y (j+1) d.f is L t=X at q t4 e0
 refine aj λF1 J=>#[iK,λS Y=>J _ _ ?_]
 clear J
 have s1:ae H (ah H S (.lst [])):=je Y
 have l1:ah H S (.lst []) S=some (.lst []):=jc
 generalize ah H S (.lst [])=H1 at s1 l1 ⊢
 have e4:=pr.wy
 have h2:=pr.wv
 refine aj λF1 J=>#[_,Z,_,Z,v,ag,d,ys,g.ps,is,g.way,Z,h1.mono (ae.tm s1),s1 _ _ h4,OG,s1 _ _ ha,a2.symm,h3,e4,h2.mono (ae.tm s1),λu H2 hu s2=>J _ _ ?_]
 clear J
 have S2:=s1.trans s2
 have gz:GT (bh g.ps is):=Ke h3
 have g0:=sh (H:=H) hu (qT h2.sets gz) h2.goal
 rw[pr.nms]at g0
 have s0:S≠r:=Ne.symm (jk hR.ins Y)
 have s3:S≠lA:=Ne.symm (jk hR.lf Y)
 have s9:cA≠S:=jk hR.ce Y
 refine aj λF1 J=>?_
 refine vk (CI (cf x y j) g X C r dx cA lA pA ag S nA U t (j+1) y v d H) (61 - t) #[none,u,_,62,.nil,[],L,Z,s2 _ _ l1,Z,trivial,by show 0+1<=j+1;omega,g0,hR.same S2,a0,ht,aS.of_same S2,by show 61 - t+t+0=61;omega,by rw[e0];show OC.pre .nil (nq (cf x y j) y g 62 _ L t)=_;cases nq (cf x y j) y g 62 (i8 (vA g) (c7 g.way.sets (bh g.ps is)) g.way.goal) L t<;>rfl,by show 62<=62+(t+0);omega] ?_
 intro kk σ H3 E' rt fE F kT cF.k Gq kq hW
 obtain⟨o6,u,gd,m,N,R,L1,rfl,w1,w2,w3,w4,w5,w6,w7,w8,w9,b9,W,b'⟩:=hW
 obtain⟨m,rfl⟩:∃m',m=m'+1:=#[m - 1,OG]
 have t0:=hR.tm w9
 have P3:=hP.mono t0
 cases w5 with
 |give p a e h5 ia=>
  subst e
  refine kq (ju h5 Z #[Z,_,Z,?_])
  rw[show decide (V.str (Str.ofString "give")=V.str (Str.ofString "go"))=false by decide+kernel]
  refine cF.k _ (J _ _ ?_)
  obtain⟨pa,ca,wv,cs,e,h7,_⟩:=(h1.mono t0).parts
  subst e
  refine(ju h7 Z #[_,Z,_,Z,S,R,Z,.inl #[aG.of w1,λl2 n0=>?_]])
  have s4:ae H3 (ah H3 l2 (.tup R)):=je n0
  refine(ju (s4 _ _ h5) Z #[pU,λv2 nv=>?_])
  have s5:=s4.trans (je (o:=.tup [.str d.f,.ref ag,.ref l2,.int a]) nv)
  have S5:aS r lA H (ah (ah H3 l2 (.tup R)) v2 (.tup [.str d.f,.ref ag,.ref l2,.int a])):=w9.trans (aS.of_same s5)
  have W:OC.ok (N.app .nil) a L1 (t+N.size)=X:=W
  rw[Xs w3]at W
  exact q _ N a L1 _ W.symm #[v2,ag,l2,R,Z,jc,hR.tm S5 _ _ ha,ao jc nv,w2.mono (ae.tm s5)] w3 w4 ia (w6.same s5) w7 w8 S5
 |go p D n c hs e h5 h6 hc hl hi=>
  subst e
  refine kq (ju h5 Z #[Z,_,Z,?_])
  rw[show decide (V.str (Str.ofString "go")=V.str (Str.ofString "go"))=true by decide+kernel]
  refine kT _ ?_
  clear kT cF.k J
  have P0:=h1.mono t0
  obtain⟨pa,ca,wv,cs,e9,h7,_,_,a4⟩:=P0.parts
  obtain⟨ka,na,wa,dv,c4,_,c1⟩:=P0.cut a4 hc
  have a':n < g.cs.length:=by rw[pr.len];exact(List.getElem?_eq_some_iff.mp hc).1
  obtain⟨cd,h8⟩:∃cd,g.cs[n]?=some cd:=#[_,List.getElem?_eq_getElem a']
  have cr:=(pr.cs n c cd hc h8).mono t0
  obtain⟨c2,e,c0⟩:=cd
  obtain⟨e1,ed,d0,e5,l0,b0⟩:=cr
  have e1:c2=canon c.M:=e1
  subst e1
  have W:OC.pre N (match g.cs[n]? with
   |none=>OC.long
   |some c=>match gV (cf x y j) y (bh c.nm hs) L1 (t+N.size) c.e with
    | .ok w L1 t1=>(nq (cf x y j) y g m (BW g c hs w.wh) L1 t1).cons (n:Int) hs w
    | .long=>.long
    | .deep=>.deep)=X:=W
  rw[h8]at W
  have W:OC.pre N (match gV (cf x y j) y (bh (canon c.M) hs) L1 (t+N.size) e with
    | .ok w L1 t1=>(nq (cf x y j) y g m (BW g #[canon c.M,e,c0] hs w.wh) L1 t1).cons (n:Int) hs w
    | .long=>.long
    | .deep=>.deep)=X:=W
  have gk:GT (bh (canon c.M) hs):=Ke hi
  refine aj λF1 J=>#[_,Z,r,dx,_,Z,w6.ins,Z,_,Z,ju h5 Z (ju h5 Z #[v,n,D,d,ys,c,hs,e,Z,P0,hc,h6,hl,hi,ed,d0,λud H4 b1 s4=>?_])]
  have t8:=t0.trans (ae.tm s4)
  refine#[_,Z,r,dx,cA,lA,pA,U,t+N.size,L1,y,bh (canon c.M) hs,ud,e,ys,ds,ns,xs,x,Z,OG,w6.same s4,w7,w8,hP.mono t8,b1,d0.mono (ae.tm s4),gk,?_,λw uw L' H5 e7 hw o0 ft d1 R5 l5 t5 k5=>J _ _ ?_,?_]
  ·cases e with
   |ask=>trivial
   |st p0 l=>cases l<;>first |trivial |exact hP.cs hd _ e5
  ·clear J
   have K5:aS r lA H3 H5:=(aS.of_same s4).trans k5
   have t6:al H3 H5:=w6.tm K5
   have g5:=t6 _ _ h5
   have w0:H5 S=some (.lst R):=K5 _ _ s0 s3 w1
   have l3:=Jl w3 w2
   refine aj λF1 J=>#[_,Z,.inl #[Z,_,aG.of w0],ju g5 Z (ju g5 Z #[_,Z,gE,λO n3=>?_])]
   have s6:ae H5 (ah H5 O (.tup [.int (n:Int),.ref D,uw])):=je n3
   have e6:ah H5 O (.tup [.int (n:Int),.ref D,uw]) O=some (.tup [.int (n:Int),.ref D,uw]):=jc
   refine#[S,_,_,Z,Z,s6 _ _ w0,OG,J _ _ ?_]
   clear J
   generalize ah H5 O (.tup [.int (n:Int),.ref D,uw])=H6 at s6 e6
   have b7:aB S H6 (ah H6 S (.lst (R++[.ref O]))):=λb o nb e=>by rw[jh nb];exact e
   have t3:al H6 (ah H6 S (.lst (R++[.ref O]))):=λb xs e=>b7 _ _ (jO e (s6 _ _ w0) (by intro z;cases z)) e
   have w':ah H6 S (.lst (R++[.ref O])) S=some (.lst (R++[.ref O])):=jc
   generalize ah H6 S (.lst (R++[.ref O]))=H7 at b7 t3 w'
   have t2:al H5 H7:=λb xs e=>t3 _ _ (s6 _ _ e)
   have B:al H3 H7:=t6.trans t2
   have G:w.wh.side < c.ws.length:=by
    rw[c1.v.len,<- ed]
    cases e with
    |ask ta T=>show _ < 2;unfold Wh.side;split<;>(try split)<;>omega
    |st p0 l=>
     show _ < 1
     cases w<;>first |exact Nat.one_pos |exact o0.elim | (cases l<;>exact ft.elim)
   obtain⟨I,h0⟩:∃I,c0[w.wh.side]?=some I:=#[_,List.getElem?_eq_getElem (by rw[l0];exact G)]
   obtain⟨e2,h'⟩:=b0 _ _ I (List.getElem?_eq_getElem G) h0
   have sv:mq H7 nA d ys v O n D uw c hs w.wh e I:=#[P0.mono B,t3 _ _ e6,hc,B _ _ h6,hl,hi,(GX o0 hw).mono t2,ed,d0.mono B,ft,by rw[e2];exact List.getElem?_eq_getElem G,h'.mono B]
   have b2:dD (R++[V.ref O]) (-1)=some (.ref O):=AH
   refine#[_,Z,_,Z,_,Z,S,_,_,_,Z,Z,aG.of w',b2,v,uw,O,D,n,d,ys,c,hs,w.wh,e,I,Z,sv,λu2 H8 b3 s8=>?_]
   have t7:=ae.tm s8
   have t9:=B.trans t7
   have g1:=sh (H:=H7) b3 (qT sv.wdv.sets (re ft gk)) sv.wdv.goal
   have e8:BW g #[canon c.M,e,c0] hs w.wh=i8 (vA g) (c7 I.sets (pS e w.wh (bh (canon c.M) hs))) I.goal:=by
    show(match c0[w.wh.side]? with |some wd=>i8 (vA g) (c7 wd.sets (pS e w.wh (bh (canon c.M) hs))) wd.goal |none=>Gd.give 0)=_
    rw[h0]
   rw[pr.nms,<- e8]at g1
   rw[e7]at W
   have W:OC.pre N ((nq (cf x y j) y g m (BW g #[canon c.M,e,c0] hs w.wh) L' (t+N.size+1+w.size)).cons (n:Int) hs w)=X:=W
   rw[tq _ w3]at W
   have s7:=Xr (n:=(n:Int)) (hs:=hs) (w:=w) w3
   have R7:Rn H7 C r dx cA lA pA 60 (t+N.size+1+w.size) L' y:=#[b7 _ _ (Ne.symm s0) (s6 _ _ R5.ins),b7 _ _ (Ne.symm s3) (s6 _ _ R5.lf),b7 _ _ s9 (s6 _ _ R5.ce),R5.iL,R5.iC,R5.cl]
   have ez:t+N.size+1+w.size=t+(Sk.put (n:Int) hs w N).size:=by rw[s7];omega
   rw[ez]at R7 l5 t5 W
   refine fE (kk - (w.size+1)) _ _ OG #[_,u2,_,m,Sk.put (n:Int) hs w N,R++[.ref O],L',Z,s8 _ _ w',(Ag (t3 _ _ e6) (B _ _ h6) (hw.mono t2) w3 (w2.mono B)).mono t7,Y4 o0 w3,?_,g1,R7.same s8,l5,t5,?_,by rw[s7];omega,W,OG]
   ·have:=Y5 (n:=(n:Int)) (hs:=hs) (w:=w) (j:=j) d1 w3 OG
    omega
   ·intro b o n1 n2 e
    exact s8 _ _ (b7 _ _ (jk e Y) (s6 _ _ (K5 _ _ n1 n2 (w9 _ _ n1 n2 e))))
  ·exact nM.next ((t4.imp (λz=>by rw[z]at W;exact W.symm) (λz=>by rw[z]at W;exact W.symm)).mono λH5 kk=>λb o n1 n2 nx e=>kk b o n1 n2 nx (s4 _ _ (w9 _ _ n1 n2 e)))
inductive pq(f e l:Addr)(o:List V)(H:Hp)(Q:VK)(E:XK):Prop
 |mk(n g h:Addr)(i:Nat)(c:a8)(d:Df)(j:List Df)(m:List Nat)(p:List V)(b:List dU)(k:List Int)(_:o=[.ref n,.str d.f,.ref g,.ref h,.int 60])(_:Ps H l n j m p b)(_:j[i]?=some d)(_:m[i]?=some k.length)(_:H g=some (.tup (k.map V.int)))(_:∀z∈k,gp z)(_:H h=some (.dK c))(_:GT c)(_:∀(u:V) (sk:Sk) (a:Int) (L':a8) (H':Hp),cf b c 16 d.f k [] 0= .ok sk a L' sk.size->nD H' d.f k sk a u->sk.ok true->sk.dep<=15->sk.size<=60->ae H H'->Q u H')(_:nM (cf b c 16 d.f k [] 0= .long) (cf b c 16 d.f k [] 0= .deep) E f e (Kp H))
theorem xu(h:aN H (eO n d) v []):∃p r,v= .ref p/\H p=some (.tup (.str d.f:: .ref d.pa::r)):=by
 obtain⟨_,a,x,rfl,b,_,_,c,y,rfl,⟨rfl,_⟩,_,_,e,Y,rfl,⟨rfl,_⟩,_⟩:=h
 exact#[a,_,Z,b]
theorem Bn:af P w K mg base (eX P w) k f c z13z (dM C T b N 0):=by
 have n:∀{V H Q E},¬dM C T b N 0 V H Q E:=by
  rintro V H Q E ⟨r,e,g,l,j,m,D,t,i,L,q,v,d,u,x,X,p,I,_,_,z,_⟩
  omega
 exact#[λV H Q E h=>(n h).elim,λA o s H a U V Q E y B F G h=>(n h).elim]
theorem DM(d:RK K C)(F:aI K "chain_of" "BookRun.chain_of" xO k f)(B:ax K f z13z [])(m:a9 K C "chain_of" k)(l:aI K "what_of" "BookRun.what_of" xP D e)(o:ax K e z18z [])(M:a9 K C "what_of" D)(p:Cl P w K mg base 9 Q E ["part","args"] (fX n) "first_of")(q:Cl P w K mg base 9 U H z12z (fV n) "deed_at")(r:Cl P w K mg base 9 Y I ["part","step"] (uK n) "onward")(GT:af P w K mg base (eX P w) 1 J g ["self"] (iH C T))(s:ax K g ["self"] [])(a:a9 K C "take_turn" J)(G:af P w K mg base aA 1 L h ["self","cell"] (gf C))(t:ax K h ["self","cell"] [])(b:a9 K C "number_in" L)(u:af P w K mg base (eX P w) 1 v i ["deep"] (eF N))(x:ax K i ["deep"] [])(y:keepIn K (.ref v)=true)(z:mg "deeper"=some (.ref v))(A:Cl P w K mg base 2 fP O ["parts","f"] lT "part_of")(c:mg "tuple"=none):∀j,af P w K mg base (eX P w) (2*j+12) k f z13z (dM C T N n j)
 |0=>Bn
 |j+1=>Bu F d p q r (By l d GT s a G t b u x y z A (DM d F B m l o M p q r GT s a G t b u x y z A c j) B m) o M c
theorem Am:ai ["parts","f","args","cells","most","part"] z26z (aa CQ):=bp
theorem BQ(F:aI K "run" "run" CQ f fd)(ck:RK K C)(mk:Mk K C fI)(GI:af P w K mg base aA 2 fI y z23z (lU C))(bI:ax K y z23z [])(mC:mg "BookRun"=some (.ref C))(cB:Cl P w K mg base 2 fB f0 ["ones","f","args"] gZ "begun")(GA:af P w K mg base (eX P w) 44 fA B z13z (dM C TL TD nA 16))(bA:ax K B z13z [])(M:a9 K C "chain_of" fA):af P w K mg base (eX P w) 45 f fd z26z (pq TL TD nA):=by
 refine F.ok1 Am ?_ λc0 A O s H vs Q E G h=>?_
 ·rintro _ _ _ _ ⟨g,I,j,i,J,d,ds,ns,X,k,is,rfl,_⟩
  rfl
 obtain⟨g,I,j,i,J,d,ds,ns,X,k,is,rfl,x,L,hn,ha,R,t,T,q,U⟩:=h
 refine#[_,(jd (jz 5 Am.nd (cB.e G.m (ja (pv 0) (ja (pv 1) (ja (pv 2) jb))))) (jg (jo (j6 (YJ mk GI G.m Z mC bI .nil aY (ja (pv 0) (ja (pv 3) (ja (pv 4) jb)))) ck.cl M GA G.m bA .nil zS (ja (pv 5) (ja (pv 2) (ja jf jb))))))),?_]
 obtain⟨v,hv,tv,h0,V⟩:=x.at L
 obtain⟨p,pr,rfl,hp⟩:=xu tv
 obtain⟨ps,W,h1,_⟩:=x.pa.2 i d _ L hn
 refine aj λF1 f1=>#[_,Z,_,Z,_,Z,g,I,d.f,X,_,i,.ref p,p,d.pa,pr,_,Z,x.at',hv,Z,hp,W,ha,by rw[HZ,HZ];omega,V,f1 _ _ ?_]
 clear f1
 refine#[_,Z,_,Z,_,Z,λr D N nd ne=>?_]
 have s0:ae H (ah (ah H D (.own r)) r (.ins C D [])):=λc o e=>by rw[jh (jk e N),jh (jk e nd)];exact e
 refine#[r,D,g,j,60,Z,jc,λl Y=>#[Z,?_]]
 have n0:l≠r:=λe=>by rw[e,jc]at Y;cases Y
 have n:H l=none:=by
  cases z:H l with
  |none=>rfl
  |some o=>have:=s0 _ _ z;rw[Y]at this;cases this
 have S:ae H (ah (ah (ah (ah H D (.own r)) r (.ins C D [])) l (.dK [])) r (.ins C D (hX j l g 60 0))):=λc o e=>by rw[jh (jk e N),jh (jk e n)];exact s0 _ _ e
 have R1:Rn (ah (ah (ah (ah H D (.own r)) r (.ins C D [])) l (.dK [])) r (.ins C D (hX j l g 60 0))) C r D j l g 60 0 [] J:=#[jc,by rw[jh n0];exact jc,S _ _ t,GT.nil,T,jk t n]
 generalize ah (ah (ah (ah H D (.own r)) r (.ins C D [])) l (.dK [])) r (.ins C D (hX j l g 60 0))=H1 at S R1
 have t0:=ae.tm S
 refine#[r,D,_,Z,R1.ins,Z,_,Z,_,Z,r,D,j,l,g,I,0,0,i,[],J,.ref p,d,ds,ns,X,k,is,Z,Z,OF,R1,Ib _,OF,x.mono t0,L,hn,hv,S _ _ ha,R,λu sk a L' H2 eq hc ok dp ia R2 l2 t2 k2=>?_,nM.next (U.mono λH' kk=>λb o nx e=>kk b o (jk e N) (jk e n) nx (S _ _ e))]
 exact q u sk a L' H2 (by rw[MP]at eq;exact eq) hc ok OG OG λc o e=>k2 c o (jk e N) (jk e n) (S _ _ e)
noncomputable def Dq:Sk->Tr
 | .nil=>.nil
 | .st n h w r=>.cons (aE [aw n,aE (h.map aw),Dq w]) (Dq r)
 | .ask b=>aE [aJ "ask",aw b]
 | .rd c i=>aE [aJ "read",aw c,aw i]
 | .wr c i=>aE [aJ "write",aw c,aw i]
 | .cl f I s a=>aE [aJ "call",aE [aJ f,aE (I.map aw),.tp (Dq s),aw a]]
theorem Z8:∀{b:Bool} {s:Sk},s.ok b->(Dq s).isL=b
 |true,.nil,_=>rfl
 |true,.st _ _ _ _,_=>rfl
 |false,.cl _ _ _ _,_=>rfl
 |false,.ask _,_=>rfl
 |false,.rd _ _,_=>rfl
 |false,.wr _ _,_=>rfl
theorem zT{H:Hp}{a:List Int}(e:H h=some (.tup (a.map V.int))):aN H (aE (a.map aw)) (.ref h) []:=jD e JP
theorem J3:∀{b:Bool} {s:Sk} {u:V} {X:List V},s.ok b->dH H s u X->(b=false->X=[])->(b=true->u= .non)->aN H (Dq s) u X
 |true,.nil,_,_,_,h,_,_=>h
 |true,.st n t w r,_,_,o,q,_,z=>by
  obtain⟨p,h,u,y,e,d,j,k,l⟩:=q
  rw[e,z Z]
  exact#[Z,Z8 o.2,_,_,Z,jD d (jl Z jU (jl Z (zT j) (jl (Z8 o.1) (J3 o.1 k (λ_=>Z) (λx=>nomatch x)) jB))),J3 o.2 l (λx=>nomatch x) (λ_=>Z)]
 |false,.ask b,_,_,_,q,z,_=>by obtain⟨p,e,h⟩:=q;rw[e,z Z];exact jD h (jl Z jT (jl Z jU jB))
 |false,.rd c i,_,_,_,q,z,_=>by obtain⟨p,e,h⟩:=q;rw[e,z Z];exact jD h (jl Z jT (jl Z jU (jl Z jU jB)))
 |false,.wr c i,_,_,_,q,z,_=>by obtain⟨p,e,h⟩:=q;rw[e,z Z];exact jD h (jl Z jT (jl Z jU (jl Z jU jB)))
 |false,.cl f I s a,_,_,o,q,z,_=>by
  obtain⟨p,c,g,e,S,E,d,j,k,l,m⟩:=q
  rw[E,z Z]
  exact jD d (jl Z jT (jl Z (jD j (jl Z jT (jl Z (zT k) (jl Z #[Z8 o,e,S,Z,l,J3 (b:=true) o m (λx=>nomatch x) (λ_=>Z)] (jl Z jU jB))))) jB))
theorem Kl:∀i:List Int,(aC (i.map aw)).dep=0
 | []=>rfl
 |_::i=>by show max 0 (aC (i.map aw)).dep=0;rw[Kl i];rfl
theorem Ce{p:List Str}{v:V}(h:mh H N d y v)(g:H d.pa=some (.tup (p.map V.str))):∃q,vN H N d y q:=by
 obtain⟨W,E,i⟩:=h.way
 obtain⟨a,J,L,O,rfl,Q,m,r,j⟩:=h.parts
 obtain⟨C,s,t⟩:=vU (R:=λc u=>Dx H y N d c u) (bK N d) λc k=>by
  obtain⟨n,x,z⟩:=List.mem_iff_getElem.mp k
  obtain⟨S,T,U,X,A,_,o⟩:=h.cut j (n:=n) (c:=c) (by rw[<- z];exact HW x)
  obtain⟨e,B,D,F⟩:=DU o.v.deed
  obtain⟨G,I,l⟩:=vU (R:=λ(w:Wy) (W:WD)=>W.wy N=w/\vw H y d.b.cuts d.b.size W) c.ws λw m=>o.v.ways w m
  exact#[#[canon c.M,e,G],Z,B,D,F,I,l]
 exact#[#[d.f,p,W,C],Z,g,E,i,s,t]
theorem Ey{H:Hp}{D:List Df}(a:H l=some (.tup x))(T:aN H (aC (D.map (eO n))) .non x)(g:∃z,cj H D z)(o:pW D N)(j:mf H D N):∃p,Ps H n l D N x p:=by
 have L:=ze T
 rw[HZ]at L
 obtain⟨p,m,q⟩:=vU (R:=λd c=>∃y,(d.b.Ok y/\y.length<=20)/\vN H n d y c) D λd e=>by
  obtain⟨i,r,E⟩:=List.mem_iff_getElem.mp e
  have h:D[i]?=some d:=by rw[<- E];exact HW r
  have s:x[i]?=some (x[i]'OG):=HW _
  obtain⟨t,k,u⟩:=qG T i _ s
  rw[Ir,h]at k
  cases k
  obtain⟨z,A⟩:=g
  obtain⟨⟨y,Y,o⟩,_,S⟩:=(o.1 d e).1
  obtain⟨C,f,_⟩:=j.v d e
  obtain⟨c,B⟩:=Ce (v:=x[i]'OG) #[u,Z7 A h,o,Y,S] f
  exact#[c,y,#[o,Y],B]
 exact#[p,a,T,g,o,j,m,q]
theorem yP{call:nC}{w:Sk}(h:gV call C k L t e= .ok w l T):t < 60:=by
 by_cases z:t < 60
 ·exact z
 ·rw[Y7 z]at h;cases h
end _K
namespace _K
open PySem PySem.Spec PyProof.Rows _L
variable {P:Program}{w:World}{K:Frag}{mg:Str->Option Value}{base:Heap}
noncomputable def Bj:V->Bool
 | .int _=>true
 | .str _=>true
 |_=>false
noncomputable def _root_._L.Tr.In:Tr->Prop
 | .lf v=>Bj v=true
 | .tp l=>l.In
 | .nil=>True
 | .cons h t=>h.In/\t.In
noncomputable def _root_._L.Tr.items:Tr->List Tr
 | .cons h t=>h::t.items
 |_=>[]
theorem QG{H:Hp}:∀{t u:Tr} {x:V} {xs:List V},aN H t x xs->aN H u x xs->t.isL=u.isL->t.In->u.In->t=u
 | .lf v,.lf w,_,_,h,k,_,_,_=>by rw[<- h.1,<- k.1]
 | .lf v,.tp m,_,_,h,k,_,i,_=>by
  obtain⟨_,a,_,e,_⟩:=k
  have E:=h.1
  rw[e]at E
  rw[<- E]at i
  cases i
 | .tp l,.lf v,_,_,k,h,_,_,i=>by
  obtain⟨_,a,_,e,_⟩:=k
  have E:=h.1
  rw[e]at E
  rw[<- E]at i
  cases i
 | .tp l,.tp m,_,_,h,k,_,i,j=>by
  obtain⟨o,a,xs,e,p,q⟩:=h
  obtain⟨r,b,Y,c,d,f⟩:=k
  rw[e]at c
  cases c
  rw[p]at d
  cases d
  rw[QG q f (o.trans r.symm) i j]
 | .nil,.nil,_,_,_,_,_,_,_=>rfl
 | .nil,.cons _ _,_,_,h,k,_,_,_=>by
  obtain⟨_,_,_,_,e,_⟩:=k
  have h:_=[]:=h
  rw[e]at h
  cases h
 | .cons _ _,.nil,_,_,k,h,_,_,_=>by
  obtain⟨_,_,_,_,e,_⟩:=k
  have h:_=[]:=h
  rw[e]at h
  cases h
 | .cons h t,.cons G T,_,_,k,s,_,i,j=>by
  obtain⟨A,B,y,Y,e,d,f⟩:=k
  obtain⟨C,D,I,F,c,g,n⟩:=s
  rw[e]at c
  cases c
  rw[QG d g (A.trans C.symm) i.1 j.1,QG f n (B.trans D.symm) i.2 j.2]
 | .lf _,.nil,_,_,_,_,z,_,_=>nomatch z
 | .lf _,.cons _ _,_,_,_,_,z,_,_=>nomatch z
 | .tp _,.nil,_,_,_,_,z,_,_=>nomatch z
 | .tp _,.cons _ _,_,_,_,_,z,_,_=>nomatch z
 | .nil,.lf _,_,_,_,_,z,_,_=>nomatch z
 | .nil,.tp _,_,_,_,_,z,_,_=>nomatch z
 | .cons _ _,.lf _,_,_,_,_,z,_,_=>nomatch z
 | .cons _ _,.tp _,_,_,_,_,z,_,_=>nomatch z
theorem ql:∀{l:Tr} {X:List V},l.isL=true->l.In->aN H l .non X->X.length=l.items.length/\∀(j:Nat) (x:V),X[j]?=some x->∃t,l.items[j]?=some t/\t.isL=false/\t.In/\t.dep<=l.dep/\aN H t x []
 | .nil,X,_,_,h=>by have h:X=[]:=h;rw[h];exact#[Z,λj x z=>by simp at z]
 | .cons a t,X,_,i,h=>by
  obtain⟨A,c,y,Y,e,k,d⟩:=h
  subst e
  obtain⟨L,f⟩:=ql c i.2 d
  refine#[K' (·+1) L,λj x b=>?_]
  cases j with
  |zero=>cases b;exact#[a,Z,A,i.1,M3 _ _,k]
  |succ j=>
   obtain⟨u,g,m,n,o,p⟩:=f j x (by simpa using b)
   exact#[u,by simpa [_L.Tr.items] using g,m,n,Ik o (MX _ _),p]
 | .lf _,_,z,_,_=>nomatch z
 | .tp _,_,z,_,_=>nomatch z
theorem Xt:∀{l m:Tr} {x y:List V},l.isL=true->m.isL=true->aN H l .non x->aN H m .non y->(l=m↔l.items=m.items)
 | .nil,.nil,_,_,_,_,_,_=>#[λ_=>Z,λ_=>Z]
 | .nil,.cons _ _,_,_,_,_,_,_=>#[λz=>(nomatch z),λz=>(nomatch z)]
 | .cons _ _,.nil,_,_,_,_,_,_=>#[λz=>(nomatch z),λz=>(nomatch z)]
 | .cons a t,.cons b u,_,_,_,_,h,k=>by
  obtain⟨_,A,_,_,_,_,d⟩:=h
  obtain⟨_,B,_,_,_,_,c⟩:=k
  have i:=Xt A B d c
  refine#[λz=>by cases z;rfl,λz=>?_]
  have z:a::t.items=b::u.items:=z
  injection z with e f
  rw[e,i.mpr f]
 | .lf _,_,_,_,z,_,_,_=>nomatch z
 | .tp _,_,_,_,z,_,_,_=>nomatch z
 | .nil,.lf _,_,_,_,z,_,_=>nomatch z
 | .nil,.tp _,_,_,_,z,_,_=>nomatch z
 | .cons _ _,.lf _,_,_,_,z,_,_=>nomatch z
 | .cons _ _,.tp _,_,_,_,z,_,_=>nomatch z
open Classical in
noncomputable def gG(t u:Tr):Bool:=decide (t=u)
open Classical in
theorem zO(h:t=u):gG t u=true:=by unfold gG;exact IB h
open Classical in
theorem zh(h:t≠u):gG t u=false:=by unfold gG;exact Im h
noncomputable def iQ(l m:Tr)(j:Nat):Bool:=match l.items[j]?,m.items[j]? with
 |some t,some u=>gG t u
 |_,_=>true
theorem Xu{l m:Tr}(a:l.isL=true)(b:m.isL=true)(h:aN H l .non x)(k:aN H m .non y)(d:n=l.items.length)(E:N=m.items.length):((List.range (min n N)).all (iQ l m)&&n==N)=gG l m:=by
 by_cases e:l=m
 ·subst e
  rw[zO Z,d,E,Nh,Bool.and_true,Nk]
  intro j _
  unfold iQ
  cases l.items[j]? with
  |none=>rfl
  |some t=>exact zO Z
 ·rw[zh e]
  have f:l.items≠m.items:=λz=>e ((Xt a b h k).mpr z)
  by_cases g:n=N
  ·have z:(List.range (min n N)).all (iQ l m)=false:=by
    rw[Bool.eq_false_iff]
    intro z
    rw[Nk]at z
    refine f (N8 OG λj i o=>?_)
    have:=z j (List.mem_range.mpr OG)
    unfold iQ at this
    rw[HW i,HW o]at this
    exact Classical.byContradiction λc=>by
     have C:=zh c
     dsimp only at this
     rw[C]at this
     cases this
   rw[z]
   rfl
  ·rw[show(n==N)=false from beq_eq_false_iff_ne.mpr g,NG]
section
open PySem.SeqAt
variable {X:Cx}
theorem Ee{w:V}(H:Bj v=true)(h:Bj w=true)(R:aD v a)(r:aD w b):EqAt A s a b (gG (.lf v) (.lf w)):=by
 cases v with
 |int i=>
  obtain⟨T,rfl⟩:=R
  cases w with
  |int j=>
   obtain⟨t,rfl⟩:=r
   have z:=EqAt.int_int (A:=A) (s:=s) i T j t
   by_cases e:i=j
   ·subst e;rw[Nh]at z;rw[zO Z];exact z
   ·rw[beq_eq_false_iff_ne.mpr e]at z;rw[zh (λc=>e (by injection c with c;injection c))];exact z
  |str y=>
   obtain⟨t,rfl⟩:=r
   rw[zh (λc=>by injection c with c;cases c)]
   exact EqAt.int_str _ _ _ _
  |_=>cases h
 |str i=>
  obtain⟨T,rfl⟩:=R
  cases w with
  |str j=>
   obtain⟨t,rfl⟩:=r
   have z:=EqAt.str_str (A:=A) (s:=s) i T j t
   by_cases e:i=j
   ·subst e;rw[Nh]at z;rw[zO Z];exact z
   ·rw[beq_eq_false_iff_ne.mpr e]at z;rw[zh (λc=>e (by injection c with c;injection c))];exact z
  |int y=>
   obtain⟨t,rfl⟩:=r
   rw[zh (λc=>by injection c with c;cases c)]
   exact EqAt.str_int _ _ _ _
  |_=>cases h
 |_=>cases H
theorem EF(I:ap X p σ H s)(n:Nat)(G:∀(t:Tr) {A:Around},t.dep<=n->A.units+n < cLine->t.In->t.isL=false->∀{u:Tr} {x y:V},u.In->u.isL=false->aN H t x []->aN H u y []->∀a b,aD x a->aD y b->EqAt A s a b (gG t u)){l m:Tr}(hn:l.dep<=n)(hu:A.units+n+1 < cLine)(J:l.In)(L:m.In)(d:l.isL=true)(f:m.isL=true)(M:H g=some (.tup i))(N:H B=some (.tup o))(T:aN H l .non i)(q:aN H m .non o):RcAt A s (.ref g) (.ref B) (gG (.tp l) (.tp m)):=by
 obtain⟨v,r,O,_⟩:=I.tuple (ay.of (K:=X.K) M)
 obtain⟨C,R,Q,_⟩:=I.tuple (ay.of (K:=X.K) N)
 obtain⟨S,U⟩:=ql d J T
 obtain⟨W,Y⟩:=ql f L q
 have z:=RcAt.tuples (A:=A) (e:=iQ l m) (show s.heap.IsTuple g v.toArray from O) (show s.heap.IsTuple B C.toArray from Q) OG (λj h1 h2=>?_)
 ·rw[Xu d f T q (by rw[Ic,<- r.length,S]) (by rw[Ic,<- R.length,W])]at z
  have E:gG (.tp l) (.tp m)=gG l m:=by
   by_cases c:l=m
   ·rw[zO c,zO (by rw[c])]
   ·rw[zh c,zh (λk=>c (by injection k))]
  rw[E]
  exact z
 ·have la:=r.length
  have lb:=R.length
  have D:j < i.length:=by simp at h1;omega
  have h:j < o.length:=by simp at h2;omega
  obtain⟨u1,q1,r1⟩:=r.get (HW D)
  obtain⟨u2,q2,r2⟩:=R.get (HW h)
  have e1:v.toArray[j]=u1:=by
   obtain⟨_,e⟩:=List.getElem?_eq_some_iff.mp q1
   simpa using e
  have E:C.toArray[j]=u2:=by
   obtain⟨_,e⟩:=List.getElem?_eq_some_iff.mp q2
   simpa using e
  rw[e1,E]
  obtain⟨F,g1,g2,g3,g4,g5⟩:=U j _ (HW D)
  obtain⟨u',k1,k2,k3,k4,k5⟩:=Y j _ (HW h)
  have et:iQ l m j=gG F u':=by unfold iQ;rw[g1,k1]
  rw[et]
  exact G F (A:=A.in1) OG (by show A.units+1+n < cLine;omega) g3 g2 k3 k2 g5 k5 _ _ r1 r2
theorem u6(I:ap X z Y H s):∀(n:Nat) (t:Tr) {A:Around},t.dep<=n->A.units+n < cLine->t.In->t.isL=false->∀{u:Tr} {x y:V},u.In->u.isL=false->aN H t x []->aN H u y []->∀a b,aD x a->aD y b->EqAt A s a b (gG t u):=by
 intro n
 induction n with
 |zero=>
  intro t A k J i L u x y d g j h a b R r
  cases t with
  |tp l=>exact absurd k (by show ¬l.dep+1<=0;omega)
  |nil |cons _ _=>cases L
  |lf v=>
   obtain⟨rfl,_⟩:=j
   cases u with
   |nil |cons _ _=>cases g
   |lf w=>
    obtain⟨rfl,_⟩:=h
    exact Ee i d R r
   |tp m=>
    obtain⟨_,B,M,rfl,o,_⟩:=h
    cases r
    obtain⟨W,N,C,_⟩:=I.tuple (ay.of (K:=X.K) o)
    rw[zh (λc=>by cases c)]
    cases x<;>first |cases i |skip
    ·obtain⟨T,rfl⟩:=R
     exact EqAt.int_tuple _ _ C OG
    ·obtain⟨T,rfl⟩:=R
     exact EqAt.str_tuple _ _ C OG
 |succ n D=>
  intro t A k J i L u x y d g j h a b R r
  cases t with
  |nil |cons _ _=>cases L
  |lf v=>exact D (.lf v) (Il _) OG i L d g j h a b R r
  |tp l=>
   obtain⟨E,p,O,rfl,q,F⟩:=j
   cases R
   obtain⟨ia,Q,G,_⟩:=I.tuple (ay.of (K:=X.K) q)
   cases u with
   |nil |cons _ _=>cases g
   |lf w=>
    obtain⟨rfl,_⟩:=h
    rw[zh (λc=>by cases c)]
    cases y<;>first |cases d |skip
    ·obtain⟨T,rfl⟩:=r
     exact EqAt.tuple_int _ _ G OG
    ·obtain⟨T,rfl⟩:=r
     exact EqAt.tuple_str _ _ G OG
   |tp m=>
    have f:=id h
    obtain⟨S,B,M,rfl,o,U⟩:=h
    cases r
    by_cases e:p=B
    ·subst e
     rw[zO (QG (H:=H) (t:=.tp l) (u:=.tp m) (x:=.ref p) (xs:=[]) #[E,p,O,Z,q,F] f Z i d)]
     exact EqAt.same _
    ·exact EqAt.of_refs e (EF I n D (by have:l.dep+1<=n+1:=k;omega) OG i d E S q o F U)
inductive xK(d:Nat)(x y:V)(H:Hp)(Q:VK):Prop
 |mk(l m:Tr)(_:l.dep < d)(_:l.In)(_:m.In)(_:aN H (.tp l) x [])(_:aN H (.tp m) y [])(_:Q (.bl (gG (.tp l) (.tp m))) H)
theorem XY{d:Nat}(c:X.A.units+d+1 < cLine):eY X (compareOp .Eq) (xK d):=by
 intro p s n H x y v u Q I r R h
 obtain⟨l,m,o,i,e,⟨f,a,z,rfl,g,t⟩,⟨j,b,B,rfl,k,T⟩,q⟩:=h
 cases r
 cases R
 exact EF I d (u6 I d) OG c i e f j g k t T X.prog X.w _ _ #[.bl _,H,I,Z,q]
end
end _K
namespace _K
open PySem PySem.Spec PyProof.Rows _L
variable {P:Program}{w:World}{K:Frag}{mg:Str->Option Value}{base:Heap}
noncomputable abbrev CG:Stmt:=bu 27
theorem h9{w:V}:dD (v::u::w::y) 2=some w:=jK (j:=2) Z
theorem Hu{w:V}:dD (v::u::w::z::y) 3=some z:=jK (j:=3) Z
theorem we{X:List V}{i:Nat}{x:V}(h:X[i]?=some x):X.drop i=x::X.drop (i+1):=by
 obtain⟨H,e⟩:=List.getElem?_eq_some_iff.mp h
 rw[<- e,LJ]
theorem zF(h:nD H f i s a u)(k:al H b):nD b f i s a u:=by
 obtain⟨c,g,e,S,E,d,j,l,m⟩:=h
 exact#[c,g,e,S,E,k _ _ d,k _ _ j,k _ _ l,m.mono k]
noncomputable def dI:Sk->Tr
 | .rd c _=>aE [aJ "read",aw c]
 | .cl f I _ _=>aE [aJ "call",aJ f,aE (I.map aw)]
 | .wr c i=>aE [aJ "write",aw c,aw i]
 | .ask b=>aE [aJ "ask",aw b]
 |_=>.nil
theorem AU{call:nC}{w:Sk}(h:gV call C k L t e= .ok w i j):dI w=DV k e:=by
 have b:=yP h
 cases e with
 |ask d T=>rw[XX b]at h;cases h;rfl
 |st p l=>
  cases l with
  |gv d T |st x d T=>unfold gV at h;rw[Io b]at h;cases h
  |rd x d T=>rw[Z5 b]at h;cases h;rfl
  |wr d u T U=>rw[Z6 b]at h;cases h;rfl
  |cl x f q g=>
   rw[K8 b]at h
   cases e:call f (g.map λc=>c.2.ev k) L (t+1) with
   |long |deep=>rw[e]at h;cases h
   |ok s a _L m=>rw[e]at h;cases h;show aE [_,_,aE ((g.map λc=>c.2.ev k).map aw)]=_;rw[Mu];rfl
inductive mJ(b:List V)(H:Hp)(Q:VK)(a:XK):Prop
 |mk(u:V)(w:Sk)(_:b=[u])(_:dH H w u [])(_:w.ok false)(_:∀(v:V) (H':Hp),aN H' (dI w) v []->ae H H'->Q v H')
theorem EJ:ai ["what"] ["what"] (aa CG):=bp
theorem BD(F:aI K "deed_in" "deed_in" CG f B):af P w K mg base aA 1 f B ["what"] mJ:=by
 refine F.ok EJ ?_ λC A o s H V Q E l h=>?_
 ·rintro _ _ _ _ ⟨u,w,rfl,_⟩
  rfl
 obtain⟨u,w,rfl,m,t,q⟩:=h
 refine#[_,(jd (jx (kh (jy (pv 0))) (jg (jo (jH kc (pv 0) jR (jF jf)))) jp) (jd (jx (kh (jy (pv 0))) (jg (jo (jw j7 (ji (ja jm jb)) (jH kc (jy (pv 0)) jR (jF jf))))) jp) (jg (jo (pv 0))))),?_]
 cases w with
 |nil |st=>exact t.elim
 |ask b=>
  obtain⟨p,rfl,d⟩:=m
  refine aj λk i=>(ju d Z #[Z,_,Z,aV OJ (i _ _ ?_)])
  clear i
  refine aj λk i=>(ju d Z #[Z,_,Z,aV OJ (i _ _ ?_)])
  exact#[_,Z,q _ _ (jD d (jl Z jT (jl Z jU jB))) (ae.refl _)]
 |wr b D=>
  obtain⟨p,rfl,d⟩:=m
  refine aj λk i=>(ju d Z #[Z,_,Z,aV OJ (i _ _ ?_)])
  clear i
  refine aj λk i=>(ju d Z #[Z,_,Z,aV OJ (i _ _ ?_)])
  exact#[_,Z,q _ _ (jD d (jl Z jT (jl Z jU (jl Z jU jB)))) (ae.refl _)]
 |rd b D=>
  obtain⟨p,rfl,d⟩:=m
  refine aj λk i=>(ju d Z #[Z,_,Z,cy OJ #[_,Z,_,Z,p,_,Z,d,λr y l S=>q _ _ ?_ S]])
  have l:y r=some (.tup [.str "read",.int b]):=l
  exact jD l (jl Z jT (jl Z jU jB))
 |cl f R s a=>
  obtain⟨p,c,g,e,T,rfl,d,G,I,U,W⟩:=m
  refine aj λk i=>(ju d Z #[Z,_,Z,aV OJ (i _ _ ?_)])
  clear i
  refine aj λk i=>(ju d Z #[Z,_,Z,cy OJ #[lY,λJ n=>(ju (ao d n) iR #[_,Z,c,_,Z,ao G n,λL y v S=>#[J,L,_,_,Z,Z,S _ _ jc,v,gE,λM N j z=>q _ _ ?_ (((je n).trans S).trans z)]])]])
  have j:N M=some (.tup [.str "call",.str f,.ref g]):=j
  exact jD j (jl Z jT (jl Z jT (jl Z (zT (z _ _ (S _ _ (ao I n)))) jB)))
noncomputable abbrev x6:Stmt:=bu 7
noncomputable abbrev ya:Stmt:=bu 8
noncomputable abbrev xV:Stmt:=bu 9
abbrev bQ:=List Int
abbrev bo:=Int×List Int×Sk
abbrev RA(a:Type):=Hp->V->a->Prop
def b8{a:Type}(R:RA a)(H:Hp):List a->List V->Prop
 | [],v=>v=[]
 |w::W,v=>∃x r,v=x::r/\R H x w/\b8 R H W r
def Fp{a:Type}(R:RA a):Prop:=∀(H h:Hp) (x:V) (w:a),al H h->R H x w->R h x w
section
variable {α:Type}{R:RA α}
theorem b8.mono(a:Fp R){H b:Hp}(k:al H b):∀{W:List α} {v:List V},b8 R H W v->b8 R b W v
 | [],_,h=>h
 |_::_,_,z=>by obtain⟨x,r,e,c,d⟩:=z;exact #[x,r,e,a _ _ _ _ k c,b8.mono a k d]
theorem b8.app{H:Hp}{b:List α}{y:List V}(a:b8 R H b y):∀{W:List α} {v:List V},b8 R H W v->b8 R H (W++b) (v++y)
 | [],_,h=>by have e:_=[]:=h;rw[e];exact a
 |_::_,_,z=>by obtain⟨x,r,e,c,d⟩:=z;exact #[x,r++y,by rw[e];rfl,c,b8.app a d]
theorem b8.len{H:Hp}:∀{W:List α} {v:List V},b8 R H W v->v.length=W.length
 | [],_,h=>by have e:_=[]:=h;rw[e];rfl
 |_::_,_,z=>by obtain⟨x,r,e,b,a⟩:=z;rw[e];exact congrArg (·+1) (b8.len a)
theorem b8.at{H:Hp}:∀{W:List α} {v:List V},b8 R H W v->∀{i:Nat} {x:V},v[i]?=some x->∃w,W[i]?=some w/\R H x w
 | [],_,h,i,x,a=>by have e:_=[]:=h;rw[e]at a;simp at a
 |w::_,_,q,0,x,a=>by obtain⟨y,r,e,b,c⟩:=q;rw[e]at a;cases a;exact#[w,Z,b]
 |w::W,_,q,i+1,x,a=>by obtain⟨y,r,e,b,c⟩:=q;rw[e]at a;exact b8.at c (i:=i) (by simpa using a)
theorem b8.one{H:Hp}{w:α}{x:V}(h:R H x w):b8 R H [w] [x]:=#[x,[],Z,h,Z]
theorem b8.map{a:Type}{S:RA a}{H:Hp}{g:α->a}{f:V->V}(h:∀x w,R H x w->S H (f x) (g w)):∀{W:List α} {v:List V},b8 R H W v->b8 S H (W.map g) (v.map f)
 | [],_,e=>by have e:_=[]:=e;rw[e];rfl
 |_::_,_,z=>by obtain⟨x,r,e,b,c⟩:=z;exact #[f x,r.map f,by rw[e];rfl,h _ _ b,b8.map h c]
end
def mn:RA bQ:=λH x p=>∃a,x= .ref a/\H a=some (.tup (p.map V.int))
theorem d9:Fp mn:=λ_ _ _ _ k #[a,e,h]=>#[a,e,k _ _ h]
def DK:RA (bQ×Sk):=λH x w=>∃q p u,x= .ref q/\H q=some (.tup [.ref p,u])/\H p=some (.tup (w.1.map V.int))/\dH H w.2 u []
theorem oy:Fp DK:=λ_ _ _ _ k #[q,p,u,e,h,H,a]=>#[q,p,u,e,k _ _ h,k _ _ H,a.mono k]
noncomputable def Sk.steps:Sk->List bo
 | .st n h w r=>(n,h,w)::r.steps
 |_=>[]
noncomputable def Sk.ws:Sk->bQ->Nat->List (bQ×Sk)
 | .st _ _ w r,p,k=>((p++[(k:Int)],w)::w.ws (p++[(k:Int)]) 0)++r.ws p (k+1)
 | .cl _ _ s _,p,_=>s.ws p 0
 |_,_,_=>[]
noncomputable def gR:List bo->bQ->Nat->List (bQ×Sk)
 | [],_,_=>[]
 |s::r,p,k=>((p++[(k:Int)],s.2.2)::s.2.2.ws (p++[(k:Int)]) 0)++gR r p (k+1)
theorem Kf:∀{s:Sk},s.ok true->∀p k,s.ws p k=gR s.steps p k
 | .nil,_,_,_=>rfl
 | .st _ _ w r,o,p,k=>by show _++r.ws p (k+1)=_++gR r.steps p (k+1);rw[Kf o.2]
theorem qp:∀(a b:List bo) (p:bQ) (k:Nat),gR (a++b) p k=gR a p k++gR b p (k+a.length)
 | [],_,_,_=>rfl
 |s::a,b,p,k=>by show _++gR (a++b) p (k+1)=(_++gR a p (k+1))++gR b p (k+(a.length+1));rw[qp a b,List.append_assoc,show k+1+a.length=k+(a.length+1) by omega]
theorem zM:∀{b:Bool} {s:Sk},s.ok b->∀(p:bQ) (k:Nat),(s.ws p k).length=s.size
 |true,.nil,_,_,_=>rfl
 |true,.st _ _ w r,o,p,k=>by
  have h:=zM (b:=false) (s:=w) o.1 (p++[(k:Int)]) 0
  have H:=zM (b:=true) (s:=r) o.2 p (k+1)
  show(((p++[(k:Int)],w)::w.ws (p++[(k:Int)]) 0)++r.ws p (k+1)).length=w.size+r.size+1
  rw[List.length_append,List.length_cons,h,H]
  omega
 |false,.cl _ _ s _,o,p,_=>zM (b:=true) (s:=s) o p 0
 |false,.ask _,_,_,_=>rfl
 |false,.rd _ _,_,_,_=>rfl
 |false,.wr _ _,_,_,_=>rfl
theorem XZ(a:List bo)(i:Nat)(p:bQ)(k:Nat):(gR (a.take i) p k).length<=(gR a p k).length:=by
 have:=congrArg List.length (qp (a.take i) (a.drop i) p k)
 rw[List.take_append_drop,List.length_append]at this
 omega
theorem qh{H:Hp}:∀{s:Sk} {S:List V},s.ok true->dH H s .non S->∀{i:Nat} {x:V},S[i]?=some x->∃n b w p h u,s.steps[i]?=some (n,b,w)/\w.ok false/\w.dep<=s.dep/\w.size+1<=s.size/\x= .ref p/\H p=some (.tup [.int n,.ref h,u])/\H h=some (.tup (b.map V.int))/\dH H w u []
 | .nil,_,_,e,i,x,a=>by have e:_=[]:=e;rw[e]at a;simp at a
 | .st n b w r,_,o,q,0,x,a=>by
  obtain⟨p,h,u,y,e,d,f,g,j⟩:=q
  rw[e]at a
  cases a
  exact#[n,b,w,p,h,u,Z,o.1,Nat.le_max_left _ _,by show w.size+1<=w.size+r.size+1;omega,Z,d,f,g]
 | .st n b w r,_,o,q,i+1,x,a=>by
  obtain⟨p,h,u,y,e,d,f,g,j⟩:=q
  rw[e]at a
  obtain⟨N,c,W,k,l,U,t,T,m,z,v⟩:=qh o.2 j (i:=i) (x:=x) (by simpa using a)
  exact#[N,c,W,k,l,U,t,T,Nat.le_trans m (Nat.le_max_right _ _),by show W.size+1<=w.size+r.size+1;omega,v]
theorem zG{H:Hp}:∀{s:Sk} {S:List V},s.ok true->dH H s .non S->S.length=s.steps.length
 | .nil,_,_,e=>by have e:_=[]:=e;rw[e];rfl
 | .st n b w r,_,o,z=>by obtain⟨p,h,u,y,e,c,d,f,a⟩:=z;rw[e];exact congrArg (·+1) (zG o.2 a)
theorem vW(p:bQ)(k:Nat):p.map V.int++[V.int (k:Int)]=(p++[(k:Int)]).map V.int:=by rw[List.map_append];rfl
inductive mW(n:Nat)(d:List V)(H:Hp)(Q:VK)(a:XK):Prop
 |mk(b:Addr)(c:bQ)(w:Sk)(u:V)(_:d=[.ref b,u])(_:H b=some (.tup (c.map V.int)))(_:c.length+n<=100)(_:dH H w u [])(_:w.ok false)(_:w.dep < n)(_:w.size<=1000)(_:∀(r:Addr) (xs:List V) (H':Hp),H r=none->H' r=some (.lst xs)->b8 DK H' ((c,w)::w.ws c 0) xs->ae H H'->Q (.ref r) H')
inductive iJ(n:Nat)(g:List V)(H:Hp)(Q:VK)(b:XK):Prop
 |mk(d:Addr)(e:bQ)(f:Str)(c:List Int)(s:Sk)(a:Int)(u:V)(_:g=[.ref d,u])(_:H d=some (.tup (e.map V.int)))(_:e.length+n+1<=100)(_:nD H f c s a u)(_:s.ok true)(_:s.dep < n)(_:s.size<=1000)(_:∀(r:Addr) (xs:List V) (H':Hp),H r=none->H' r=some (.lst xs)->b8 DK H' (s.ws e 0) xs->ae H H'->Q (.ref r) H')
inductive Hk(h k:Addr)(j:bQ)(u:V)(s:Sk)(H:Hp)(i:Nat)(m:_L.St)(a:Hp):Prop
 |mk(f g:Option V)(l:List V)(b:m=[some (.ref h),some u,some (.ref k),f,g])(c:a k=some (.lst l))(d:b8 DK a (gR (s.steps.take i) j 0) l)(e:ae H a)
noncomputable def gw(p:bQ)(w:Sk):List bQ:=p::(w.ws p 0).map (·.1)
theorem Xv{w:Sk}(o:w.ok false)(p:bQ):(gw p w).length=w.size+1:=by unfold gw;rw[List.length_cons,List.length_map,zM o]
inductive iY(n:Nat)(d:List V)(H:Hp)(Q:VK)(a:XK):Prop
 |mk(b:Addr)(c:bQ)(w:Sk)(u:V)(_:d=[.ref b,u])(_:H b=some (.tup (c.map V.int)))(_:c.length+n<=100)(_:dH H w u [])(_:w.ok false)(_:w.dep < n)(_:w.size<=1000)(_:∀(r:Addr) (xs:List V) (H':Hp),H r=none->H' r=some (.lst xs)->b8 mn H' (gw c w) xs->ae H H'->Q (.ref r) H')
noncomputable def pJ(H:Hp):V->V
 | .ref q=>match H q with
  |some (.tup (x::_))=>x
  |_=>.non
 |_=>.non
theorem qY(l:List V):(List.range l.length).map (λi=>(l[i]?).getD .non)=l:=by
 refine List.ext_getElem OH λi H h=>?_
 simp [List.getElem?_eq_getElem h]
theorem y6{H:Hp}{q p:Addr}{u:V}(h:H q=some (.tup [.ref p,u])):pJ H (.ref q)= .ref p:=by show(match H q with |some (.tup (x::_))=>x |_=>V.non)=_;rw[h]
theorem Ap:ai ["path","what","within"] z7z (aa x6):=bp
theorem sQ{f:Addr}{U:FuncData}{n:Nat}{fI:Addr}{D:FuncData}(F:aI K "whats_at" "whats_at" x6 f U)(cI:Cl P w K mg base (2*n+2) fI D ["path","chain"] (iJ n) "whats_in"):af P w K mg base aA (2*n+3) f U z7z (mW (n+1)):=by
 refine F.ok Ap ?_ λc0 A O s H vs Q E hr h=>?_
 ·rintro _ _ _ _ ⟨j,v,w,u,rfl,_⟩
  rfl
 obtain⟨j,v,w,u,rfl,X,h0,G,k,Y,hz,q⟩:=h
 refine#[_,(jd (jz 2 Ap.nd (kM (kh (jy (pv 1))) (cI.e hr.m (ja (pv 0) (ja (jy (pv 1)) jb))) (jG jb))) (jg (jo (jw qf (jG (ja (ji (ja (pv 0) (ja (pv 1) jb))) jb)) (pv 2))))),?_]
 have b0:=aF
 have fl:=zM k v 0
 refine aj λF1 I=>?_
 suffices go:∀(l:Addr) (x:List V) (d:Hp),d l=some (.lst x)->b8 DK d (w.ws v 0) x->ae H d->F1 [some (.ref j),some u,some (.ref l)] d by
  clear I
  cases w with
  |nil |st=>exact k.elim
  |ask b |rd c i |wr c i=>obtain⟨p,rfl,y⟩:=G;exact(ju y Z #[Z,_,Z,aV OJ #[iK,λl nl=>go l [] _ jc Z (je nl)]])
  |cl f is s a=>
   obtain⟨p,c,g,e,ss,rfl,y,h2,h3,h4,h5⟩:=G
   have Y:s.dep+1 < n+1:=Y
   exact(ju y Z #[Z,_,Z,cy OJ #[_,Z,ju y Z #[j,v,f,is,s,a,.ref c,Z,X,OG,#[c,g,e,ss,Z,h2,h3,h4,h5],k,OG,hz,λl x d nl J B S=>go l x d J B S]]])
 intro l x d J B S
 refine I _ _ ?_
 clear I
 have lx:=B.len
 refine#[_,Z,_,Z,bM,λt L=>#[lY,λM N=>#[_,Z,M,l,_,_,Z,Z,jc,ao (ao J L) N,by show 1+x.length<=_;omega,λr R=>?_]]]
 have C:ae d (ah (ah (ah d t (.tup [.ref j,u])) M (.lst [.ref t])) r (.lst ([.ref t]++x))):=((je L).trans (je N)).trans (je R)
 have ht:ah (ah (ah d t (.tup [.ref j,u])) M (.lst [.ref t])) r (.lst ([.ref t]++x)) t=some (.tup [.ref j,u]):=ao (ao jc N) R
 have T:H r=none:=by
  cases z:H r with
  |none=>rfl
  |some o=>have:=((je (o:=.lst [.ref t]) N) _ _ ((je (o:=.tup [.ref j,u]) L) _ _ (S _ _ z)));rw[R]at this;cases this
 exact q r _ _ T jc #[.ref t,x,Z,#[t,j,u,Z,ht,C _ _ (S _ _ X),G.mono (ae.tm (S.trans C))],B.mono oy (ae.tm C)] (S.trans C)
theorem oR:ai ["path","chain","told","number","step"] ["path","chain"] (aa ya):=bp
theorem BV{f:Addr}{fd:FuncData}{n:Nat}{fA:Addr}{U:FuncData}(F:aI K "whats_in" "whats_in" ya f fd)(cA:Cl P w K mg base (2*n+1) fA U z7z (mW n) "whats_at")(V:mg "enumerate"=none):af P w K mg base aA (2*n+2) f fd ["path","chain"] (iJ n):=by
 refine F.ok oR ?_ λc0 A Y s H vs Q E hr h=>?_
 ·rintro _ _ _ _ ⟨pa,k,f,is,s,a,u,rfl,_⟩
  rfl
 obtain⟨pa,k,f,is,s,a,u,rfl,hp,h6,hc,d,hd,hz,q⟩:=h
 refine#[_,(jd (jz 2 oR.nd (jG jb)) (jd (jX PassesOwn.never Z (Xh Z V (ja (jy (pv 1)) jb)) (zn (n:=2) Z (jA (jv (i:=3) oR.nd Z (Or.inl Z)) (jA (jv (i:=4) oR.nd Z (Or.inl Z)) ki))) (jg (jJ (j9 PySem.F.plainAttrs_list PySem.F.slot_list_extend PySem.F.type_list_extend qt (pv 2) (ja (cA.e hr.m (ja (jw j7 (pv 0) (ji (ja (pv 3) jb))) (ja (jy (pv 4)) jb))) jb))))) (jg (jo (pv 2))))),?_]
 have b0:=aF
 obtain⟨c,g,e,ss,rfl,h1,h2,h3,h4⟩:=hc
 have fl:=zM d k 0
 rw[Kf d]at fl
 have lt:=zG d h4
 refine aj λF1 v=>#[iK,λT N=>v _ _ ?_]
 clear v
 have s1:ae H (ah H T (.lst [])):=je N
 refine aj λF1 v=>dq λJ j=>(ju (s1 _ _ h1) Z #[e,Z,#[_,ay.of (s1 _ _ h3)],j _ _ ?_])
 clear j
 refine Kz (K:=K) (xs:=ss) (Hk pa T k (.ref c) s H) #[none,none,[],Z,jc,Z,s1] (λi σ Hx _ h=>?_) ?_ (λσ Hx h=>v _ _ ?_)
 ·obtain⟨_,_,_,_,_,_,y⟩:=h
  exact ay.of (y _ _ h3)
 ·intro E hE i x B σ O hx np f0 Gq l h
  clear v
  obtain⟨o3,o4,xs,rfl,R,W,y⟩:=h
  have C:ae O (ah O B (.tup [.int i,x])):=je np
  have e8:ah O B (.tup [.int i,x]) B=some (.tup [.int i,x]):=jc
  refine l ?_
  clear l
  generalize ah O B (.tup [.int i,x])=H8 at C e8 ⊢
  have S8:=y.trans C
  obtain⟨n1,D,w,p,hh,u,ht,o0,d0,s2,rfl,h0,h7,hw⟩:=qh d (h4.mono (ae.tm S8)) hx
  refine#[B,_,Z,ay.of e8,Z,_,_,Z,_,_,Z,Z,?_]
  refine#[_,Z,.inl #[Z,_,aG.of (C _ _ R)],_,Z,_,Z,lY,λt nt=>#[pa,t,_,_,Z,Z,ao (S8 _ _ hp) nt,jc,by rw[List.length_map];show _+1<=_;omega,λr9 H9 e9 s9=>?_]]
  have S9:=(je (o:=.tup [.int i]) nt).trans s9
  rw[vW]at e9
  refine(ju (S9 _ _ h0) Z #[r9,_,w,u,Z,e9,by rw[List.length_append];show _+1+_<=_;omega,hw.mono (ae.tm S9),o0,OG,OG,λr X G nr hr I s0=>?_])
  have S:=S9.trans s0
  have L:=S _ _ (C _ _ R)
  have lx:=W.len
  have l0:=I.len
  have bl:=XZ s.steps (i+1) k 0
  have h5:i < s.steps.length:=(List.getElem?_eq_some_iff.mp ht).1
  have et:s.steps.take (i+1)=s.steps.take i++[(n1,D,w)]:=by rw[List.take_add_one,ht];rfl
  have eb:gR [(n1,D,w)] k (0+(s.steps.take i).length)=(k++[(i:Int)],w)::w.ws (k++[(i:Int)]) 0:=by
   rw[List.length_take,Nat.min_eq_left (Nat.le_of_lt h5),Nat.zero_add]
   show(_::_)++[]=_
   rw[List.append_nil]
  rw[fl,et,qp,eb]at bl
  rw[List.length_append]at bl
  have M:al G (ah G T (.lst (xs++X))):=λb ys e=>by rw[jh (jO e L (by intro z;cases z))];exact e
  refine#[T,r,_,_,Z,Z,L,hr,OG,f0 _ _ #[_,_,xs++X,Z,jc,?_,λb o e=>?_]]
  ·rw[et,qp,eb]
   exact(I.mono oy M).app ((W.mono oy (ae.tm (C.trans S))).mono oy M)
  ·rw[jh (jk e N)]
   exact S _ _ (S8 _ _ e)
 ·obtain⟨o3,o4,xs,rfl,R,W,y⟩:=h
  rw[lt,List.take_length,<- Kf d]at W
  exact#[_,Z,q T xs Hx N R W y]
theorem Bq{f:Addr}{F:FuncData}{k:Nat}:af P w K mg base aA k f F ["path","chain"] (iJ 0):=by
 have n:∀v H Q E,¬iJ 0 v H Q E:=λv H Q E h=>by
  obtain⟨p,c,f,i,s,a,u,_,_,_,_,_,z,_⟩:=h
  omega
 exact#[λv H Q E h=>absurd h (n v H Q E),λA o s H b U v Q E _ _ _ _ h=>absurd h (n v H Q E)]
theorem Fi{d a:Addr}{F f:FuncData}(b:aI K "whats_at" "whats_at" x6 d F)(B:ax K F z7z [])(M:mg "whats_at"=some (.ref d))(c:aI K "whats_in" "whats_in" ya a f)(e:ax K f ["path","chain"] [])(g:mg "whats_in"=some (.ref a))(m:mg "enumerate"=none):∀n,af P w K mg base aA (2*n+2) a f ["path","chain"] (iJ n)
 |0=>Bq
 |n+1=>by
  have h:=Fi b B M c e g m n
  have H:=sQ b #[h,e,c.kp,g]
  exact BV c #[H,B,b.kp,M] m
theorem EN:ai z7z z7z (aa xV):=bp
noncomputable def ZZ:Scope:=#[.function,[(".0",.local),("one",.local),("done",.local)],false,false,[]]
theorem su:(["one","done"]:List Str).Nodup:=by decide+kernel
theorem AQ:bG z7z (aa xV) ZZ ["one","done"] 2 []:=rj
theorem BN{f:Addr}{B:FuncData}{n:Nat}{L:Addr}{j:FuncData}(F:aI K "paths_at" "paths_at" xV f B)(M:Cl P w K mg base (2*n+3) L j z7z (mW (n+1)) "whats_at"):af P w K mg base aA (2*n+4) f B z7z (iY (n+1)):=by
 refine F.ok EN ?_ λR A O s H vs Q E T h=>?_
 ·rintro _ _ _ _ ⟨C,p,w,u,rfl,_⟩
  rfl
 obtain⟨C,p,w,u,rfl,V,k,W,b,Y,hz,q⟩:=h
 refine#[_,(jg (jo (@zi _ _ _ _ _ _ _ (["one","done"]) (2) ([]) _ _ _ _ Z (zE (M.e T.m (ja (pv 0) (ja (pv 1) jb)))) AQ (λ_ _ _ _ _=>YV (K:=K) (n:=2) Z Z (jA (jv (i:=0) su Z (Or.inl Z)) (jA (jv (i:=1) su Z (Or.inl Z)) ki)) Z Z) (λ_ _ _ _ _=>(@zK _)) (λ_ _ _ _ _=>(pv 0)) (by intro _;rfl)))),?_]
 have b0:=aF
 have fl:=zM b p 0
 refine#[_,Z,_,Z,C,p,w,u,Z,V,k,W,b,Y,hz,λr X a nr c t G=>?_]
 have lx:=t.len
 rw[List.length_cons,fl]at lx
 have lm:(X.map (pJ a)).length=X.length:=List.length_map _
 refine#[r,Z,#[_,aG.of c],XL (λi=>((X.map (pJ a))[i]?).getD .non) OG (aG.of c) (λi x I=>?_) λl N=>q l (X.map (pJ a)) _ ?_ ?_ ?_ (G.trans (je N))]
 ·obtain⟨⟨p',w'⟩,_,v,y,U,rfl,g,J,g3⟩:=t.at I
  refine#[v,.ref y,U,Z,ay.of g,λQ d=>#[_,Z,?_]]
  rw[List.getElem?_map,I]at d
  have d:Q (pJ a (.ref v)) a:=d
  rw[y6 g]at d
  exact d
 ·cases z:H l with
  |none=>rfl
  |some o=>rw[G _ _ z]at N;cases N
 ·rw[jc,<- lm,qY]
 ·have e:gw p w=((p,w)::w.ws p 0).map (·.1):=rfl
  rw[e]
  exact(b8.map (S:=mn) (f:=pJ a) (λx w #[v,y,U,e0,g,J,g3]=>by subst e0;rw[y6 g];exact#[y,Z,J]) t).mono d9 (ae.tm (je N))
noncomputable abbrev tR:Stmt:=bu 33
noncomputable abbrev tQ:Stmt:=bu 34
noncomputable abbrev CS:Stmt:=bu 35
theorem mv{A:Around}{k:Nat}(h:bH k A):A.units+10+1 < cLine:=by have:=h.un;omega
theorem Km:∀{I J:List Int},aC (I.map aw)=aC (J.map aw)->I=J
 | [],[],_=>rfl
 | [],_::_,e=>by cases e
 |_::_,[],e=>by cases e
 |i::I,j::J,e=>by
  have e:Tr.cons (aw i) (aC (I.map aw))= .cons (aw j) (aC (J.map aw)):=e
  injection e with E a
  injection E with E
  injection E with E
  rw[E,Km a]
theorem QQ:∀i:List Int,(aC (i.map aw)).In
 | []=>trivial
 |_::i=>#[Z,QQ i]
theorem Jm(n:Int)(h:List Int):(aC [aw n,aE (h.map aw)]).In:=#[Z,QQ h,trivial]
theorem QR(n:Int)(H:List Int):(aC [aw n,aE (H.map aw)]).dep < 10:=by
 have h:=Kl H
 show max 0 (max ((aC (H.map aw)).dep+1) 0) < 10
 omega
noncomputable def wo(P:bo->Bool):Nat->List bo->Option Nat
 |_,[]=>none
 |k,s::r=>if P s=true then some k else wo P (k+1) r
noncomputable def md(P:bo->Bool)(os:List bo)(m:Nat):Option Nat:=wo P m (os.drop m)
theorem rO{P:bo->Bool}{os:List bo}{m:Nat}{s:bo}(h:os[m]?=some s):md P os m=if P s=true then some m else md P os (m+1):=by
 obtain⟨H,e⟩:=List.getElem?_eq_some_iff.mp h
 unfold md
 rw[<- List.getElem_cons_drop (h:=H),e]
 rfl
theorem Zb{P:bo->Bool}{os:List bo}{m:Nat}(h:os.length<=m):md P os m=none:=by
 unfold md
 rw[List.drop_eq_nil_of_le h]
 rfl
theorem Zc{P:bo->Bool}:∀{os:List bo} {k j:Nat},wo P k os=some j->∃i s,j=k+i/\os[i]?=some s/\P s=true
 | [],_,_,h=>nomatch h
 |s::r,k,j,h=>by
  have h:(if P s=true then some k else wo P (k+1) r)=some j:=h
  by_cases H:P s=true
  ·rw[if_pos H]at h
   cases h
   exact#[0,s,Z,Z,H]
  ·rw[if_neg H]at h
   obtain⟨i,S,e,a,b⟩:=Zc h
   exact#[i+1,S,OG,by simpa using a,b]
theorem Zd{P:bo->Bool}{os:List bo}{m j:Nat}(h:md P os m=some j):m<=j/\∃s,os[j]?=some s/\P s=true:=by
 obtain⟨i,s,e,H,a⟩:=Zc h
 rw[List.getElem?_drop]at H
 exact#[OG,s,by rw[e];exact H,a]
noncomputable def sT:Option Nat->V
 |some j=>.int (j:Int)
 |none=>.non
noncomputable def dX(n:Int)(h:List Int)(s:bo):Bool:=decide (s.1=n/\s.2.1=h)
noncomputable def gO(f:Str)(i:List Int)(s:bo):Bool:=match s.2.2 with
 | .cl g j _ _=>decide (g=f/\j=i)
 |_=>false
noncomputable def mw(os:List bo)(m:Nat):Sk->Option Nat
 | .cl f i _ _=>md (gO f i) os m
 |_=>none
noncomputable def ny(os:List bo)(m:Nat)(n:Int)(h:List Int)(w:Sk):Option Nat:=match md (dX n h) os m with
 |some j=>some j
 |none=>mw os m w
theorem wb{n N:Int}{H h:List Int}(e:aE [aw n,aE (H.map aw)]=aE [aw N,aE (h.map aw)]):n=N/\H=h:=by
 have e:Tr.tp (.cons (aw n) (.cons (aE (H.map aw)) .nil))= .tp (.cons (aw N) (.cons (aE (h.map aw)) .nil)):=e
 injection e with e
 injection e with a A
 injection A with b _
 injection a with a
 injection a with a
 have b:Tr.tp (aC (H.map aw))= .tp (aC (h.map aw)):=b
 injection b with b
 exact#[a,Km b]
theorem sj{n N:Int}{a H:List Int}{w:Sk}:gG (aE [aw N,aE (H.map aw)]) (aE [aw n,aE (a.map aw)])=dX n a (N,H,w):=by
 by_cases h:N=n/\H=a
 ·rw[h.1,h.2,zO Z]
  exact(decide_eq_true #[Z,Z]).symm
 ·rw[zh λe=>h (wb e)]
  exact(decide_eq_false h).symm
theorem Xw{f g:Str}{i j:List Int}(e:aE [aJ "call",aJ g,aE (j.map aw)]=aE [aJ "call",aJ f,aE (i.map aw)]):g=f/\j=i:=by
 have e:Tr.tp (.cons (aJ "call") (.cons (aJ g) (.cons (aE (j.map aw)) .nil)))= .tp (.cons (aJ "call") (.cons (aJ f) (.cons (aE (i.map aw)) .nil))):=e
 injection e with e
 injection e with _ e
 injection e with a A
 injection A with b _
 injection a with a
 injection a with a
 have b:Tr.tp (aC (j.map aw))= .tp (aC (i.map aw)):=b
 injection b with b
 exact#[a,Km b]
theorem qU{a b:Str}{x y:List Tr}(e:aE (aJ a::x)=aE (aJ b::y)):a=b:=by
 have e:Tr.tp (.cons (aJ a) (aC x))= .tp (.cons (aJ b) (aC y)):=e
 injection e with e
 injection e with e _
 injection e with e
 injection e
theorem Bh{f:Str}{i:List Int}{n':Int}{hs':List Int}{w s:Sk}{a:Int}(o:w.ok false):gG (dI w) (dI (.cl f i s a))=gO f i (n',hs',w):=by
 cases w with
 |nil |st _ _ _ _=>exact o.elim
 |ask b |rd b c |wr b c=>show gG (aE _) (aE _)=_;rw[zh λe=>absurd (qU e) OF];rfl
 |cl g j S A=>
  by_cases h:g=f/\j=i
  ·rw[h.1,h.2]
   show gG (aE _) (aE _)=_
   rw[zO Z]
   exact(decide_eq_true #[Z,Z]).symm
  ·show gG (aE _) (aE _)=_
   rw[zh λe=>h (Xw e)]
   exact(decide_eq_false h).symm
theorem Ze{w:Sk}(o:w.ok false):∃l,dI w= .tp l/\l.dep < 10/\l.In/\∃v t,l= .cons (aJ v) t/\(v="call"↔∃f i s a,w= .cl f i s a):=by
 cases w with
 |nil |st _ _ _ _=>exact o.elim
 |ask b |rd b B=>exact#[_,Z,by show max 0 (max 0 0) < 10;decide,#[Z,Z,trivial],_,_,Z,λe=>absurd e OF,λ#[_,_,_,_,e]=>nomatch e]
 |wr b B=>exact#[_,Z,by show max 0 (max 0 (max 0 0)) < 10;decide,#[Z,Z,Z,trivial],_,_,Z,λe=>absurd e OF,λ#[_,_,_,_,e]=>nomatch e]
 |cl f i s a=>exact#[_,Z,by show max 0 (max 0 (max ((aC (i.map aw)).dep+1) 0)) < 10;rw[Kl];decide,#[Z,Z,QQ i,trivial],_,_,Z,λ_=>#[_,_,_,_,Z],λ_=>Z]
inductive lR(f:List V)(H:Hp)(Q:VK)(a:XK):Prop
 |mk(e:Addr)(d:List V)(s:Sk)(m:Nat)(n:Int)(c:List Int)(b:V)(_:f=[.ref e,.int (m:Int),b])(_:H e=some (.tup d))(_:dH H s .non d)(_:s.ok true)(_:s.size<=1000)(_:m<=1000)(_:aN H (aE [aw n,aE (c.map aw)]) b [])(_:∀H',ae H H'->Q (sT (md (dX n c) s.steps m)) H')
inductive lQ(d:List V)(H:Hp)(Q:VK)(a:XK):Prop
 |mk(e:Addr)(c:List V)(s w:Sk)(m:Nat)(b:V)(_:d=[.ref e,.int (m:Int),b])(_:H e=some (.tup c))(_:dH H s .non c)(_:s.ok true)(_:s.size<=1000)(_:m<=1000)(_:aN H (dI w) b [])(_:w.ok false)(_:∀H',ae H H'->Q (sT (mw s.steps m w)) H')
inductive mV(d:List V)(H:Hp)(Q:VK)(a:XK):Prop
 |mk(e p h:Addr)(c:List V)(s w:Sk)(m:Nat)(n:Int)(b:List Int)(u:V)(_:d=[.ref e,.int (m:Int),.ref p])(_:H e=some (.tup c))(_:dH H s .non c)(_:s.ok true)(_:s.size<=1000)(_:m<=1000)(_:H p=some (.tup [.int n,.ref h,u]))(_:H h=some (.tup (b.map V.int)))(_:dH H w u [])(_:w.ok false)(_:∀H',ae H H'->Q (sT (ny s.steps m n b w)) H')
theorem uq:ai ["steps","mark","cut","at"] ["steps","mark","cut"] (aa tR):=bp
theorem wS{f:Addr}{G:FuncData}(F:aI K "like_from" "like_from" tR f G)(T:mg "len"=none)(U:mg "range"=none):af P w K mg base aA 1 f G ["steps","mark","cut"] lR:=by
 refine F.ok uq ?_ λV A O s H vs Q E W h=>?_
 ·rintro _ _ _ _ ⟨e,v,s,m,n,c,C,rfl,_⟩
  rfl
 obtain⟨e,v,s,m,n,c,C,rfl,I,g,k,Y,hm,hc,q⟩:=h
 refine#[_,(jd (jX PassesOwn.never Z (Jn Z U (ja (pv 1) (ja (jS jL Z T PySem.boot_len (ja (pv 0) jb)) jb))) (jv (i:=3) uq.nd Z (Or.inl Z)) (jg (jx (jC (XY (d:=10) (mv W)) (jH kc (jr jN (pv 0) (pv 3) (λ_ _=>Z)) jR (jF jf)) (pv 2) (aH _)) (jg (jo (pv 3))) jp))) (jg (jo (@J4 _ _ _)))),?_]
 have b0:=aF
 have l0:=zG k g
 have l1:=Jl k g
 refine aj λF1 f1=>dq λJ j=>#[_,Z,_,Z,e,_,Z,.inr (ay.of I),_,_,Z,#[OG,OG,OG,OG],j _ _ ?_]
 clear j
 refine kB (λi x L=>(∃y,x=[some (.ref e),some (.int (m:Int)),some C,y])/\ae H L/\md (dX n c) s.steps m=md (dX n c) s.steps (m+i)) #[#[_,Z],ae.refl _,Z] ?_ (λx L h=>f1 _ _ ?_)
 ·intro M rt i x H2 hi fE X l h
  obtain⟨⟨y,rfl⟩,S,b⟩:=h
  refine l ?_
  clear l
  have e0:(m:Int)+(i:Int)=((m+i:Nat):Int):=by omega
  rw[e0]
  have o:m+i < v.length:=by omega
  obtain⟨N,a,w,p,h,u,ht,o0,_,_,ex,hp,hh,_⟩:=qh k (g.mono (ae.tm S)) (List.getElem?_eq_getElem o)
  have B:v[m+i]?=some (.ref p):=by rw[List.getElem?_eq_getElem o,ex]
  show gF _ _ _ M _ _
  refine nP λG1 kT kF=>#[_,Z,_,Z,e,_,_,_,Z,Z,ay.of (S _ _ I),jK B,_,Z,p,_,Z,hp,λq2 H1 D r=>#[_,Z,_,_,QR N a,Jm N a,Jm n c,jD D (jl Z jU (jl Z (zT (r _ _ hh)) jB)),hc.mono (ae.tm (S.trans r)),_,Z,?_]]
  rw[show gG (.tp (aC [aw N,aE (a.map aw)])) (.tp (aC [aw n,aE (c.map aw)]))=dX n c (N,a,w) from sj]
  have t:=rO (P:=dX n c) ht
  cases R:dX n c (N,a,w) with
  |true=>
   refine kT _ ?_
   show gn _ M _ _
   unfold gn
   rw[rt]
   rw[if_pos R]at t
   have z:=q _ (S.trans r)
   rw[b,t]at z
   exact#[_,Z,z]
  |false=>
   rw[if_neg (by rw[R];intro z;cases z)]at t
   exact kF _ (fE _ _ #[#[_,Z],S.trans r,by rw[b,t];rfl])
 ·obtain⟨⟨y,rfl⟩,S,b⟩:=h
  have z:=q _ S
  rw[b,Zb OG]at z
  exact z
theorem uo:ai ["steps","mark","deed","at"] ["steps","mark","deed"] (aa tQ):=bp
theorem wR{f:Addr}{fd:FuncData}{fI:Addr}{D:FuncData}(F:aI K "lender_from" "lender_from" tQ f fd)(cI:Cl P w K mg base 1 fI D ["what"] mJ "deed_in")(ml:mg "len"=none)(mr:mg "range"=none):af P w K mg base aA 2 f fd ["steps","mark","deed"] lQ:=by
 refine F.ok uo ?_ λc0 A O s H vs Q E hr h=>?_
 ·rintro _ _ _ _ ⟨e,G,s,w,m,dv,rfl,_⟩
  rfl
 obtain⟨e,G,s,w,m,dv,rfl,he,c,g,h1,hm,L,M,q⟩:=h
 refine#[_,(jd (jx (jC YB (jy (pv 2)) jm (aH _)) (jg (jo (@J4 _ _ _))) jp) (jd (jX PassesOwn.never Z (Jn Z mr (ja (pv 1) (ja (jS jL Z ml PySem.boot_len (ja (pv 0) jb)) jb))) (jv (i:=3) uo.nd Z (Or.inl Z)) (jg (jx (jC (XY (d:=10) (mv hr)) (cI.e hr.m (ja (jy (jr jN (pv 0) (pv 3) (λ_ _=>Z))) jb)) (pv 2) (aH _)) (jg (jo (pv 3))) jp))) (jg (jo (@J4 _ _ _))))),?_]
 have b0:=aF
 have l0:=zG g c
 have l1:=Jl g c
 obtain⟨l,el,dl,il,v0,ts,ev,r⟩:=Ze M
 rw[el]at L
 obtain⟨_,da,ds,rfl,N,t⟩:=id L
 rw[ev]at t
 obtain⟨_,_,y0,y1,rfl,⟨rfl,_⟩,_⟩:=t
 refine aj λF1 y=>(ju N eZ #[Z,_,Z,?_])
 by_cases B:v0="call"
 ·obtain⟨f,I,s1,a1,rfl⟩:=r.mp B
  subst B
  refine aV OJ (y _ _ ?_)
  clear y
  refine aj λF1 y=>dq λJ j=>#[_,Z,_,Z,e,_,Z,.inr (ay.of he),_,_,Z,#[OG,OG,OG,OG],j _ _ ?_]
  clear j
  refine kB (λi R T=>(∃U,R=[some (.ref e),some (.int (m:Int)),some (.ref da),U])/\ae H T/\md (gO f I) s.steps m=md (gO f I) s.steps (m+i)) #[#[_,Z],ae.refl _,Z] ?_ (λR T h=>y _ _ ?_)
  ·intro E2 rt i R H2 hi fE Gq n h
   obtain⟨⟨U,rfl⟩,S,b⟩:=h
   refine n ?_
   clear n
   have e0:(m:Int)+(i:Int)=((m+i:Nat):Int):=by omega
   rw[e0]
   have v:m+i < G.length:=by omega
   obtain⟨n',hs',w,p,h,u,ht,o,_,_,ex,hp,hh,hw⟩:=qh g (c.mono (ae.tm S)) (List.getElem?_eq_getElem v)
   have W:G[m+i]?=some (.ref p):=by rw[List.getElem?_eq_getElem v,ex]
   obtain⟨l',x,X,Y,_⟩:=Ze o
   show gF _ _ _ E2 _ _
   refine nP λG1 kT kF=>#[_,Z,_,Z,e,_,_,_,Z,Z,ay.of (S _ _ he),jK W,p,_,_,_,Z,Z,ay.of hp,h9,u,w,Z,hw,o,λv1 H1 h0 k=>#[_,Z,l',l,X,Y,il,x▸h0,L.mono (ae.tm (S.trans k)),_,Z,?_]]
   rw[<- x,<- el,Bh (n':=n') (hs':=hs') o]
   have C:=rO (P:=gO f I) ht
   cases hb:gO f I (n',hs',w) with
   |true=>
    refine kT _ ?_
    show gn _ E2 _ _
    unfold gn
    rw[rt]
    rw[if_pos hb]at C
    have z:Q (sT (md (gO f I) s.steps m)) H1:=q _ (S.trans k)
    rw[b,C]at z
    exact#[_,Z,z]
   |false=>
    rw[if_neg (by rw[hb];intro z;cases z)]at C
    exact kF _ (fE _ _ #[#[_,Z],S.trans k,by rw[b,C];rfl])
  ·obtain⟨⟨U,rfl⟩,S,b⟩:=h
   have z:Q (sT (md (gO f I) s.steps m)) T:=q _ S
   rw[b,Zb OG]at z
   exact z
 ·refine cy ?_ ?_
  ·show(!decide (V.str v0=V.str "call"))=true
   rw[decide_eq_false λz=>B (by injection z)]
   rfl
  have z:=q _ (ae.refl _)
  have en:mw s.steps m w=none:=by
   cases w with
   |cl f I s a=>exact absurd (r.mpr #[f,I,s,a,Z]) B
   |_=>rfl
  rw[en]at z
  exact z
theorem An:ai ["steps","mark","step","like"] ["steps","mark","step"] (aa CS):=bp
theorem BS{f:Addr}{C:FuncData}{N R T:Addr}{i k l:FuncData}(F:aI K "taken_from" "taken_from" CS f C)(U:Cl P w K mg base 1 N i ["steps","mark","cut"] lR "like_from")(V:Cl P w K mg base 2 R k ["steps","mark","deed"] lQ "lender_from")(W:Cl P w K mg base 1 T l ["what"] mJ "deed_in"):af P w K mg base aA 3 f C ["steps","mark","step"] mV:=by
 refine F.ok An ?_ λX A O s H vs Q E r h=>?_
 ·rintro _ _ _ _ ⟨e,p,h,t,s,w,m,n,a,u,rfl,_⟩
  rfl
 obtain⟨e,p,h,t,s,w,m,n,a,u,rfl,G,b,c,d,I,J,Y,hw,o,q⟩:=h
 refine#[_,(jd (jz 3 An.nd (U.e r.m (ja (pv 0) (ja (pv 1) (ja (jH kc (pv 2) jR (jF jf)) jb))))) (jg (jo (kM (J5 (@Qx _ _ _ _ _ (pv 3))) (V.e r.m (ja (pv 0) (ja (pv 1) (ja (W.e r.m (ja (jy (pv 2)) jb)) jb)))) (pv 3))))),?_]
 refine aj λF1 L=>#[_,Z,_,Z,_,Z,_,Z,p,_,Z,J,λq2 H1 v g=>#[e,t,s,m,n,a,_,Z,g _ _ G,b.mono (ae.tm g),c,d,I,jD v (jl Z jU (jl Z (zT (g _ _ Y)) jB)),λH2 s2=>L _ _ ?_]]
 clear L
 have S:=g.trans s2
 cases M:md (dX n a) s.steps m with
 |some j=>
  refine#[_,Z,_,Z,aV (decide_eq_false (by intro z;cases z)) #[_,Z,?_]]
  have z:=q _ S
  have x:ny s.steps m n a w=some j:=by unfold ny;rw[M]
  rw[x]at z
  exact z
 |none=>
  refine#[_,Z,_,Z,cy (decide_eq_true Z) #[_,Z,_,Z,ju (S _ _ J) h9 #[u,w,Z,hw.mono (ae.tm S),o,λv1 H3 y B=>#[e,t,s,w,m,v1,Z,B _ _ (S _ _ G),b.mono (ae.tm (S.trans B)),c,d,I,y,o,λH4 s4=>?_]]]]
  have z:=q _ ((S.trans B).trans s4)
  have x:ny s.steps m n a w=mw s.steps m w:=by unfold ny;rw[M]
  rw[x]at z
  exact z
abbrev yL:=bQ×bQ
structure Ly where
 k:List yL
 t:List yL
 f:List bQ
 d:List bQ
noncomputable def Ly.app(a b:Ly):Ly:=#[a.k++b.k,a.t++b.t,a.f++b.f,a.d++b.d]
noncomputable def Ly.nil:Ly:=#[[],[],[],[]]
noncomputable def Ly.tot(a:Ly):Nat:=a.k.length+a.t.length+a.f.length+a.d.length
theorem Ly.app_assoc(a b c:Ly):(a.app b).app c=a.app (b.app c):=by unfold Ly.app;simp [List.append_assoc]
theorem Ly.app_nil(a:Ly):a.app .nil=a:=by unfold Ly.app Ly.nil;simp
theorem Ly.nil_app(a:Ly):Ly.nil.app a=a:=rfl
theorem Ly.tot_app(a b:Ly):(a.app b).tot=a.tot+b.tot:=by unfold Ly.app Ly.tot;simp only[List.length_append];omega
noncomputable def Sk.fnd:Sk->Int
 | .ask b=>b
 | .rd _ i=>i
 | .wr _ i=>i
 | .cl _ _ _ a=>a
 |_=>0
noncomputable def iN:Sk->List bo
 | .cl _ _ s _=>s.steps
 |_=>[]
noncomputable def eM(p:bQ)(os:List bo)(m j:Nat):List bQ:=(gR ((os.drop m).take (j - m)) p m).map (·.1)
noncomputable def one(p:bQ)(o:bo)(a:bQ)(n:Int)(h:List Int)(w:Sk):Ly:=
 if dX n h o=true then (if o.2.2.fnd=w.fnd then #[[(p,a)],[],[],[]] else #[[],[(p,a)],[],[]]) else #[[],[],[a],[p]]
noncomputable def eN:Sk->bQ->List bo->Nat->bQ->Nat->Ly
 | .st n h w r,p,os,m,a,k=>match ny os m n h w with
  |none=>(#[[],[],gw (a++[(k:Int)]) w,[]]:Ly).app (eN r p os m a (k+1))
  |some j=>match os[j]? with
   |none=>.nil
   |some o=>((#[[],[],[],eM p os m j]:Ly).app ((one (p++[(j:Int)]) o (a++[(k:Int)]) n h w).app (eN w (p++[(j:Int)]) (iN o.2.2) 0 (a++[(k:Int)]) 0))).app (eN r p os (j+1) a (k+1))
 | .cl _ _ s _,p,os,m,a,k=>eN s p os m a k
 | .nil,p,os,m,_,_=>#[[],[],[],eM p os m os.length]
 |_,_,_,_,_,_=>.nil
theorem Kn{n:Int}{H:List Int}{w r:Sk}{a:bQ}{os:List bo}{m:Nat}{p:bQ}{k:Nat}(h:ny os m n H w=none):eN (.st n H w r) a os m p k=(#[[],[],gw (p++[(k:Int)]) w,[]]:Ly).app (eN r a os m p (k+1)):=by
 show(match ny os m n H w with |none=>_ |some j=>_)=_
 rw[h]
theorem Ko{n:Int}{H:List Int}{w r:Sk}{p:bQ}{os:List bo}{m:Nat}{a:bQ}{k j:Nat}{o:bo}(h:ny os m n H w=some j)(b:os[j]?=some o):eN (.st n H w r) p os m a k=((#[[],[],[],eM p os m j]:Ly).app ((one (p++[(j:Int)]) o (a++[(k:Int)]) n H w).app (eN w (p++[(j:Int)]) (iN o.2.2) 0 (a++[(k:Int)]) 0))).app (eN r p os (j+1) a (k+1)):=by
 show(match ny os m n H w with |none=>_ |some j=>match os[j]? with |none=>Ly.nil |some o=>_)=_
 rw[h]
 dsimp only
 rw[b]
abbrev DF:=Str->Int->List Int->Tr
def Dt(D:DF):Str->Sk->Prop
 |f,.st n h w r=>dI w=D f n h/\Dt D f w/\Dt D f r
 |_,.cl g _ s _=>Dt D g s
 |_,_=>True
theorem YF{D:DF}{f:Str}:∀{s:Sk},Dt D f s->∀{j:Nat} {o:bo},s.steps[j]?=some o->dI o.2.2=D f o.1 o.2.1/\Dt D f o.2.2
 | .st n H w r,h,0,o,e=>by cases e;exact#[h.1,h.2.1]
 | .st n H w r,h,j+1,o,e=>YF h.2.2 (j:=j) (by have e:((n,H,w)::r.steps)[j+1]?=some o:=e;simpa using e)
 | .nil,_,j,o,e=>by have e:([]:List bo)[j]?=some o:=e;simp at e
 | .ask _,_,j,o,e=>by have e:([]:List bo)[j]?=some o:=e;simp at e
 | .rd _ _,_,j,o,e=>by have e:([]:List bo)[j]?=some o:=e;simp at e
 | .wr _ _,_,j,o,e=>by have e:([]:List bo)[j]?=some o:=e;simp at e
 | .cl _ _ _ _,_,j,o,e=>by have e:([]:List bo)[j]?=some o:=e;simp at e
theorem JT{os:List bo}{m j:Nat}{n:Int}{H:List Int}{w:Sk}(h:ny os m n H w=some j):m<=j/\∃o,os[j]?=some o/\(dX n H o=true∨∃f I s a,w= .cl f I s a/\gO f I o=true):=by
 unfold ny at h
 cases e:md (dX n H) os m with
 |some i=>
  rw[e]at h
  cases h
  obtain⟨b,s,c,d⟩:=Zd e
  exact#[b,s,c,.inl d]
 |none=>
  rw[e]at h
  have h:mw os m w=some j:=h
  cases w with
  |cl f I s a=>
   obtain⟨b,S,c,d⟩:=Zd (show md (gO f I) os m=some j from h)
   exact#[b,S,c,.inr #[f,I,s,a,Z,d]]
  |_=>cases h
theorem Ad{n:Int}{H:List Int}{o:bo}(h:dX n H o=true):o.1=n/\o.2.1=H:=of_decide_eq_true h
theorem Ec{f:Str}{i:List Int}{o:bo}(h:gO f i o=true):∃s a,o.2.2= .cl f i s a:=by
 unfold gO at h
 split at h
 ·rename_i g j s a e
  obtain⟨rfl,rfl⟩:=of_decide_eq_true h
  exact#[s,a,e]
 ·cases h
theorem rC{w:Sk}{f:Str}{i:List Int}{s:Sk}{a:Int}(o:w.ok false)(e:dI w=dI (.cl f i s a)):∃S A,w= .cl f i S A:=by
 cases w with
 |nil |st _ _ _ _=>exact o.elim
 |ask b |rd b c |wr b c=>exact absurd (qU e) OF
 |cl g j S A=>obtain⟨rfl,rfl⟩:=Xw e;exact#[S,A,Z]
theorem u5{D:DF}{f:Str}{os s:Sk}{m j:Nat}{n:Int}{b:List Int}{w:Sk}{o:bo}(r:os.ok true)(l:Dt D f os)(h:ny os.steps m n b w=some j)(d:os.steps[j]?=some o)(O:o.2.2.ok false)(p:dI w=D f n b):∀g i s a,w= .cl g i s a->∃S A,o.2.2= .cl g i S A:=by
 intro g i s a e
 obtain⟨_,t,H,c⟩:=JT h
 rw[d]at H
 cases H
 rcases c with c | ⟨F,I,S,A,E,c⟩
 ·obtain⟨C,q⟩:=Ad c
  obtain⟨k,_⟩:=YF l d
  rw[C,q,<- p,e]at k
  exact rC O k
 ·rw[e]at E
  cases E
  exact Ec c
def mj:RA yL:=λH x p=>∃q a b,x= .ref q/\H q=some (.tup [.ref a,.ref b])/\H a=some (.tup (p.1.map V.int))/\H b=some (.tup (p.2.map V.int))
theorem dZ:Fp mj:=λ_ _ _ _ k #[q,a,b,e,h,H,c]=>#[q,a,b,e,k _ _ h,k _ _ H,k _ _ c]
structure LK(K:Frag)(C:Addr):Prop where
 cl:pF K C
 n1:aX K C "kept"
 n2:aX K C "turned"
 n3:aX K C "fresh"
 n4:aX K C "dropped"
noncomputable def FJ(k t f d:Addr):List (Str×V):=[("kept",.ref k),("turned",.ref t),("fresh",.ref f),("dropped",.ref d)]
structure Lg(H:Hp)(C r dx kA tA fA dA:Addr)(y:Ly):Prop where
 ins:H r=some (.ins C dx (FJ kA tA fA dA))
 kv:∃xs,H kA=some (.lst xs)/\b8 mj H y.k xs
 tv:∃xs,H tA=some (.lst xs)/\b8 mj H y.t xs
 fv:∃xs,H fA=some (.lst xs)/\b8 mn H y.f xs
 dv:∃xs,H dA=some (.lst xs)/\b8 mn H y.d xs
 ne:kA≠tA/\kA≠fA/\kA≠dA/\tA≠fA/\tA≠dA/\fA≠dA
def ci(a b c d:Addr)(H h:Hp):Prop:=∀x o,x≠a->x≠b->x≠c->x≠d->H x=some o->h x=some o
theorem ci.of_same{a b c d:Addr}{H h:Hp}(s:ae H h):ci a b c d H h:=λ_ _ _ _ _ _ e=>s _ _ e
theorem ci.trans{a b c d:Addr}{H f g:Hp}(h:ci a b c d H f)(k:ci a b c d f g):ci a b c d H g:=λx o n N i j e=>k x o n N i j (h x o n N i j e)
section
variable {H H':Hp}{C r dx kA tA fA dA:Addr}{y:Ly}
theorem Lg.tm(h:Lg H C r dx kA tA fA dA y)(k:ci kA tA fA dA H H'):al H H':=λb x e=>by
 obtain⟨_,a,_⟩:=h.kv
 obtain⟨_,c,_⟩:=h.tv
 obtain⟨_,d,_⟩:=h.fv
 obtain⟨_,f,_⟩:=h.dv
 exact k b _ (jO e a (by intro z;cases z)) (jO e c (by intro z;cases z)) (jO e d (by intro z;cases z)) (jO e f (by intro z;cases z)) e
theorem Lg.same(h:Lg H C r dx kA tA fA dA y)(s:ae H H'):Lg H' C r dx kA tA fA dA y:=by
 obtain⟨x,a,g⟩:=h.kv
 obtain⟨X,b,G⟩:=h.tv
 obtain⟨c,d,g3⟩:=h.fv
 obtain⟨e,f,i⟩:=h.dv
 exact#[s _ _ h.ins,#[x,s _ _ a,g.mono dZ (ae.tm s)],#[X,s _ _ b,G.mono dZ (ae.tm s)],#[c,s _ _ d,g3.mono d9 (ae.tm s)],#[e,s _ _ f,i.mono d9 (ae.tm s)],h.ne]
theorem QH{a:Addr}{x:List V}{o:HO}(h:H a=some (.lst x)):al H (ah H a o):=λb Y e=>by rw[jh (jO e h (by intro z;cases z))];exact e
theorem Lg.setK(h:Lg H C r dx kA tA fA dA y){x Y:List V}{p:List yL}(a:H kA=some (.lst x))(g:b8 mj H p Y):Lg (ah H kA (.lst (x++Y))) C r dx kA tA fA dA (y.app #[p,[],[],[]])/\ci kA tA fA dA H (ah H kA (.lst (x++Y))):=by
 have T:=QH (o:=.lst (x++Y)) a
 obtain⟨v,c,G⟩:=h.kv
 obtain⟨X,i,j⟩:=h.tv
 obtain⟨k,l,g3⟩:=h.fv
 obtain⟨m,n,q⟩:=h.dv
 obtain⟨N,s,u,B,D,E⟩:=h.ne
 rw[c]at a
 cases a
 refine#[#[?_,#[_,jc,(b8.app g G).mono dZ T],#[X,?_,?_],#[k,?_,?_],#[m,?_,?_],h.ne],λb o A F I J e=>by rw[jh A];exact e]
 ·rw[jh (jO h.ins c (by intro z;cases z))];exact h.ins
 ·rw[jh (Ne.symm N)];exact i
 ·show b8 mj _ (y.t++[]) _;rw[List.append_nil];exact j.mono dZ T
 ·rw[jh (Ne.symm s)];exact l
 ·show b8 mn _ (y.f++[]) _;rw[List.append_nil];exact g3.mono d9 T
 ·rw[jh (Ne.symm u)];exact n
 ·show b8 mn _ (y.d++[]) _;rw[List.append_nil];exact q.mono d9 T
theorem Lg.setT(h:Lg H C r dx kA tA fA dA y){x Y:List V}{p:List yL}(a:H tA=some (.lst x))(g:b8 mj H p Y):Lg (ah H tA (.lst (x++Y))) C r dx kA tA fA dA (y.app #[[],p,[],[]])/\ci kA tA fA dA H (ah H tA (.lst (x++Y))):=by
 have t:=QH (o:=.lst (x++Y)) a
 obtain⟨X,i,G⟩:=h.kv
 obtain⟨B,c,j⟩:=h.tv
 obtain⟨l,m,g3⟩:=h.fv
 obtain⟨n,q,s⟩:=h.dv
 obtain⟨N,D,E,u,v,F⟩:=h.ne
 rw[c]at a
 cases a
 refine#[#[?_,#[X,?_,?_],#[_,jc,(b8.app g j).mono dZ t],#[l,?_,?_],#[n,?_,?_],h.ne],λb o I A J L e=>by rw[jh A];exact e]
 ·rw[jh (jO h.ins c (by intro z;cases z))];exact h.ins
 ·rw[jh N];exact i
 ·show b8 mj _ (y.k++[]) _;rw[List.append_nil];exact G.mono dZ t
 ·rw[jh (Ne.symm u)];exact m
 ·show b8 mn _ (y.f++[]) _;rw[List.append_nil];exact g3.mono d9 t
 ·rw[jh (Ne.symm v)];exact q
 ·show b8 mn _ (y.d++[]) _;rw[List.append_nil];exact s.mono d9 t
theorem Lg.setF(h:Lg H C r dx kA tA fA dA y){x Y:List V}{p:List bQ}(a:H fA=some (.lst x))(f:b8 mn H p Y):Lg (ah H fA (.lst (x++Y))) C r dx kA tA fA dA (y.app #[[],[],p,[]])/\ci kA tA fA dA H (ah H fA (.lst (x++Y))):=by
 have T:=QH (o:=.lst (x++Y)) a
 obtain⟨X,g,G⟩:=h.kv
 obtain⟨i,j,l⟩:=h.tv
 obtain⟨v,c,g3⟩:=h.fv
 obtain⟨m,n,q⟩:=h.dv
 obtain⟨B,N,D,s,E,u⟩:=h.ne
 rw[c]at a
 cases a
 refine#[#[?_,#[X,?_,?_],#[i,?_,?_],#[_,jc,(b8.app f g3).mono d9 T],#[m,?_,?_],h.ne],λb o F I A J e=>by rw[jh A];exact e]
 ·rw[jh (jO h.ins c (by intro z;cases z))];exact h.ins
 ·rw[jh N];exact g
 ·show b8 mj _ (y.k++[]) _;rw[List.append_nil];exact G.mono dZ T
 ·rw[jh s];exact j
 ·show b8 mj _ (y.t++[]) _;rw[List.append_nil];exact l.mono dZ T
 ·rw[jh (Ne.symm u)];exact n
 ·show b8 mn _ (y.d++[]) _;rw[List.append_nil];exact q.mono d9 T
theorem Lg.setD(h:Lg H C r dx kA tA fA dA y){x Y:List V}{p:List bQ}(a:H dA=some (.lst x))(d:b8 mn H p Y):Lg (ah H dA (.lst (x++Y))) C r dx kA tA fA dA (y.app #[[],[],[],p])/\ci kA tA fA dA H (ah H dA (.lst (x++Y))):=by
 have T:=QH (o:=.lst (x++Y)) a
 obtain⟨X,g,G⟩:=h.kv
 obtain⟨i,j,l⟩:=h.tv
 obtain⟨m,n,g3⟩:=h.fv
 obtain⟨v,c,q⟩:=h.dv
 obtain⟨B,D,N,E,s,u⟩:=h.ne
 rw[c]at a
 cases a
 refine#[#[?_,#[X,?_,?_],#[i,?_,?_],#[m,?_,?_],#[_,jc,(b8.app d q).mono d9 T],h.ne],λb o F I J A e=>by rw[jh A];exact e]
 ·rw[jh (jO h.ins c (by intro z;cases z))];exact h.ins
 ·rw[jh N];exact g
 ·show b8 mj _ (y.k++[]) _;rw[List.append_nil];exact G.mono dZ T
 ·rw[jh s];exact j
 ·show b8 mj _ (y.t++[]) _;rw[List.append_nil];exact l.mono dZ T
 ·rw[jh u];exact n
 ·show b8 mn _ (y.f++[]) _;rw[List.append_nil];exact g3.mono d9 T
end
theorem wf(p:bQ)(os:List bo)(m:Nat):eM p os m m=[]:=by unfold eM;rw[Nat.sub_self,List.take_zero];rfl
theorem rF{po:bQ}{os:List bo}{m j:Nat}{o:bo}(h:m<=j)(H:os[j]?=some o):eM po os m (j+1)=eM po os m j++gw (po++[(j:Int)]) o.2.2:=by
 unfold eM
 have e:(os.drop m).take (j+1 - m)=(os.drop m).take (j - m)++[o]:=by
  rw[show j+1 - m=(j - m)+1 by omega,List.take_add_one,List.getElem?_drop,show m+(j - m)=j by omega,H]
  rfl
 have a:((os.drop m).take (j - m)).length=j - m:=by
  have:=(List.getElem?_eq_some_iff.mp H).1
  rw[List.length_take,List.length_drop]
  omega
 rw[e,qp,List.map_append,a,show m+(j - m)=j by omega]
 congr 1
 show(((_,_)::_)++[]).map _=_
 rw[List.append_nil]
 rfl
noncomputable abbrev tO:Stmt:=bg (bu 36) 0
noncomputable abbrev xU:Stmt:=bg (bu 36) 1
noncomputable abbrev tM:Stmt:=bg (bu 36) 2
noncomputable abbrev xT:Stmt:=bg (bu 36) 3
noncomputable abbrev tP:Stmt:=bu 37
section
open SeqAt
variable {X:Cx}
theorem Go{p:List (Addr×Obj)}{G:_L.St}{H:Hp}{s:Shared}(I:ap X p G H s)(n:Nat)(J:∀(t:Tr) {A:Around},t.dep<=n->A.units+n < cLine->t.In->t.isL=false->∀{u:Tr} {x y:V},u.In->u.isL=false->aN H t x []->aN H u y []->∀a b,aD x a->aD y b->EqAt A s a b (gG t u)){A:Around}{l m:Tr}{d B:Addr}{f g:List V}(hn:l.dep<=n)(hu:A.units+n+1 < cLine)(L:l.In)(M:m.In)(i:l.isL=true)(o:m.isL=true)(N:H d=some (.tup f))(O:H B=some (.tup g))(T:aN H l .non f)(q:aN H m .non g):RcNeAt A s (.ref d) (.ref B) (!gG (.tp l) (.tp m)):=by
 obtain⟨v,r,Q,_⟩:=I.tuple (ay.of (K:=X.K) N)
 obtain⟨C,R,S,_⟩:=I.tuple (ay.of (K:=X.K) O)
 obtain⟨U,W⟩:=ql i L T
 obtain⟨Y,m2⟩:=ql o M q
 have z:=RcNeAt.tuples (A:=A) (e:=iQ l m) (show s.heap.IsTuple d v.toArray from Q) (show s.heap.IsTuple B C.toArray from S) OG (λj h1 h2=>?_)
 ·rw[Xu i o T q (by rw[List.size_toArray,<- r.length,U]) (by rw[List.size_toArray,<- R.length,Y])]at z
  have E:gG (.tp l) (.tp m)=gG l m:=by
   by_cases c:l=m
   ·rw[zO c,zO (by rw[c])]
   ·rw[zh c,zh (λk=>c (by injection k))]
  rw[E]
  exact z
 ·have la:=r.length
  have lb:=R.length
  have D:j < f.length:=by simp at h1;omega
  have h:j < g.length:=by simp at h2;omega
  obtain⟨u1,q1,r1⟩:=r.get (List.getElem?_eq_getElem D)
  obtain⟨u2,q2,r2⟩:=R.get (List.getElem?_eq_getElem h)
  have e1:v.toArray[j]=u1:=by
   obtain⟨_,e⟩:=List.getElem?_eq_some_iff.mp q1
   simpa using e
  have E:C.toArray[j]=u2:=by
   obtain⟨_,e⟩:=List.getElem?_eq_some_iff.mp q2
   simpa using e
  rw[e1,E]
  obtain⟨F,g1,g2,g3,g4,g5⟩:=W j _ (List.getElem?_eq_getElem D)
  obtain⟨u',k1,k2,k3,k4,k5⟩:=m2 j _ (List.getElem?_eq_getElem h)
  have et:iQ l m j=gG F u':=by unfold iQ;rw[g1,k1]
  rw[et]
  exact J F (A:=A.in1) OG (by show A.units+1+n < cLine;omega) g3 g2 k3 k2 g5 k5 _ _ r1 r2
inductive EC(d:Nat)(x y:V)(H:Hp)(Q:VK):Prop
 |mk(l m:Tr)(_:l.dep < d)(_:l.In)(_:m.In)(_:aN H (.tp l) x [])(_:aN H (.tp m) y [])(_:Q (.bl (!gG (.tp l) (.tp m))) H)
theorem sS{d:Nat}(c:X.A.units+d+1 < cLine):eY X (compareOp .NotEq) (EC d):=by
 intro p s n H x y v u Q I r R h
 obtain⟨l,m,o,i,e,⟨f,a,z,rfl,g,t⟩,⟨j,b,B,rfl,k,T⟩,q⟩:=h
 cases r
 cases R
 exact Go I d (u6 I d) OG c i e f j g k t T X.prog X.w _ _ #[.bl _,H,I,Z,q]
end
inductive iB(b:List V)(H:Hp)(Q:VK)(a:XK):Prop
 |mk(u:V)(w:Sk)(_:b=[u])(_:dH H w u [])(_:w.ok false)(_:Q (.int w.fnd) H)
inductive lN(C:Addr)(d:List V)(H:Hp)(Q:VK)(a:XK):Prop
 |mk(r c:Addr)(_:d=[.ref r])(_:H r=some (.ins C c []))(_:∀(kA tA fA dA:Addr) (H':Hp),Lg H' C r c kA tA fA dA .nil->(∀b o,b≠r->H b=some o->H' b=some o)->H kA=none->H tA=none->H fA=none->H dA=none->Q .non H')
inductive iA(C:Addr)(o:List V)(H:Hp)(Q:VK)(b:XK):Prop
 |mk(r e i n g d k c:Addr)(l:bQ)(f:Str)(h:List Int)(s:Sk)(a:Int)(m j:Nat)(y:Ly)(_:o=[.ref r,.ref k,.ref c,.int (m:Int),.int (j:Int)])(_:Lg H C r e i n g d y)(_:H k=some (.tup (l.map V.int)))(_:l.length<=50)(_:nD H f h s a (.ref c))(_:s.ok true)(_:s.dep<=15)(_:s.size<=1000)(_:m<=j)(_:j<=s.steps.length)(_:y.d.length+(eM l s.steps m j).length<=100000)(_:∀H',Lg H' C r e i n g d (y.app #[[],[],[],eM l s.steps m j])->ci i n g d H H'->Q .non H')
inductive mM(C:Addr)(n:Nat)(A:List V)(H:Hp)(Q:VK)(b:XK):Prop
 |mk(D:DF)(r f k w h e t q i o p j:Addr)(v u:bQ)(l m:Int)(c d:List Int)(x z:V)(B E:Sk)(y:Ly)(_:A=[.ref r,.ref t,.ref q,.ref o,.ref p])(_:Lg H C r f k w h e y)(_:H t=some (.tup (v.map V.int)))(_:H o=some (.tup (u.map V.int)))(_:v.length+n<=50)(_:u.length+n<=50)(_:H q=some (.tup [.int l,.ref i,x]))(_:H i=some (.tup (c.map V.int)))(_:dH H B x [])(_:B.ok false)(_:B.dep<=15)(_:B.size<=1000)(_:H p=some (.tup [.int m,.ref j,z]))(_:H j=some (.tup (d.map V.int)))(_:dH H E z [])(_:E.ok false)(_:E.dep < n)(_:E.dep<=15)(_:E.size<=1000)(_:∀g is s a,E= .cl g is s a->∃s' a',B= .cl g is s' a'/\Dt D g s/\Dt D g s')(_:(y.app ((one v (l,c,B) u m d E).app (eN E v (iN B) 0 u 0))).tot<=100000)(_:∀H',Lg H' C r f k w h e (y.app ((one v (l,c,B) u m d E).app (eN E v (iN B) 0 u 0)))->ci k w h e H H'->Q .non H')
inductive iX(C:Addr)(n:Nat)(v:List V)(H:Hp)(Q:VK)(a:XK):Prop
 |mk(D:DF)(r h l u i g o c m b:Addr)(q p:bQ)(f:Str)(j k:List Int)(s t:Sk)(d e:Int)(y:Ly)(_:v=[.ref r,.ref o,.ref c,.ref m,.ref b])(_:Lg H C r h l u i g y)(_:H o=some (.tup (q.map V.int)))(_:H m=some (.tup (p.map V.int)))(_:q.length+n<=49)(_:p.length+n<=49)(_:nD H f j s d (.ref c))(_:s.ok true)(_:s.dep<=15)(_:s.size<=1000)(_:nD H f k t e (.ref b))(_:t.ok true)(_:t.dep < n)(_:t.dep<=15)(_:t.size<=1000)(_:Dt D f s)(_:Dt D f t)(_:(y.app (eN t q s.steps 0 p 0)).tot<=100000)(_:∀H',Lg H' C r h l u i g (y.app (eN t q s.steps 0 p 0))->ci l u i g H H'->Q .non H')
inductive Hc(C r d k q h b o c:Addr)(p:bQ)(n:List bo)(m j:Nat)(y:Ly)(H:Hp)(i:Nat)(s:_L.St)(a:Hp):Prop
 |mk(l:Option V)(e:s=[some (.ref r),some (.ref o),some (.ref c),some (.int (m:Int)),some (.int (j:Int)),l])(f:Lg a C r d k q h b (y.app #[[],[],[],eM p n m (m+i)]))(g:ci k q h b H a)
inductive He(D:DF)(C r h w M v g F c x b:Addr)(J I:bQ)(f:Str)(G:List bo)(L:List V)(K:Sk)(d:Ly)(H:Hp)(i:Nat)(N:_L.St)(e:Hp):Prop
 |mk(z A B E:Option V)(m:Nat)(a:Sk)(y:Ly)(j:N=[some (.ref r),some (.ref F),some (.ref c),some (.ref x),some (.ref b),some (.int (m:Int)),z,A,B,E])(k:Lg e C r h w M v g y)(l:dH e a .non (L.drop i))(n:a.ok true)(o:a.dep<=K.dep)(p:a.size<=K.size)(q:Dt D f a)(s:m<=G.length)(t:y.app (eN a J G m I i)=d)(u:ci w M v g H e)
theorem Eo{W b:Sk}{p a:bQ}{n N:Int}{h H:List Int}:one p (n,h,W) a N H b=if dX N H (n,h,W)=true then (if W.fnd=b.fnd then #[[(p,a)],[],[],[]] else #[[],[(p,a)],[],[]]) else #[[],[],[a],[p]]:=rfl
theorem Z0{f:Addr}{k:FuncData}(F:aI K "found_in" "found_in" fi f k):af P w K mg base aA 1 f k ["what"] iB:=by
 refine F.ok iV ?_ λC A o s H v Q E x h=>?_
 ·rintro _ _ _ _ ⟨u,w,rfl,_⟩
  rfl
 obtain⟨u,w,rfl,m,d,q⟩:=h
 refine#[_,(jg (jo (kM (kh (jy (pv 0))) (jy (jr jN (pv 0) jf (λ_ _=>Z))) (jr jN (pv 0) (YA Qz jf) (λ_ _=>Z))))),?_]
 cases w with
 |nil |st _ _ _ _=>exact d.elim
 |ask b |rd a i |wr a i=>
  obtain⟨p,rfl,n⟩:=m
  exact(ju n eZ #[Z,_,Z,aV OJ #[_,Z,_,Z,p,_,_,_,Z,Z,ay.of n,Z,q]])
 |cl f I s i=>
  obtain⟨p,c,g,e,S,rfl,r,t,_⟩:=m
  exact(ju r eZ #[Z,_,Z,cy OJ (ju r iR #[c,_,_,_,Z,Z,ay.of t,jK (j:=3) Z,q])])
theorem CU:ai ["self"] ["self"] (aa tO):=bp
theorem wT{f:Addr}{L:FuncData}{C:Addr}(F:aI K "__init__" "Laying.__init__" tO f L)(c:LK K C):af P w K mg base aA 1 f L ["self"] (lN C):=by
 refine F.ok CU ?_ λS A O s H V Q E U h=>?_
 ·rintro _ _ _ _ ⟨r,D,rfl,_⟩
  rfl
 obtain⟨r,D,rfl,g,q⟩:=h
 refine#[_,(jd (@zp _ _ _ _ _ _ _ _ (pv 0) (jG jb) Z) (jd (@zp _ _ _ _ _ _ _ _ (pv 0) (jG jb) Z) (jd (@zp _ _ _ _ _ _ _ _ (pv 0) (jG jb) Z) (jg (@zp _ _ _ _ _ _ _ _ (pv 0) (jG jb) Z))))),?_]
 refine aj λR d=>#[iK,λk l=>#[_,Z,r,C,D,_,Z,ao g l,c.cl,c.n1,(by show 0 < 1000;decide),d _ _ ?_]]
 clear d
 refine aj λR d=>#[iK,λt a=>#[_,Z,r,C,D,_,Z,ao jc a,c.cl,c.n2,(by show 1 < 1000;decide),d _ _ ?_]]
 clear d
 refine aj λR d=>#[iK,λi N=>#[_,Z,r,C,D,_,Z,ao jc N,c.cl,c.n3,(by show 2 < 1000;decide),d _ _ ?_]]
 clear d
 refine#[iK,λj n=>#[_,Z,r,C,D,_,Z,ao jc n,c.cl,c.n4,(by show 3 < 1000;decide),?_]]
 have m:k≠r:=(jk g l).symm
 have T:t≠r:=λz=>by rw[z,jc]at a;cases a
 have p:i≠r:=λz=>by rw[z,jc]at N;cases N
 have u:j≠r:=λz=>by rw[z,jc]at n;cases n
 rw[jh T]at a
 have x:t≠k:=λz=>by rw[z,jc]at a;cases a
 rw[jh x]at a
 rw[jh p]at N
 have y:i≠t:=λz=>by rw[z,jc]at N;cases N
 rw[jh y,jh p]at N
 have B:i≠k:=λz=>by rw[z,jc]at N;cases N
 rw[jh B]at N
 rw[jh u]at n
 have G:j≠i:=λz=>by rw[z,jc]at n;cases n
 rw[jh G,jh u]at n
 have I:j≠t:=λz=>by rw[z,jc]at n;cases n
 rw[jh I,jh u]at n
 have J:j≠k:=λz=>by rw[z,jc]at n;cases n
 rw[jh J]at n
 refine q k t i j _ #[jc,#[[],?_,Z],#[[],?_,Z],#[[],?_,Z],#[[],?_,Z],x.symm,B.symm,J.symm,y.symm,I.symm,G.symm] (λb o v e=>?_) l a N n
 ·rw[jh m,jh J.symm,jh m,jh B.symm,jh m,jh x.symm,jh m,jc]
 ·rw[jh T,jh I.symm,jh T,jh y.symm,jh T,jc]
 ·rw[jh p,jh G.symm,jh p,jc]
 ·rw[jh u,jc]
 ·rw[jh v,jh (jk e n),jh v,jh (jk e N),jh v,jh (jk e a),jh v,jh (jk e l)]
  exact e
theorem ui:ai ["self","path","chain","begin","end","at"] z19z (aa tM):=bp
theorem wP{f:Addr}{fd:FuncData}{C fP:Addr}{D:FuncData}(F:aI K "drop" "Laying.drop" tM f fd)(ck:LK K C)(cP:Cl P w K mg base 36 fP D z7z (iY 17) "paths_at")(mr:mg "range"=none):af P w K mg base aA 37 f fd z19z (iA C):=by
 refine F.ok ui ?_ λc0 A O s H vs Q E hr h=>?_
 ·rintro _ _ _ _ ⟨r,G,kA,tA,fA,I,M,c,po,f,is,s,a,m,j,y,rfl,_⟩
  rfl
 obtain⟨r,G,kA,tA,fA,I,M,c,po,f,is,s,a,m,j,y,rfl,hL,N,h5,hc,b,h6,h7,h8,h',h0,q⟩:=h
 refine#[_,(jg (jX PassesOwn.never Z (Jn Z mr (ja (pv 3) (ja (pv 4) jb))) (jv (i:=5) ui.nd Z (Or.inl Z)) (jg (jJ (j9 PySem.F.plainAttrs_list PySem.F.slot_list_extend PySem.F.type_list_extend qt (j5 (pv 0) Z) (ja (cP.e hr.m (ja (jw j7 (pv 1) (ji (ja (pv 5) jb))) (ja (jy (jr jN (jr jN (pv 2) jf (λ_ _=>Z)) (pv 5) (λ_ _=>Z))) jb))) jb)))))),?_]
 have b1:=aF
 obtain⟨_,g,e,ss,ec,h1,h2,h3,R⟩:=id hc
 cases ec
 have l0:=zG b R
 have l1:=Jl b R
 refine dq λJ jj=>#[_,Z,_,Z,_,_,Z,#[OG,OG,OG,OG],jj _ _ ?_]
 clear jj
 refine kB (Hc C r G kA tA fA I M c po s.steps m j y H) #[none,Z,?_,λ_ _ _ _ _ _ e=>e] ?_ (λσ H' h=>?_)
 ·rw[Nat.add_zero,wf]
  exact(Ly.app_nil y).symm▸hL
 ·intro E2 rt i σ H2 hi fE Gq k h
  obtain⟨o5,rfl,_L,B⟩:=h
  refine k ?_
  clear k
  have T:=hL.tm B
  have e0:(m:Int)+(i:Int)=((m+i:Nat):Int):=by omega
  rw[e0]
  have n:m+i < ss.length:=by omega
  obtain⟨n',a0,w,p,h,u,ht,U,d0,s0,ex,hp,hh,hw⟩:=qh b (R.mono T) (List.getElem?_eq_getElem n)
  have W:ss[m+i]?=some (.ref p):=by rw[List.getElem?_eq_getElem n,ex]
  obtain⟨xs,X,lx⟩:=_L.dv
  refine#[_,Z,r,C,G,_,_,Z,_L.ins,ck.cl,ck.n4,Z,.inl #[Z,_,aG.of X],_,Z,_,Z,lY,λt nt=>#[M,t,_,_,Z,Z,ao (T _ _ N) nt,jc,by rw[List.length_map];show _+1<=_;omega,λr9 H9 z s9=>?_]]
  have v:=(je (o:=.tup [.int ((m+i:Nat):Int)]) nt).trans s9
  have z:H9 r9=some (.tup (po.map V.int++[.int ((m+i:Nat):Int)])):=z
  rw[vW]at z
  refine(ju (v _ _ (T _ _ h1)) h9 #[_,Z,e,_,_,_,Z,Z,ay.of (v _ _ (T _ _ h3)),jK W,p,_,_,_,Z,Z,ay.of (v _ _ hp),h9,r9,_,w,u,Z,z,by rw[List.length_append];show _+1+_<=_;omega,hw.mono (ae.tm v),U,OG,OG,λl zs H0 nl hl hz Y=>?_])
  have S:=v.trans Y
  have L0:=_L.same S
  have lz:=hz.len
  have x:=lx.len
  have ds:eM po s.steps m (m+i+1)=eM po s.steps m (m+i)++gw (po++[((m+i:Nat):Int)]) w:=rF (po:=po) (os:=s.steps) (m:=m) (j:=m+i) OG ht
  have dl:(eM po s.steps m (m+i+1)).length<=(eM po s.steps m j).length:=by
   unfold eM
   rw[List.length_map,List.length_map]
   have:=XZ ((s.steps.drop m).take (j - m)) (m+i+1 - m) po m
   rw[List.take_take,Nat.min_eq_left OG]at this
   exact this
  rw[ds,List.length_append]at dl
  have x:xs.length=y.d.length+(eM po s.steps m (m+i)).length:=by rw[x];exact List.length_append
  obtain⟨L,b0⟩:=L0.setD (S _ _ X) hz
  refine#[I,l,_,_,Z,Z,S _ _ X,hl,OG,fE _ _ #[_,Z,?_,(B.trans (ci.of_same S)).trans b0]]
  rw[Ly.app_assoc]at L
  have ee:(#[[],[],[],eM po s.steps m (m+i)]:Ly).app #[[],[],[],gw (po++[((m+i:Nat):Int)]) w]=#[[],[],[],eM po s.steps m (m+(i+1))]:=by
   rw[show m+(i+1)=m+i+1 by omega,ds]
   rfl
  rw[ee]at L
  exact L
 ·obtain⟨o5,rfl,_L,B⟩:=h
  rw[show m+((j:Int) - (m:Int)).toNat=j by omega]at _L
  exact q _ _L B
theorem sf{w:Sk}{p b:bQ}{os:List bo}{m k:Nat}(o:w.ok false)(h:∀f i s a,w≠ .cl f i s a):eN w p os m b k= .nil:=by
 cases w with
 |nil |st _ _ _ _=>exact o.elim
 |cl f i s a=>exact absurd Z (h f i s a)
 |_=>rfl
theorem yi{H:Hp}{w:Sk}{u:V}(o:w.ok false)(h:dH H w u []):∃p v r,u= .ref p/\H p=some (.tup (.str v::r))/\(v="call"↔∃f i s a,w= .cl f i s a):=by
 cases w with
 |nil |st _ _ _ _=>exact o.elim
 |ask b |rd b c |wr b c=>obtain⟨p,e,h⟩:=h;exact#[p,_,_,e,h,λe=>absurd e OF,λ#[_,_,_,_,e]=>nomatch e]
 |cl f i s a=>obtain⟨p,c,g,E,S,e,h,_⟩:=h;exact#[p,_,_,e,h,λ_=>#[_,_,_,_,Z],λ_=>Z]
theorem yl{a b:Str}:decide (V.str a=V.str b)=decide (a=b):=by
 by_cases h:a=b
 ·rw[decide_eq_true h,decide_eq_true (by rw[h])]
 ·rw[decide_eq_false h,decide_eq_false λz=>h (by injection z)]
theorem Ly.f_le(a b:Ly):a.f.length<=(a.app b).tot/\a.k.length<=(a.app b).tot/\a.t.length<=(a.app b).tot/\a.d.length<=(a.app b).tot:=by
 rw[Ly.tot_app]
 unfold Ly.tot
 omega
theorem EM:ai z4z z4z (aa xT):=bp
theorem BK{f:Addr}{fd:FuncData}{n:Nat}{C fF fL:Addr}{f3 f0:FuncData}(F:aI K "lay_step" "Laying.lay_step" xT f fd)(l:LK K C)(cF:Cl P w K mg base 1 fF f3 ["what"] iB "found_in")(GL:af P w K mg base aA (2*n+38) fL f0 z4z (iX C n))(bL:ax K f0 z4z [])(m0:a9 K C "lay" fL):af P w K mg base aA (2*n+39) f fd z4z (mM C (n+1)):=by
 refine F.ok EM ?_ λc2 A o1 s H vs Q E hr h=>?_
 ·rintro _ _ _ _ ⟨D,r,x,kA,tA,fA,dA,O,q0,h0,N,p,h1,B,G,I,X,b,c,u0,u1,W,w1,y,rfl,_⟩
  rfl
 obtain⟨D,r,x,kA,tA,fA,dA,O,q0,h0,N,p,h1,B,G,I,X,b,c,u0,u1,W,w1,y,rfl,hL,h4,h5,b1,b2,Y,a2,h6,o0,h7,a3,hp,a4,h2,o,h8,J,a',h3,L,q⟩:=h
 refine#[_,(jd (jx (jC (sS (d:=10) (mv hr)) (jH kc (pv 2) jR (jF jf)) (jH kc (pv 4) jR (jF jf)) (aH _)) (jd (jJ (j9 PySem.F.plainAttrs_list PySem.F.slot_list_append PySem.F.type_list_append jP (j5 (pv 0) Z) (ja (pv 3) jb))) (jg (jJ (j9 PySem.F.plainAttrs_list PySem.F.slot_list_append PySem.F.type_list_append jP (j5 (pv 0) Z) (ja (pv 1) jb))))) (jg (jx (jC qw (cF.e hr.m (ja (jy (pv 2)) jb)) (cF.e hr.m (ja (jy (pv 4)) jb)) (aH _)) (jg (jJ (j9 PySem.F.plainAttrs_list PySem.F.slot_list_append PySem.F.type_list_append jP (j5 (pv 0) Z) (ja (ji (ja (pv 1) (ja (pv 3) jb))) jb)))) (jg (jJ (j9 PySem.F.plainAttrs_list PySem.F.slot_list_append PySem.F.type_list_append jP (j5 (pv 0) Z) (ja (ji (ja (pv 1) (ja (pv 3) jb))) jb))))))) (jg (jx (kh (jy (jr jN (pv 4) jf (λ_ _=>Z)))) (jg (jJ (j6 (pv 0) l.cl m0 GL hr.m bL .nil aY (ja (pv 1) (ja (jy (jr jN (pv 2) jf (λ_ _=>Z))) (ja (pv 3) (ja (jy (jr jN (pv 4) jf (λ_ _=>Z))) jb))))))) jp))),?_]
 have b5:=aF
 refine aj λF1 f1=>?_
 suffices M:∀H',Lg H' C r x kA tA fA dA (y.app (one B (I,b,W) G X c w1))->ci kA tA fA dA H H'->F1 [some (.ref r),some (.ref O),some (.ref q0),some (.ref N),some (.ref p)] H' by
  clear f1
  have o2:=Ly.f_le y ((one B (I,b,W) G X c w1).app (eN w1 B (iN W) 0 G 0))
  refine#[_,Z,_,Z,q0,_,Z,Y,λq1 H1 e1 u=>#[_,Z,_,Z,p,_,Z,u _ _ hp,λq2 H2 e2 s2=>#[_,_,QR I b,Jm I b,Jm X c,jD (s2 _ _ e1) (jl Z jU (jl Z (zT (s2 _ _ (u _ _ a2))) jB)),jD e2 (jl Z jU (jl Z (zT (s2 _ _ (u _ _ a4))) jB)),_,Z,?_]]]
  rw[show gG (.tp (aC [aw I,aE (b.map aw)])) (.tp (aC [aw X,aE (c.map aw)]))=dX X c (I,b,W) from sj]
  have v:=u.trans s2
  have _L:=hL.same v
  have t0:=ae.tm v
  have i:=v _ _ h4
  have j:=v _ _ h5
  rw[Eo]at M
  cases hb:dX X c (I,b,W) with
  |false=>
   rw[hb,if_neg (by intro z;cases z)]at M
   refine cy Z ?_
   obtain⟨xs,k,lx⟩:=_L.fv
   have l0:=lx.len
   refine aj λF2 f2=>#[_,Z,r,C,x,_,_,Z,_L.ins,l.cl,l.n3,Z,.inl #[Z,_,aG.of k],_,Z,fA,_,_,Z,Z,k,OG,f2 _ _ ?_]
   clear f2
   obtain⟨U,b3⟩:=_L.setF k (b8.one (R:=mn) (w:=G) #[N,Z,j])
   have T:=_L.tm b3
   generalize ah H2 fA (.lst (xs++[.ref N]))=H3 at U b3 T ⊢
   obtain⟨zs,hz,lz⟩:=U.dv
   have l1:=lz.len
   have l1:zs.length=y.d.length:=by rw[l1];show(y.d++[]).length=_;rw[List.append_nil]
   refine#[_,Z,r,C,x,_,_,Z,U.ins,l.cl,l.n4,Z,.inl #[Z,_,aG.of hz],_,Z,dA,_,_,Z,Z,hz,OG,?_]
   obtain⟨V,b4⟩:=U.setD hz (b8.one (R:=mn) (w:=B) #[O,Z,T _ _ i])
   rw[Ly.app_assoc]at V
   exact M _ V (((ci.of_same v).trans b3).trans b4)
  |true=>
   rw[hb,if_pos Z]at M
   refine aV Z ?_
   refine(ju (v _ _ Y) h9 #[u0,W,Z,h6.mono t0,o0,ju (v _ _ hp) h9 #[u1,w1,Z,h2.mono t0,o,Z,_,Z,?_]])
   by_cases hf:W.fnd=w1.fnd
   ·rw[if_pos hf]at M
    refine cy (decide_eq_true (by rw[hf])) ?_
    obtain⟨xs,k,lx⟩:=_L.kv
    have l0:=lx.len
    refine#[_,Z,r,C,x,_,_,Z,_L.ins,l.cl,l.n1,Z,.inl #[Z,_,aG.of k],_,Z,_,Z,bM,λt nt=>#[kA,_,_,Z,Z,ao k nt,OG,?_]]
    have S:ae H2 (ah H2 t (.tup [.ref O,.ref N])):=je nt
    obtain⟨V,b4⟩:=(_L.same S).setK (S _ _ k) (b8.one (R:=mj) (w:=(B,G)) #[t,O,N,Z,jc,S _ _ i,S _ _ j])
    exact M _ V ((ci.of_same (v.trans S)).trans b4)
   ·rw[if_neg hf]at M
    refine aV (decide_eq_false λz=>hf (by injection z)) ?_
    obtain⟨xs,k,lx⟩:=_L.tv
    have l0:=lx.len
    refine#[_,Z,r,C,x,_,_,Z,_L.ins,l.cl,l.n2,Z,.inl #[Z,_,aG.of k],_,Z,_,Z,bM,λt nt=>#[tA,_,_,Z,Z,ao k nt,OG,?_]]
    have S:ae H2 (ah H2 t (.tup [.ref O,.ref N])):=je nt
    obtain⟨V,b4⟩:=(_L.same S).setT (S _ _ k) (b8.one (R:=mj) (w:=(B,G)) #[t,O,N,Z,jc,S _ _ i,S _ _ j])
    exact M _ V ((ci.of_same (v.trans S)).trans b4)
 intro H3 U b3
 refine f1 _ _ ?_
 clear f1
 have T:=hL.tm b3
 rw[<- Ly.app_assoc]at L q
 obtain⟨p3,v3,r3,eu,b0,h'⟩:=yi o (h2.mono T)
 subst eu
 refine(ju (T _ _ hp) h9 #[p3,_,_,_,Z,Z,ay.of b0,eZ,Z,_,Z,?_])
 rw[yl]
 by_cases hv:v3="call"
 ·obtain⟨g,is,u,a1,rfl⟩:=h'.mp hv
  obtain⟨s0,a0,rfl,D1,D0⟩:=h3 g is u a1 Z
  refine cy (decide_eq_true hv) ?_
  obtain⟨x1,c1,g1,e1,s4,e3,k1,k2,k3,k4,k5⟩:=h2.mono T
  obtain⟨x0,c0,g0,e0,s5,e4,i1,i2,i3,i4,i5⟩:=h6.mono T
  cases e3
  subst e4
  have h8:u.dep+1 < n+1:=h8
  have J:u.dep+1<=15:=J
  have h7:s0.dep+1<=15:=h7
  exact#[_,Z,r,x,_,Z,U.ins,Z,_,Z,ju (T _ _ Y) h9 #[x0,_,_,_,Z,Z,ay.of i1,iR,_,Z,ju (T _ _ hp) h9 #[p3,_,_,_,Z,Z,ay.of k1,iR,D,r,x,kA,tA,fA,dA,O,c0,N,c1,B,G,g,is,is,s0,u,a0,a1,_,Z,U,T _ _ h4,T _ _ h5,OG,OG,#[c0,g0,e0,s5,Z,i2,i3,i4,i5],o0,OG,a3,#[c1,g1,e1,s4,Z,k2,k3,k4,k5],o,OG,OG,a',D0,D1,L,λH4 V b4=>q H4 V (b3.trans b4)]]]
 ·refine aV (decide_eq_false hv) ?_
  rw[sf o (λf is s a e=>hv (h'.mpr #[f,is,s,a,e])),Ly.app_nil]at q
  exact q H3 U b3
theorem io:ai ["self","old_path","old","new_path","new","mark","number","step","here","taken"] z4z (aa xU):=bp
theorem sJ{f:Addr}{fd:FuncData}{n:Nat}{C fT fP fD fS:Addr}{f3 f4 f0 f2:FuncData}(F:aI K "lay" "Laying.lay" xU f fd)(ck:LK K C)(cT:Cl P w K mg base 3 fT f3 ["steps","mark","step"] mV "taken_from")(cP:Cl P w K mg base 36 fP f4 z7z (iY 17) "paths_at")(GD:af P w K mg base aA 37 fD f0 z19z (iA C))(bD:ax K f0 z19z [])(m0:a9 K C "drop" fD)(GS:af P w K mg base aA (2*n+37) fS f2 z4z (mM C n))(bS:ax K f2 z4z [])(m1:a9 K C "lay_step" fS)(m2:mg "enumerate"=none)(ml:mg "len"=none):af P w K mg base aA (2*n+38) f fd z4z (iX C n):=by
 refine F.ok io ?_ λd3 A o0 s H vs Q E hr h=>?_
 ·rintro _ _ _ _ ⟨D,r,U,kA,tA,fA,dA,X,c,na,b,u,G,f,is,js,p,s1,a0,a1,y,rfl,_⟩
  rfl
 obtain⟨D,r,U,kA,tA,fA,dA,X,c,na,b,u,G,f,is,js,p,s1,a0,a1,y,rfl,hL,h6,c1,d4,d5,h7,O,a2,h8,c2,o1,d6,c9,d7,D0,D1,M,q⟩:=h
 refine#[_,(jd (jz 5 io.nd jf) (jd (jX PassesOwn.never Z (Xh Z m2 (ja (jy (pv 4)) jb)) (zn (n:=2) Z (jA (jv (i:=6) io.nd Z (Or.inl Z)) (jA (jv (i:=7) io.nd Z (Or.inl Z)) ki))) (jd (jz 8 io.nd (jw j7 (pv 3) (ji (ja (pv 6) jb)))) (jd (jz 9 io.nd (cT.e hr.m (ja (jy (pv 2)) (ja (pv 5) (ja (pv 7) jb))))) (jg (jx (J5 (@Qx _ _ _ _ _ (pv 9))) (jg (jJ (j9 PySem.F.plainAttrs_list PySem.F.slot_list_extend PySem.F.type_list_extend qt (j5 (pv 0) Z) (ja (cP.e hr.m (ja (pv 8) (ja (jy (pv 7)) jb))) jb)))) (jd (jJ (j6 (pv 0) ck.cl m0 GD hr.m bD .nil aY (ja (pv 1) (ja (pv 2) (ja (pv 5) (ja (pv 9) jb)))))) (jd (jJ (j6 (pv 0) ck.cl m1 GS hr.m bS .nil aY (ja (jw j7 (pv 1) (ji (ja (pv 9) jb))) (ja (jr jN (jy (pv 2)) (pv 9) (λ_ _=>Z)) (ja (pv 8) (ja (pv 7) jb)))))) (jg (jz 5 io.nd (jw jY (pv 9) jf)))))))))) (jg (jJ (j6 (pv 0) ck.cl m0 GD hr.m bD .nil aY (ja (pv 1) (ja (pv 2) (ja (pv 5) (ja (jS jL Z ml PySem.boot_len (ja (jy (pv 2)) jb)) jb))))))))),?_]
 have d8:=aF
 obtain⟨_,g0,e0,s2,e4,h1,h2,h3,h4⟩:=id h7
 cases e4
 obtain⟨_,g1,e1,s3,e6,k1,k2,k3,k4⟩:=id c2
 cases e6
 have l0:=zG O h4
 have l1:=Jl O h4
 refine aj λF1 v=>v _ _ ?_
 clear v
 refine aj λF1 v=>dq λJ jj=>(ju k1 h9 #[e1,Z,#[_,ay.of k3],jj _ _ ?_])
 clear jj
 refine Kz (K:=K) (xs:=s3) (He D C r U kA tA fA dA X c na b u G f p.steps s3 s1 (y.app (eN s1 u p.steps 0 G 0)) H) #[none,none,none,none,0,s1,y,Z,hL,k4,o1,Nat.le_refl _,Nat.le_refl _,D1,Nat.zero_le _,Z,λ_ _ _ _ _ _ e=>e] (λk σ Hx _ h=>?_) ?_ (λσ Hx h=>v _ _ ?_)
 ·obtain⟨_,_,_,_,_,_,_,_,_,_,_,_,_,_,_,_,b7⟩:=h
  exact ay.of (hL.tm b7 _ _ k3)
 ·intro E rt k x pp σ H4 c3 n2 fE Gq kq h
  clear v
  obtain⟨o6,o7,o8,o9,m,R,Y,rfl,L4,w2,w3,w4,w5,w6,w7,W,b4⟩:=h
  have s5:ae H4 (ah H4 pp (.tup [.int k,x])):=je n2
  have e5:ah H4 pp (.tup [.int k,x]) pp=some (.tup [.int k,x]):=jc
  refine kq ?_
  clear kq
  generalize ah H4 pp (.tup [.int k,x])=H5 at s5 e5 ⊢
  have b5:=b4.trans (ci.of_same s5)
  have c4:=hL.tm b5
  have L5:=L4.same s5
  refine#[pp,_,Z,ay.of e5,Z,_,_,Z,_,_,Z,Z,?_]
  rw[we c3]at w2
  have w2:=w2.mono (ae.tm s5)
  cases R with
  |nil=>exact nomatch (show _::_=[] from w2)
  |ask _ |rd _ _ |wr _ _ |cl _ _ _ _=>exact w3.elim
  |st n1 h5 w r1=>
   obtain⟨p',h',u',y0,ex,i1,i2,i3,i4⟩:=w2
   injection ex with ex ey
   subst ex
   subst ey
   have d':w.dep<=s1.dep:=Nat.le_trans (Nat.le_max_left _ _) w4
   have d2:r1.dep<=s1.dep:=Nat.le_trans (Nat.le_max_right _ _) w4
   have w5:w.size+r1.size+1<=s1.size:=w5
   show dC (du _ _) (dC _ _) E [some (.ref r),some (.ref X),some (.ref c),some (.ref na),some (.ref b),some (.int (m:Int)),some (.int k),some (.ref p'),o8,o9] H5
   refine aj λF1 v=>#[_,Z,_,Z,lY,λt nt=>#[na,t,_,_,Z,Z,ao (c4 _ _ c1) nt,jc,by rw[List.length_map];show _+1<=_;omega,λr9 H9 e9 s9=>v _ _ ?_]]
   clear v
   have S9:ae H5 H9:=(je (o:=.tup [.int k]) nt).trans s9
   have e9:H9 r9=some (.tup (G.map V.int++[.int (k:Int)])):=e9
   rw[vW]at e9
   have b9:=b5.trans (ci.of_same S9)
   have t':=hL.tm b9
   refine aj λF1 v=>(ju (t' _ _ h1) h9 #[_,Z,_,Z,e0,p',h',s2,p,w,m,n1,h5,u',Z,t' _ _ h3,h4.mono t',O,h8,OG,S9 _ _ i1,S9 _ _ i2,i3.mono (ae.tm S9),w3.1,λH0 s4=>v _ _ ?_])
   clear v
   have B:=S9.trans s4
   have b1:=b5.trans (ci.of_same B)
   have t5:=hL.tm b1
   have L:=L5.same B
   have e3:=s4 _ _ e9
   have i0:=B _ _ i1
   have j0:=i3.mono (ae.tm B)
   cases hb:ny p.steps m n1 h5 w with
   |none=>
    rw[Kn hb]at W
    show gF _ _ _ E [some (.ref r),some (.ref X),some (.ref c),some (.ref na),some (.ref b),some (.int (m:Int)),some (.int k),some (.ref p'),some (.ref r9),some .non] H0
    refine nP λG1 yT yF=>#[_,Z,_,Z,?_]
    rw[decide_eq_true Z]
    refine yT _ ?_
    obtain⟨xs,hx,lx⟩:=L.fv
    have l2:=lx.len
    have pl:=Xv w3.1 (G++[(k:Int)])
    have tt:Y.tot+((w.size+1)+(eN r1 u p.steps m G (k+1)).tot)<=100000:=by
     have z:=M
     rw[<- W,Ly.tot_app,Ly.tot_app]at z
     have z2:(#[[],[],gw (G++[(k:Int)]) w,[]]:Ly).tot=w.size+1:=by show 0+0+(gw (G++[(k:Int)]) w).length+0=_;rw[pl];omega
     rw[z2]at z
     exact z
    have ty:Y.f.length<=Y.tot:=by unfold Ly.tot;omega
    refine#[_,Z,r,C,U,_,_,Z,L.ins,ck.cl,ck.n3,Z,.inl #[Z,_,aG.of hx],_,Z,ju i0 h9 #[r9,G++[(k:Int)],w,u',Z,e3,by rw[List.length_append];show _+1+_<=_;omega,j0,w3.1,OG,OG,λl zs H1 nl hl hz I=>?_]]
    have lz:=hz.len
    obtain⟨L1,b2⟩:=(L.same I).setF (I _ _ hx) hz
    refine#[fA,l,_,_,Z,Z,I _ _ hx,hl,OG,fE _ _ #[_,_,_,_,m,r1,_,Z,L1,?_,w3.2,d2,OG,w6.2.2,w7,?_,?_]]
    ·exact i4.mono ((ae.tm (B.trans I)).trans ((L.same I).tm b2))
    ·rw[Ly.app_assoc]
     exact W
    ·exact(b1.trans (ci.of_same I)).trans b2
   |some j=>
    obtain⟨c5,o,ho,e7⟩:=JT hb
    have e8:=(List.getElem?_eq_some_iff.mp ho).1
    obtain⟨n0,a3,w0⟩:=o
    rw[Ko hb ho]at W
    show gF _ _ _ E [some (.ref r),some (.ref X),some (.ref c),some (.ref na),some (.ref b),some (.int (m:Int)),some (.int k),some (.ref p'),some (.ref r9),some (.int (j:Int))] H0
    refine nP λG1 yT yF=>#[_,Z,_,Z,?_]
    rw[decide_eq_false (by intro z;cases z)]
    refine yF _ ?_
    have tt:=M
    rw[<- W,Ly.tot_app,Ly.tot_app,Ly.tot_app,Ly.tot_app]at tt
    have z2:(#[[],[],[],eM u p.steps m j]:Ly).tot=(eM u p.steps m j).length:=Nat.zero_add _
    rw[z2]at tt
    have ty:Y.d.length<=Y.tot:=by unfold Ly.tot;omega
    show dC _ (dC _ _) E [some (.ref r),some (.ref X),some (.ref c),some (.ref na),some (.ref b),some (.int (m:Int)),some (.int k),some (.ref p'),some (.ref r9),some (.int (j:Int))] H0
    refine aj λF1 v=>#[_,Z,r,U,_,Z,L.ins,Z,_,Z,_,Z,_,Z,_,Z,r,U,kA,tA,fA,dA,X,c,u,f,is,p,a0,m,j,Y,Z,L,t5 _ _ h6,OG,zF h7 t5,O,a2,h8,c5,OG,OG,λH1 L0 b3=>v _ _ ?_]
    clear v
    have b0:=b1.trans b3
    have T:=hL.tm b0
    have N:=L.tm b3
    obtain⟨xv,a4⟩:∃xv,s2[j]?=some xv:=#[_,List.getElem?_eq_getElem OG]
    obtain⟨n4,c',w1,q,h0,u0,t1,t2,t3,t4,rfl,t6,t7,t8⟩:=qh O (h4.mono T) a4
    rw[ho]at t1
    cases t1
    refine aj λF1 v=>#[_,Z,r,U,_,Z,L0.ins,Z,_,Z,_,Z,lY,λt nt=>#[X,t,_,_,Z,Z,ao (T _ _ h6) nt,jc,by rw[List.length_map];show _+1<=_;omega,λr0 H2 e2 s6=>?_]]
    have S:ae H1 H2:=(je (o:=.tup [.int (j:Int)]) nt).trans s6
    have e2:H2 r0=some (.tup (u.map V.int++[.int (j:Int)])):=e2
    rw[vW]at e2
    have t9:=T.trans (ae.tm S)
    have c6:=u5 (s:=.nil) O D0 hb ho t2 w6.1
    refine(ju (t9 _ _ h1) h9 #[_,Z,e0,_,_,_,Z,Z,ay.of (t9 _ _ h3),jK a4,_,Z,_,Z,D,r,U,kA,tA,fA,dA,r0,q,h0,r9,p',h',u++[(j:Int)],G++[(k:Int)],n0,n1,a3,h5,u0,u',w0,w,_,Z,L0.same S,e2,ae.tm S _ _ (N _ _ e3),by rw[List.length_append];show _+1+_<=_;omega,by rw[List.length_append];show _+1+_<=_;omega,S _ _ t6,S _ _ t7,t8.mono (ae.tm S),t2,OG,OG,ae.tm S _ _ (N _ _ i0),ae.tm S _ _ (N _ _ (B _ _ i2)),(j0.mono N).mono (ae.tm S),w3.1,OG,OG,OG,λg is s a e=>?_,?_,λH3 L3 b6=>v _ _ ?_])
    ·obtain⟨s',a',ew⟩:=c6 g is s a e
     have ew:w0= .cl g is s' a':=ew
     have d0:Dt D f w0:=(YF D0 ho).2
     have d1:Dt D f w:=w6.2.1
     rw[e]at d1
     rw[ew]at d0
     exact#[s',a',ew,d1,d0]
    ·rw[Ly.tot_app,Ly.tot_app,Ly.tot_app,z2]
     have tt:Y.tot+(((eM u p.steps m j).length+((one (u++[(j:Int)]) (n0,a3,w0) (G++[(k:Int)]) n1 h5 w).tot+(eN w (u++[(j:Int)]) (iN w0) 0 (G++[(k:Int)]) 0).tot))+(eN r1 u p.steps (j+1) G (k+1)).tot)<=100000:=tt
     omega
    clear v
    have b':=(b0.trans (ci.of_same S)).trans b6
    have c0:=(L0.same S).tm b6
    have ej:(j:Int)+1=((j+1:Nat):Int):=by omega
    refine#[_,Z,_,_,Z,Z,fE _ _ #[some (.int k),some (.ref p'),some (.ref r9),some (.int (j:Int)),j+1,r1,_,?_,L3,?_,w3.2,d2,OG,w6.2.2,OG,?_,b']]
    ·rw[<- ej]
     rfl
    ·exact i4.mono (((ae.tm B).trans N).trans ((ae.tm S).trans c0))
    ·rw[Ly.app_assoc,Ly.app_assoc]
     rw[Ly.app_assoc]at W
     exact W
 ·obtain⟨o6,o7,o8,o9,m,R,Y,rfl,L4,w2,w3,w4,w5,w6,w7,W,b4⟩:=h
  have t0:=hL.tm b4
  rw[List.drop_length]at w2
  cases R with
  |st n hs w r=>obtain⟨_,_,_,_,z,_⟩:=w2;cases z
  |ask _ |rd _ _ |wr _ _ |cl _ _ _ _=>exact w3.elim
  |nil=>
   have W:Y.app #[[],[],[],eM u p.steps m p.steps.length]=_:=W
   have tt:=M
   rw[<- W,Ly.tot_app]at tt
   have z2:(#[[],[],[],eM u p.steps m p.steps.length]:Ly).tot=(eM u p.steps m p.steps.length).length:=Nat.zero_add _
   rw[z2]at tt
   have ty:Y.d.length<=Y.tot:=by unfold Ly.tot;omega
   refine#[_,Z,r,U,_,Z,L4.ins,Z,_,Z,_,Z,_,Z,ju (t0 _ _ h1) h9 #[e0,_,Z,.inr (ay.of (t0 _ _ h3)),r,U,kA,tA,fA,dA,X,c,u,f,is,p,a0,m,p.steps.length,Y,by rw[<- l0];rfl,L4,t0 _ _ h6,OG,zF h7 t0,O,a2,h8,w7,Nat.le_refl _,OG,λH5 L5 b5=>q H5 (W▸L5) (b4.trans b5)]]
theorem AV(p:bQ)(os:List bo)(m j:Nat):(eM p os m j).length<=(gR (os.drop m) p m).length:=by
 unfold eM
 rw[List.length_map]
 exact XZ _ _ _ _
theorem vp{os:List bo}{m j:Nat}{o:bo}(p:bQ)(h:m<=j)(H:os[j]?=some o)(O:o.2.2.ok false):(gR (os.drop m) p m).length=(eM p os m j).length+(o.2.2.size+1)+(gR (os.drop (j+1)) p (j+1)).length:=by
 have d:=(List.getElem?_eq_some_iff.mp H).1
 have e:os.drop m=(os.drop m).take (j - m)++(o::os.drop (j+1)):=by
  have z:=List.take_append_drop (j - m) (os.drop m)
  rw[List.drop_drop,show m+(j - m)=j by omega]at z
  obtain⟨a,E⟩:=List.getElem?_eq_some_iff.mp H
  rw[<- List.getElem_cons_drop (h:=a),E]at z
  exact z.symm
 have b:((os.drop m).take (j - m)).length=j - m:=by rw[List.length_take,List.length_drop];omega
 have z:(gR (os.drop m) p m).length=((gR ((os.drop m).take (j - m)) p m)++gR (o::os.drop (j+1)) p (m+(j - m))).length:=by
  conv=>lhs;rw[e]
  rw[qp,b]
 rw[z,List.length_append,show m+(j - m)=j by omega]
 have c:(gR (o::os.drop (j+1)) p j).length=(o.2.2.size+1)+(gR (os.drop (j+1)) p (j+1)).length:=by
  show(((_,_)::_)++_).length=_
  rw[List.length_append,List.length_cons,zM O]
 rw[c]
 unfold eM
 rw[List.length_map]
 omega
theorem QI:∀{s:Sk},s.ok true->∀{j:Nat} {o:bo},s.steps[j]?=some o->o.2.2.ok false
 | .st n H w r,h,0,o,e=>by cases e;exact h.1
 | .st n H w r,h,j+1,o,e=>QI h.2 (j:=j) (by have e:((n,H,w)::r.steps)[j+1]?=some o:=e;simpa using e)
 | .nil,_,j,o,e=>by have e:([]:List bo)[j]?=some o:=e;simp at e
theorem AO{w:Sk}(o:w.ok false)(p:bQ):(gR (iN w) p 0).length=w.size:=by
 cases w with
 |nil |st _ _ _ _=>exact o.elim
 |cl f i s a=>show(gR s.steps p 0).length=s.size;rw[<- Kf (show s.ok true from o),zM (show s.ok true from o)]
 |_=>rfl
theorem xp(p:bQ)(o:bo)(a:bQ)(n:Int)(h:List Int)(w:Sk):(one p o a n h w).tot<=2:=by
 unfold one
 split
 ·split
  ·exact Nat.le_succ 1
  ·exact Nat.le_succ 1
 ·exact Nat.le_refl 2
theorem qV:∀{b:Bool} {s:Sk},s.ok b->∀(p:bQ) (os:List bo) (m:Nat) (c:bQ) (k:Nat),(∀o∈os,o.2.2.ok false)->(eN s p os m c k).tot<=s.size+(gR (os.drop m) p m).length
 |true,.nil,_,p,os,m,c,k,_=>by
  have:=AV p os m os.length
  show 0+0+0+(eM p os m os.length).length<=0+_
  omega
 |true,.st n q w r,o,p,os,m,c,k,H=>by
  show _<=w.size+r.size+1+_
  cases h:ny os m n q w with
  |none=>
   rw[Kn h,Ly.tot_app]
   have t:(#[[],[],gw (c++[(k:Int)]) w,[]]:Ly).tot=w.size+1:=by show 0+0+(gw (c++[(k:Int)]) w).length+0=_;rw[Xv o.1];omega
   have u:=qV o.2 p os m c (k+1) H
   omega
  |some j=>
   obtain⟨g,x,l,_⟩:=JT h
   have O:=H x (List.mem_of_getElem? l)
   rw[Ko h l,Ly.tot_app,Ly.tot_app,Ly.tot_app]
   have t:(#[[],[],[],eM p os m j]:Ly).tot=(eM p os m j).length:=Nat.zero_add _
   have u:=xp (p++[(j:Int)]) x (c++[(k:Int)]) n q w
   have v:=qV o.1 (p++[(j:Int)]) (iN x.2.2) 0 (c++[(k:Int)]) 0 (λy d=>by
    cases e:x.2.2 with
    |cl f I s a=>
     rw[e]at d O
     obtain⟨i,z⟩:=List.getElem?_of_mem d
     exact QI (show s.ok true from O) z
    |_=>rw[e]at d;cases d)
   rw[List.drop_zero,AO O]at v
   have A:=qV o.2 p os (j+1) c (k+1) H
   have B:=vp p g l O
   omega
 |false,.cl _ _ s _,o,p,os,m,c,k,H=>qV (b:=true) (s:=s) o p os m c k H
 |false,.ask _,_,p,os,m,c,k,_=>Nat.zero_le _
 |false,.rd _ _,_,p,os,m,c,k,_=>Nat.zero_le _
 |false,.wr _ _,_,p,os,m,c,k,_=>Nat.zero_le _
structure Hs(H:Hp)(x:V)(kA tA fA dA:Addr)(y:Ly):Prop where
 tp:∃q,x= .ref q/\H q=some (.tup [.ref kA,.ref tA,.ref fA,.ref dA])
 kv:∃xs,H kA=some (.lst xs)/\b8 mj H y.k xs
 tv:∃xs,H tA=some (.lst xs)/\b8 mj H y.t xs
 fv:∃xs,H fA=some (.lst xs)/\b8 mn H y.f xs
 dv:∃xs,H dA=some (.lst xs)/\b8 mn H y.d xs
 ne:kA≠tA/\kA≠fA/\kA≠dA/\tA≠fA/\tA≠dA/\fA≠dA
inductive lP(k:List V)(H:Hp)(Q:VK)(a:XK):Prop
 |mk(D:DF)(c b:Addr)(f:Str)(g h:List Int)(i j:Sk)(d e:Int)(_:k=[.ref c,.ref b])(_:nD H f g i d (.ref c))(_:i.ok true)(_:i.dep<=15)(_:i.size<=1000)(_:nD H f h j e (.ref b))(_:j.ok true)(_:j.dep<=15)(_:j.size<=1000)(_:Dt D f i)(_:Dt D f j)(_:∀(x:V) (kA tA fA dA:Addr) (H':Hp),Hs H' x kA tA fA dA (eN j [] i.steps 0 [] 0)->H kA=none->H tA=none->H fA=none->H dA=none->ae H H'->Q x H')
theorem Bo{f:Addr}{F:FuncData}{k:Nat}{C:Addr}:af P w K mg base aA k f F z4z (mM C 0):=by
 have n:∀{v H Q E},¬mM C 0 v H Q E:=by
  rintro v H Q E ⟨D,r,d,e,t,g,i,O,q,j,N,p,l,m,u,x,B,b,c,U,G,W,I,y,_,_,_,_,_,_,_,_,_,_,_,_,_,_,_,_,z,_⟩
  omega
 exact#[λv H Q E h=>(n h).elim,λA o s H a J v Q E L M R S h=>(n h).elim]
theorem Eb{C e q v x r y:Addr}{f F g h b i:FuncData}(d:LK K C)(j:aI K "lay" "Laying.lay" xU e f)(s:ax K f z4z [])(c:a9 K C "lay" e)(t:aI K "lay_step" "Laying.lay_step" xT q F)(B:ax K F z4z [])(m:a9 K C "lay_step" q)(k:Cl P w K mg base 3 v g ["steps","mark","step"] mV "taken_from")(l:Cl P w K mg base 36 x h z7z (iY 17) "paths_at")(G:af P w K mg base aA 37 r b z19z (iA C))(o:ax K b z19z [])(M:a9 K C "drop" r)(u:Cl P w K mg base 1 y i ["what"] iB "found_in")(a:mg "enumerate"=none)(p:mg "len"=none):∀n,af P w K mg base aA (2*n+38) e f z4z (iX C n)
 |0=>sJ j d k l G o M Bo B m a p
 |n+1=>sJ j d k l G o M (BK t d u (Eb d j s c t B m k l G o M u a p n) s c) B m a p
theorem um:ai ["old","new","laying"] ["old","new"] (aa tP):=bp
theorem wQ{f:Addr}{fd:FuncData}{C fI fL:Addr}{g j:FuncData}(F:aI K "laid" "laid" tP f fd)(a:LK K C)(mk:Mk K C fI)(GI:af P w K mg base aA 1 fI g ["self"] (lN C))(bI:ax K g ["self"] [])(mC:mg "Laying"=some (.ref C))(GL:af P w K mg base aA 70 fL j z4z (iX C 16))(bL:ax K j z4z [])(M:a9 K C "lay" fL):af P w K mg base aA 71 f fd ["old","new"] lP:=by
 refine F.ok um ?_ λc0 A B s H vs Q E hr h=>?_
 ·rintro _ _ _ _ ⟨D,c,b,f,is,js,G,S,a0,a1,rfl,_⟩
  rfl
 obtain⟨D,c,b,f,is,js,G,S,a0,a1,rfl,I,O,J,R,T,k,U,V,D0,D1,q⟩:=h
 refine#[_,(jd (jz 2 um.nd (@sU _ _ _ _ _ _ _ _ _ _ _ _ _ _ mk GI hr.m Z mC bI .nil aY OF)) (jd (jJ (j6 (pv 2) a.cl M GL hr.m bL .nil aY (ja (ji jb) (ja (pv 0) (ja (ji jb) (ja (pv 1) jb)))))) (jg (jo (ji (ja (j5 (pv 2) Z) (ja (j5 (pv 2) Z) (ja (j5 (pv 2) Z) (ja (j5 (pv 2) Z) jb))))))))),?_]
 have b0:=aF
 refine aj λF1 l=>λr d nr N h0=>#[r,d,Z,jc,λW X Y dA v L1 p nk nt nf nd=>#[Z,l _ _ ?_]]
 clear l
 have up:∀b o,b≠r->b≠d->H b=some o->v b=some o:=λb o n1 n2 e=>p b o n1 (by rw[jh n1,jh n2];exact e)
 have s1:ae H v:=λb o e=>up b o (jk e nr) (jk e N) e
 have n:∀x,ah (ah H d (.own r)) r (.ins C d []) x=none->H x=none:=λx hx=>by
  cases z:H x with
  |none=>rfl
  |some o=>rw[jh (jk z nr),jh (jk z N),z]at hx;cases hx
 have t0:=qV k [] G.steps 0 [] 0 λo ho=>by
  obtain⟨i,hi⟩:=List.getElem?_of_mem ho
  exact QI O hi
 rw[List.drop_zero,<- Kf O,zM O]at t0
 refine aj λF1 l=>#[_,Z,r,d,_,Z,L1.ins,Z,iK,λpa n0=>#[_,Z,iK,λpb t=>#[_,Z,?_]]]
 have y:ae v (ah (ah v pa (.tup [])) pb (.tup [])):=(je n0).trans (je t)
 refine#[D,r,d,W,X,Y,dA,pa,c,pb,b,[],[],f,is,js,G,S,a0,a1,.nil,Z,L1.same y,ao jc t,jc,OF,OF,zF I (ae.tm (s1.trans y)),O,J,R,zF T (ae.tm (s1.trans y)),k,OG,U,V,D0,D1,by rw[Ly.nil_app];omega,λH3 L b3=>l _ _ ?_]
 clear l
 rw[Ly.nil_app]at L
 refine#[_,Z,r,C,d,_,_,Z,L.ins,a.cl,a.n1,Z,_,Z,r,C,d,_,_,Z,L.ins,a.cl,a.n2,Z,_,Z,r,C,d,_,_,Z,L.ins,a.cl,a.n3,Z,_,Z,r,C,d,_,_,Z,L.ins,a.cl,a.n4,Z,pU,λz nz=>?_]
 have s4:ae H3 (ah H3 z (.tup [.ref W,.ref X,.ref Y,.ref dA])):=je nz
 have u:=L.same s4
 refine q _ W X Y dA _ #[#[z,Z,jc],u.kv,u.tv,u.fv,u.dv,u.ne] (n _ nk) (n _ nt) (n _ nf) (n _ nd) λx o e=>?_
 exact s4 _ _ (b3 _ _ (jk e (n _ nk)) (jk e (n _ nt)) (jk e (n _ nf)) (jk e (n _ nd)) (y _ _ (s1 _ _ e)))
noncomputable abbrev nS:Stmt:=bu 73
noncomputable abbrev CF:Stmt:=bu 74
noncomputable abbrev nX:Stmt:=bu 82
theorem xI(a:a8)(k:bE)(v:V):(a5 a k v).length<=a.length+1:=zR
inductive hV(b:List V)(H:Hp)(Q:VK)(a:XK):Prop
 |mk(p:Addr)(_:b=[.ref p])(_:aq H p)(_:∀(l:Addr) (C:a8) (H':Hp),H l=none->H' l=some (.dK C)->GT C->C.length<=13->aq H' p->aB p H H'->Q (.ref l) H')
inductive CL(p l:Addr)(H:Hp)(i:Nat)(k:_L.St)(a:Hp):Prop
 |mk(h j:Option V)(C:a8)(b:k=[some (.ref p),some (.ref l),h,j])(c:a l=some (.dK C))(d:GT C)(e:C.length<=i)(f:aq a p)(g:aB p H a)
theorem Br:NX (.lst x):=λa z=>by cases z
theorem Bs:NX (.tup x):=λa z=>by cases z
theorem Kp.tm(k:Kp H h):al H h:=λb x e=>k b _ Bs e
theorem Kp.seq{K:Frag}(e:Kp H b)(h:aG K H a x):aG K b a x:=by
 rcases h with (h | ⟨o,h⟩) |h
 ·exact .inl (.inl (e _ _ Br h))
 ·exact .inl (.inr #[o,e _ _ (by intro c z;cases z) h])
 ·exact .inr h
theorem Cc{H:Hp}{D:List Df}{n:List Nat}(h:mf H D n){i:Nat}{d:Df}{p:List Str}(a:D[i]?=some d)(c:H d.pa=some (.tup (p.map V.str))):n[i]?=some p.length:=by
 have f:i < D.length:=(List.getElem?_eq_some_iff.mp a).1
 have b:n[i]?=some (n[i]'(by rw[<- h.1];exact f)):=HW _
 obtain⟨g,e,l,_⟩:=h.2 i d _ a b
 rw[c]at e
 injection e with e
 injection e with e
 have:=K' List.length e
 rw[HZ,HZ]at this
 rw[b,<- l,this]
theorem Ei:NX (.dK x):=λa z=>by cases z
def pZ(H:Hp)(X:List V):Prop:=∀x∈X,∃(q:Addr) (c i:Int),x= .ref q/\H q=some (.tup [.int c,.int i])/\gp i
theorem pZ.mono(k:al H a)(h:pZ H b):pZ a b:=λx d=>let #[q,c,i,e,f,g]:=h x d;#[q,c,i,e,k _ _ f,g]
inductive oY(b:List V)(H:Hp)(Q:VK)(a:XK):Prop
 |mk(p:Addr)(m:Int)(_:b=[.ref p,.int m])(_:aq H p)(_:0 < m)(_:m<=100)(_:∀(l:Addr) (xs:List V) (H':Hp),H l=none->H' l=some (.lst xs)->pZ H' xs->xs.length<=100->aq H' p->aB p H H'->Q (.ref l) H')
inductive G7(p l:Addr)(m:Int)(H:Hp)(i:Nat)(n:_L.St)(a:Hp):Prop
 |mk(h j:Option V)(k:List V)(b:n=[some (.ref p),some (.int m),some (.ref l),h,j])(c:a l=some (.lst k))(d:pZ a k)(e:k.length<=i)(f:aq a p)(g:aB p H a)
def Gn(r R:R2):R2:=λx y H Q=>r x y H Q∨R x y H Q
theorem B0{X:Cx}(b:eY X o c)(d:eY X o e):eY X o (Gn c e):=λp s a H x y v u Q I r R h=>h.elim (b p s a H x y v u Q I r R) (d p s a H x y v u Q I r R)
structure Dr(H:Hp)(nA pA ag cA:Addr)(i:Nat)(Cs:a8)(d:Df)(ds:List Df)(ns:List Nat)(xs:List V)(pds:List dU)(is:List Int):Prop where
 ps:Ps H nA pA ds ns xs pds
 xl:xs.length<=1000
 hd:ds[i]?=some d
 hn:ns[i]?=some is.length
 ag:H ag=some (.tup (is.map V.int))
 hi:∀z∈is,gp z
 il:is.length<=100
 ce:H cA=some (.dK Cs)
 gc:GT Cs
theorem Dr.kp(h:Dr H n a A c i C d D N x p I)(k:Kp H b):Dr b n a A c i C d D N x p I:=#[h.ps.mono k.tm,h.xl,h.hd,h.hn,k.tm _ _ h.ag,h.hi,h.il,k _ _ Ei h.ce,h.gc]
inductive lO(l:Addr)(o:List V)(H:Hp)(Q:VK)(b:XK):Prop
 |mk(n g h:Addr)(i:Nat)(f:a8)(d:Df)(j:List Df)(m:List Nat)(p:List V)(e:List dU)(k:List Int)(_:o=[.ref n,.str d.f,.ref g,.ref h])(_:Dr H l n g h i f d j m p e k)(_:∀(c:Addr) (sk:Sk) (a:Int) (L':a8) (H':Hp),cf e f 16 d.f k [] 0= .ok sk a L' sk.size->nD H' d.f k sk a (.ref c)->sk.ok true->sk.dep<=15->sk.size<=60->Kp H H'->Q (.ref c) H')(_:(∀sk a L' t',cf e f 16 d.f k [] 0≠ .ok sk a L' t')->∀H',Kp H H'->Q .non H')
inductive mN(K:Frag)(d:List V)(H:Hp)(Q:VK)(b:XK):Prop
 |mk(a:Addr)(c:List Int)(_:d=[.ref a])(_:aG K H a (c.map V.int))(_:c.length<=63)(_:∀H',Q (.bl true) H')
theorem fo:ai ["_law_box_here","_law_cells_here","_law_k","_law_cell"] z2z (aa nS):=bp
theorem sE(F:aI K "_law_cells" "_law_cells" nS f fd)(r:Cl P w K mg base 1 fT f0 z0z aU "_law_take")(cU:Cl P w K mg base 2 fU f2 z2z gM "_law_number")(mr:mg "range"=none):af P w K mg base aA 3 f fd z2z hV:=by
 refine F.ok fo ?_ λc0 A O s H vs Q E g h=>?_
 ·rintro _ _ _ _ ⟨p,rfl,_⟩
  rfl
 obtain⟨p,rfl,B,q⟩:=h
 refine#[_,(jd (jz 1 fo.nd Xd) (jd (jX IK Z (kW Z mr (ja (r.e g.m (ja (pv 0) (ja jf jb))) jb)) (jv (i:=2) fo.nd Z (Or.inl Z)) (jd (jz 3 fo.nd (r.e g.m (ja (pv 0) (ja jf jb)))) (jd (jx (za (r.e g.m (ja (pv 0) (ja jf jb)))) (jg (jz 3 fo.nd (jw kU (jw kU (jw Jg jf jf) jf) (r.e g.m (ja (pv 0) (ja jf jb)))))) jp) (jg (qQ (qd g) (pv 1) (pv 3) (cU.e g.m (ja (pv 0) jb)) Z))))) (jg (jo (pv 1))))),?_]
 have b0:=aF
 have t0:=pC
 refine aj λt a=>λl N=>a _ _ ?_
 clear a
 have S:ae H (ah H l (.dK [])):=je N
 have I:ah H l (.dK []) l=some (.dK []):=jc
 generalize ah H l (.dK [])=H1 at S I
 have L:l≠p:=B.ne N
 have B1:=B.same S
 refine aj λt a=>dq λJ j=>#[_,Z,p,14,Z,B1,OF,OF,λd H2 d0 d1 B2 M=>#[_,Z,OG,OG,j _ _ ?_]]
 clear j
 refine kB (lo:=0) (CL p l H) #[none,none,[],Z,by rw[M l L];exact I,_K.GT.nil,Ib _,B2,(aB.of_same S).trans (aB.of_eq M)] ?_ (λσ H' h=>a _ _ ?_)
 ·clear a
  intro E0 _ i σ H3 hi fE Gq o h
  obtain⟨o2,o3,C,rfl,x,G,lC,y,D⟩:=h
  refine o ?_
  clear o
  show dC (du _ _) _ E0 _ _
  refine aj λt a=>#[_,Z,p,14,Z,y,OF,OF,λc4 H4 d2 d3 B4 R=>a _ _ ?_]
  clear a
  refine aj λt a=>?_
  have c:∀(u:Int) (v:Hp),aq v p->(∀b,b≠p->v b=H3 b)->t [some (.ref p),some (.ref l),some (.int (0+(i:Int))),some (.int u)] v:=λu v BH T=>a _ _ (by
   refine#[_,Z,p,Z,BH,λm H7 m0 m1 B7 U=>?_]
   have h7:H7 l=some (.dK C):=by rw[U l L,T l L];exact x
   have pl:=xI C (.inl u) (.int m)
   exact#[_,Z,_,Z,l,_,Z,nE.k (k:=.inl u) h7 OG,fE _ _ #[_,_,_,Z,jc,G.put _ #[m0,m1],OG,B7.eq (jh (IM L)),(D.trans ((aB.of_eq T).trans (aB.of_eq U))).upd_own N]])
  refine nP λG1 yT yF=>#[_,Z,p,8,Z,B4,OF,OF,λd5 H5 d4 d7 W X=>#[Z,_,Z,?_]]
  by_cases Y:d5=0
  ·rw[Y,IB (Z:V.int 0=V.int 0)]
   refine yT _ #[_,_,Z,Z,#[OF,OF,OF],_,_,Z,Z,_,Z,p,4,Z,W,OF,OF,λd6 H6 d8 d' B6 e6=>#[_,_,Z,Z,c _ H6 B6 λb n=>(e6 b n).trans ((X b n).trans (R b n))]]
  ·rw[Im (λz=>Y (by injection z))]
   exact yF _ (c _ H5 W λb n=>(X b n).trans (R b n))
 ·obtain⟨o2,o3,C,rfl,x,G,lC,y,D⟩:=h
  exact#[_,Z,q l C H' N x G OG y D]
theorem mE:ai ["_law_box_here","_law_most","_law_found_here","_law_k","_law_cell"] ["_law_box_here","_law_most"] (aa CF):=bp
theorem BC(F:aI K "_law_changes" "_law_changes" CF f fd)(D:Cl P w K mg base 1 fT f0 z0z aU "_law_take")(cN:Cl P w K mg base 2 fN f2 z2z gM "_law_number")(mr:mg "range"=none):af P w K mg base aA 3 f fd ["_law_box_here","_law_most"] oY:=by
 refine F.ok mE ?_ λc0 A O s H vs Q E g h=>?_
 ·rintro _ _ _ _ ⟨p,m,rfl,_⟩
  rfl
 obtain⟨p,m,rfl,B,m0,m1,q⟩:=h
 refine#[_,(jd (jz 2 mE.nd (jG jb)) (jd (jX IK Z (kW Z mr (ja (jw jY jf (D.e g.m (ja (pv 0) (ja (pv 1) jb)))) jb)) (jv (i:=3) mE.nd Z (Or.inl Z)) (jd (jz 4 mE.nd (D.e g.m (ja (pv 0) (ja jf jb)))) (jd (jx (za (D.e g.m (ja (pv 0) (ja jf jb)))) (jg (jz 4 mE.nd (jw kU (jw kU (jw Jg jf jf) jf) (D.e g.m (ja (pv 0) (ja jf jb)))))) jp) (jg (jJ (j9 Ii Iy Ix jP (pv 2) (ja (ji (ja (pv 4) (ja (cN.e g.m (ja (pv 0) jb)) jb))) jb))))))) (jg (jo (pv 2))))),?_]
 have b0:=aF
 have t0:=pC
 refine aj λG a=>#[iK,λl I=>a _ _ ?_]
 clear a
 have R:ae H (ah H l (.lst [])):=je I
 have e1:ah H l (.lst []) l=some (.lst []):=jc
 generalize ah H l (.lst [])=H1 at R e1
 have L:l≠p:=B.ne I
 have B1:=B.same R
 refine aj λG a=>dq λJ j=>#[_,Z,_,Z,p,m,Z,B1,m0,OG,λd H2 d0 d1 B2 e2=>#[_,_,Z,Z,_,Z,OG,OG,j _ _ ?_]]
 clear j
 refine kB (lo:=0) (G7 p l m H) #[none,none,[],Z,by rw[e2 l L];exact e1,(λ_ h=>nomatch h),Ib _,B2,(aB.of_same R).trans (aB.of_eq e2)] ?_ (λσ H' h=>a _ _ ?_)
 ·clear a
  intro E0 _ i σ H3 hi fE Gq k h
  obtain⟨o3,o4,X,rfl,U,W,lV,M,Y⟩:=h
  refine k ?_
  clear k
  show dC (du _ _) _ E0 _ _
  refine aj λG a=>#[_,Z,p,15,Z,M,OF,OF,λc4 H4 d2 d3 B4 e4=>a _ _ ?_]
  clear a
  refine aj λG a=>?_
  have c:∀(C:Int) (r:Hp),aq r p->(∀b,b≠p->r b=H3 b)->G [some (.ref p),some (.int m),some (.ref l),some (.int (0+(i:Int))),some (.int C)] r:=λC r BH eH=>a _ _ (by
   have u:r l=some (.lst X):=by rw[eH l L];exact U
   refine#[_,Z,.inl #[Z,_,aG.of u],_,Z,_,Z,p,Z,BH,λn v n0 n1 B7 e7=>#[bM,λt nt=>?_]]
   have h7:v l=some (.lst X):=by rw[e7 l L];exact u
   have S:ae v (ah v t (.tup [.int C,.int n])):=je nt
   have t8:ah v t (.tup [.int C,.int n]) t=some (.tup [.int C,.int n]):=jc
   refine#[l,_,_,Z,Z,S _ _ h7,OG,fE _ _ ?_]
   generalize ah v t (.tup [.int C,.int n])=y at S t8
   have k8:aB p H3 y:=((aB.of_eq eH).trans (aB.of_eq e7)).trans (aB.of_same S)
   have l8:=S _ _ h7
   have kl:aB l y (ah y l (.lst (X++[.ref t]))):=λb o N e=>by rw[jh N];exact e
   have T:al y (ah y l (.lst (X++[.ref t]))):=λb ys e=>kl _ _ (jO e l8 (by intro z;cases z)) e
   refine#[_,_,X++[.ref t],Z,jc,?_,by rw[Ia];show X.length+1<=_;omega,(B7.same S).eq (jh (IM L)),(Y.trans k8).upd_own I]
   intro x hx
   rcases List.mem_append.mp hx with z |z
   ·exact((W.mono (k8.tm M)).mono T) x z
   ·rw[List.mem_singleton.mp z]
    exact#[t,C,n,Z,T _ _ t8,n0,n1])
  refine nP λG1 yT yF=>#[_,Z,p,8,Z,B4,OF,OF,λd5 H5 d4 d7 B5 e5=>#[Z,_,Z,?_]]
  by_cases h3:d5=0
  ·rw[h3,IB (Z:V.int 0=V.int 0)]
   refine yT _ #[_,_,Z,Z,#[OF,OF,OF],_,_,Z,Z,_,Z,p,4,Z,B5,OF,OF,λd6 H6 d8 d' B6 e6=>#[_,_,Z,Z,c _ H6 B6 λb N=>(e6 b N).trans ((e5 b N).trans (e4 b N))]]
  ·rw[Im (λz=>h3 (by injection z))]
   exact yF _ (c _ H5 B5 λb N=>(e5 b N).trans (e4 b N))
 ·obtain⟨o3,o4,X,rfl,U,W,lV,M,Y⟩:=h
  exact#[_,Z,q l X H' I U W OG M Y]
noncomputable abbrev nW:Stmt:=bu 77
noncomputable abbrev CD:Stmt:=bu 78
noncomputable abbrev CB:Stmt:=bu 79
structure Xb(K:Frag)(mg:Str->Option Value)(B TL TD:Addr):Prop where
 g:mg "BookError"=some (.ref B)
 h:clsIn K B≠none
 t:typeIn K (.ref B)=some (.type "type")
 m:mroIn K B (.type "BaseException")=some true
 L:mroIn K TL (.ref B)=some true
 D:mroIn K TD (.ref B)=some true
theorem GT.drop{C:a8}(h:GT C)(k:bE):GT (iS C k):=λp H=>h p (List.mem_filter.mp H).1
inductive oX(c:List V)(H:Hp)(Q:VK)(a:XK):Prop
 |mk(p b:Addr)(C:a8)(_:c=[.ref p,.ref b])(_:aq H p)(_:H b=some (.dK C))(_:GT C)(_:C.length<=100)(_:∀(l:Addr) (C':a8) (H':Hp),H l=none->H' l=some (.dK C')->GT C'->C'.length<=C.length+100->aq H' p->aB p H H'->Q (.ref l) H')
inductive GZ(p c l:Addr)(C:a8)(H:Hp)(i:Nat)(n:_L.St)(b:Hp):Prop
 |mk(k m:Option V)(a:a8)(d:n=[some (.ref p),some (.ref c),some (.ref l),k,m])(e:b l=some (.dK a))(f:GT a)(g:a.length<=C.length+i)(h:aq b p)(j:aS p l H b)
def nB(H:Hp)(p:List dU)(f:Str)(i:List Int)(s:Sk)(a:Int)(u:V):Prop:=nD H f i s a u/\s.ok true/\s.dep<=15/\s.size<=60/\∃(C L:a8),cf p C 16 f i [] 0= .ok s a L s.size
theorem nB.mono{H b:Hp}(k:al H b){p:List dU}{f:Str}{i:List Int}{s:Sk}{a:Int}{u:V}(h:nB H p f i s a u):nB b p f i s a u:=#[zF h.1 k,h.2]
def FD(H:Hp)(l:Addr):Prop:=H l=some (.lst [])∨∃(p:List dU) (f:Str) (i:List Int) (c C:Addr) (s S:Sk) (a A:Int),H l=some (.lst [.ref c,.ref C])/\nB H p f i s a (.ref c)/\nB H p f i S A (.ref C)
inductive oV(K:Frag)(d:List V)(H:Hp)(Q:VK)(b:XK):Prop
 |mk(a:Addr)(c:List Int)(_:d=[.ref a])(_:aG K H a (c.map V.int))(_:c.length<=63)(_:∀(l:Addr) (H':Hp),FD H' l->Kp H H'->Q (.ref l) H')
theorem gY:ai ["_law_parts","_law_f","_law_args","_law_cells_here","_law_book_here"] z34z (aa nW):=bp
theorem sK{f:Addr}{W:FuncData}{B Y TD nA r:Addr}{l:FuncData}(F:aI K "_law_book" "_law_book" nW f W)(GR:af P w K mg base (eX P w) 45 r l z26z (pq Y TD nA))(bR:ax K l z26z [])(kR:keepIn K (.ref r)=true)(mR:mg "run"=some (.ref r))(X:Xb K mg B Y TD)(M:mg "dict"=none):af P w K mg base aA 46 f W z34z (lO nA):=by
 refine F.ok gY ?_ λc0 A v s H vs Q E hr h=>?_
 ·rintro _ _ _ _ ⟨y,G,I,i,j,d,ds,ns,xs,p,is,rfl,_⟩
  rfl
 obtain⟨y,G,I,i,j,d,ds,ns,xs,p,is,rfl,c,q1,q2⟩:=h
 refine#[_,(jd (jz 4 gY.nd (@J4 _ _ _)) (jd (@xG _ _ _ _ _ _ _ _ _ _ _ Z Z (@xH _ _ _ _ (4) _ _ gY.nd Z (Or.inl Z) (@sW _ _ _ _ _ _ _ _ _ _ _ _ _ _ GR hr.m Z mR kR bR .nil (ja (pv 0) (ja (pv 1) (ja (pv 2) (ja (jE Qj Z M boot_dict (ja (pv 3) jb)) (ja jf jb))))) OF OK OK) OK (by first |exact .inl Z |exact .inr Z)) Z X.g X.h X.t X.m (λ_=>(jg (jz 4 gY.nd (@J4 _ _ _)))) OF) (jg (jo (pv 4))))),?_]
 refine aj λF1 k=>k _ _ ?_
 clear k
 refine aj λF1 k=>?_
 show Aw _ _ _ _ _ [some (.ref y),some (.str d.f),some (.ref G),some (.ref I),some .non] H
 refine#[_,Z,_,Z,_,Z,_,Z,I,j,Z,c.ce,λO not=>?_]
 have S:ae H (ah H O (.dK j)):=je not
 have e1:ah H O (.dK j) O=some (.dK j):=jc
 generalize ah H O (.dK j)=H1 at S e1 ⊢
 have c:=c.kp (Kp.of_same S)
 refine#[y,G,O,i,j,d,ds,ns,xs,p,is,Z,c.ps,c.hd,c.hn,c.ag,c.hi,e1,c.gc,λu sk a L' H2 q hc ok dp sz s2=>?_,λq=>?_,λq=>?_]
 ·obtain⟨c',z⟩:=id hc
  obtain⟨_,_,_,rfl,_⟩:=z
  exact k _ _ #[_,Z,q1 c' sk a L' H2 q hc ok dp sz (Kp.of_same (S.trans s2))]
 ·intro _ H7 J x C T R U hT V
  cases R
  refine#[X.L,λT' n=>k _ _ #[_,Z,q2 (λ_ _ _ _ z=>by rw[q]at z;cases z) _ ?_]]
  exactλb o N e=>JQ (H:=H) (J _ _ N (S _ _ e)) N U n
 ·intro _ H7 J x C T R U hT V
  cases R
  refine#[X.D,λT' n=>k _ _ #[_,Z,q2 (λ_ _ _ _ z=>by rw[q]at z;cases z) _ ?_]]
  exactλb o N e=>JQ (H:=H) (J _ _ N (S _ _ e)) N U n
theorem oM:ai ["_law_box_here","_law_cells_here","_law_other","_law_cell","_law_number_here"] ["_law_box_here","_law_cells_here"] (aa CD):=bp
theorem Bz{f:Addr}{fd:FuncData}{fG fT:Addr}{Y f0:FuncData}(F:aI K "_law_changed" "_law_changed" CD f fd)(cG:Cl P w K mg base 3 fG Y ["_law_box_here","_law_most"] oY "_law_changes")(cT:Cl P w K mg base 1 fT f0 z0z aU "_law_take")(m0:mg "dict"=none):af P w K mg base aA 4 f fd ["_law_box_here","_law_cells_here"] oX:=by
 refine F.ok oM ?_ λc0 A o0 s H vs Q E hr h=>?_
 ·rintro _ _ _ _ ⟨p,O,C,rfl,_⟩
  rfl
 obtain⟨p,O,C,rfl,B,hC,gC,h3,q⟩:=h
 refine#[_,(jd (jz 2 oM.nd (jE Qj Z m0 boot_dict (ja (pv 1) jb))) (jd (jX PassesOwn.never Z (zE (cG.e hr.m (ja (pv 0) (ja jf jb)))) (zn (n:=2) Z (jA (jv (i:=3) oM.nd Z (Or.inl Z)) (jA (jv (i:=4) oM.nd Z (Or.inl Z)) ki))) (jd (qQ (qd hr) (pv 2) (pv 3) (pv 4) Z) (jg (jx (za (cT.e hr.m (ja (pv 0) (ja jf jb)))) (jg (jJ (j9 PySem.F.plainAttrs_dict PySem.F.slot_dict_pop PySem.F.type_dict_pop wE (pv 2) (ja (pv 3) jb)))) jp)))) (jg (jo (pv 2))))),?_]
 have b0:=aF
 refine aj λF1 g=>#[_,Z,O,C,Z,hC,λl R=>g _ _ ?_]
 clear g
 have s1:ae H (ah H l (.dK C)):=je R
 have e1:ah H l (.dK C) l=some (.dK C):=jc
 generalize ah H l (.dK C)=H1 at s1 e1 ⊢
 have S:l≠p:=B.ne R
 have B1:=B.same s1
 refine aj λF1 g=>dq λJ j=>#[_,Z,p,4,Z,B1,OF,OF,λT x0 H2 N u pV lV B2 k2=>#[T,Z,#[_,aG.of u],j _ _ ?_]]
 clear j
 have l2:H2 l=some (.dK C):=k2 _ _ S e1
 have l0:T≠l:=(jk e1 N).symm
 have p0:T≠p:=B1.ne N
 refine qu (K:=K) (a:=T) (xs:=x0) (GZ p O l C H2) #[none,none,C,Z,l2,gC,Nat.le_refl _,B2,λ_ _ _ _ e=>e] (λk σ H' _ h=>?_) ?_ (λσ H' h=>g _ _ ?_)
 ·obtain⟨_,_,_,_,_,_,_,_,kk⟩:=h
  exact aG.of (kk _ _ p0 l0 u)
 ·clear g
  intro E rt k x σ r y fE Gq t h
  obtain⟨o3,o4,d,rfl,l3,g3,n3,B3,U⟩:=h
  refine t ?_
  clear t
  have h4:=(List.getElem?_eq_some_iff.mp y).1
  obtain⟨qq,c,I,rfl,D,h1⟩:=pV x (List.mem_of_getElem? y)
  obtain⟨_,_,_,_,_,h2⟩:=B2.ob
  have D:=U _ _ (jO D h2 (by intro z;cases z)) (jO D l2 (by intro z;cases z)) D
  refine#[qq,_,Z,ay.of D,Z,_,_,Z,_,_,Z,Z,?_]
  show dC _ _ E [some (.ref p),some (.ref O),some (.ref l),some (.int c),some (.int I)] r
  have pl:=zR (kvs:=d) (k:=.inl c) (v:=.int I)
  refine aj λF1 g=>#[_,Z,_,Z,_,Z,l,_,Z,nE.k (k:=.inl c) l3 OG,g _ _ ?_]
  clear g
  have kE:aB l r (ah r l (.dK (a5 d (.inl c) (.int I)))):=λb o W e=>by rw[jh W];exact e
  have eE:ah r l (.dK (a5 d (.inl c) (.int I))) l=some (.dK (a5 d (.inl c) (.int I))):=jc
  have B4:aq (ah r l (.dK (a5 d (.inl c) (.int I)))) p:=B3.eq (jh S.symm)
  generalize ah r l (.dK (a5 d (.inl c) (.int I)))=H4 at kE eE B4
  have g4:=g3.put (.inl c) h1
  refine nP λG1 yT yF=>#[_,Z,p,5,Z,B4,OF,OF,λd1 G d0 d2 L q1=>#[Z,_,Z,?_]]
  have l5:G l=some (.dK (a5 d (.inl c) (.int I))):=by rw[q1 l S];exact eE
  have k5:aS p l H2 G:=λb o X M e=>by rw[q1 b X];exact kE _ _ M (U _ _ X M e)
  by_cases h0:d1=0
  ·rw[h0,decide_eq_true (Z:V.int 0=V.int 0)]
   refine yT _ #[_,Z,.inr (.inr (.inl #[Z,.inl #[_,l5]])),_,Z,l,_,.inl c,.int I,Z,Z,l5,by rw[vf,if_pos Z],fE _ _ #[_,_,_,Z,jc,g4.drop _,?_,L.eq (jh S.symm),λb o X M e=>by rw[jh M];exact k5 _ _ X M e]]
   have:=Xc (a5 d (.inl c) (.int I)) (.inl c)
   omega
  ·rw[decide_eq_false (λz=>h0 (by injection z))]
   exact yF _ (fE _ _ #[_,_,_,Z,l5,g4,OG,L,k5])
 ·obtain⟨_,_,d,rfl,l3,g3,n3,B3,U⟩:=h
  exact#[_,Z,q l d H' R l3 g3 OG B3 λb o W e=>U _ _ W (jk e R) (k2 _ _ W (s1 _ _ e))]
theorem gL:ai ["_law_script","_law_program","_law_f","_law_args","_law_parts","_law_cells_here","_law_old","_law_new"] ["_law_script"] (aa CB):=bp
theorem Bw{f:Addr}{fd:FuncData}{nA fB fK fM fC fU fD:Addr}{f0 f2 f3 f4 f5 f6:FuncData}(F:aI K "_law_books" "_law_books" CB f fd)(cB:Cl P w K mg base 1 fB f0 ["_law_script","_law_k"] (oW K) "_law_box")(cK:Cl P w K mg base 23 fK f2 z2z lM "_law_case")(cM:Cl P w K mg base 65 fM f3 ["program"] (lS K nA) "made")(cC:Cl P w K mg base 3 fC f4 z2z hV "_law_cells")(cU:Cl P w K mg base 46 fU f5 z34z (lO nA) "_law_book")(cD:Cl P w K mg base 4 fD f6 ["_law_box_here","_law_cells_here"] oX "_law_changed"):af P w K mg base aA 66 f fd ["_law_script"] (oV K):=by
 refine F.ok gL ?_ λc2 A o0 s H vs Q E u h=>?_
 ·rintro _ _ _ _ ⟨a,ns,rfl,_⟩
  rfl
 obtain⟨a,ns,rfl,hS,a4,q⟩:=h
 refine#[_,(jd (zg (cK.e u.m (ja (cB.e u.m (ja (pv 0) (ja jf jb))) jb)) (zn (n:=3) Z (jA (jv (i:=1) gL.nd Z (Or.inl Z)) (jA (jv (i:=2) gL.nd Z (Or.inl Z)) (jA (jv (i:=3) gL.nd Z (Or.inl Z)) ki))))) (jd (jz 4 gL.nd (cM.e u.m (ja (pv 1) jb))) (jd (jz 5 gL.nd (cC.e u.m (ja (cB.e u.m (ja (pv 0) (ja jf jb))) jb))) (jd (jz 6 gL.nd (cU.e u.m (ja (pv 4) (ja (pv 2) (ja (pv 3) (ja (pv 5) jb)))))) (jd (jz 7 gL.nd (cU.e u.m (ja (pv 4) (ja (pv 2) (ja (pv 3) (ja (cD.e u.m (ja (cB.e u.m (ja (pv 0) (ja jf jb))) (ja (pv 5) jb))) jb)))))) (jd (jx (PW.pt (Q2 (J5 (@Qx _ _ _ _ _ (pv 6))) (J6 (J5 (@Qx _ _ _ _ _ (pv 7)))))) (jg (jo (jG jb))) jp) (jg (jo (jG (ja (pv 6) (ja (pv 7) jb))))))))))),?_]
 have b4:=aF
 refine aj λB g=>#[_,Z,a,ns,1,Z,hS,OF,OF,λp H1 np B1 e1=>#[p,Z,B1,λt r v2 v3 O R H3 ht u hD h1 h8 N hN U h3 B3 k3=>#[t,_,Z,ay.of ht,Z,_,_,Z,_,_,Z,_,_,Z,Z,g _ _ ?_]]]
 clear g
 have s1:ae H H1:=λb o e=>by rw[e1 b (jk e np)];exact e
 have s3:ae H H3:=λb o e=>k3 _ _ (jk e np) (s1 _ _ e)
 obtain⟨d,ps,I,J,hd,rfl,h4,rfl,h5,h6,D,h7⟩:=h3
 show dC (du _ _) _ _ [some (.ref a),some (.ref r),some (.str d.f),some (.ref I),none,none,none,none] H3
 refine aj λB g=>#[_,Z,r,O,R,Z,u,hD,OG,λd hd=>(hN.1 d hd).1,λv H4 hv s4=>g _ _ ?_]
 clear g
 obtain⟨W,X,rfl,h',a1⟩:=JR hv
 have S4:=s3.trans s4
 refine aj λB g=>#[_,Z,a,ns,2,Z,S4.seq hS,OF,OF,λp5 H5 Y B5 e5=>#[p5,Z,B5,λcA Cs H6 n1 a2 gC lC B6 k6=>g _ _ ?_]]
 clear g
 have s6:ae H4 H6:=λb o e=>k6 _ _ (jk e Y) (by rw[e5 b (jk e Y)];exact e)
 have S6:=S4.trans s6
 have T:=ae.tm (s4.trans s6)
 obtain⟨i0,hi,ei⟩:=List.mem_iff_getElem.mp hd
 have h0:O[i0]?=some d:=by rw[<- ei];exact List.getElem?_eq_getElem hi
 have h2:=Cc U h0 h4
 rw[<- h6]at h2
 obtain⟨k,hP⟩:=Ey (s6 _ _ h') (a1.mono (ae.tm s6)) #[R,hD.mono T] hN (U.mono T)
 have lx:=ze hP.tr
 rw[List.length_map]at lx
 have ak:Dr H6 nA W I cA i0 Cs d O N X k J:=#[hP,OG,h0,h2,T _ _ h5,h7,D,a2,gC]
 have kS:Kp H H6:=Kp.of_same S6
 refine aj λB g=>?_
 suffices go:∀(ch:V) (x:Hp),Kp H6 x->(ch= .non∨∃c S b,ch= .ref c/\nB x k d.f J S b (.ref c))->B [some (.ref a),some (.ref r),some (.str d.f),some (.ref I),some (.ref W),some (.ref cA),some ch,none] x by
  clear g
  exact#[_,Z,_,Z,_,Z,_,Z,W,I,cA,i0,Cs,d,O,N,X,k,J,Z,ak,λc S b L' x eq hc ok dp sz L=>go _ x L (.inr #[c,S,b,Z,hc,ok,dp,sz,Cs,L',eq]),λno x L=>go _ x L (.inl Z)]
 intro ch x L rv
 refine g _ _ ?_
 clear g
 have a0:=ak.kp L
 have k0:=kS.trans L
 refine aj λB g=>?_
 suffices go:∀(C:V) (y:Hp),Kp x y->(C= .non∨∃c S b,C= .ref c/\nB y k d.f J S b (.ref c))->B [some (.ref a),some (.ref r),some (.str d.f),some (.ref I),some (.ref W),some (.ref cA),some ch,some C] y by
  clear g
  refine#[_,Z,_,Z,_,Z,_,Z,a,ns,3,Z,k0.seq hS,OF,OF,λpB HA n0 BA eA=>#[_,Z,?_]]
  have sA:ae x HA:=λb o e=>by rw[eA b (jk e n0)];exact e
  refine#[pB,cA,Cs,Z,BA,sA _ _ a0.ce,gC,OG,λl C' HB n2 a3 gB lB BB k1=>?_]
  have sB:ae x HB:=λb o e=>k1 _ _ (jk e n0) (sA _ _ e)
  have j:=a0.kp (Kp.of_same sB)
  exact#[W,I,l,i0,C',d,O,N,X,k,J,Z,#[j.ps,j.xl,j.hd,j.hn,j.ag,j.hi,j.il,a3,gB],λc S b L' y eq hc ok dp sz M=>go _ y ((Kp.of_same sB).trans M) (.inr #[c,S,b,Z,hc,ok,dp,sz,C',L',eq]),λno y M=>go _ y ((Kp.of_same sB).trans M) (.inl Z)]
 intro C y M r0
 refine g _ _ ?_
 clear g
 have G:=k0.trans M
 refine aj λB g=>#[_,Z,_,Z,?_]
 rcases rv with rfl | ⟨c0,s0,b0,rfl,b2⟩
 ·exact cy (decide_eq_true Z) #[iK,λl N=>q l _ (.inl jc) (G.trans (Kp.of_same (je N)))]
 ·refine aV (decide_eq_false (by intro z;cases z)) #[_,Z,_,Z,?_]
  rcases r0 with rfl | ⟨c1,s2,b1,rfl,b3⟩
  ·exact cy (decide_eq_true Z) #[iK,λl N=>q l _ (.inl jc) (G.trans (Kp.of_same (je N)))]
  ·refine aV (decide_eq_false (by intro z;cases z)) (g _ _ #[_,Z,_,Z,bM,λl N=>?_])
   exact q l _ (.inr #[k,d.f,J,c0,c1,s0,s2,b0,b1,jc,(b2.mono M.tm).mono (ae.tm (je N)),b3.mono (ae.tm (je N))]) (G.trans (Kp.of_same (je N)))
theorem wt{call:nC}{C L f:a8}{p:dU}{m t g n:Nat}{H:List Int}{a:Int}{R:Sk}(h:nq call C p (m+1) (.go n H) L t= .ok R a f g):∃c w l T r,p.cs[n]?=some c/\gV call C (bh c.nm H) L t c.e= .ok w l T/\R= .st (n:Int) H w r/\nq call C p m (BW p c H w.wh) l T= .ok r a f g:=by
 unfold nq at h
 cases e:p.cs[n]? with
 |none=>rw[e]at h;cases h
 |some c=>
  rw[e]at h
  dsimp only at h
  cases E:gV call C (bh c.nm H) L t c.e with
  |long |deep=>rw[E]at h;cases h
  |ok w l T=>
   rw[E]at h
   dsimp only at h
   cases d:nq call C p m (BW p c H w.wh) l T with
   |long |deep=>rw[d]at h;cases h
   |ok r b _L i=>rw[d]at h;cases h;exact#[c,w,l,T,r,Z,E,Z,d]
noncomputable def Dn(p:List dU):DF:=λf n h=>match eI p f with
 |none=>.nil
 |some a=>match a.cs[n.toNat]? with
  |none=>.nil
  |some c=>DV (bh c.nm h) c.e
def FF(D:DF)(call:nC):Prop:=∀f i L t s a l T,call f i L t= .ok s a l T->Dt D f s
theorem DW{D:DF}{call:nC}{C k L i:a8}{t j:Nat}{e:DD}{w:Sk}(H:FF D call)(h:gV call C k L t e= .ok w i j)(g:Str):Dt D g w:=by
 have b:=yP h
 cases e with
 |ask d T=>rw[XX b]at h;cases h;trivial
 |st p l=>
  cases l with
  |gv d T |st x d T=>unfold gV at h;rw[if_pos b]at h;cases h
  |rd x d T=>rw[Z5 b]at h;cases h;trivial
  |wr d u T U=>rw[Z6 b]at h;cases h;trivial
  |cl x f q m=>
   rw[K8 b]at h
   cases e:call f (m.map λc=>c.2.ev k) L (t+1) with
   |long |deep=>rw[e]at h;cases h
   |ok s a _L n=>rw[e]at h;cases h;show Dt D f s;exact H _ _ _ _ _ _ _ _ e
theorem y7{p:List dU}{call:nC}{j:a8}{c:dU}{f:Str}(H:FF (Dn p) call)(d:eI p f=some c):∀(m:Nat) {g:Gd} {L l:a8} {t T:Nat} {R:Sk} {a:Int},nq call j c m g L t= .ok R a l T->Dt (Dn p) f R
 |0,_,_,_,_,_,_,_,h=>by cases h
 |m+1,.give b,_,_,_,_,_,_,h=>by cases h;trivial
 |m+1,.go n k,_,_,_,_,_,_,h=>by
  obtain⟨C,w,s,u,r,o,i,rfl,q⟩:=wt h
  refine#[?_,DW H i f,y7 H d m q]
  rw[AU i]
  show _=(match eI p f with |none=>Tr.nil |some c=>match c.cs[((n:Int)).toNat]? with |none=>Tr.nil |some C=>DV (bh C.nm k) C.e)
  rw[d]
  dsimp only
  rw[Int.toNat_natCast,o]
theorem tG{p:List dU}{C:a8}:∀j,FF (Dn p) (cf p C j)
 |0=>λf i L t s a l T h=>by cases h
 |j+1=>λf i L t s a l T h=>by
  have h:(match eI p f with |none=>OC.long |some b=>nq (cf p C j) C b 62 (i8 (vA b) (c7 b.way.sets (bh b.ps i)) b.way.goal) L t)= .ok s a l T:=h
  cases e:eI p f with
  |none=>rw[e]at h;cases h
  |some b=>rw[e]at h;exact y7 (tG j) e 62 h
theorem nB.dt{H:Hp}{p:List dU}{f:Str}{i:List Int}{s:Sk}{a:Int}{u:V}(h:nB H p f i s a u):Dt (Dn p) f s:=by
 obtain⟨_,_,_,_,C,L,e⟩:=h
 exact tG 16 _ _ _ _ _ _ _ _ e
noncomputable def pT:bo->bQ->Option bo
 |o,[]=>some o
 |o,k::p=>if 0<=k then (match (iN o.2.2)[k.toNat]? with |some O=>pT O p |none=>none) else none
theorem rL{o O:bo}{k:Nat}{p:bQ}(h:(iN o.2.2)[k]?=some O):pT o ((k:Int)::p)=pT O p:=by
 show(if 0<=(k:Int) then (match (iN o.2.2)[((k:Int)).toNat]? with |some O=>pT O p |none=>none) else none)=_
 rw[if_pos OG,Int.toNat_natCast,h]
theorem Zf{o z:bo}{k:Int}{p:bQ}(h:pT o (k::p)=some z):∃(j:Nat) (O:bo),k=(j:Int)/\(iN o.2.2)[j]?=some O/\pT O p=some z:=by
 have h:(if 0<=k then (match (iN o.2.2)[k.toNat]? with |some O=>pT O p |none=>none) else none)=some z:=h
 by_cases H:0<=k
 ·rw[if_pos H]at h
  cases e:(iN o.2.2)[k.toNat]? with
  |none=>rw[e]at h;cases h
  |some O=>rw[e]at h;exact#[k.toNat,O,OG,e,h]
 ·rw[if_neg H]at h
  cases h
theorem Xx{o z:bo}{j:Nat}(H:(iN o.2.2)[j]?=some z):∀{p:bQ} {O:bo},pT O p=some o->pT O (p++[(j:Int)])=some z
 | [],O,h=>by cases h;exact rL H
 |k::p,O,h=>by
  obtain⟨i,c,rfl,a,b⟩:=Zf h
  show pT O ((i:Int)::(p++[(j:Int)]))=some z
  rw[rL a]
  exact Xx H b
def Ds(S:List bo)(p:bQ)(o:bo):Prop:=∃(k:Nat) (a:bQ) (O:bo),p=(k:Int)::a/\S[k]?=some O/\pT O a=some o
def yE(S:List bo)(q:bQ)(os:List bo):Prop:=(q=[]/\os=S)∨∃o,Ds S q o/\os=iN o.2.2
theorem yE.at{S os:List bo}{q:bQ}{j:Nat}{o:bo}(h:yE S q os)(H:os[j]?=some o):Ds S (q++[(j:Int)]) o:=by
 rcases h with ⟨rfl,rfl⟩ | ⟨c,⟨k,p,O,rfl,a,b⟩,rfl⟩
 ·exact#[j,[],o,Z,H,Z]
 ·exact#[k,p++[(j:Int)],O,Z,a,Xx H b]
theorem yE.in{S os:List bo}{q:bQ}{j:Nat}{o:bo}(h:yE S q os)(H:os[j]?=some o):yE S (q++[(j:Int)]) (iN o.2.2):=.inr #[o,h.at H,Z]
noncomputable def HF:Bool->Sk->List bo
 |true,s=>s.steps
 |false,w=>iN w
def yM(S s:List bo)(k:Bool)(p:yL):Prop:=∃o O,Ds S p.1 o/\Ds s p.2 O/\o.1=O.1/\o.2.1=O.2.1/\dI o.2.2=dI O.2.2/\decide (o.2.2.fnd=O.2.2.fnd)=k/\o.2.2.ok false/\O.2.2.ok false
theorem wz{D:DF}{f:Str}{W w:Sk}(o:W.ok false)(O:w.ok false)(j:Dt D f W)(k:Dt D f w)(h:∀g i s a,w= .cl g i s a->∃S A,W= .cl g i S A):∃g d,d.ok true/\iN W=d.steps/\Dt D g d/\Dt D g w/\∀G i s a,w= .cl G i s a->g=G:=by
 cases W with
 |nil |st _ _ _ _=>exact o.elim
 |cl g i s a=>
  cases w with
  |nil |st _ _ _ _=>exact O.elim
  |cl G I S A=>
   obtain⟨_,_,e⟩:=h G I S A Z
   cases e
   exact#[g,s,o,Z,j,k,λ_ _ _ _ e=>by cases e;rfl]
  |_=>exact#[g,s,o,Z,j,trivial,λ_ _ _ _ e=>nomatch e]
 |ask b |rd b c |wr b c=>exact#[f,.nil,trivial,Z,trivial,k,λg i s a e=>let #[_,_,z]:=h g i s a e;nomatch z]
theorem Kg{D:DF}{S0 S1:List bo}:∀{b:Bool} {s:Sk},s.ok b->∀{f:Str} {S:Sk} {c d:bQ} {m k:Nat} {N:List bo},S.ok true->Dt D f S->Dt D f s->yE S0 c S.steps->yE S1 d N->HF b s=N.drop k->(∀g I t a,s= .cl g I t a->f=g/\k=0)->
  (∀p∈(eN s c S.steps m d k).k,yM S0 S1 true p)/\∀p∈(eN s c S.steps m d k).t,yM S0 S1 false p
 |true,.nil,_,f,S,c,d,m,k,N,_,_,_,_,_,_,_=>#[(λ_ h=>nomatch h),(λ_ h=>nomatch h)]
 |false,.ask _,_,f,S,c,d,m,k,N,_,_,_,_,_,_,_=>#[(λ_ h=>nomatch h),(λ_ h=>nomatch h)]
 |false,.rd _ _,_,f,S,c,d,m,k,N,_,_,_,_,_,_,_=>#[(λ_ h=>nomatch h),(λ_ h=>nomatch h)]
 |false,.wr _ _,_,f,S,c,d,m,k,N,_,_,_,_,_,_,_=>#[(λ_ h=>nomatch h),(λ_ h=>nomatch h)]
 |false,.cl g _ s _,o,f,S,c,d,m,k,N,O,y,q,C,u,e,z=>by
  obtain⟨z1,z2⟩:=z g _ s _ Z
  subst z1
  subst z2
  exact Kg (b:=true) (s:=s) o O y q C u e λg I t a e=>by
   rw[e]at o
   exact o.elim
 |true,.st n H w r,o,f,S,c,d,m,k,N,O,y,q,C,u,e,_=>by
  have e:(n,H,w)::r.steps=N.drop k:=e
  have E:N[k]?=some (n,H,w):=by
   have:=congrArg (λl=>l[0]?) e
   simpa using this.symm
  have U:r.steps=N.drop (k+1):=by
   have:=congrArg List.tail e
   rw[List.tail_drop]at this
   exact this
  have V:∀g I t a,r= .cl g I t a->f=g/\k+1=0:=λg I t a e=>by
   have z:=o.2
   rw[e]at z
   exact z.elim
  cases h:ny S.steps m n H w with
  |none=>
   rw[Kn h]
   exact Kg (b:=true) (s:=r) o.2 O y q.2.2 C u U V
  |some j=>
   obtain⟨h0,x,v,hc⟩:=JT h
   have i:=QI O v
   obtain⟨d1,d2⟩:=YF y v
   have kd:=u5 (s:=.nil) O y h v i q.1
   obtain⟨g,F,G,W,J,L,M⟩:=wz i o.1 d2 q.2.1 kd
   have cx:yE S0 (c++[(j:Int)]) F.steps:=W▸C.in v
   have X:=Kg (D:=D) (S0:=S0) (S1:=S1) (b:=false) (s:=w) o.1 (m:=0) (k:=0) G J L cx (u.in E) (show iN w=(iN w).drop 0 from Z) λg' I t a e=>#[M g' I t a e,Z]
   have A:=Kg (D:=D) (S0:=S0) (S1:=S1) (b:=true) (s:=r) o.2 (m:=j+1) O y q.2.2 C u U V
   rw[Ko h v,W]
   have Y:(∀p∈(one (c++[(j:Int)]) x (d++[(k:Int)]) n H w).k,yM S0 S1 true p)/\∀p∈(one (c++[(j:Int)]) x (d++[(k:Int)]) n H w).t,yM S0 S1 false p:=by
    unfold one
    by_cases Q:dX n H x=true
    ·rw[if_pos Q]
     obtain⟨R,T⟩:=Ad Q
     have dd:dI x.2.2=dI w:=by rw[d1,R,T,q.1]
     by_cases B:x.2.2.fnd=w.fnd
     ·rw[if_pos B]
      exact#[λp hp=>by cases List.mem_singleton.mp hp;exact#[x,(n,H,w),C.at v,u.at E,R,T,dd,decide_eq_true B,i,o.1],(λ_ h=>nomatch h)]
     ·rw[if_neg B]
      exact#[(λ_ h=>nomatch h),λp hp=>by cases List.mem_singleton.mp hp;exact#[x,(n,H,w),C.at v,u.at E,R,T,dd,decide_eq_false B,i,o.1]]
    ·rw[if_neg Q]
     exact#[(λ_ h=>nomatch h),(λ_ h=>nomatch h)]
   refine#[λp hp=>?_,λp hp=>?_]
   ·rcases List.mem_append.mp (show p∈([]++((one _ _ _ _ _ _).k++(eN _ _ _ _ _ _).k))++(eN _ _ _ _ _ _).k from hp) with hp |hp
    ·rcases List.mem_append.mp (show p∈(one _ _ _ _ _ _).k++(eN _ _ _ _ _ _).k from hp) with hp |hp
     ·exact Y.1 p hp
     ·exact X.1 p hp
    ·exact A.1 p hp
   ·rcases List.mem_append.mp (show p∈([]++((one _ _ _ _ _ _).t++(eN _ _ _ _ _ _).t))++(eN _ _ _ _ _ _).t from hp) with hp |hp
    ·rcases List.mem_append.mp (show p∈(one _ _ _ _ _ _).t++(eN _ _ _ _ _ _).t from hp) with hp |hp
     ·exact Y.2 p hp
     ·exact X.2 p hp
    ·exact A.2 p hp
noncomputable abbrev CM:Stmt:=bu 75
noncomputable abbrev CJ:Stmt:=bu 80
noncomputable abbrev CO:Stmt:=bu 81
noncomputable def Do:Sk->V->V
 | .cl _ _ _ a,_=>.int a
 |_,u=>u
inductive pf(b:List V)(H:Hp)(Q:VK)(a:XK):Prop
 |mk(p h:Addr)(n:Int)(u:V)(w:Sk)(_:b=[.ref p])(_:H p=some (.tup [.int n,.ref h,u]))(_:dH H w u [])(_:w.ok false)(_:Q (Do w u) H)
def p7(H:Hp)(x:V)(o:bo):Prop:=∃q h u,x= .ref q/\H q=some (.tup [.int o.1,.ref h,u])/\H h=some (.tup (o.2.1.map V.int))/\dH H o.2.2 u []
theorem p7.mono{H d:Hp}(k:al H d){x:V}{o:bo}(h:p7 H x o):p7 d x o:=let #[q,f,u,e,a,b,c]:=h;#[q,f,u,e,k _ _ a,k _ _ b,c.mono k]
inductive pe(g:List V)(H:Hp)(Q:VK)(b:XK):Prop
 |mk(c e:Addr)(f:Str)(d:List Int)(s:Sk)(a:Int)(p:bQ)(o:bo)(_:g=[.ref c,.ref e])(_:nD H f d s a (.ref c))(_:s.ok true)(_:H e=some (.tup (p.map V.int)))(_:Ds s.steps p o)(_:∀(x:V) (H':Hp),p7 H' x o->ae H H'->Q x H')
inductive GY(c k:Addr)(p:bQ)(o:bo)(H:Hp)(i:Nat)(l:_L.St)(a:Hp):Prop
 |mk(x:V)(h:Option V)(j:bo)(b:l=[some (.ref c),some (.ref k),some x,h])(d:p7 a x j)(e:j.2.2.ok false)(f:pT j (p.drop i)=some o)(g:ae H a)
theorem FY(x:V)(X:List V):aM (x::X) (some 1) none=X:=by
 have e:HT.sIx (x::X).length 0 (some 1)=1:=by
  unfold HT.sIx
  simp
 have E:HT.sIx (x::X).length (x::X).length none=(x::X).length:=rfl
 unfold aM
 rw[e,E]
 simp
inductive pj(m:List V)(H:Hp)(Q:VK)(d:XK):Prop
 |mk(c b:Addr)(f:Str)(h i:List Int)(k l:Sk)(e g:Int)(x:V)(a:Bool)(j:yL)(_:m=[.ref c,.ref b,x,.bl a])(_:nD H f h k e (.ref c))(_:k.ok true)(_:nD H f i l g (.ref b))(_:l.ok true)(_:mj H x j)(_:yM k.steps l.steps a j)(_:∀H',ae H H'->Q (.bl true) H')
theorem A0{w W:Sk}(o:w.ok false)(O:W.ok false)(e:dI w=dI W):(w.fnd=W.fnd->(∃f I s a S A,w= .cl f I s a/\W= .cl f I S A/\a=A)∨(w=W/\∀f I s a,w≠ .cl f I s a))/\(w.fnd≠W.fnd->(∃f I s a S A,w= .cl f I s a/\W= .cl f I S A/\a≠A)∨∃c i d,w= .rd c i/\W= .rd c d/\i≠d):=by
 cases w with
 |nil |st _ _ _ _=>exact o.elim
 |cl f I s a=>
  obtain⟨S,A,rfl⟩:=rC O e.symm
  exact#[λh=>.inl #[f,I,s,a,S,A,Z,Z,h],λh=>.inl #[f,I,s,a,S,A,Z,Z,h]]
 |ask b=>
  cases W with
  |nil |st _ _ _ _=>exact O.elim
  |ask B=>
   have e:Tr.tp (.cons (aJ "ask") (.cons (aw b) .nil))= .tp (.cons (aJ "ask") (.cons (aw B) .nil)):=e
   injection e with e
   injection e with _ e
   injection e with e _
   injection e with e
   injection e with e
   subst e
   exact#[λ_=>.inr #[Z,λ_ _ _ _ z=>nomatch z],λh=>absurd Z h]
  |rd _ _ |wr _ _ |cl _ _ _ _=>exact absurd (qU e) OF
 |rd b i=>
  cases W with
  |nil |st _ _ _ _=>exact O.elim
  |rd B d=>
   have e:Tr.tp (.cons (aJ "read") (.cons (aw b) .nil))= .tp (.cons (aJ "read") (.cons (aw B) .nil)):=e
   injection e with e
   injection e with _ e
   injection e with e _
   injection e with e
   injection e with e
   subst e
   exact#[λ(h:i=d)=>by subst h;exact .inr #[Z,λ_ _ _ _ z=>nomatch z],λh=>.inr #[b,i,d,Z,Z,h]]
  |ask _ |wr _ _ |cl _ _ _ _=>exact absurd (qU e) OF
 |wr b i=>
  cases W with
  |nil |st _ _ _ _=>exact O.elim
  |wr B d=>
   have e:Tr.tp (.cons (aJ "write") (.cons (aw b) (.cons (aw i) .nil)))= .tp (.cons (aJ "write") (.cons (aw B) (.cons (aw d) .nil))):=e
   injection e with e
   injection e with _ e
   injection e with E e
   injection e with g _
   injection E with E
   injection E with E
   injection g with g
   injection g with g
   subst E
   subst g
   exact#[λ_=>.inr #[Z,λ_ _ _ _ z=>nomatch z],λh=>absurd Z h]
  |ask _ |rd _ _ |cl _ _ _ _=>exact absurd (qU e) OF
theorem uI{w:Sk}(o:w.ok false)(h:∀f i s a,w≠ .cl f i s a):∃l,Dq w= .tp l/\l.dep < 10/\l.In:=by
 cases w with
 |nil |st _ _ _ _=>exact o.elim
 |cl f i s a=>exact absurd Z (h f i s a)
 |ask b=>exact#[_,Z,by show max 0 (max 0 0) < 10;decide,Z,Z,trivial]
 |rd b B |wr b B=>exact#[_,Z,by show max 0 (max 0 (max 0 0)) < 10;decide,Z,Z,Z,trivial]
theorem si{w:Sk}{u:V}(h:∀f i s a,w≠ .cl f i s a):Do w u=u:=by
 cases w with
 |cl f i s a=>exact absurd Z (h f i s a)
 |_=>rfl
theorem EL:ai ["_law_step"] ["_law_step"] (aa CM):=bp
theorem BJ{f:Addr}{i:FuncData}(F:aI K "_law_found" "_law_found" CM f i):af P w K mg base aA 1 f i ["_law_step"] pf:=by
 refine F.ok EL ?_ λC A o s H v Q E t h=>?_
 ·rintro _ _ _ _ ⟨p,h,n,u,w,rfl,_⟩
  rfl
 obtain⟨p,h,n,u,w,rfl,b,j,d,q⟩:=h
 refine#[_,(jd (jx (kh (jy (jr jN (pv 0) jf (λ_ _=>Z)))) (jg (jo (jy (jr jN (jr jN (pv 0) jf (λ_ _=>Z)) jf (λ_ _=>Z))))) jp) (jg (jo (jy (pv 0))))),?_]
 cases w with
 |nil |st _ _ _ _=>exact d.elim
 |ask _ |rd _ _ |wr _ _=>
  obtain⟨x,rfl,G⟩:=j
  refine aj λm l=>(ju b h9 #[x,_,_,_,Z,Z,ay.of G,eZ,Z,_,Z,aV OJ (l _ _ ?_)])
  exact(ju b h9 q)
 |cl f I s a=>
  obtain⟨x,c,g,e,S,rfl,G,r,_⟩:=j
  exact aj λm l=>(ju b h9 #[x,_,_,_,Z,Z,ay.of G,eZ,Z,_,Z,cy OJ (ju b h9 #[x,_,_,_,Z,Z,ay.of G,iR,c,_,_,_,Z,Z,ay.of r,Hu,q])])
theorem oN:ai ["_law_chain","_law_path","_law_step","_law_k"] ["_law_chain","_law_path"] (aa CJ):=bp
theorem BF{f:Addr}{fd:FuncData}(F:aI K "_law_at" "_law_at" CJ f fd):af P w K mg base aA 1 f fd ["_law_chain","_law_path"] pe:=by
 refine F.ok oN ?_ λc0 A C s H vs Q E hr h=>?_
 ·rintro _ _ _ _ ⟨c,D,f,is,s,a,p,o,rfl,_⟩
  rfl
 obtain⟨c,D,f,is,s,a,p,o,rfl,hc,n,r,G,q⟩:=h
 refine#[_,(jd (jz 2 oN.nd (jr jN (jy (pv 0)) (jy (pv 1)) (λ_ _=>Z))) (jd (jX PassesOwn.never Z (zJ (jH kc (pv 1) (jF jf) jR)) (jv (i:=3) oN.nd Z (Or.inl Z)) (jg (jz 2 oN.nd (jr jN (jy (jr jN (jr jN (pv 2) jf (λ_ _=>Z)) jf (λ_ _=>Z))) (pv 3) (λ_ _=>Z))))) (jg (jo (pv 2))))),?_]
 obtain⟨k,t,o1,rfl,hk,hf⟩:=G
 obtain⟨_,g,e,ss,ec,h1,h2,h3,h4⟩:=hc
 cases ec
 have l1:=zG n h4
 have h5:=(List.getElem?_eq_some_iff.mp hk).1
 obtain⟨X,u⟩:∃X,ss[k]?=some X:=#[_,List.getElem?_eq_getElem OG]
 obtain⟨n0,I,w0,q0,h0,u0,t1,t2,t3,t4,rfl,t6,t7,t8⟩:=qh n h4 u
 rw[hk]at t1
 cases t1
 refine aj λF1 v=>(ju h1 h9 (ju r eZ #[e,_,_,_,Z,Z,ay.of h3,jK u,v _ _ ?_]))
 clear v
 refine aj λF1 v=>dq λJ jj=>#[_,Z,_,Z,D,_,Z,r,λL H1 b B=>#[L,Z,#[_,ay.of b],jj _ _ ?_]]
 clear jj
 have b:H1 L=some (.tup (aM (V.int (k:Int)::t.map V.int) (some 1) none)):=b
 rw[FY]at b
 refine qj (K:=K) (a:=L) (xs:=t.map V.int) (GY c D t o H1) #[.ref q0,none,(n0,I,w0),Z,#[q0,h0,u0,Z,B _ _ t6,B _ _ t7,t8.mono (ae.tm B)],t2,hf,ae.refl _] (λi σ Hx _ h=>?_) ?_ (λσ Hx h=>v _ _ ?_)
 ·obtain⟨_,_,_,_,_,_,_,s7⟩:=h
  exact ay.of (s7 _ _ b)
 ·clear v
  intro E rt i x σ H2 hx fE Gq m h
  obtain⟨xc,o3,oi,rfl,⟨q2,h6,u2,rfl,j1,j2,j3⟩,O,d,M⟩:=h
  refine m ?_
  clear m
  rw[List.getElem?_map]at hx
  obtain⟨kk,N,rfl⟩:=Option.map_eq_some_iff.mp hx
  have hd:t.drop i=kk::t.drop (i+1):=by
   obtain⟨hi,ek⟩:=List.getElem?_eq_some_iff.mp N
   rw[<- ek,List.getElem_cons_drop]
  rw[hd]at d
  obtain⟨j,o',rfl,y,T⟩:=Zf d
  obtain⟨n2,h7,w2⟩:=oi
  cases w2 with
  |cl f2 i0 S a2=>
   obtain⟨x3,c3,g3,e3,U,rfl,k1,k2,k3,k4,k5⟩:=j3
   have y:S.steps[j]?=some o':=y
   have z:S.ok true:=O
   have l0:=zG z k5
   have h8:=(List.getElem?_eq_some_iff.mp y).1
   obtain⟨x0,l⟩:∃X,U[j]?=some X:=#[_,List.getElem?_eq_getElem OG]
   obtain⟨n4,W,w4,q4,Y,u4,R,r2,r3,r4,rfl,r6,r7,r8⟩:=qh z k5 l
   rw[y]at R
   cases R
   exact(ju j1 h9 #[x3,_,_,_,Z,Z,ay.of k1,iR,c3,_,_,_,Z,Z,ay.of k2,h9,_,Z,e3,_,_,_,Z,Z,ay.of k4,jK l,fE _ _ #[_,_,(n4,W,w4),Z,#[q4,Y,u4,Z,r6,r7,r8],r2,T,M]])
  |nil |st _ _ _ _=>exact O.elim
  |ask _ |rd _ _ |wr _ _=>exact absurd y (by simp [iN])
 ·obtain⟨xc,o3,oi,rfl,st,O,d,M⟩:=h
  rw[List.length_map,List.drop_length]at d
  cases d
  exact#[_,Z,q _ _ st (B.trans M)]
theorem uy:ai ["_law_old","_law_new","_law_pair","_law_kept","_law_one","_law_other"] z35z (aa CO):=bp
theorem BP{f:Addr}{fd:FuncData}{fA fF:Addr}{f0 f2:FuncData}(F:aI K "_law_pair_right" "_law_pair_right" CO f fd)(cA:Cl P w K mg base 1 fA f0 ["_law_chain","_law_path"] pe "_law_at")(cF:Cl P w K mg base 1 fF f2 ["_law_step"] pf "_law_found"):af P w K mg base aA 2 f fd z35z pj:=by
 refine F.ok uy ?_ λc0 A o2 s H vs Q E u h=>?_
 ·rintro _ _ _ _ ⟨c,b,f,is,js,s0,v,a0,R,x,k,pr,rfl,_⟩
  rfl
 obtain⟨c,b,f,is,js,s0,v,a0,R,x,k,pr,rfl,h2,o3,h3,o4,h4,hR,q⟩:=h
 refine#[_,(jd (jz 4 uy.nd (cA.e u.m (ja (pv 0) (ja (jy (pv 2)) jb)))) (jd (jz 5 uy.nd (cA.e u.m (ja (pv 1) (ja (jy (pv 2)) jb)))) (jd (jx (PW.pt (Q2 (jC (sS (d:=10) (mv u)) (jH kc (pv 4) jR (jF jf)) (jH kc (pv 5) jR (jF jf)) (aH _)) (J6 (jC YB (qO (B0 qw (XY (d:=10) (mv u))) (cF.e u.m (ja (pv 4) jb)) (cF.e u.m (ja (pv 5) jb)) (aH _)) (pv 3) (aH _))))) (jg (jo (@Q1 _ _ _ _))) jp) (jg (jo (Et (pv 3) (Cm (qO zc (jy (jr jN (pv 4) jf (λ_ _=>Z))) (ji (ja jm (ja jm jb))) Z)))))))),?_]
 obtain⟨z,pa,pb,rfl,hz,h5,h6⟩:=h4
 obtain⟨o0,o1,y,B,e1,e2,e3,e4,o,O⟩:=hR
 refine aj λF1 g=>#[_,Z,ju hz eZ #[c,pa,f,is,s0,a0,pr.1,o0,Z,h2,o3,h5,y,λx0 H1 s6 U=>g _ _ ?_]]
 clear g
 refine aj λF1 g=>#[_,Z,ju (U _ _ hz) iR #[b,pb,f,js,v,R,pr.2,o1,Z,zF h3 (ae.tm U),o4,U _ _ h6,B,λx1 H2 s7 s2=>g _ _ ?_]]
 clear g
 obtain⟨q0,h0,X,rfl,Y,i2,i3⟩:=s6.mono (ae.tm s2)
 obtain⟨q1,h1,u1,rfl,j1,j2,j3⟩:=s7
 obtain⟨N,a,W⟩:=o0
 obtain⟨n1,h7,j⟩:=o1
 have e1:N=n1:=e1
 have e2:a=h7:=e2
 subst e1
 subst e2
 have i3:dH H2 W X []:=i3
 have j3:dH H2 j u1 []:=j3
 have o:W.ok false:=o
 have O:j.ok false:=O
 have e3:dI W=dI j:=e3
 have n:decide (W.fnd=j.fnd)=k:=e4
 clear e4
 obtain⟨fy,fn⟩:=A0 o O e3
 refine aj λF1 g=>#[_,Z,_,Z,q0,_,Z,Y,λt1 H3 g1 s3=>#[_,Z,_,Z,q1,_,Z,s3 _ _ j1,λt2 C g2 s4=>#[_,_,QR N a,Jm N a,Jm N a,jD (s4 _ _ g1) (jl Z jU (jl Z (zT (s4 _ _ (s3 _ _ i2))) jB)),jD g2 (jl Z jU (jl Z (zT (s4 _ _ (s3 _ _ j2))) jB)),_,Z,?_]]]
 rw[zO Z]
 refine aV Z ?_
 have S:=s3.trans s4
 have T:=ae.tm S
 have i:=i3.mono T
 have J:=j3.mono T
 have p:∀H5,ae C H5->Q (.bl true) H5:=λH5 s5=>q H5 (((U.trans s2).trans S).trans s5)
 suffices go:(Gn Cu (xK 10)) (Do W X) (Do j u1) C (λx H=>x= .bl k/\H=C) by
  refine#[_,Z,q0,h0,N,X,W,Z,S _ _ Y,i,o,_,Z,q1,h1,N,u1,j,Z,S _ _ j1,J,O,?_]
  have k0:∀(G:V->Hp->Prop),G (.bl k) C->(Gn Cu (xK 10)) (Do W X) (Do j u1) C G:=λG hG=>by
   rcases go with ⟨R,a2,_⟩ | ⟨l,m,b1,b2,b3,b4,b5,b6,_⟩
   ·exact .inl #[R,by rw[a2];exact hG]
   ·exact .inr #[l,m,b1,b2,b3,b4,b5,by rw[b6];exact hG]
  refine k0 _ #[_,Z,by cases k<;>rfl,_,Z,aV (by rw[decide_eq_true Z];rfl) (g _ _ ?_)]
  clear g
  cases k with
  |true=>exact#[_,Z,true,Z,wA (p _ (ae.refl _))]
  |false=>
   rcases fn (of_decide_eq_false n) with ⟨f',I,s',a',D,r,rfl,rfl,_⟩ | ⟨c',i',L,rfl,rfl,_⟩
   ·obtain⟨x9,_,_,_,_,rfl,y1,_⟩:=i
    exact#[_,Z,false,Z,pM (ju (S _ _ Y) h9 #[x9,_,_,_,Z,Z,ay.of y1,eZ,bM,λt9 n9=>#[t9,_,Z,.inr (ay.of jc),Z,Z,p _ (je n9)]])]
   ·obtain⟨x9,rfl,y1⟩:=i
    exact#[_,Z,false,Z,pM (ju (S _ _ Y) h9 #[x9,_,_,_,Z,Z,ay.of y1,eZ,bM,λt9 n9=>#[t9,_,Z,.inr (ay.of jc),Z,Z,p _ (je n9)]])]
 by_cases hf:W.fnd=j.fnd
 ·rw[decide_eq_true hf]at n
  rcases fy hf with ⟨f',I,s',a',D,r,rfl,rfl,M⟩ | ⟨rfl,no⟩
  ·refine .inl #[Z,?_,Z]
   rw[<- n]
   exact congrArg V.bl (decide_eq_true (by show V.int a'=V.int r;rw[M]))
  ·obtain⟨l,el,dl,il⟩:=uI o no
   rw[si no,si no]
   have t0:=J3 o i (λ_=>Z) (λz=>nomatch z)
   have t:=J3 o J (λ_=>Z) (λz=>nomatch z)
   rw[el]at t0 t
   refine .inr #[l,l,dl,il,il,t0,t,?_,Z]
   rw[zO Z,<- n]
 ·rw[decide_eq_false hf]at n
  rcases fn hf with ⟨f',I,s',a',D,r,rfl,rfl,M⟩ | ⟨c',i',L,rfl,rfl,M⟩
  ·refine .inl #[Z,?_,Z]
   rw[<- n]
   exact congrArg V.bl (decide_eq_false λz=>M (by injection z))
  ·have t0:=J3 o i (λ_=>Z) (λz=>nomatch z)
   have t:=J3 O J (λ_=>Z) (λz=>nomatch z)
   refine .inr #[aC [aJ "read",aw c',aw i'],aC [aJ "read",aw c',aw L],by show max 0 (max 0 (max 0 0)) < 10;decide,#[Z,Z,Z,trivial],#[Z,Z,Z,trivial],t0,t,?_,Z]
   rw[zh,<- n]
   intro z
   injection z with z
   injection z with _ z
   injection z with _ z
   injection z with z _
   injection z with z
   injection z with z
   exact M z
theorem Bg{H:Hp}{p:List dU}{f:Str}{i:List Int}{s S:Sk}{A h:Int}{u U:V}(d:nB H p f i s A u)(B:nB H p f i S h U):(∀c∈(eN S [] s.steps 0 [] 0).k,yM s.steps S.steps true c)/\∀c∈(eN S [] s.steps 0 [] 0).t,yM s.steps S.steps false c:=
 Kg (D:=Dn p) (b:=true) B.2.1 d.2.1 d.dt B.dt (.inl #[Z,Z]) (.inl #[Z,Z]) Z λg i t a e=>by
  have z:=B.2.1
  rw[e]at z
  exact z.elim
theorem ik:ai ["_law_script","_law_books_here","_law_old","_law_new","_law_told","_law_kept","_law_pair"] ["_law_script"] (aa nX):=bp
theorem BG{f:Addr}{fd:FuncData}{fB fL fP:Addr}{f0 f2 f3:FuncData}(F:aI K "law" "law" nX f fd)(cB:Cl P w K mg base 66 fB f0 ["_law_script"] (oV K) "_law_books")(cL:Cl P w K mg base 71 fL f2 ["old","new"] lP "laid")(cP:Cl P w K mg base 2 fP f3 z35z pj "_law_pair_right")(ml:mg "len"=none)(m1:mg "tuple"=none)(mi:mg "int"=none):af P w K mg base aA 72 f fd ["_law_script"] (mN K):=by
 refine F.ok ik ?_ λc2 A o0 s H vs Q E hr h=>?_
 ·rintro _ _ _ _ ⟨a,ns,rfl,_⟩
  rfl
 obtain⟨a,ns,rfl,hS,h0,q⟩:=h
 refine#[_,(jd (jz 1 ik.nd (cB.e hr.m (ja (pv 0) jb))) (jd (jX PassesOwn.never Z (zE (jH kG (jG (ja (jE jI Z m1 boot_tuple (ja (pv 1) jb)) (ja (jE jI Z m1 boot_tuple (ja (@ZH _ _ _ _ _ _ _ _ _ _ _ (pv 1) jR jR (YA Qz jf) (by intro _ _;rfl)) jb)) jb))) jR (jF (jS jL Z ml PySem.boot_len (ja (pv 1) jb))))) (zn (n:=2) Z (jA (jv (i:=2) ik.nd Z (Or.inl Z)) (jA (jv (i:=3) ik.nd Z (Or.inl Z)) ki))) (jd (jz 4 ik.nd (cL.e hr.m (ja (pv 2) (ja (pv 3) jb)))) (jg (jX PassesOwn.never Z (zJ (ji (ja (@Q1 _ _ _ _) (ja (@Q1 _ _ _ _) jb)))) (jv (i:=5) ik.nd Z (Or.inl Z)) (jg (jX PassesOwn.never Z (zE (jr jN (pv 4) (jE qr Z mi boot_int (ja (Ck (pv 5)) jb)) (λ_ _=>Z))) (jv (i:=6) ik.nd Z (Or.inl Z)) (jg (jx (Cq (Cr (cP.e hr.m (ja (pv 2) (ja (pv 3) (ja (pv 6) (ja (pv 5) jb))))))) (jg (jo (@Q1 _ _ _ _))) jp)))))))) (jg (jo (@Q1 _ _ _ _))))),?_]
 have b4:=aF
 refine aj λF1 M=>#[_,Z,a,ns,Z,hS,h0,λl N bk k1=>M _ _ ?_]
 clear M
 refine aj λF1 M=>dq λJ R=>?_
 obtain⟨y,hl,hy⟩:∃y,N l=some (.lst y)/\(y=[]∨∃(p:List dU) (f:Str) (I:List Int) (C d:Addr) (X Y:Sk) (u v:Int),y=[.ref C,.ref d]/\nB N p f I X u (.ref C)/\nB N p f I Y v (.ref d)):=by
  rcases bk with h | ⟨p,f,I,C,d,X,Y,u,v,h,B,o⟩
  ·exact#[_,h,.inl Z]
  ·exact#[_,h,.inr #[p,f,I,C,d,X,Y,u,v,Z,B,o]]
 have h7:y.length<=2:=by rcases hy with rfl | ⟨_,_,_,_,_,_,_,_,_,rfl,_⟩<;>exact Nat.le_of_ble_eq_true Z
 refine#[_,Z,l,y,Z,.inl #[aG.of hl,λT n0=>?_]]
 have X:ae N (ah N T (.tup y)):=je n0
 have g0:ah N T (.tup y) T=some (.tup y):=jc
 generalize ah N T (.tup y)=H2 at X g0 ⊢
 refine#[_,Z,_,Z,l,y,true,Z,Z,Z,Z,aG.of (X _ _ hl),λr0 m0=>?_]
 have Y:ae H2 (ah H2 r0 (.lst (if true=true then y.reverse else y))):=je m0
 have g1:ah H2 r0 (.lst (if true=true then y.reverse else y)) r0=some (.lst y.reverse):=jc
 refine#[r0,y.reverse,Z,.inl #[aG.of g1,λg n1=>?_]]
 generalize ah H2 r0 (.lst (if true=true then y.reverse else y))=H3 at Y g1 n1 ⊢
 have s2:ae H3 (ah H3 g (.tup y.reverse)):=je n1
 have g2:ah H3 g (.tup y.reverse) g=some (.tup y.reverse):=jc
 generalize ah H3 g (.tup y.reverse)=H4 at s2 g2 ⊢
 refine#[bM,λll n2=>?_]
 have s3:ae H4 (ah H4 ll (.lst [.ref T,.ref g])):=je n2
 have g3:ah H4 ll (.lst [.ref T,.ref g]) ll=some (.lst [.ref T,.ref g]):=jc
 generalize ah H4 ll (.lst [.ref T,.ref g])=H5 at s3 g3 ⊢
 have S5:ae N H5:=((X.trans Y).trans s2).trans s3
 refine#[_,Z,l,y,Z,.inl (aG.of (S5 _ _ hl)),_,Z,ll,_,Z,aG.of g3,λsl n3=>#[sl,Z,#[_,aG.of jc],R _ _ ?_]]
 clear R
 have s6:ae H5 (ah H5 sl (.lst (aM [.ref T,.ref g] none (some (y.length:Int))))):=je n3
 have g6:ah H5 sl (.lst (aM [.ref T,.ref g] none (some (y.length:Int)))) sl=some (.lst (aM [.ref T,.ref g] none (some (y.length:Int)))):=jc
 generalize ah H5 sl (.lst (aM [.ref T,.ref g] none (some (y.length:Int))))=H6 at s6 g6 ⊢
 have S6:=S5.trans s6
 have g0:=s6 _ _ (s3 _ _ (s2 _ _ (Y _ _ g0)))
 have g2:=s6 _ _ (s3 _ _ g2)
 refine qu (K:=K) (a:=sl) (xs:=aM [.ref T,.ref g] none (some (y.length:Int))) (λ_ j z=>(∃o2 o3 o4 o5 O,j=[some (.ref a),some (.ref l),o2,o3,o4,o5,O])/\ae H6 z) #[#[_,_,_,_,_,Z],ae.refl _] (λk j z _ h=>aG.of (h.2 _ _ g6)) ?_ (λj z h=>M _ _ (q _))
 clear M
 intro E rt k x j H7 c fE Gq r h
 obtain⟨⟨o2,o3,o4,o5,O,rfl⟩,s7⟩:=h
 refine r ?_
 clear r
 have G:∃(p:List dU) (f:Str) (I:List Int) (C d t:Addr) (U W:Sk) (u v:Int),x= .ref t/\H7 t=some (.tup [.ref C,.ref d])/\nB H7 p f I U u (.ref C)/\nB H7 p f I W v (.ref d):=by
  have tm:=ae.tm (S6.trans s7)
  rcases hy with rfl | ⟨p,f,I,C,d,U,W,u,v,rfl,B,o⟩
  ·exact absurd c (by show([]:List V)[k]?≠_;simp)
  ·have c:[V.ref T,V.ref g][k]?=some x:=c
   match k,c with
   |0,c=>cases c;exact#[p,f,I,C,d,T,U,W,u,v,Z,s7 _ _ g0,B.mono tm,o.mono tm]
   |1,c=>cases c;exact#[p,f,I,d,C,g,W,U,v,u,Z,s7 _ _ g2,o.mono tm,B.mono tm]
   |k+2,c=>exact absurd c OH
 obtain⟨p,f,I,C,d,t,U,W,u,v,rfl,ht,B,o⟩:=G
 refine#[t,_,Z,ay.of ht,Z,_,_,Z,_,_,Z,Z,?_]
 show dC (du _ _) _ E [some (.ref a),some (.ref l),some (.ref C),some (.ref d),o4,o5,O] H7
 obtain⟨pk,pt⟩:=Bg B o
 have z2:=B.2.2.2.1
 have z3:=o.2.2.2.1
 refine aj λF1 M=>#[_,Z,_,Z,Dn p,C,d,f,I,I,U,W,u,v,Z,B.1,B.2.1,B.2.2.1,OG,o.1,o.2.1,o.2.2.1,OG,B.dt,o.dt,λxl kA tA fA dA H8 ld _ _ _ _ s8=>M _ _ ?_]
 clear M
 obtain⟨zt,rfl,h2⟩:=ld.tp
 obtain⟨xk,hk,lk⟩:=ld.kv
 obtain⟨xt,h3,lt⟩:=ld.tv
 have b2:=B.mono (ae.tm s8)
 have b3:=o.mono (ae.tm s8)
 refine dq λJ R=>#[bM,λtp n4=>#[tp,Z,#[_,ay.of jc],R _ _ ?_]]
 clear R
 have s9:ae H8 (ah H8 tp (.tup [.bl true,.bl false])):=je n4
 have g9:ah H8 tp (.tup [.bl true,.bl false]) tp=some (.tup [.bl true,.bl false]):=jc
 generalize ah H8 tp (.tup [.bl true,.bl false])=H9 at s9 g9 ⊢
 refine qj (K:=K) (a:=tp) (xs:=[.bl true,.bl false]) (λ_ j z=>(∃o5 O,j=[some (.ref a),some (.ref l),some (.ref C),some (.ref d),some (.ref zt),o5,O])/\ae H9 z) #[#[_,_,Z],ae.refl _] (λi j z _ h=>ay.of (h.2 _ _ g9)) ?_ (λj z h=>?_)
 ·intro E2 r1 i x j H0 G f4 Gq r h
  obtain⟨⟨o5,O,rfl⟩,S⟩:=h
  refine r ?_
  clear r
  have hb:∃(b:Bool) (yA:Addr) (yv:List V) (ps:List yL),x= .bl b/\dD [V.ref kA,.ref tA,.ref fA,.ref dA] (if !b then 1 else 0)=some (.ref yA)/\H8 yA=some (.lst yv)/\b8 mj H8 ps yv/\∀pr∈ps,yM U.steps W.steps b pr:=by
   match i,G with
   |0,G=>cases G;exact#[true,kA,xk,_,Z,Z,hk,lk,pk]
   |1,G=>cases G;exact#[false,tA,xt,_,Z,Z,h3,lt,pt]
   |i+2,G=>exact absurd G OH
  obtain⟨b,yA,yv,ps,rfl,h4,h1,ly,pR⟩:=hb
  have L:=s9.trans S
  show yq _ _ _ E2 [some (.ref a),some (.ref l),some (.ref C),some (.ref d),some (.ref zt),some (.bl b),O] H0
  refine dq λJ R=>#[_,Z,_,Z,b,Z,.inr #[_,Eq.refl _,zt,_,_,_,Z,Z,ay.of (L _ _ h2),h4,yA,Z,#[_,aG.of (L _ _ h1)],R _ _ ?_]]
  clear R
  refine qu (K:=K) (a:=yA) (xs:=yv) (λ_ j z=>(∃O,j=[some (.ref a),some (.ref l),some (.ref C),some (.ref d),some (.ref zt),some (.bl b),O])/\ae H0 z) #[#[_,Z],ae.refl _] (λk j z _ h=>aG.of (h.2 _ _ (L _ _ h1))) ?_ (λj z h=>f4 _ _ #[?_,S.trans h.2])
  ·intro E3 r2 k3 x3 j a2 h5 f5 Gq r h
   obtain⟨⟨O,rfl⟩,s4⟩:=h
   refine r ?_
   clear r
   obtain⟨pr,h6,rp⟩:=ly.at h5
   have S0:=L.trans s4
   have D:=ae.tm S0
   show gF _ _ _ E3 [some (.ref a),some (.ref l),some (.ref C),some (.ref d),some (.ref zt),some (.bl b),some x3] a2
   refine nP λG1 yT yF=>#[_,Z,_,Z,_,Z,_,Z,C,d,f,I,I,U,W,u,v,x3,b,pr,Z,zF b2.1 D,b2.2.1,zF b3.1 D,b3.2.1,dZ _ _ _ _ D rp,pR pr (List.mem_of_getElem? h6),λa3 s5=>#[_,Z,yF _ (f5 _ _ #[#[_,Z],s4.trans s5])]]
  ·obtain⟨⟨O,rfl⟩,_⟩:=h
   exact#[_,_,Z]
 ·obtain⟨⟨o5,O,rfl⟩,S⟩:=h
  exact fE _ _ #[#[_,_,_,_,_,Z],s7.trans ((s8.trans s9).trans S)]
@[elab_as_elim] theorem HP{P:List Value->Prop}(u:List Value)(h:u.length=1)(q:∀a,P [a]):P u:=by
 cases u with
 |nil=>cases h
 |cons a r=>
  cases r with
  |nil=>exact q a
  |cons _ _=>cases h
theorem _root_._L.aI.b1{K:Frag}{x q:Str}{st:Stmt}{f:Addr}{g:FuncData}{p:List Str}(F:aI K x q st f g)(h:∀(kV d b:Value) (A:Option Addr) (c C a:Value),bindArgs (fnOf x q (bJ st) (bf st) (aa st) .none kV d b A c C) #[[a],[]]=pure (p.zip [a]):=by intros;rfl)(e:p.length=1:=by rfl):ax K g p []:=F.binds λkV d b A c C u H=>HP u (H.trans e) λa=>h kV d b A c C a
@[elab_as_elim] theorem HQ{P:List Value->Prop}(u:List Value)(h:u.length=2)(q:∀a b,P [a,b]):P u:=by
 cases u with
 |nil=>cases h
 |cons a r=>
  cases r with
  |nil=>cases h
  |cons b R=>
   cases R with
   |nil=>exact q a b
   |cons _ _=>cases h
theorem _root_._L.aI.b2{K:Frag}{x q:Str}{st:Stmt}{f:Addr}{i:FuncData}{p:List Str}(F:aI K x q st f i)(h:∀(kV d g:Value) (A:Option Addr) (c C a b:Value),bindArgs (fnOf x q (bJ st) (bf st) (aa st) .none kV d g A c C) #[[a,b],[]]=pure (p.zip [a,b]):=by intros;rfl)(e:p.length=2:=by rfl):ax K i p []:=F.binds λkV d g A c C u H=>HQ u (H.trans e) λa b=>h kV d g A c C a b
@[elab_as_elim] theorem HR{P:List Value->Prop}(u:List Value)(h:u.length=3)(q:∀a b c,P [a,b,c]):P u:=by
 cases u with
 |nil=>cases h
 |cons a r=>
  cases r with
  |nil=>cases h
  |cons b R=>
   cases R with
   |nil=>cases h
   |cons c d=>
    cases d with
    |nil=>exact q a b c
    |cons _ _=>cases h
theorem _root_._L.aI.b3{K:Frag}{x q:Str}{st:Stmt}{f:Addr}{j:FuncData}{p:List Str}(F:aI K x q st f j)(h:∀(kV d g:Value) (A:Option Addr) (C i a b c:Value),bindArgs (fnOf x q (bJ st) (bf st) (aa st) .none kV d g A C i) #[[a,b,c],[]]=pure (p.zip [a,b,c]):=by intros;rfl)(e:p.length=3:=by rfl):ax K j p []:=F.binds λkV d g A C i u H=>HR u (H.trans e) λa b c=>h kV d g A C i a b c
@[elab_as_elim] theorem HS{P:List Value->Prop}(u:List Value)(h:u.length=4)(q:∀a b c d,P [a,b,c,d]):P u:=by
 cases u with
 |nil=>cases h
 |cons a r=>
  cases r with
  |nil=>cases h
  |cons b R=>
   cases R with
   |nil=>cases h
   |cons c e=>
    cases e with
    |nil=>cases h
    |cons d f=>
     cases f with
     |nil=>exact q a b c d
     |cons _ _=>cases h
theorem _root_._L.aI.b4{K:Frag}{x q:Str}{st:Stmt}{f:Addr}{j:FuncData}{p:List Str}(F:aI K x q st f j)(h:∀(kV D g:Value) (A:Option Addr) (C i a b c d:Value),bindArgs (fnOf x q (bJ st) (bf st) (aa st) .none kV D g A C i) #[[a,b,c,d],[]]=pure (p.zip [a,b,c,d]):=by intros;rfl)(e:p.length=4:=by rfl):ax K j p []:=F.binds λkV D g A C i u H=>HS u (H.trans e) λa b c d=>h kV D g A C i a b c d
@[elab_as_elim] theorem HU{P:List Value->Prop}(u:List Value)(h:u.length=5)(q:∀a b c d e,P [a,b,c,d,e]):P u:=by
 cases u with
 |nil=>cases h
 |cons a r=>
  cases r with
  |nil=>cases h
  |cons b R=>
   cases R with
   |nil=>cases h
   |cons c f=>
    cases f with
    |nil=>cases h
    |cons d g=>
     cases g with
     |nil=>cases h
     |cons e i=>
      cases i with
      |nil=>exact q a b c d e
      |cons _ _=>cases h
theorem _root_._L.aI.b5{K:Frag}{x q:Str}{st:Stmt}{f:Addr}{j:FuncData}{p:List Str}(F:aI K x q st f j)(h:∀(kV D g:Value) (A:Option Addr) (C i a b c d e:Value),bindArgs (fnOf x q (bJ st) (bf st) (aa st) .none kV D g A C i) #[[a,b,c,d,e],[]]=pure (p.zip [a,b,c,d,e]):=by intros;rfl)(e:p.length=5:=by rfl):ax K j p []:=F.binds λkV D g A C i u H=>HU u (H.trans e) λa b c d e=>h kV D g A C i a b c d e
def dE(K:Frag)(p q:Str)(st:Stmt)(f:Addr):Prop:=∃(o:Value) (O:Option Addr) (kV d a:Value) (A:Option Addr) (c C:Value) (s:Array (Option Value)),K.lookup f=some #[o,O,.func (fnOf p q (bJ st) (bf st) (aa st) .none kV d a A c C),s]/\codeIn K c q=true/\keepIn K (.ref f)=true
def bZ(K:Frag)(p:Str)(st:Stmt)(f:Addr):Prop:=nsIn K mainGlobals p=some (some (.ref f))/\dE K p p st f
section
variable {K:Frag}{py q:Str}{st:Stmt}{f:Addr}{oc:Value}{od:Option Addr}{kV dc pm:Value}{an:Option Addr}{cd ct:Value}{sl:Array (Option Value)}
theorem Hl(l:K.lookup f=some #[oc,od,.func (fnOf py q (bJ st) (bf st) (aa st) .none kV dc pm an cd ct),sl])(c:codeIn K cd q=true)(k:keepIn K (.ref f)=true):dE K py q st f:=#[_,_,_,_,_,_,_,_,_,l,c,k]
theorem GQ(a:nsIn K mainGlobals py=some (some (.ref f)))(l:K.lookup f=some #[oc,od,.func (fnOf py py (bJ st) (bf st) (aa st) .none kV dc pm an cd ct),sl])(c:codeIn K cd py=true)(k:keepIn K (.ref f)=true):bZ K py st f:=#[a,Hl l c k]
theorem dE.go(h:dE K py q st f):∃F,aI K py q st f F/\keepIn K (.ref f)=true:=by
 obtain⟨oc,od,kV,dc,pm,an,cd,ct,sl,l,c,k⟩:=h
 exact#[_,rP l c k,k]
theorem bZ.go{h:Heap}{mg:Str->Option Value}(t:bZ K py st f)(X:K.In h)(G:h.Ns mainGlobals mg):∃a,aI K py py st f a/\keepIn K (.ref f)=true/\mg py=some (.ref f):=by
 obtain⟨a,F,k⟩:=t.2.go
 exact#[a,F,k,mg_of X G t.1]
end
theorem AG{l:PySem.W.OpenLaw}{w:World}{K:Frag}{h:Heap}{mg:Str->Option Value}{fa O b7 v1 f0 v2 b9 b' c1 f1 c2 c3 c4 c5 c6 c9 c' d0 d1 v3 d2 d3 d4 d5 d6 d7 d8 d' e2 e3 e4 e5 e6 e7 e8 e9 e' g0 f2 g1 g2 g4 g5 g6 g7 g8 g9 g' h0 h1 h2 h3 h4 h5 h6 h7 h8 h' i0 fZ f3 f4 i1 i2 i3 f5 f6 f7 f9 i4 i5 f' a0 a1 i' u C c c0 f xB x y:Addr}(X:K.In h)(G:h.Ns mainGlobals mg)(v4:mg "law"=some (.ref fa))
  {v5:Option Addr} {nN:Nat} {v7:Array (Option Value)} {v8 v9 t0 tD:Tok} {j0:ClassData} {o0:Value} {o1:Option Addr} {s0:Array (Option Value)} {j1:ClassData} {o2:Value} {o3:Option Addr} {s1:Array (Option Value)} {j2:ClassData} {o4:Value} {o5:Option Addr} {s2:Array (Option Value)}
  (v':bZ K "names_in" em O)
  (w0:bZ K "own_terms" CN b7)
  (w1:bZ K "used_behind_terms" uf v1)
  (w2:bZ K "used_ahead_of" xY f0)
  (w3:bZ K "used_ahead" xX v2)
  (w4:bZ K "bodies_in" CA b9)
  (w5:bZ K "many_cuts" tS b')
  (w6:bZ K "deed_of" tL c1)
  (w7:bZ K "place_of_give" lH f1)
  (w8:bZ K "place_of_set" tV c2)
  (w9:bZ K "part_made" tU c3)
  (w':bZ K "made" oG c4)
  (x0:bZ K "_law_box" CC c5)
  (vE:bZ K "_law_take" ue c6)
  (x1:bZ K "_law_number" lE c9)
  (x2:bZ K "_law_names" ij c')
  (x3:bZ K "_law_term" oJ d0)
  (x4:bZ K "_law_spot" tW d1)
  (x5:bZ K "_law_statement" tX v3)
  (x7:bZ K "_law_body" oE d2)
  (x8:bZ K "_law_any" Cz d3)
  (dR:bZ K "_law_op" Gr d4)
  (x9:bZ K "_law_inner" nV d5)
  (x':bZ K "_law_looped" gW d6)
  (y0:bZ K "_law_ticking" fj d7)
  (y1:bZ K "_law_busy" tI d8)
  (y2:bZ K "_law_case" oF d')
  (y3:bZ K "joined" lv e2)
  (y4:bZ K "worth" lI e3)
  (y5:bZ K "named" lD e4)
  (y':bZ K "begun" nR e5)
  (z6:bZ K "deeper" lh e6)
  (z7:bZ K "part_of" lG e7)
  (z8:bZ K "cut_at" nU e8)
  (z':bZ K "held_at" ls e9)
  (A':bZ K "worths" gX e')
  (B1:bZ K "deed_at" lg g0)
  (B2:bZ K "found_in" fi f2)
  (B3:bZ K "end_of" lr g1)
  (B4:bZ K "first_of" ig g2)
  (B5:bZ K "onward" lF g4)
  (B6:bZ K "run" CQ g5)
  (B7:bZ K "whats_at" x6 g6)
  (B8:bZ K "whats_in" ya g7)
  (B9:bZ K "paths_at" xV g8)
  (B':bZ K "deed_in" CG g9)
  (C':bZ K "like_from" tR g')
  (D0:bZ K "lender_from" tQ h0)
  (D1:bZ K "taken_from" CS h1)
  (D':bZ K "laid" tP h2)
  (E1:bZ K "_law_cells" nS h3)
  (E2:bZ K "_law_changes" CF h4)
  (E3:bZ K "_law_found" CM h5)
  (E4:bZ K "_law_book" nW h6)
  (E5:bZ K "_law_changed" CD h7)
  (E6:bZ K "_law_books" CB h8)
  (E7:bZ K "_law_at" CJ h')
  (E8:bZ K "_law_pair_right" CO i0)
  (tZ:bZ K "law" nX fZ)
  (E9:nsIn K mainGlobals "NOUGHT"=some (some (.ref u))) (E':K.lookup u=some #[.type "tuple",v5,.seq (List.toArray [.str "num" v8,.int 0 v9]) nN,v7]) (H0:nsIn K mainGlobals "Cutting"=some (some (.ref C))) (v0:nsIn K mainGlobals "TOP"=some (some (.int 1000000000000000000 t0))) (vD:nsIn K mainGlobals "DEEPEST"=some (some (.int 15 tD))) (vR:nsIn K mainGlobals "BookRun"=some (some (.ref c))) (vT:nsIn K mainGlobals "Turns"=some (some (.ref c0))) (vL:nsIn K mainGlobals "Laying"=some (some (.ref f))) (vB:nsIn K mainGlobals "BookError"=some (some (.ref xB)))
  (H1:nsIn K mainGlobals "TooLong"=some (some (.ref x)))
  (H2:nsIn K mainGlobals "TooDeep"=some (some (.ref y)))
  (H3:K.lookup x=some #[o0,o1,.cls j0,s0]) (t1:typeIn K (.ref x)=some (.type "type")) (mbxL:mroIn K x (.type "BaseException")=some true) (k3:keepIn K (.ref x)=true)
  (H4:K.lookup y=some #[o2,o3,.cls j1,s1]) (t2:typeIn K (.ref y)=some (.type "type")) (mbxD:mroIn K y (.type "BaseException")=some true) (k4:keepIn K (.ref y)=true)
  (H5:K.lookup xB=some #[o4,o5,.cls j2,s2]) (t3:typeIn K (.ref xB)=some (.type "type")) (m7:mroIn K xB (.type "BaseException")=some true) (H6:mroIn K x (.ref xB)=some true) (H7:mroIn K y (.ref xB)=some true)
  (e0:excIn K x pH "ValueError.__new__"=true) (e1:excIn K y pH "ValueError.__new__"=true)
  (X':p8 K x) (j3:p8 K y)
  (rk:RK K c) (H8:Mk K c f9) (tm:Az K c0 "__init__" f5) (m8:a9 K c "take_turn" f6) (m9:a9 K c "number_in" f7) (m3:a9 K c "chain_of" i4) (m':a9 K c "what_of" i5)
  (lk:LK K f) (H9:Mk K f f') (m4:a9 K f "lay" a0) (k5:a9 K f "drop" a1) (k6:a9 K f "lay_step" i')
  (ck:CK K C) (mk:Mk K C f3) (k7:a9 K C "place_of_body" f4) (H':a9 K C "place_of" i1) (I1:a9 K C "place_of_cut" i2) (I2:a9 K C "ways_of" i3)
  (I3:dE K "__init__" "Cutting.__init__" tN f3)
  (I4:dE K "place_of_body" "Cutting.place_of_body" xQ f4)
  (I5:dE K "place_of" "Cutting.place_of" xW i1)
  (I6:dE K "place_of_cut" "Cutting.place_of_cut" xR i2)
  (I7:dE K "ways_of" "Cutting.ways_of" xZ i3)
  (I':dE K "__init__" "Turns.__init__" tY f5)
  (J0:dE K "take_turn" "Turns.take_turn" nY f6)
  (K1:dE K "number_in" "Turns.number_in" ua f7)
  (K3:dE K "__init__" "BookRun.__init__" tH f9)
  (K4:dE K "chain_of" "BookRun.chain_of" xO i4)
  (K5:dE K "what_of" "BookRun.what_of" xP i5)
  (L0:dE K "__init__" "Laying.__init__" tO f')
  (L1:dE K "lay" "Laying.lay" xU a0)
  (L3:dE K "drop" "Laying.drop" tM a1)
  (L4:dE K "lay_step" "Laying.lay_step" xT i')
  (z2:nsIn K mainGlobals "len"=some none)
  (z3:nsIn K mainGlobals "int"=some none)
  (Q:nsIn K mainGlobals "range"=some none)
  (z0:nsIn K mainGlobals "list"=some none)
  (r:nsIn K mainGlobals "reversed"=some none)
  (R:nsIn K mainGlobals "tuple"=some none)
  (A:nsIn K mainGlobals "sorted"=some none)
  (z4:nsIn K mainGlobals "set"=some none)
  (z5:nsIn K mainGlobals "zip"=some none)
  (z1:nsIn K mainGlobals "dict"=some none)
  (p:nsIn K mainGlobals "enumerate"=some none)
  :∃fd:FuncData,(∀(s:Shared) (v:Value),BindsTo s fd #[[v],[]] [("_law_script",v)])/\∀base:Heap,K.In base->base.Ns mainGlobals mg->af l.prog w K mg base aA 72 fa fd ["_law_script"] (mN K):=by
 have e:=v4.symm.trans (mg_of X G tZ.1)
 cases e
 obtain⟨L5,t,S,M⟩:=v'.go X G
 obtain⟨dOw,k8,L6,L7⟩:=w0.go X G
 obtain⟨dUb,k9,kUb,L8⟩:=w1.go X G
 obtain⟨dUo,T,k',m5⟩:=w2.go X G
 obtain⟨dUa,l0,kUa,L'⟩:=w3.go X G
 obtain⟨dBi,l1,N1,N2⟩:=w4.go X G
 obtain⟨dMc,F3,l2,l3⟩:=w5.go X G
 obtain⟨dDe,l4,N3,N'⟩:=w6.go X G
 obtain⟨dPg,U,l5,l6⟩:=w7.go X G
 obtain⟨dPs,l8,O0,O1⟩:=w8.go X G
 obtain⟨dPm,l',O2,O3⟩:=w9.go X G
 obtain⟨dMa,n1,O4,O5⟩:=w'.go X G
 obtain⟨dBx,n2,O6,O7⟩:=x0.go X G
 obtain⟨dTk,F,k,m⟩:=vE.go X G
 obtain⟨dNu,B,V,Y⟩:=x1.go X G
 obtain⟨dNm,F4,n3,n4⟩:=x2.go X G
 obtain⟨dTm,F0,n5,m6⟩:=x3.go X G
 obtain⟨dPo,n6,O8,O9⟩:=x4.go X G
 obtain⟨dSt,n7,kSt,O'⟩:=x5.go X G
 obtain⟨dBo,F5,P0,n9⟩:=x7.go X G
 obtain⟨dAn,n',P1,P4⟩:=x8.go X G
 obtain⟨dOp,D,k0,m0⟩:=dR.go X G
 obtain⟨dIn,o6,P5,P6⟩:=x9.go X G
 obtain⟨dLo,o7,P7,P8⟩:=x'.go X G
 obtain⟨dTi,o8,P9,P'⟩:=y0.go X G
 obtain⟨dBu,o9,Q',R0⟩:=y1.go X G
 obtain⟨dCa,o',R1,R3⟩:=y2.go X G
 obtain⟨dJo,p0,R4,R5⟩:=y3.go X G
 obtain⟨dWo,E,k2,m1⟩:=y4.go X G
 obtain⟨dNd,F6,p1,p2⟩:=y5.go X G
 obtain⟨dBe,p3,R6,R7⟩:=y'.go X G
 obtain⟨dDp,p4,R8,R9⟩:=z6.go X G
 obtain⟨dPf,p5,R',S0⟩:=z7.go X G
 obtain⟨dCu,I,k1,m2⟩:=z8.go X G
 obtain⟨dHe,F7,p6,p9⟩:=z'.go X G
 obtain⟨dWs,p',S1,S2⟩:=A'.go X G
 obtain⟨dDa,q0,S3,S4⟩:=B1.go X G
 obtain⟨dFo,F1,q1,q2⟩:=B2.go X G
 obtain⟨dEn,F9,q3,q4⟩:=B3.go X G
 obtain⟨dFi,q5,S5,S6⟩:=B4.go X G
 obtain⟨dOn,q6,S7,S8⟩:=B5.go X G
 obtain⟨dRu,q7,S9,S'⟩:=B6.go X G
 obtain⟨dWa,F2,T0,q'⟩:=B7.go X G
 obtain⟨dWi,a2,T1,r0⟩:=B8.go X G
 obtain⟨dPa,a3,r1,r2⟩:=B9.go X G
 obtain⟨dDi,a4,r3,r4⟩:=B'.go X G
 obtain⟨dLk,r5,T2,T3⟩:=C'.go X G
 obtain⟨dLd,r6,T4,T5⟩:=D0.go X G
 obtain⟨dTn,r7,T6,T7⟩:=D1.go X G
 obtain⟨dLa,r8,T8,T9⟩:=D'.go X G
 obtain⟨dCe,r9,T',U0⟩:=E1.go X G
 obtain⟨dCg,r',U1,U2⟩:=E2.go X G
 obtain⟨dLf,s3,U3,U4⟩:=E3.go X G
 obtain⟨dLb,s4,U5,U6⟩:=E4.go X G
 obtain⟨dLc,s5,U7,U8⟩:=E5.go X G
 obtain⟨dBk,s6,U9,U'⟩:=E6.go X G
 obtain⟨dAt,s7,V0,V1⟩:=E7.go X G
 obtain⟨dPr,s8,V2,V3⟩:=E8.go X G
 obtain⟨dmI,s9,kmI⟩:=I3.go
 obtain⟨dmB,a',kmB⟩:=I4.go
 obtain⟨dmO,s',kmO⟩:=I5.go
 obtain⟨dmC,t4,kmC⟩:=I6.go
 obtain⟨dmW,t5,kmW⟩:=I7.go
 obtain⟨dTI,t6,kTI⟩:=I'.go
 obtain⟨dTT,t7,kTT⟩:=J0.go
 obtain⟨dTN,t8,kTN⟩:=K1.go
 obtain⟨dRI,t9,kRI⟩:=K3.go
 obtain⟨dRC,b0,kRC⟩:=K4.go
 obtain⟨dRW,t',kRW⟩:=K5.go
 obtain⟨dLI,u0,kLI⟩:=L0.go
 obtain⟨dLL,b6,kLL⟩:=L1.go
 obtain⟨dLD,u1,kLD⟩:=L3.go
 obtain⟨dLS,u2,kLS⟩:=L4.go
 obtain⟨ocZ,odZ,V4,V5,V6,V7,V8,V9,slZ,lZ,cZ,kZ⟩:=tZ.2
 have FZ:=rP (st:=nX) lZ cZ kZ
 have b:=mg_none_of X G z2
 have q:=mg_none_of X G z3
 have a:=mg_none_of X G Q
 have J:=mg_none_of X G z0
 have d:=mg_none_of X G r
 have N:=mg_none_of X G R
 have j:=mg_none_of X G A
 have L:=mg_none_of X G z4
 have n0:=mg_none_of X G z5
 have o:=mg_none_of X G z1
 have i:=mg_none_of X G p
 have u3:nJ K u:=λH=>.inr #[_,_,_,E',Z,Z,bM,(.cons #[_,Z] (.cons #[_,Z] .nil))]
 refine#[fnOf "law" "law" (bJ nX) (bf nX) (aa nX) .none V4 V5 V6 V7 V8 V9,λs v=>.of_eq Z,λbase _ _=>?_]
 have g:af l.prog w K mg base aA 1 c6 _ _ aU:=xg F
 have V':af l.prog w K mg base aA 1 c5 _ _ (oW K):=Bx n2 b q
 have G0:af l.prog w K mg base aA 2 c9 _ _ gM:=ZK B #[g,F.b2,k,m]
 have G4:af l.prog w K mg base aA 2 c' _ _ f8:=sL F4 g F.b2 k m a
 have G5:af l.prog w K mg base aA 6 d0 _ _ (cq 4):=Ax (P:=l.prog) (w:=w) (base:=base) F0 F0.b3 m6 #[g,F.b2,k,m] #[G0,B.b1,V,Y] b 4
 have W0:af l.prog w K mg base aA 7 d1 _ _ iG:=xf n6 #[g,F.b2,k,m] #[G5,F0.b3,n5,m6]
 have SS:=ET (P:=l.prog) (w:=w) (base:=base) n7 F5 #[g,F.b2,k,m] #[G5,F0.b3,n5,m6] #[W0,n6.b2,O8,O9] n7.b5 O' F5.b5 n9 b N a
 have W1:af l.prog w K mg base aA 21 d2 _ _ (gA 6):=(SS 6).2
 have W2:af l.prog w K mg base aA 22 d3 _ _ oU:=Bt n' #[g,F.b2,k,m] #[G4,F4.b2,n3,n4] #[W1,F5.b5,P0,n9] b a N q
 have G1:af l.prog w K mg base aA 2 d4 _ _ mO:=El D #[g,F.b2,k,m]
 have W3:af l.prog w K mg base aA 3 d5 _ _ (c8 2):=sI o6 #[g,F.b2,k,m] #[G1,D.b3,k0,m0]
 have W4:af l.prog w K mg base aA 3 d6 _ _ (c8 1):=ZN o7 #[g,F.b2,k,m] #[G1,D.b3,k0,m0] q N
 have W5:af l.prog w K mg base aA 3 d7 _ _ (c8 1):=Yv o8 #[g,F.b2,k,m] #[G1,D.b3,k0,m0] q N
 have W6:af l.prog w K mg base aA 4 d8 _ _ lK:=wM o9 #[g,F.b2,k,m] #[G1,D.b3,k0,m0] #[G4,F4.b2,n3,n4] #[W4,o7.b4,P7,P8] #[W5,o8.b4,P9,P'] #[W3,o6.b4,P5,P6]
 have W7:af l.prog w K mg base aA 23 d' _ _ lM:=wN o' #[g,F.b2,k,m] #[G0,B.b1,V,Y] #[W6,o9.b1,Q',R0] #[W2,n'.b3,P1,P4] b N
 have NS:=Af (P:=l.prog) (w:=w) (base:=base) t t.b1 M L j
 have G6:af l.prog w K mg base aA 7 O _ _ (db 6):=NS 6
 have W8:af l.prog w K mg base aA 7 O _ _ (ph K):=BL (fN:=O) (fdN:=L5) t #[NS 5,t.b1,S,M] L j
 have W9:af l.prog w K mg base aA 1 b7 _ _ mP:=BM k8
 have US:=Fg (P:=l.prog) (w:=w) (base:=base) l0 k9 T l0.b2 L' k9.b2 L8 T.b2 m5 #[W9,k8.b1,L6,L7] #[G6,t.b1,S,M] J L j d
 have W':af l.prog w K mg base aA 31 f0 _ _ (gi 7):=(US 7).2
 have Y':af l.prog w K mg base aA 10 f0 _ _ (gi 0):=(US 0).2
 have Z':af l.prog w K mg base aA 1 b9 _ _ mH:=Bv l1
 have G9:af l.prog w K mg base aA 2 b' _ _ gD:=wV F3 #[Z',l1.b1,N1,N2] J
 have GDe:af l.prog w K mg base aA 1 c1 _ _ iz:=wO l4
 have GPg:af l.prog w K mg base aA 8 f1 _ _ gg:=sM U #[G6,t.b1,S,M]
 have GPc:af l.prog w K mg base aA 8 f1 _ _ (pi K):=BO U #[W8,t.b1,S,M]
 have GPs:af l.prog w K mg base aA 11 c2 _ _ iF:=wZ l8 #[Y',T.b2,k',m5]
 have GmB:af l.prog w K mg base aA 63 f4 _ _ (mQ C 8):=Hn (P:=l.prog) (w:=w) (base:=base) ck a' s' t4 t5 a'.b3 k7 s'.b3 H' t4.b3 I1 t5.b4 I2 #[G9,F3.b1,l2,l3] #[W',T.b2,k',m5] #[GDe,l4.b1,N3,N'] #[GPg,U.b1,l5,l6] #[GPs,l8.b2,O0,O1] b N d 8 (Nat.le_refl _)
 have GmI:af l.prog w K mg base aA 3 f3 _ _ (oZ C):=BE s9 ck #[G9,F3.b1,l2,l3]
 have GPm:af l.prog w K mg base aA 64 c3 _ _ (lW K u):=wX l' ck mk GmI s9.b2 (mg_of X G H0) (mg_of X G E9) u3 GmB a'.b3 k7 #[GPc,U.b1,l5,l6] N d
 have GMa:af l.prog w K mg base aA 65 c4 _ _ (lS K u):=wU n1 #[GPm,l'.b3,O2,O3] N
 have GJo:af l.prog w K mg base aA 1 e2 _ _ iE:=ZQ p0 (mg_of X G v0)
 have G3:af l.prog w K mg base aA 7 e3 _ _ (cg K 6):=vm (P:=l.prog) (w:=w) (base:=base) E E.b2 m1 #[GJo,p0.b3,R4,R5] 6
 have G2:af l.prog w K mg base aA 1 e8 _ _ (iy u):=sF I
 have G':af l.prog w K mg base aA 2 e9 _ _ (iD u):=ZS F7 #[G2,I.b2,k1,m2] o n0
 have GWs:af l.prog w K mg base aA 8 e' _ _ gj:=ZU p' #[G3,E.b2,k2,m1] N
 have GDa:af l.prog w K mg base aA 9 g0 _ _ (fV u):=ZV q0 #[G',F7.b3,p6,p9] #[G2,I.b2,k1,m2] #[G3,E.b2,k2,m1] #[GWs,p'.b2,S1,S2]
 have GFo:af l.prog w K mg base aA 1 f2 _ _ eG:=sH F1
 have u4:af l.prog w K mg base aA 8 g1 _ _ (mK u):=sG F9 #[G2,I.b2,k1,m2] #[G3,E.b2,k2,m1] N u3
 have GFi:af l.prog w K mg base aA 9 g2 _ _ (fX u):=Yx q5 #[u4,F9.b3,q3,q4] o n0
 have GOn:af l.prog w K mg base aA 9 g4 _ _ (uK u):=ZT q6 #[G2,I.b2,k1,m2] #[G',F7.b3,p6,p9] #[GFo,F1.b1,q1,q2] #[u4,F9.b3,q3,q4]
 have hxL:clsIn K x≠none:=by
  unfold clsIn
  rw[H3]
  intro z
  cases z
 have hxD:clsIn K y≠none:=by
  unfold clsIn
  rw[H4]
  intro z
  cases z
 have mxL:=mg_of X G H1
 have mxD:=mg_of X G H2
 have xmL:XM K mg "TooLong" x:=#[e0,k3,X',t1,mxL]
 have xmD:XM K mg "TooDeep" y:=#[e1,k4,j3,t2,mxD]
 have u8:af l.prog w K mg base aA 1 e4 _ _ lT:=ZW F6
 have GPf:af l.prog w K mg base aA 2 e7 _ _ lT:=ZX p5 #[u8,F6.b2,p1,p2]
 have GBe:af l.prog w K mg base aA 2 e5 _ _ gZ:=sD p3 #[u8,F6.b2,p1,p2] b
 have GDp:af l.prog w K mg base (eX l.prog w) 1 e6 _ _ (eF y):=ZY p4 (mg_of X G vD) xmD
 have GTI:af l.prog w K mg base aA 1 f5 _ _ (lX c):=xj t6 rk
 have GTT:af l.prog w K mg base (eX l.prog w) 1 f6 _ _ (iH c x):=sN t7 rk xmL
 have GTN:af l.prog w K mg base aA 1 f7 _ _ (gf c):=xo t8 rk
 have GRI:af l.prog w K mg base aA 2 f9 _ _ (lU c):=wY t9 rk GTI t6.b3 (mg_of X G vT) tm
 have GRC:=DM (P:=l.prog) (w:=w) (base:=base) rk b0 b0.b4 m3 t' t'.b3 m' #[GFi,q5.b2,S5,S6] #[GDa,q0.b3,S3,S4] #[GOn,q6.b2,S7,S8] GTT t7.b1 m8 GTN t8.b2 m9 (GDp) p4.b1 R8 R9 #[GPf,p5.b2,R',S0] N 16
 have GRu:af l.prog w K mg base (eX l.prog w) 45 g5 _ _ (pq x y u):=BQ q7 rk H8 GRI t9.b4 (mg_of X G vR) #[GBe,p3.b3,R6,R7] GRC b0.b4 m3
 have GCe:af l.prog w K mg base aA 3 h3 _ _ hV:=sE r9 #[g,F.b2,k,m] #[G0,B.b1,V,Y] a
 have GCg:af l.prog w K mg base aA 3 h4 _ _ oY:=BC r' #[g,F.b2,k,m] #[G0,B.b1,V,Y] a
 have hxB:clsIn K xB≠none:=by
  unfold clsIn
  rw[H5]
  intro z
  cases z
 have mxB:=mg_of X G vB
 have GWi:af l.prog w K mg base aA 34 g7 _ _ (iJ 16):=Fi (P:=l.prog) (w:=w) (base:=base) F2 F2.b2 q' a2 a2.b2 r0 i 16
 have GWa:af l.prog w K mg base aA 35 g6 _ _ (mW 17):=sQ (n:=16) F2 #[GWi,a2.b2,T1,r0]
 have u9:af l.prog w K mg base aA 36 g8 _ _ (iY 17):=BN (n:=16) a3 #[GWa,F2.b2,T0,q']
 have u':af l.prog w K mg base aA 1 g9 _ _ mJ:=BD a4
 have GFz:af l.prog w K mg base aA 1 f2 _ _ iB:=Z0 F1
 have GLk:af l.prog w K mg base aA 1 g' _ _ lR:=wS r5 b a
 have GLd:af l.prog w K mg base aA 2 h0 _ _ lQ:=wR r6 #[u',a4.b1,r3,r4] b a
 have GTn:af l.prog w K mg base aA 3 h1 _ _ mV:=BS r7 #[GLk,r5.b3,T2,T3] #[GLd,r6.b3,T4,T5] #[u',a4.b1,r3,r4]
 have GLI:af l.prog w K mg base aA 1 f' _ _ (lN f):=wT u0 lk
 have GLD:af l.prog w K mg base aA 37 a1 _ _ (iA f):=wP u1 lk #[u9,a3.b2,r1,r2] a
 have GLL:af l.prog w K mg base aA 70 a0 _ _ (iX f 16):=Eb (P:=l.prog) (w:=w) (base:=base) lk b6 b6.b5 m4 u2 u2.b5 k6 #[GTn,r7.b3,T6,T7] #[u9,a3.b2,r1,r2] GLD u1.b5 k5 #[GFz,F1.b1,q1,q2] i b 16
 have GLa:af l.prog w K mg base aA 71 h2 _ _ lP:=wQ r8 lk H9 GLI u0.b1 (mg_of X G vL) GLL b6.b5 m4
 have GLb:af l.prog w K mg base aA 46 h6 _ _ (lO u):=sK s4 (GRu) q7.b5 S9 S' #[mxB,hxB,t3,m7,H6,H7] o
 have GLc:af l.prog w K mg base aA 4 h7 _ _ oX:=Bz s5 #[GCg,r'.b2,U1,U2] #[g,F.b2,k,m] o
 have GBk:af l.prog w K mg base aA 66 h8 _ _ (oV K):=Bw s6 #[V',n2.b2,O6,O7] #[W7,o'.b1,R1,R3] #[GMa,n1.b1,O4,O5] #[GCe,r9.b1,T',U0] #[GLb,s4.b4,U5,U6] #[GLc,s5.b2,U7,U8]
 have GLf:af l.prog w K mg base aA 1 h5 _ _ pf:=BJ s3
 have GAt:af l.prog w K mg base aA 1 h' _ _ pe:=BF s7
 have GPr:af l.prog w K mg base aA 2 i0 _ _ pj:=BP s8 #[GAt,s7.b2,V0,V1] #[GLf,s3.b1,U3,U4]
 exact BG FZ #[GBk,s6.b1,U9,U'] #[GLa,r8.b2,T8,T9] #[GPr,s8.b4,V2,V3] b N q
theorem GV{l:PySem.W.OpenLaw}{q:Program}{L:List Str}{X:(Str->Option Value)->Heap->Prop}{Y:World->Heap->Prop}{d:DefRec}{K:Params->Frag}(e:l.most=some 63)(H:d.params.defaults=[])
  (g:∀(w:World) (h:Heap),Y w h->(K w.params).In h)
  (F:∀(w:World) (mg:Str->Option Value) (b:Addr) (h:Heap),(K w.params).In h->h.Ns mainGlobals mg->mg d.name=some (.ref b)->
   ∃c:FuncData,(∀(s:Shared) (u:Value),BindsTo s c #[[u],[]] [("_law_script",u)])/\∀base:Heap,(K w.params).In base->base.Ns mainGlobals mg->af l.prog w (K w.params) mg base aA 72 b c ["_law_script"] (mN (K w.params))):
  PySem.W.WalkO q L X Y l.row.toRowW d [] (λf v=>PySem.call f v):=
 _L.yw (n:=63) (k:=72) (x:="_law_script") (CX:=λ_=>aA) (sp:=λw=>mN (K w.params)) e OF H #[Z,OF,OF] g F (λ_ _ a N i _ j=>#[a,N,Z,j,i,λ_=>Z]) λ_ _ _ _ _ z=>z
end _K
structure PySem.W.Fast:Prop where(tw2923439624872298042 tw13399886322626425678 tw7629567138625614518 tw3279265449710496186 tw16568643807326961253 tw10876629224191434074 tw13868843797959676446 tw5211670297103435327 tw9222449739602520257 tw12433195423739991800 tw2368636922332464109 tw6762307120720782951 tw973641220674176076 tw12444846057939888668 tw14355123950301052387 tw1291865715221724792 tw1800503295606545597 tw16728409238415675310 tw4439836436388912740 tw10455148745379854722 tw16876513524031585155 tw1908483307791000958 tw812122406263527730 tw15407086976173025335 tw13934362061212120079 tw4716151260039417709 tw17270209037859871538 tw11491353510260103762 tw5701640040242374365 tw10165195324764923455 tw17481595817321728700 tw10547630299534324471 tw2819598183749345261 tw12174016123916942902 tw16240451564311786121 tw3585400365558693328 tw8217494353380276845 tw15875637475381325471 tw8193295095376928512 tw3274773346721626499 tw11223320772826971293 tw15314817056584911237 tw10970034801016737286 tw6571185486250190468 tw17517343307687410566 tw4276568062854938904 tw10803062829208244628 tw16311663165612748346 tw2702044184761924561 tw4647482895246466062 tw5946780338633256510 tw11649631874235793390 tw2856573899312551310 tw3210349913016262545 tw17043695692158420349 tw3599721582087473987 tw7000796993315808825 tw11666283041996866790 tw12442576353588704137 tw11841636272448662725 tw9224465540771799888 tw9090812016534731030 tw5483584729960709619 tw11975988722049607602 tw10124252297080614324 tw17454450612568778828 tw15041184666712079842 tw15825791716869750951 tw16320009522060495889 tw8265753648208669154 tw14973509203608778115 tw11170156202557956942 tw5090390251185461125 tw5755271935826036632 tw2103723231109357428 tw2810200339394742668 tw6172535985466083723 tw6801378098731235464 tw6044175743236325393 tw1997687041356465388 tw609909380979446046 tw5137801802330597443 tw15701705649496611891 tw2014391805250116392 tw5523170107349207202 tw8474441045355789978 tw17781053341729171001 tw8414623722762410487 tw16310546949851677686 tw4172973177070968898 tw17628158131140239155 tw11440607088012500420 tw16070780131071962759 tw1636638161036208292 tw3686964335182798553 tw8322675553527517888 tw3384273167484035830 tw11669657978983257650 tw6824420998625479484 tw12284316889640020739 tw16259509448587070121 tw11462457767857869126 tw13350961284804140873 tw10910907948077032969 tw2456802220641407207 tw498375711226061559 tw8906107311314333392 tw7361154415859815058 tw1122865888349303831 tw12557567822135240004 tw6803342243229050384 tw8658505175036769166 tw10700949837740375155 tw3122856955184513102 tw2340293953736622265 tw11180039838977443631 tw18349610431354787306 tw15746172780336658355 tw1833061930514954948 tw8289435525467214197 tw16278163059175534326 tw15512804576416565441 tw12458557071554809961 tw5145973284010714975 tw16603085224809059149 tw14010066289677154270 tw7850742029481417147 tw9416163397936941879 tw1788062612643993927 tw9052467185957794230 tw17858881346835909590 tw1021090992578405369 tw15064205851741942846 tw14689249577827898888 tw14202163994590422526 tw2092016568013936704 tw13504193556120300602 tw1716151854856568624 tw16034391810300312251 tw14151712047914022293 tw9704946979271278434 tw13266877048694590753 tw14377149637637375456 tw10333123851348715192 tw17309893911685257228 tw12739604766380971505 tw13604317043400967791 tw9828744072099432607 tw13458653024642289928 tw10587205105127802535 tw2534824063994557019 tw17102924584757318441 tw8810617002681638922 tw3685967777028093697 tw17531415036563245510 tw2953012044080179396 tw13761727950158301649 tw4139795731932529729 tw9577103875754649402 tw8815624403015220628 tw4357208981408147369 tw1089322091473315549 tw15989916743325707712 tw11282490117216276554 tw5780668797745819325 tw9651589320209247838 tw14761804934671004041 tw6569992848093999496 tw17475820256725229111 tw17018326502291611418 tw15404966596074687210 tw14831742252760569633 tw7804079641959871758 tw5942850545768845286 tw2787435310228064194 tw15728431370687539676 tw480842783251934600 tw546023685795644338 tw16367571743287645743 tw1466973157041719729 tw504133482304226383 tw12256863412274923976 tw564421600993230262 tw8342389913719422299 tw2823796155920709188 tw17583715822378934811 tw3999586946722901324 tw11740708516653296340 tw414014793023306346 tw2436053637388194266 tw15813950846141110601 tw1824821250905318255 tw856644364905856428 tw10798641506914151380 tw6122115679705826197 tw16076517726908507565 tw1394970866020349261 tw1130219461228116386 tw18094049192841589780 tw18430288097649289501 tw2490587742927937873 tw14561015397149813929 tw9608825230364709191 tw12929568214125157141 tw10972229737521838786 tw3308297637750945200 tw14249266181946411338 tw12851447450413243536 tw7639323097989074837 tw14130767383630600951 tw5948437165337054265 tw8491609403300406696 tw18143813637816753764 tw13391937796918217356 tw18037747792969475842 tw4677847788996851439 tw6822682724620006925 tw3011133030252484592 tw12049385153608521866 tw17359699751080335976 tw17930695253237166093 tw10846206226228606406 tw6781563209779359809 tw6802030612338248095 tw1211110506721821691 tw14233758601477303866 tw697314040733194330 tw8013195685060590213 tw15291212184166511945 tw14242506572659225715 tw9617361619812783376 tw9626566751061214372 tw8656255874098279148 tw14951946401924044804 tw1841889742560582268 tw8888035517348765563 tw16844380256448925587 tw1283086568338973815 tw12069319548727718038 tw6658161132936665824 tw11301676324273692656 tw13326614337359191340 tw1577830196787327526 tw2620471921058856138 tw3960865246246338901 tw3421719825475446080 tw14497422327928113620 tw2128707924576928978 tw13639445747571781205 tw3137120733032005910 tw7891160340054698258 tw14191949494174682848 tw9003308245304690715 tw15514062597017175118 tw1627594691303446160 tw14882881803061359068 tw10692955085799063849 tw9615161905150364380 tw16653212465941630879 tw1513219961778226664 tw16550303053690255782 tw16577257388731539829 tw8055817914102204191 tw6439286988138049912 tw15955797026293930018 tw9140148947334844946 tw4259014588975727456 tw3175720740784249595 tw6135900892163035966 tw12459425944822664951 tw11084173393399800417 tw13049222824510883517 tw16215287600121850716 tw16481780133006918016 tw17174793542527118739 tw2421538497702928987 tw8962518211084596585 tw3511758010662051084 tw8784903107988546912 tw380646339152839488 tw13361059881651443237 tw1209557316803375054 tw5611434296838015805 tw10834681108284029719 tw9567508515632565060 tw1932898084630777864 tw8119872153354152751 tw17392170098782298891 tw9669319369338326389 tw7582827751250985580 tw17406937969209067055 tw3517332687223897649 tw10889441247779394774 tw4333227291699668610 tw14837163818243327964 tw3495899251565573155 tw15525032268985827877 tw10116042430072703999 tw2023913348440855986 tw5355403725450513031 tw2960817671202165716 tw1068620109013311784 tw1299606820112023524 tw968939980210280291 tw9330346747164063712 tw16554885679608976130 tw12026054834810352887 tw8481489686623095188 tw16232118546061305363 tw7986475056689302766 tw3766628815109095556 tw755086634970382174 tw8694187405595190947 tw794119181080069246 tw13648291734963784998 tw8059761548850930836 tw2069458791702485686 tw12496132622515816731 tw15960288821725700475 tw8698456511637659793 tw13688670148625676504 tw16209974934156054274 tw8807268750015340910 tw12339155025103489756 tw11034786659497194214 tw4535045883658142534 tw16747045094992799362 tw11013067853063784318 tw5496850979277426761 tw11728512728729314401 tw16782560776184735757 tw8622876938353915157 tw2691210733646379116 tw15777330603553609116 tw3851492454295912496 tw13055964825502667884 tw6146481529735379637 tw1292098025620906890 tw11491864779519419412 tw17108373753482983291 tw17946456631222960389 tw18257954414320390041 tw9814099333500077038 tw147720024383115508 tw16074464096892886454 tw17326001161933401619 tw3853280497154283243 tw10317616131755214895 tw8473644746027885838 tw13343206667641316707 tw2243330842644532428 tw6069503740410910320 tw489831579288239426 tw2858285275484448220 tw1816173732913261144 tw11772580974622080714 tw9674903124132540653 tw17355734899219600974 tw13840240256473837175 tw1907282048316814048 tw13662289936864580782 tw12434213875008169052 tw10845842780633257873 tw13795763107082366100 tw13189572718547160596 tw9041249629978368460 tw9412852790847590312 tw13034586223048999308 tw12995051612695881508 tw8502966055421062974 tw2891779620245010383 tw13442362844469510866 tw16082920593091808404 tw10164879401447084133 tw16402254439202425304 tw10104835273866216968 tw13775327270012816586 tw3698694625527218298 tw10695691623598546325 tw6586859628937635262 tw14211730354023867151 tw6729018291432099178 tw7500108077934408134 tw12482749120704263073 tw5322838166313912138 tw7795306848436817651 tw9381563046513478170 tw14651650880635618301 tw13848670503404718924 tw13368411449742131370 tw8020689128970618468 tw1065398958097345973 tw17484988186664260057 tw8441041244955697091 tw10284254384251016751 tw13335365622012046503 tw7567976584112365006 tw12450935173234276395 tw17557045334755618666 tw130326167010936989 tw16318387076230194969 tw17300307812165047366 tw8496825567082155096 tw814268030618606504 tw8408559833672230652 tw7070070153434129097 tw13218834784637142782 tw10184391348831605162 tw17641720057313529702 tw8559797643773927798 tw9622353816094296317 tw4042559827513441142 tw17786635878433441382 tw17517748464284723697 tw16791645073386703838 tw4505433516203985169 tw4785793109223234380 tw18053298556656903650 tw6701148467525855674 tw4679674683248745204 tw11393205878400206984 tw17805185177613557338 tw5128698861484554366 tw10447257137030021300 tw9728664399597929002 tw12053726847686373242 tw11090354423382099527 tw9002878817763047512 tw14720626357539395055:True)
open PySem PySem.W PyProof.Rows PySem.W.X
theorem _K.Fh {q : Program} {loose : List PySem.Str} {XP : (PySem.Str → Option Value) → Heap → Prop} {K : Params → Frag} {as : List Addr} {n t : Nat} {r : RowW} {d : DefRec} {kwd : List (PySem.Str × PySem.Expr)} {run : Value → List Value → Sem Value}
    (e : ∀ P, as = (K P).map (·.1)) (h : WalkO q loose XP (InK K) r d kwd run) : WalkX q loose XP (obsZ as) (valZ K n t) r d kwd run :=
  fun w s₀ s₁ mg mb G Y a o pm cd doc dV kV h1 h2 h3 h4 h5 h6 args vals as' L => h w s₀ s₁ mg mb G (InK.keeps w _ _ (z_facts e Y).2.1 L.keeps) a o pm cd doc dV kV h1 h2 h3 h4 h5 h6 args vals as'
set_option maxRecDepth 100000 in
set_option maxHeartbeats 0 in
theorem PySem.Challenge.cw_againbook_k32_turned_and_kept_holds : PySem.Challenge.rw_againbook_k32_turned_and_kept.Holds := by
  w_on; o_law; z_head; (case hw => w_witness2)
  refine _K.Fh (fun _ => by rfl) (_K.GV (l := PySem.Challenge.rw_againbook_k32_turned_and_kept) rfl rfl (fun w h Y => Y) ?F)
  case F =>
    intro w mg fa h KX G hmg
    apply _K.AG KX G hmg
    iterate 59 (apply _K.GQ;iterate 4 k_is)
    iterate 24 k_is
    iterate 2 k_exc
    iterate 2 (constructor<;>k_is)
    refine ⟨⟨?_,?_,?_,?_⟩,?_,?_,?_,?_,?_⟩;iterate 4 k_is
    iterate 5 (unfold _L.aX;k_is)
    iterate 2 (constructor;iterate 4 k_is)
    iterate 4 (constructor;iterate 3 k_is)
    refine ⟨⟨?_,?_,?_,?_⟩,?_,?_,?_,?_⟩;iterate 4 k_is
    iterate 4 (unfold _L.aX;k_is)
    constructor;iterate 4 k_is
    iterate 3 (constructor;iterate 3 k_is)
    refine ⟨⟨?_,?_,?_,?_⟩,?_,?_⟩;iterate 4 k_is
    iterate 2 (unfold _L.aX;k_is)
    constructor;iterate 4 k_is
    iterate 4 (constructor;iterate 3 k_is)
    iterate 15 (apply _K.Hl;iterate 3 k_is)
    iterate 11 k_is
