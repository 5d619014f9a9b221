import PyProof.Rows.All
import Wide.All
import OpenK.AllK
import Wide.FinOn
import Lean
import PyProof.EqAt
import PyProof.EqKinds
import PyProof.TupleCall
import PySem.Challenge.RW_againbook_k22_chains_by_hand
set_option Elab.async false
set_option linter.all false
set_option maxRecDepth 100000
set_option genSizeOf false
theorem nV:0≤PySem.sizeLine:=by decide
theorem mM:1≤PySem.sizeLine:=by decide
theorem bj:2≤PySem.sizeLine:=by decide
theorem dY:3≤PySem.sizeLine:=by decide
theorem sD:4≤PySem.sizeLine:=by decide
set_option Elab.async false
set_option linter.all false
set_option maxRecDepth 100000
set_option maxHeartbeats 4000000
open PySem.W (keepIn Frag nsIn kitOne fnOf mg_of codeIn findIn mroIn isFn mg_none_of kia_one typeIn emptyDict clsIn instObj hasDictIn kitAny specialIn callWith_K excIn lookIn plainGet notCls tailIn)
theorem Ln{p:Prop}(h:p:=by decide):p:=h
theorem Lo{p:Prop}(h:p:=by omega):p:=h
theorem Lp{p:Prop}(h:p:=by simp):p:=h
theorem Lq{p:Prop}(h:p:=by decide +kernel):p:=h
theorem Ls{p:Prop}(h:p:=by rfl):p:=h
theorem Z{α:Sort u}{a:α}:a=a:=rfl
open PySem renaming wpAny_bind->Ec,wpAny_pure->Ee,wpAny_holding->EG,wpAny_field->EJ,wpAny_callSpecial?_slot->EV,wpAny_call_entry->EX,wpAny_newObj_type->EY,builtinLookup_eq_fast->Fb,boot_len->Fd,wpAny_setField->Fg,wpAny_Call_Name_kw->Fm,wpAny_seqItems->Fq,wpAny_mono->Fu,typeLookup_type->FI,codeAny_builtin->FJ,mem_of_lookup->FL,isSubtype_type->FX,wpAny_setState_of->F8,wpAny_specialOf->F',wpAny_typeOf->Gf,wpAny_truthy_bool->Gu,wpAny_rule->Gv,plainId_quiet->Gw,wpAny_isInstance->Gx,wpAny_setField_rec->GG,wpAny_passesOwn->GH,wpAny_standAt->GN,wpAny_askSetting->GZ,codeAny_mono->G7,wpAny_setEntries_of->Hd,wpAny_attempt->He,wpAny_execs_nil->Hj,wpAny_pyIter_list->Hn,tupleKind_room_in1->HG,fits_of_scanBound->HS,entryFor_of_tree->Ih,wpAny_updateSeq->Io,codeAny_handlers_test->Ip,wpAny_of_eq->Iw,wpAny_loadPart->Ix,wpAny_fieldsOf->Iy,sizeLine_eq->Iz,isSubtype_stop->IA,entryFor_alias->IB,wpAny_handleBy_cons->II,call_meets->IM,wpAny_sequenceKey->IX,wpAny_pyIter_slot->IY,wpAny_pyIter_zip->K',wpAny_execs_cons->La,noFill_tuple_add->Lb
open List renaming getElem?_eq_getElem->Ed,length_map->Ef,length_append->Ei,size_toArray->Ej,getElem?_map->Eo,mem_append_right->Ex,mem_cons_self->Ez,mem_of_getElem?->EA,mem_cons_of_mem->EB,length_take->ED,map_append->EK,not_mem_nil->EL,length_cons->EM,take_length->Fc,mem_of_mem_take->Fe,lookup_cons->Fo,getElem?_eq_none->Fp,map_cons->FF,mem_append_left->FH,take_add_one->FK,map_map->FS,forIn_cons->FV,take_of_length_le->FY,length_drop->Ga,getElem?_append_right->Gb,getElem?_append_left->Gg,find?_cons->Gi,take_sublist->Gn,getElem?_set_ne->Go,mem_cons->Gr,length_singleton->Gz,take_succ->GJ,getD_eq_getElem?_getD->GK,forIn_nil->GL,getElem_mem->GQ,mem_append->GY,getElem?_set_self->Hi,length_replicate->Hk,getElem?_reverse->Hl,reverse_cons->Hv,map_take->Hy,append_cancel_right->Hz,any_cons->HF,getElem_cons_drop->HQ,of_mem_zip->HV,length_set->HW,length_filter_le->Ig,nodup_nil->Ii,filterMap_cons->Il,mem_singleton->Iu,length_range->IE,getElem?_inj->IF,eraseIdx_eq_take_drop_succ->IH,nodup_cons->IQ,length_zip->IR,length_nil->IS,length_eraseIdx_of_lt->I8,getElem?_zip_eq_some->J',all_cons->Le,getElem?_replicate->Lk,append_cancel_left->Ll
open PySem.Heap renaming get?_push_of_some->Eg,lt_size->Ek,get?_push_size->El,get?_update_other->Ey,get?_update_self->ET,size_push->Fh
open Nat renaming le_refl->Eh,ne_of_lt->En,le_trans->Es,lt_of_lt_of_le->Et,zero_le->Eu,ne_of_gt->Fi,lt_irrefl->Fn,le_add_right->FG,le_of_ble_eq_true->FN,succ_le_succ->FP,lt_succ_self->FQ,lt_of_le_of_lt->FR,le_succ->Gm,not_lt_zero->Gy,lt_succ_of_lt->GF,le_of_lt->GP,min_eq_left->GX,lt_of_succ_lt->Hu,le_of_not_lt->HK,sub_self->HN,lt_or_ge->HP,sub_zero->IC,le_of_eq->ID,le_max_right->IL,min_le_left->IN,le_max_left->IP
open Bool renaming false_ne_true->Em,false_eq_true->Ep,and_eq_true->Fx,not_true->GV,and_false->Hs,eq_iff_iff->HZ,or_false->Lg
open Array renaming length_toList->EC,getElem?_toList->Ge,getElem?_eq_getElem->Gh,getElem?_eq_none->HR,size_append->IG
open PySem.F renaming plainAttrs_list->EF,type_list_append->EO,slot_list_append->EQ,slot_zip_next->FD,slot_tuple_iterator_next->Gk,plain_list_iadd->G8,args_zip_next_1->Hc,plainAttrs_str->Hg,entry_zip_next->Hh,args_tuple_add_2->Hw,entry_tuple_add->HJ,slot_tuple_add->HM,type_str_join->Ib,slot_str_join->Ic,slot_dict_get->Ie,args_tuple_iterator_next_1->Ir,entry_tuple_iterator_next->Iv,plain_proto_collect->IU,entry_proto_collect->IV,args_object_init_2->I0,plain_extend_loop->I9,type_list_extend->Lc,slot_list_extend->Ld,plain_tuple_new->Lh,entry_list_iadd->Li,args_dict_get_3->Lj
open PySem.Obj renaming data_mapFields->ER,isFreed_of_fields->Fv,cls_mapFields->Ho
open Ne renaming symm->ES
open Option.some renaming inj->EU
open Int renaming emod_lt_of_pos->EW,emod_nonneg->Fj,toNat_natCast->Fs,eq_ofNat_of_zero_le->Lm
open PySem.PassesOwn renaming never->EZ
open PyProof.Rows renaming callWith_type1->Ff,boot_tuple->Ft,boot_isinstance->FM,slot_tuple_getitem->Gs,boot_int->HL
open PySem.Around renaming under_plainId->Fk
open PySem.W renaming mg_none_of->FT,kia_one->HI,methodCall_KW->Ia,plainGet_of->Ij,looks_mroIn->IJ,callWith_K->IZ
open PySem.Heap.SameBut renaming update->Gc
open PySem.Calls renaming spliced_cons->Gp,spliced_nil->GS,callWith_builtin->Im
open PyProof.Rows.F renaming plain_set_update_loop->GU,entry_set_update_loop->Ik
open PySem.Value renaming isStrOf_shape->Ht
open Option renaming map_some->HU,getD_none->IK
open PySem.W.KFB renaming if_not->Iq
open Iff renaming rfl->IW
noncomputable def Er:=@if_pos
noncomputable def Ew:=@if_neg
noncomputable def EE:=@trivial
noncomputable def EH:=@decide_eq_false
noncomputable def EN:=@decide_eq_true
noncomputable def Fy:=@if_false
noncomputable def Fz:=@of_decide_eq_true
noncomputable def FE:=@congrArg
noncomputable def Gj:=@bne_self_eq_false
noncomputable def Hf:=@if_true
noncomputable def Hm:=@beq_self_eq_true
noncomputable def Hq:=@or_false
noncomputable def Hr:=@of_decide_eq_false
local macro_rules|`(#[$x,*])=>`(⟨$x,*⟩)
local macro_rules|`(tactic|omega)=>`(tactic|lia)
namespace _L
open PySem PySem.Spec PyProof.Rows
noncomputable abbrev bo:=Sum Int Str
noncomputable def h9:bo->Value->Bool
 | .inl k,v=>Value.isInt k v
 | .inr x,v=>Value.isStrOf x v
noncomputable def C3(w:World):bo->Int
 | .inl k=>hashInt k
 | .inr x=>hashStr w x
theorem jZ:∀{k:bo} {v:Value},h9 k v=true->(∃i t,k=Sum.inl i/\v=Value.int i t)∨(∃x t,k=Sum.inr x/\v=Value.str x t)
 | .inl i,v,h=>by
  obtain⟨t,e⟩:=Value.isInt_shape (k:=i) (v:=v) h
  exact .inl #[i,t,Z,e]
 | .inr x,v,h=>by
  obtain⟨t,e⟩:=Ht (x:=x) (v:=v) h
  exact .inr #[x,t,Z,e]
theorem YY(i:Int)(t:Tok):h9 (.inl i) (.int i t)=true:=by simp [h9,Value.isInt]
theorem YZ(x:Str)(t:Tok):h9 (.inr x) (.str x t)=true:=by simp [h9,Value.isStrOf]
theorem xH(a b:Int):decide ((Sum.inl a:bo)=Sum.inl b)=(a==b):=by
 by_cases e:a=b
 ·subst e;simp
 ·have h:¬(Sum.inl a:bo)=Sum.inl b:=λq=>e (Sum.inl.inj q)
  rw[EH h]
  exact(beq_eq_false_iff_ne.mpr e).symm
theorem xK(a b:Str):decide ((Sum.inr a:bo)=Sum.inr b)=decide (a=b):=by
 by_cases e:a=b
 ·subst e;simp
 ·have h:¬(Sum.inr a:bo)=Sum.inr b:=λq=>e (Sum.inr.inj q)
  rw[EH h,EH e]
theorem xI(a:Int)(b:Str):decide ((Sum.inl a:bo)=Sum.inr b)=false:=EH (λq=>nomatch q)
theorem xJ(a:Str)(b:Int):decide ((Sum.inr a:bo)=Sum.inl b)=false:=EH (λq=>nomatch q)
noncomputable def aS(p:Program)(w:World):PySem.KeyKind p w bo where
 is:=h9
 hash:=C3 w
 inj:=λv a b d c=>by
  rcases jZ d with ⟨i,t,rfl,rfl⟩ | ⟨x,t,rfl,rfl⟩
  ·rcases jZ c with ⟨j,u,rfl,e⟩ | ⟨y,u,rfl,e⟩
   ·injection e with E _;rw[E]
   ·exact nomatch e
  ·rcases jZ c with ⟨j,u,rfl,e⟩ | ⟨y,u,rfl,e⟩
   ·exact nomatch e
   ·injection e with E _;rw[E]
 byValue:=λk v h=>by
  rcases jZ h with ⟨i,t,rfl,rfl⟩ | ⟨x,t,rfl,rfl⟩<;>rfl
 pyHash:=λH h=>by
  rcases jZ H with ⟨i,t,rfl,rfl⟩ | ⟨x,t,rfl,rfl⟩
  ·exact wpAny_pyHash_int h
  ·exact wpAny_pyHash_str h
 eqBool:=λf H h=>by
  rcases jZ f with ⟨i,t,rfl,rfl⟩ | ⟨x,t,rfl,rfl⟩
  ·rcases jZ H with ⟨j,u,rfl,rfl⟩ | ⟨y,u,rfl,rfl⟩
   ·rw[xH]at h;exact wpAny_eqBool_int h
   ·rw[xI]at h;exact SeqAt.EqAt.int_str i t y u _ _ _ _ h
  ·rcases jZ H with ⟨j,u,rfl,rfl⟩ | ⟨y,u,rfl,rfl⟩
   ·rw[xJ]at h;exact SeqAt.EqAt.str_int x t j u _ _ _ _ h
   ·rw[xK]at h;exact wpAny_eqBool_str h
 «strs»:=λk x t v h=>by
  rcases jZ h with ⟨i,u,rfl,e⟩ | ⟨y,u,rfl,e⟩
  ·exact nomatch e
  ·injection e with E _
   subst E
   cases v<;>rfl
theorem Xf(p:Program)(w:World)(i:Int)(t:Tok):(aS p w).is (.inl i) (.int i t)=true:=YY i t
theorem Xg(p:Program)(w:World)(x:Str)(t:Tok):(aS p w).is (.inr x) (.str x t)=true:=YZ x t
end _L
namespace _L
open PySem PySem.Spec PyProof.Rows
inductive V where
 |non |bl (b:Bool) |int (i:Int) |str (x:Str) |byt (b:Array UInt8) |flt (b:UInt64) |ref (a:Addr) |ty (n:String)
 deriving DecidableEq
set_option genInjectivity false
noncomputable def aB:V->Value->Prop
 | .non,u=>u=Value.none
 | .bl b,u=>u=Value.bool b
 | .int i,u=>∃t,u=Value.int i t
 | .str x,u=>∃t,u=Value.str x t
 | .byt b,u=>∃t,u=Value.bytes b t
 | .flt b,u=>∃t,u=Value.float b t
 | .ref a,u=>u=Value.ref a
 | .ty n,u=>u=Value.type n
noncomputable abbrev ay:List V->List Value->Prop:=Paired aB
theorem ay.length(r:ay x u):x.length=u.length:=Paired.length r
theorem ay.get:∀{X:List V} {U:List Value} {i:Nat} {x:V},ay X U->X[i]?=some x->∃u,U[i]?=some u/\aB x u
 |_,_,_,_,.nil,e=>by simp at e
 |_,_,0,_,.cons r _,e=>by simp at e;subst e;exact#[_,Z,r]
 |_,_,i+1,x,.cons _ t,e=>by
  obtain⟨u,h,H⟩:=ay.get (i:=i) (x:=x) t (by simpa using e)
  exact#[u,by simpa using h,H]
theorem ay.set(r:aB x u):∀{X:List V} {U:List Value} (i:Nat),ay X U->ay (X.set i x) (U.set i u)
 |_,_,_,.nil=>.nil
 |_,_,0,.cons _ t=>.cons r t
 |_,_,i+1,.cons q t=>.cons q (ay.set r i t)
theorem ay.append:∀{x y:List V} {u w:List Value},ay x u->ay y w->ay (x++y) (u++w)
 |_,_,_,_,.nil,s=>s
 |_,_,_,_,.cons r t,s=>.cons r (ay.append t s)
theorem ay.take:∀{x:List V} {u:List Value} (n:Nat),ay x u->ay (x.take n) (u.take n)
 |_,_,0,_=>.nil
 |_,_,_+1,.nil=>.nil
 |_,_,n+1,.cons r t=>.cons r (ay.take n t)
theorem ay.drop:∀{x:List V} {u:List Value} (n:Nat),ay x u->ay (x.drop n) (u.drop n)
 |_,_,0,r=>r
 |_,_,_+1,.nil=>.nil
 |_,_,n+1,.cons _ t=>ay.drop n t
noncomputable def dH:Option V->Option Value->Prop
 |some v,some u=>aB v u
 |none,none=>True
 |_,_=>False
noncomputable def KV{a:Type}:List (a×V)->List (a×Value)->Prop:=Paired λ(p:a×V) (q:a×Value)=>p.1=q.1/\aB p.2 q.2
noncomputable def kV:bo->V
 | .inl i=>.int i
 | .inr x=>.str x
inductive HO where
 |lst (xs:List V)
 |tup (xs:List V)
 |dK (kvs:List (bo×V)) |dT (kvs:List (List bo×V))
 |set (S:Int->Bool) (n:Nat)
 |ins (C dx:Addr) (fs:List (Str×V))
 |own (x:Addr)
 |xd (fs:List (Str×V))
 |met (f x:Addr)
 |rng (lo hi:Int)
 |frz (o:Obj) (u:HO)
 |tbl (ps:Array Value)
 |ext (φ:Heap->Prop)
noncomputable abbrev Hp:=Addr->Option HO
noncomputable def ah(H:Hp)(a:Addr)(o:HO):Hp:=λb=>if b=a then some o else H b
theorem jc:ah H a o a=some o:=by unfold ah;rw[Er Z]
theorem jl(h:b≠a):ah H a o b=H b:=by unfold ah;rw[Ew h]
theorem jQ{H:Hp}{a:Addr}(h:H a=some o)(c:H b=some u)(d:o≠u):a≠b:=by
 intro e;subst e;rw[h]at c;exact d (EU c)
theorem jo{H:Hp}(h:H a=some o)(c:H b=none):a≠b:=by
 intro e;subst e;rw[h]at c;cases c
section
variable (P:Program)(w:World)
noncomputable def aJ(H:Hp)(h:Heap)(a:Addr):HO->Prop
 | .lst X=>X.length<=sizeLine/\∃(i:List Value) (n:Nat),ay X i/\h.get? a=some { cls:=.type "list",data:=.seq i.toArray n }
 | .tup X=>X.length<=sizeLine/\∃i:List Value,ay X i/\IsTup h a i.toArray
 | .dK k=>k.length<=sizeLine/\(a==sysModules)=false/\∃c,KV k c/\h.DictOf (aS P w) a c
 | .dT k=>k.length<=sizeLine/\(a==sysModules)=false/\∃X:List (List bo×Addr×Value),
   Paired (λ(p:List bo×V) (q:List bo×Addr×Value)=>p.1=q.1/\H q.2.1=some (.tup (p.1.map kV))/\aB p.2 q.2.2) k X/\
   ∃o e E,h.get? a=some o/\o.ExactDict/\o.data= .dict e E/\e.toList=X.map (entryOfKey (tupleKind (aS P w)))/\(X.map (·.1)).Nodup
 | .set S n=>h.SetOf (intKind P w) a S n
 | .ins C d F=>H d=some (.own a)/\F.length<=1000/\d≠a/\h.get? a=some (instObj C d)/\
   ∃m,h.Ns1 d m/\(∀f,dH (F.lookup f) (m f))/\PySem.Within m (F.map (·.1))
 | .own _=>∃o,h.get? a=some o
 | .xd F=>∃m,h.Ns1 a m/\∀f,dH (F.lookup f) (m f)
 | .rng lo l=>∃t u v,h.get? a=some { cls:=.type "range",data:=.fields (List.toArray [.int lo t,.int l u,.int 1 v]) }
 | .frz o u=>h.get? a=some o/\aJ H h a u
 | .tbl r=>h.get? a=some { cls:=.none,data:=.fields r }
 | .met f x=>h.get? a=some (PySem.W.methodObj (.ref f) (.ref x))
 | .ext b=>b h/\(∃o,h.get? a=some o)/\∀g j:Heap,b g->(∀o,g.get? a=some o->j.get? a=some o)->b j
noncomputable def dZ(H:Hp)(h:Heap):Prop:=∀a o,H a=some o->aJ P w H h a o
end
section
variable {P:Program}{w:World}{H H':Hp}{h h':Heap}{a:Addr}{o:HO}
theorem aJ.lt(x:aJ P w H h a o):a < h.objs.size:=by
 cases o with
 |lst X=>obtain⟨_,_,_,_,e⟩:=x;exact Ek e
 |tup X=>obtain⟨_,_,_,p⟩:=x;exact p.lt
 |dK k=>obtain⟨_,_,_,_,o,_,_,e,_⟩:=x;exact Ek e
 |dT k=>obtain⟨_,_,_,_,o,_,_,e,_⟩:=x;exact Ek e
 |set S n=>obtain⟨o,_,_,_,e,_⟩:=x;exact Ek e
 |ins C d F=>obtain⟨_,_,_,e,_⟩:=x;exact Ek e
 |own y=>obtain⟨_,e⟩:=x;exact Ek e
 |xd F=>obtain⟨_,⟨_,_,_,e,_⟩,_⟩:=x;exact Ek e
 |rng lo b=>obtain⟨_,_,_,e⟩:=x;exact Ek e
 |frz O u=>obtain⟨e,_⟩:=x;exact Ek e
 |tbl c=>exact Ek (show h.get? a=some _ from x)
 |met f y=>exact Ek (show h.get? a=some _ from x)
 |ext g=>obtain⟨_,⟨_,e⟩,_⟩:=x;exact Ek e
theorem Paired.mapP{c d:Type}{F G:c->d->Prop}:∀{l:List c} {L:List d},Paired F l L->(∀a b,F a b->G a b)->Paired G l L
 |_,_,.nil,_=>.nil
 |_,_,.cons r t,f=>.cons (f _ _ r) (Paired.mapP t f)
theorem aJ.stay(x:aJ P w H h a o)(k:∀b u,(b=a∨H b=some (.own a))->h.get? b=some u->h'.get? b=some u)
  (s:∀b,H b=some (.own a)->H' b=some (.own a)) (A:∀b X,H b=some (.tup X)->H' b=some (.tup X)):aJ P w H' h' a o:=by
 induction o with
 |lst X=>obtain⟨z,i,n,r,e⟩:=x;exact#[z,i,n,r,k _ _ (.inl Z) e]
 |tup X=>obtain⟨z,i,r,O,e,c⟩:=x;exact#[z,i,r,O,k _ _ (.inl Z) e,c]
 |dK K=>obtain⟨z,y,V,r,O,E,g,e,c⟩:=x;exact#[z,y,V,r,O,E,g,k _ _ (.inl Z) e,c]
 |dT K=>
  obtain⟨z,y,X,r,O,E,g,e,c⟩:=x
  exact#[z,y,X,Paired.mapP r λp q z=>#[z.1,A _ _ z.2.1,z.2.2],O,E,g,k _ _ (.inl Z) e,c]
 |set S n=>obtain⟨O,E,g,t,e,c⟩:=x;exact#[O,E,g,t,k _ _ (.inl Z) e,c]
 |ins C D F=>
  obtain⟨d,z,N,e,m,⟨j,E,g,B,c⟩,r⟩:=x
  exact#[s _ d,z,N,k _ _ (.inl Z) e,m,#[j,E,g,k _ _ (.inr d) B,c],r]
 |own y=>obtain⟨O,e⟩:=x;exact#[O,k _ _ (.inl Z) e]
 |xd F=>obtain⟨m,⟨j,E,g,e,c⟩,r⟩:=x;exact#[m,#[j,E,g,k _ _ (.inl Z) e,c],r]
 |rng lo G=>obtain⟨t,u,v,e⟩:=x;exact#[t,u,v,k _ _ (.inl Z) e]
 |frz O u I=>obtain⟨e,q⟩:=x;exact#[k _ _ (.inl Z) e,I q]
 |tbl l=>
  have e:h.get? a=some { cls:=.none,data:=.fields l }:=x
  show h'.get? a=some { cls:=.none,data:=.fields l }
  exact k a _ (.inl Z) e
 |met f y=>
  have e:h.get? a=some (PySem.W.methodObj (.ref f) (.ref y)):=x
  show h'.get? a=some (PySem.W.methodObj (.ref f) (.ref y))
  exact k a _ (.inl Z) e
 |ext J=>obtain⟨p,⟨o,e⟩,st⟩:=x;exact#[st _ _ p λo q=>k _ _ (.inl Z) q,#[o,k _ _ (.inl Z) e],st]
theorem dZ.lt(x:dZ P w H h)(e:H a=some o):a < h.objs.size:=(x a o e).lt
theorem dZ.fresh(x:dZ P w H h)(e:h.objs.size<=a):H a=none:=by
 cases q:H a with
 |none=>rfl
 |some u=>exact absurd (Et (x.lt q) e) (Fn _)
theorem dZ.kept(x:dZ P w H h)(k:∀b u,h.get? b=some u->h'.get? b=some u):dZ P w H h':=λa o e=>
 (x a o e).stay (λb u _ q=>k b u q) (λ_ q=>q) λ_ _ q=>q
theorem dZ.laid(x:dZ P w H h)(k:∀b u,h.get? b=some u->h'.get? b=some u)(g:h.objs.size<=a)(n:aJ P w (ah H a o) h' a o):dZ P w (ah H a o) h':=λb u e=>by
 have d:=x.fresh g
 by_cases f:b=a
 ·subst f;rw[jc]at e;cases e;exact n
 ·rw[jl f]at e
  exact(x b u e).stay (λc v _ q=>k c v q) (λc q=>by rw[jl (jo q d)];exact q) λc X q=>by rw[jl (jo q d)];exact q
end
noncomputable def Rd(H:Hp)(a:Addr)(u:HO):Prop:=H a=some u∨∃o,H a=some (.frz o u)
theorem Rd.ok{P:Program}(r:Rd H a u)(x:dZ P w H h):aJ P w H h a u:=by
 rcases r with r | ⟨o,r⟩
 ·exact x a u r
 ·obtain⟨_,q⟩:=x a _ r
  exact q
noncomputable def Ay:Option HO->Prop
 |some (.lst _)=>True
 |some (.dK _)=>True
 |some (.dT _)=>True
 |some (.set _ _)=>True
 |some (.ins _ _ _)=>True
 |some (.ext _)=>True
 |_=>False
section
variable {P:Program}{w:World}{H:Hp}{h h':Heap}{x e:Addr}{o':HO}
theorem dZ.write(o:dZ P w H h)(m:Ay (H x))(i:e=x∨H e=some (.own x))(k:∀b u,b≠e->h.get? b=some u->h'.get? b=some u)(f:∃u,h'.get? e=some u)
  (g:aJ P w (ah H x o') h' x o'):dZ P w (ah H x o') h':=λb u q=>by
 have n:∀c y,H c=some (.own y)->c≠x:=λc y r z=>by subst z;rw[r]at m;exact m
 have N:∀c X,H c=some (.tup X)->c≠x:=λc X r z=>by subst z;rw[r]at m;exact m
 by_cases d:b=x
 ·subst d;rw[jc]at q;cases q;exact g
 ·rw[jl d]at q
  by_cases a:b=e
  ·have Q:H b=some (.own x):=by
    rcases i with z |z
    ·exact absurd (a.trans z) d
    ·rw[a];exact z
   rw[q]at Q;cases Q
   obtain⟨v,j⟩:=f
   exact#[v,by rw[a];exact j]
  ·refine(o b u q).stay (λc v hc r=>k c v ?_ r) (λc r=>by rw[jl (n c b r)];exact r) λc X r=>by rw[jl (N c X r)];exact r
   rcases hc with rfl |hc
   ·exact a
   ·rintro rfl
    rcases i with z |z
    ·exact n c b hc z
    ·rw[hc]at z;cases z;exact d Z
end
structure Un(fs ex:List Addr)(H H':Hp)(h h':Heap):Prop where
 keep:∀b o,h.get? b=some o->H b=none->b∉fs->b∉ex->h'.get? b=some o
 slot:∀b o,h.get? b=some o->H b=none->b∈fs->b∉ex->∃sl,h'.get? b=some { o with slots:=sl }
 free:∀b o,h.get? b=some o->H b=none->b∉ex->H' b=none
 there:∀b o,h.get? b=some o->b∉ex->∃o',h'.get? b=some o'
 tups:∀b xs,H b=some (.tup xs)->H' b=some (.tup xs)
 frzs:∀b o u,H b=some (.frz o u)->H' b=some (.frz o u)
 tbls:∀b ps,H b=some (.tbl ps)->∃more,H' b=some (.tbl (ps++more))
section
variable {fs fs' ex ex':List Addr}{H H1 H2:Hp}{h h1 h2 h':Heap}{a x e:Addr}{o:HO}
theorem Un.any(u:Un fs ex H H1 h h1)(q:h.get? b=some O)(n:H b=none)(c:b∉ex):∃s,h1.get? b=some { O with slots:=s }:=by
 by_cases d:b∈fs
 ·exact u.slot b O q n d c
 ·exact#[O.slots,u.keep b O q n d c]
theorem Un.kept(k:∀b u,h.get? b=some u->h'.get? b=some u):Un fs ex H H h h':=
 #[λb O q _ _ _=>k b O q,λb O q _ _ _=>#[O.slots,k b O q],λ_ _ _ n _=>n,λb O q _=>#[O,k b O q],λ_ _ q=>q,λ_ _ _ q=>q,λ_ p q=>#[(List.toArray []),by rw[q];simp]]
theorem Un.refl:Un fs ex H H h h:=Un.kept λ_ _ q=>q
theorem Un.laid(k:∀b u,h.get? b=some u->h'.get? b=some u)(d:h.objs.size<=a)(c:H a=none):Un fs ex H (ah H a o) h h' where
 keep:=λb u q _ _ _=>k b u q
 slot:=λb u q _ _ _=>#[u.slots,k b u q]
 free:=λb u q n _=>by rw[jl (En (Et (Ek q) d))];exact n
 there:=λb u q _=>#[u,k b u q]
 tups:=λb X q=>by rw[jl (jo q c)];exact q
 frzs:=λb u X q=>by rw[jl (jo q c)];exact q
 tbls:=λb p q=>#[(List.toArray []),by rw[jl (jo q c),q];simp]
theorem Un.write(m:Ay (H x))(j:e=x∨H e=some (.own x))(k:∀b u,b≠e->h.get? b=some u->h'.get? b=some u)(d:∃u,h'.get? e=some u):Un fs ex H (ah H x o) h h':=by
 have g:∀b,H b=none->b≠x:=λb n z=>by subst z;rw[n]at m;exact m
 have i:∀b,H b=none->b≠e:=λb n z=>by
  subst z
  rcases j with r |r
  ·exact g b n r
  ·rw[n]at r;cases r
 have f:∀b u,H b=some u->¬Ay (some u)->b≠x:=λb u q N z=>by subst z;rw[q]at m;exact N m
 refine#[λb u q n _ _=>k b u (i b n) q,λb u q n _ _=>#[u.slots,k b u (i b n) q],λb u q n _=>by rw[jl (g b n)];exact n,λb u q _=>?_,
  λb X q=>by rw[jl (f b _ q λz=>z)];exact q,λb u X q=>by rw[jl (f b _ q λz=>z)];exact q,λb p q=>#[(List.toArray []),by rw[jl (f b _ q λz=>z),q];simp]]
 by_cases c:b=e
 ·subst c;exact d
 ·exact#[u,k b u c q]
end
noncomputable def CC(h:Heap)(H:Hp):List Addr:=(List.range h.objs.size).filter λa=>(H a).isSome
noncomputable def iq(h:Heap)(H:Hp):Heap:=PySem.W.hideAll h (CC h H)
theorem Y0(h:Heap)(H:Hp):(iq h H).objs.size=h.objs.size:=PySem.W.hideAll_size _ _
theorem oQ{h:Heap}{H:Hp}(e:h.get? b=some o)(n:H b=none):(iq h H).get? b=some o:=
 PySem.W.hideAll_get _ e λa=>by
  have q:(H b).isSome=true:=(List.mem_filter.mp a).2
  rw[n]at q;simp at q
theorem uu(e:(iq h H).get? b=some o):h.get? b=some o/\H b=none:=by
 have E:h.get? b=some o:=PySem.W.of_hideAll (CC h H) e
 refine#[E,?_]
 cases q:H b with
 |none=>rfl
 |some x=>
  have a:b∈CC h H:=List.mem_filter.mpr #[List.mem_range.mpr (Ek E),by simp [q]]
  have z:(iq h H).get? b=none:=PySem.W.hideAll_none (CC h H) a
  rw[z]at e;cases e
end _L
namespace _L
open PySem PySem.Spec PyProof.Rows
structure Mod(K:Frag)(mg:Str->Option Value)(base:Heap):Prop where
 kin:K.In base
 glob:base.Ns mainGlobals mg
 blt:∃mb,base.Ns builtinsNs mb/\∀x:Str,x≠"__name__"->mb x=bootBuiltins x
 nolimit:base.NoLimit
structure Cx where
 prog:Program
 w:World
 K:Frag
 mg:Str->Option Value
 base:Heap
 A:Around
 N:List Str
 s₀:Shared
 H₀:Hp
 env:Env
 outer:List Env
 stack:List Env
 ex:List Addr
 fn:Str->Bool
 calm:Bool
 pn:List (Addr×Obj)
 xe:Value->Shared->Prop
noncomputable def hZ(l:List Env):List Addr:=l.filterMap (·.frame)
noncomputable abbrev Cx.fs(X:Cx):List Addr:=hZ X.outer
noncomputable def Co(s:Scope)(x:Str):Prop:=s.names.lookup x=some .local∨s.names.lookup x=some .cell∨s.names.lookup x=some .free
noncomputable def n6(s:Scope)(x:Str):Prop:=s.names.lookup x=some .local∨s.names.lookup x=some .cell
noncomputable def CJ(e:Env)(h:Heap)(m:Str->Option Value)(x:Str)(u:Value):Prop:=
 (e.kindOf x=some .local/\m x=some u)∨((e.kindOf x=some .cell∨e.kindOf x=some .free)/\∃c,e.cells.lookup x=some c/\h.IsCell c (some u))
structure Cx.Ok(X:Cx):Prop where
 mod:Mod X.K X.mg X.base
 kind:X.env.scope.kind= .function
 glob:X.env.globals=mainGlobals
 blt:X.env.builtins=builtinsNs
 above:X.s₀.heap.objs.size<=X.env.locals
 inj:∀x y c,X.env.cells.lookup x=some c->X.env.cells.lookup y=some c->x=y
 has:∀x,(X.env.kindOf x=some .cell∨X.env.kindOf x=some .free)->∃c,X.env.cells.lookup x=some c
 cab:∀x c,X.fn x=true->X.env.cells.lookup x=some c->X.s₀.heap.objs.size<=c
 hd:X.calm=true->X.A.handled=none
 frames:X.A.frames=some X.stack
 stk:X.stack=X.outer∨(X.stack=X.env::X.outer/\X.env.frame=some X.env.locals)
 exf:∀b∈X.ex,b≠X.env.locals/\∀x c,X.env.cells.lookup x=some c->c≠b
 bs:∀b o,X.base.get? b=some o->X.s₀.heap.get? b=some o/\X.H₀ b=none
 bsz:X.base.objs.size<=X.s₀.heap.objs.size
 noex:∀b o,X.base.get? b=some o->b∉X.ex
 exfs:∀b∈X.ex,b∉X.fs
 funs:X.s₀.heap.FunFrames X.base X.outer
 frf:∀b∈X.fs,X.H₀ b=none
structure ao(X:Cx)(pins:List (Addr×Obj))(σ:List (Option V))(H:Hp)(s:Shared):Prop where
 ok:X.Ok
 os:s.os=X.s₀.os
 bare:AllBare s.gens
 base:Un X.fs X.ex X.H₀ H X.s₀.heap s.heap
 loc:∃m,s.heap.Ns X.env.locals m/\∀(i:Nat) (x:Str) (v:V),X.N[i]?=some x->σ[i]?=some (some v)->Co X.env.scope x->∃u,aB v u/\CJ X.env s.heap m x u
 cell:∀x c,X.env.cells.lookup x=some c->∃v,s.heap.IsCell c v
 free:H X.env.locals=none
 freeC:∀x c,X.env.cells.lookup x=some c->H c=none
 pin:∀p∈X.pn++pins,s.heap.get? p.1=some p.2/\H p.1=none/\p.1≠X.env.locals/\p.1∉X.fs/\∀v,p.2.data≠ .cell v
 hok:dZ X.prog X.w H s.heap
 len:σ.length=X.N.length
section
variable {X:Cx}{pins:List (Addr×Obj)}{σ:List (Option V)}{H H':Hp}{s:Shared}{h':Heap}
theorem Cx.Ok.nofr(O:X.Ok)(e:X.base.get? b=some o):b∉X.fs:=λh=>by
 have:=(O.funs.mem h).1
 rw[e]at this;cases this
theorem ao.bs(I:ao X pins σ H s):∀b o,X.base.get? b=some o->s.heap.get? b=some o/\H b=none:=λb o e=>
 #[I.base.keep b o (I.ok.bs b o e).1 (I.ok.bs b o e).2 (I.ok.nofr e) (I.ok.noex b o e),I.base.free b o (I.ok.bs b o e).1 (I.ok.bs b o e).2 (I.ok.noex b o e)]
theorem ao.bk(I:ao X pins σ H s):∀b o,X.base.get? b=some o->s.heap.get? b=some o:=λb o e=>(I.bs b o e).1
theorem ao.mod(I:ao X pins σ H s):Mod X.K X.mg X.base:=I.ok.mod
theorem ao.kIn(I:ao X pins σ H s):X.K.In s.heap:=I.ok.mod.kin.keeps I.bk
theorem ao.lt(I:ao X pins σ H s):X.env.locals < s.heap.objs.size:=let #[_,h,_]:=I.loc;h.lt
theorem ao.sz(I:ao X pins σ H s):X.s₀.heap.objs.size<=s.heap.objs.size:=Es I.ok.above (GP I.lt)
theorem ao.nofs(I:ao X pins σ H s)(h:s.heap.objs.size<=a):a∉X.fs:=λb=>by
 obtain⟨_,o,c,_⟩:=I.ok.funs.mem b
 exact absurd (Et (Ek c) (Es I.sz h)) (Fn _)
theorem ao.cne(I:ao X pins σ H s):∀x c,X.env.cells.lookup x=some c->c≠X.env.locals:=λx c e z=>by
 obtain⟨v,o,b,d⟩:=I.cell x c e
 obtain⟨m,⟨O,E,f,h,a,_⟩,_⟩:=I.loc
 rw[z,h]at b;cases b;rw[a]at d;cases d
theorem ao.funs(I:ao X pins σ H s):s.heap.FunFrames X.base X.outer:=by
 have all:∀(l:List Env),(∀b∈hZ l,b∈X.fs)->X.s₀.heap.FunFrames X.base l->s.heap.FunFrames X.base l:=by
  intro l
  induction l with
  |nil=>intro _ _;trivial
  |cons E r i=>
   intro d f
   obtain⟨g,⟨L,o,h,j,k,m⟩,n⟩:=f
   have a:L∈X.fs:=d L (by unfold hZ;rw[List.filterMap_cons,h];exact List.mem_cons_self)
   obtain⟨S,e⟩:=I.base.slot L o k (I.ok.frf L a) a λz=>I.ok.exfs L z a
   exact#[g,#[L,_,h,j,e,m],i (λb c=>d b (by unfold hZ;rw[List.filterMap_cons,h];exact List.mem_cons_of_mem _ c)) n]
 exact all X.outer (λ_ c=>c) I.ok.funs
theorem ao.stack(I:ao X pins σ H s):s.heap.FunFrames X.base X.stack:=by
 rcases I.ok.stk with e | ⟨e,h⟩
 ·rw[e];exact I.funs
 ·rw[e]
  obtain⟨m,a,_⟩:=I.loc
  refine .cons (by rw[I.ok.kind];decide) h a ?_ I.funs
  exact Heap.get?_none_of_le (Es I.ok.bsz I.ok.above)
theorem ao.stkSub(I:ao X pins σ H s):∀b∈hZ X.stack,b∈X.env.locals::X.fs:=λb h=>by
 rcases I.ok.stk with e | ⟨e,a⟩
 ·rw[e]at h;exact EB _ h
 ·rw[e]at h
  unfold hZ at h
  rw[Il,a]at h
  exact h
theorem ao.stkFree(I:ao X pins σ H s):∀b∈hZ X.stack,H b=none:=λb hb=>by
 rcases List.mem_cons.mp (I.stkSub b hb) with e |hb
 ·rw[e];exact I.free
 ·obtain⟨_,o,h,_⟩:=I.ok.funs.mem hb
  exact I.base.free b o h (I.ok.frf b hb) λz=>I.ok.exfs b z hb
theorem ao.step{g':Array GenState}{d':Drawn}{ch:List Addr}(I:ao X pins σ H s)
  (a:∀b∈ch,(b∈X.ex∨X.s₀.heap.objs.size<=b)/\b≠X.env.locals/\(∀x c,X.env.cells.lookup x=some c->c≠b)/\∀p∈X.pn++pins,p.1≠b)
  (K:∀b o,b≠X.env.locals->b∉X.fs->b∉ch->s.heap.get? b=some o->H b=none->h'.get? b=some o)
  (S:∀b o,b≠X.env.locals->b∈X.fs->b∉ch->s.heap.get? b=some o->H b=none->∃J,h'.get? b=some { o with slots:=J }) (f:∀b o,b∉ch->s.heap.get? b=some o->H b=none->H' b=none)
  (t:∀b o,b∉ch->s.heap.get? b=some o->∃O,h'.get? b=some O)
  (T:∀b j,H b=some (.tup j)->H' b=some (.tup j)) (F:∀b o u,H b=some (.frz o u)->H' b=some (.frz o u)) (B:∀b P,H b=some (.tbl P)->∃M,H' b=some (.tbl (P++M)))
  (ns:∀m,s.heap.Ns X.env.locals m->h'.Ns X.env.locals m) (L:dZ X.prog X.w H' h') (hg:AllBare g'):
  ao X pins σ H' { s with heap:=h',gens:=g',drawn:=d',toks:=t' }:=by
 have D:∀b o,X.s₀.heap.get? b=some o->b≠X.env.locals:=λb o e=>En (Et (Ek e) I.ok.above)
 have g:∀b o,X.s₀.heap.get? b=some o->b∉X.ex->b∉ch:=λb o e h y=>by
  rcases(a b y).1 with z |z
  ·exact h z
  ·exact absurd (Et (Ek e) z) (Fn _)
 have C:∀x c,X.env.cells.lookup x=some c->∀v,s.heap.IsCell c v->h'.IsCell c v:=λx c e v #[o,A,Q]=>by
  have N:c∉ch:=λz=>(a c z).2.2.1 x c e Z
  by_cases U:c∈X.fs
  ·obtain⟨J,q⟩:=S c o (I.cne x c e) U N A (I.freeC x c e)
   exact#[_,q,Q]
  ·exact#[o,K c o (I.cne x c e) U N A (I.freeC x c e),Q]
 refine#[I.ok,I.os,hg,#[λb o e n y h=>?_,λb o e n y h=>?_,λb o e n h=>?_,λb o e h=>?_,λb j e=>T b j (I.base.tups b j e),λb o j e=>F b o j (I.base.frzs b o j e),λb P e=>?_],?_,λx c e=>?_,?_,λx c e=>?_,λp W=>?_,L,I.len]
 ·exact K b o (D b o e) y (g b o e h) (I.base.keep b o e n y h) (I.base.free b o e n h)
 ·obtain⟨J,E⟩:=I.base.slot b o e n y h
  obtain⟨R,G⟩:=S b _ (D b o e) y (g b o e h) E (I.base.free b o e n h)
  exact#[R,G]
 ·obtain⟨O,E⟩:=I.base.there b o e h
  exact f b O (g b o e h) E (I.base.free b o e n h)
 ·obtain⟨O,E⟩:=I.base.there b o e h
  exact t b O (g b o e h) E
 ·obtain⟨m1,E⟩:=I.base.tbls b P e
  obtain⟨m2,G⟩:=B b _ E
  exact#[m1++m2,by rw[G,Array.append_assoc]]
 ·obtain⟨m,hn,hl⟩:=I.loc
  refine#[m,ns m hn,λi x v E G e3=>?_]
  obtain⟨u,r,l⟩:=hl i x v E G e3
  refine#[u,r,?_]
  rcases l with l | ⟨k,c,e,z⟩
  ·exact .inl l
  ·exact .inr #[k,c,e,C x c e _ z]
 ·obtain⟨v,z⟩:=I.cell x c e
  exact#[v,C x c e v z]
 ·obtain⟨m,⟨o,_,_,A,_⟩,_⟩:=I.loc
  exact f _ o (λz=>(a _ z).2.1 Z) A I.free
 ·obtain⟨v,o,A,Q⟩:=I.cell x c e
  exact f c o (λz=>(a c z).2.2.1 x c e Z) A (I.freeC x c e)
 ·obtain⟨e,n,Y,nf,d⟩:=I.pin p W
  have N:p.1∉ch:=λz=>(a p.1 z).2.2.2 p W Z
  exact#[K p.1 p.2 Y nf N e n,f p.1 p.2 N e n,Y,nf,d]
theorem ao.un{t':Nat}(I:ao X pins σ H s)(u:Un X.fs [] H H' s.heap h')(a:dZ X.prog X.w H' h'):ao X pins σ H' { s with heap:=h',toks:=t' }:=by
 obtain⟨m,⟨o,j,k,f,r⟩,_⟩:=id I.loc
 obtain⟨S,g⟩:=u.any f I.free Lp
 exact I.step (g':=s.gens) (d':=s.drawn) (ch:=[]) (λ_ z=>nomatch z) (λb o _ c _ e n=>u.keep b o e n c Lp) (λb o _ c _ e n=>u.slot b o e n c Lp) (λb o _ e n=>u.free b o e n Lp) (λb o _ e=>u.there b o e Lp) u.tups u.frzs u.tbls (λM i=>by
  obtain⟨O,E,d,h,R⟩:=i
  rw[f]at h;cases h
  exact#[_,E,d,g,R]) a I.bare
theorem ao.call{g':Array GenState}{t':Nat}{d':Drawn}{ch:List Addr}(I:ao X pins σ H s)(u:Un (hZ X.stack) ch H H' s.heap h')(f:dZ X.prog X.w H' h')(k:AllBare g')
  (a:∀b∈ch,(b∈X.ex∨X.s₀.heap.objs.size<=b)/\b≠X.env.locals/\(∀x c,X.env.cells.lookup x=some c->c≠b)/\∀p∈X.pn++pins,p.1≠b):
  ao X pins σ H' { s with heap:=h',gens:=g',drawn:=d',toks:=t' }:=by
 obtain⟨m,⟨o,t,v,j,r⟩,_⟩:=id I.loc
 obtain⟨S,g⟩:=u.any j I.free λz=>(a _ z).2.1 Z
 exact I.step (ch:=ch) a (λb o g l h e n=>u.keep b o e n (λz=>(List.mem_cons.mp (I.stkSub b z)).elim g l) h) (λb o _ _ h e n=>u.any e n h) (λb o h e n=>u.free b o e n h) (λb o h e=>u.there b o e h) u.tups u.frzs u.tbls (λM q=>by
  obtain⟨O,E,i,d,R⟩:=q
  rw[j]at d;cases d
  exact#[_,E,i,g,R]) f k
theorem ao.turned{t':Nat}{it:Addr}(I:ao X pins σ H s)(k:∀b o,b≠it->s.heap.get? b=some o->h'.get? b=some o)(d:H it=none)(a:it≠X.env.locals)
  (f:it∈X.ex∨X.s₀.heap.objs.size<=it) (g:∀x c,X.env.cells.lookup x=some c->c≠it) (i:∀p∈X.pn++pins,p.1≠it):ao X pins σ H { s with heap:=h',toks:=t' }:=by
 have N:∀b u,H b=some u->b≠it:=λb u e z=>by rw[z,d]at e;cases e
 refine I.step (g':=s.gens) (d':=s.drawn) (ch:=[it]) (λb j=>?_) (λb o _ _ h e _=>k b o (λz=>h (by simp [z])) e) (λb o _ _ h e _=>#[o.slots,k b o (λz=>h (by simp [z])) e]) (λ_ _ _ _ n=>n)
  (λb o h e=>#[o,k b o (λz=>h (by simp [z])) e]) (λ_ _ e=>e) (λ_ _ _ e=>e) (λb P e=>#[(List.toArray []),by rw[e];simp]) (λm l=>?_) (λb u e=>?_) I.bare
 ·have e:b=it:=by simpa using j
  subst e
  exact#[f,a,g,i]
 ·obtain⟨o,E,t,w,r⟩:=l
  exact#[o,E,t,k _ o (ES a) w,r]
 ·refine(I.hok b u e).stay (λc v h q=>k c v ?_ q) (λ_ q=>q) λ_ _ q=>q
  rcases h with z |z
  ·rw[z];exact N b u e
  ·exact N c _ z
theorem ao.tok(I:ao X pins σ H s)(t:Nat):ao X pins σ H { s with toks:=t }:=I.un (h':=s.heap) (t':=t) Un.refl I.hok
theorem ao.kept{t':Nat}(I:ao X pins σ H s)(k:∀b u,s.heap.get? b=some u->h'.get? b=some u):ao X pins σ H { s with heap:=h',toks:=t' }:=I.un (Un.kept k) (I.hok.kept k)
theorem ao.laid{a:Addr}{o:HO}{t':Nat}(I:ao X pins σ H s)(k:∀b u,s.heap.get? b=some u->h'.get? b=some u)(h:s.heap.objs.size<=a)(n:aJ X.prog X.w (ah H a o) h' a o):
  ao X pins σ (ah H a o) { s with heap:=h',toks:=t' }:=I.un (Un.laid k h (I.hok.fresh h)) (I.hok.laid k h n)
theorem ao.write{x e:Addr}{o:HO}{t':Nat}(I:ao X pins σ H s)(m:Ay (H x))(a:e=x∨H e=some (.own x))(k:∀b u,b≠e->s.heap.get? b=some u->h'.get? b=some u)(h:∃u,h'.get? e=some u)
  (n:aJ X.prog X.w (ah H x o) h' x o):ao X pins σ (ah H x o) { s with heap:=h',toks:=t' }:=I.un (Un.write m a k h) (I.hok.write m a k h n)
theorem ao.pins_of{pins':List (Addr×Obj)}(I:ao X pins σ H s)(h:∀p∈pins',s.heap.get? p.1=some p.2/\H p.1=none/\p.1≠X.env.locals/\p.1∉X.fs/\∀v,p.2.data≠ .cell v):ao X pins' σ H s:=
 #[I.ok,I.os,I.bare,I.base,I.loc,I.cell,I.free,I.freeC,λp a=>(List.mem_append.mp a).elim (λz=>I.pin p (FH _ z)) (h p),I.hok,I.len]
theorem QU{N:List Str}(h:N.Nodup){i j:Nat}{x:Str}(a:N[i]?=some x)(b:N[j]?=some x):i=j:=by
 obtain⟨c,e⟩:=List.getElem?_eq_some_iff.mp a
 obtain⟨d,E⟩:=List.getElem?_eq_some_iff.mp b
 exact(List.getElem_inj h).mp (e.trans E.symm)
theorem KY{v:V}{Q:Unit->Shared->Prop}(I:ao X pins σ H s)(hN:X.N.Nodup)(L:X.N[i]?=some x)(l:n6 X.env.scope x)(r:aB v u)
  (h:∀s',ao X pins (σ.set i (some v)) H s'->(∃a,Heap.SameBut a s.heap s'.heap/\(a=X.env.locals∨X.env.cells.lookup x=some a))->Q () s') (hf:X.fn x=true∨X.env.scope.names.lookup x=some .local:=by first |exact .inl Z |exact .inr Z |assumption):wpAny M A (storeName X.env x u) Q E s:=by
 obtain⟨m,hn,hl⟩:=id I.loc
 have O:(X.env.scope.kind== .class||(X.env.scope.kind== .module&&X.env.locals != X.env.globals))=false:=by rw[I.ok.kind];rfl
 have D:i < σ.length:=by rw[I.len];exact(List.getElem?_eq_some_iff.mp L).1
 have F:=I.cne
 have t:∀{a:Addr} {h':Heap},(∃o,s.heap.get? a=some o/\H a=none)->Heap.SameBut a s.heap h'->dZ X.prog X.w H h':=λ{a h'} ha f b ob e=>by
  obtain⟨_,_,B⟩:=ha
  refine(I.hok b ob e).stay (λc W hc q=>(f.2 c ?_).trans q) (λ_ q=>q) λ_ _ q=>q
  rintro rfl
  rcases hc with rfl |hc
  ·rw[B]at e;cases e
  ·rw[B]at hc;cases hc
 rcases l with hk |hk
 ·refine wpAny_storeName_local hk hn (λh' h0 f=>?_) O
  obtain⟨oL,_,_,h1,_⟩:=id hn
  refine h _ #[I.ok,I.os,I.bare,#[λb o e n G l=>?_,λb o e n G l=>?_,I.base.free,λb o e l=>?_,I.base.tups,I.base.frzs,I.base.tbls],#[_,h0,λj y v' g C e3=>?_],λy c e=>?_,I.free,I.freeC,λp hp=>?_,t #[oL,h1,I.free] f,by simpa using I.len] #[_,f,.inl Z]
  ·exact(f.2 b (En (Et (Ek e) I.ok.above))).trans (I.base.keep b o e n G l)
  ·obtain⟨sl,g⟩:=I.base.slot b o e n G l
   exact#[sl,(f.2 b (En (Et (Ek e) I.ok.above))).trans g]
  ·obtain⟨o',g⟩:=I.base.there b o e l
   exact#[o',(f.2 b (En (Et (Ek e) I.ok.above))).trans g]
  ·by_cases J:j=i
   ·subst J
    rw[L]at g;cases g
    rw[Hi D]at C
    cases C
    exact#[u,r,.inl #[hk,Lp]]
   ·rw[Go (ES J)]at C
    obtain⟨u',r',q⟩:=hl j y v' g C e3
    refine#[u',r',?_]
    rcases q with ⟨k,e⟩ | ⟨k,c,e,z⟩
    ·refine .inl #[k,?_]
     have:y≠x:=λe=>J (QU hN g (e▸L))
     simp [this,e]
    ·exact .inr #[k,c,e,z.sameBut f (F y c e)]
  ·obtain⟨W,z⟩:=I.cell y c e
   exact#[W,z.sameBut f (F y c e)]
  ·obtain⟨e,n,U,nf,d⟩:=I.pin p hp
   exact#[(f.2 p.1 U).trans e,n,U,nf,d]
 ·have K:X.fn x=true:=by
   rcases hf with z |z
   ·exact z
   ·rw[z]at hk;cases hk
  obtain⟨c,hc⟩:=I.ok.has x (.inl hk)
  obtain⟨W,z⟩:=I.cell x c hc
  refine wpAny_storeName_cell I.ok.kind hk hc z (λh' P f=>?_)
  obtain⟨oc,R,S⟩:=id z
  refine h { s with heap:=h' } #[I.ok,I.os,I.bare,#[λb o e n G l=>?_,λb o e n G l=>?_,I.base.free,λb o e l=>?_,I.base.tups,I.base.frzs,I.base.tbls],#[m,hn.sameBut f (ES (F x c hc)),λj y v' g C e3=>?_],λy Y e=>?_,I.free,I.freeC,λp hp=>?_,t #[oc,R,I.freeC x c hc] f,by simpa using I.len] #[c,f,.inr hc]
  ·exact(f.2 b (En (Et (Ek e) (I.ok.cab x c K hc)))).trans (I.base.keep b o e n G l)
  ·obtain⟨sl,g⟩:=I.base.slot b o e n G l
   exact#[sl,(f.2 b (En (Et (Ek e) (I.ok.cab x c K hc)))).trans g]
  ·obtain⟨o',g⟩:=I.base.there b o e l
   exact#[o',(f.2 b (En (Et (Ek e) (I.ok.cab x c K hc)))).trans g]
  ·by_cases J:j=i
   ·subst J
    rw[L]at g;cases g
    rw[Hi D]at C
    cases C
    exact#[u,r,.inr #[.inl hk,c,hc,P]]
   ·rw[Go (ES J)]at C
    obtain⟨u',r',q⟩:=hl j y v' g C e3
    refine#[u',r',?_]
    rcases q with q | ⟨k,Y,e,z'⟩
    ·exact .inl q
    ·refine .inr #[k,Y,e,z'.sameBut f ?_]
     rintro rfl
     exact J (QU hN g (I.ok.inj _ _ _ e hc▸L))
  ·by_cases T:Y=c
   ·subst T;exact#[_,P]
   ·obtain⟨w2,z2⟩:=I.cell y Y e
    exact#[w2,z2.sameBut f T]
  ·obtain⟨e,n,U,nf,d⟩:=I.pin p hp
   refine#[(f.2 p.1 ?_).trans e,n,U,nf,d]
   intro q
   rw[q,R]at e
   have q':oc=p.2:=EU e
   exact d W (by rw[<- q'];exact S)
theorem zC{Q:Unit->Shared->Prop}(I:ao X pins σ H s)(a:X.N.Nodup)(b:X.N[i]?=some x)(c:n6 X.env.scope x)(r:aB v u)
  (h:∀S,ao X pins (σ.set i (some v)) H S->Q () S) (d:X.fn x=true∨X.env.scope.names.lookup x=some .local:=by first |exact .inl Z |exact .inr Z |assumption):wpAny M A (storeName X.env x u) Q E s:=
 KY I a b c r (λS e _=>h S e) d
theorem ao.call'{S:Shared}{ch:List Addr}(I:ao X pins σ H s)(d:S.os=s.os)(u:Un (hZ X.stack) ch H H' s.heap S.heap)(h:dZ X.prog X.w H' S.heap)(f:AllBare S.gens)
  (a:∀b∈ch,(b∈X.ex∨X.s₀.heap.objs.size<=b)/\b≠X.env.locals/\(∀x c,X.env.cells.lookup x=some c->c≠b)/\∀p∈X.pn++pins,p.1≠b):ao X pins σ H' S:=by
 obtain⟨h',g',d',t',o⟩:=S
 have e:o=s.os:=d
 subst e
 exact I.call (g':=g') (t':=t') (d':=d') u h f a
end
noncomputable abbrev XK:=Value->Option Addr->Hp->Prop
noncomputable abbrev St:=List (Option V)
noncomputable abbrev VK:=V->Hp->Prop
noncomputable abbrev TE:=St->Hp->VK->Prop
noncomputable abbrev TT:=St->Hp->(Bool->Hp->Prop)->Prop
noncomputable abbrev TA:=St->Hp->(List V->Hp->Prop)->Prop
structure bn where
 nx:St->Hp->Prop
 rt:VK
 bk:St->Hp->Prop:=λ_ _=>False
 ct:St->Hp->Prop:=λ_ _=>False
noncomputable abbrev TS:=bn->St->Hp->Prop
noncomputable def EP(X:Cx)(p:List (Addr×Obj))(a:St)(Q:VK)(u:Value)(s:Shared):Prop:=∃v H,ao X p a H s/\aB v u/\Q v H
noncomputable def TP(X:Cx)(p:List (Addr×Obj))(a:St)(Q:Bool->Hp->Prop)(b:Bool)(s:Shared):Prop:=∃H,ao X p a H s/\Q b H
noncomputable def AP(X:Cx)(p:List (Addr×Obj))(a:St)(Q:List V->Hp->Prop)(u:List Value)(s:Shared):Prop:=∃v H,ao X p a H s/\ay v u/\Q v H
noncomputable def SP(X:Cx)(p:List (Addr×Obj))(D:bn)(f:Flow)(s:Shared):Prop:=
 match f with
 | .next=>∃a H,ao X p a H s/\D.nx a H
 | .brk=>∃a H,ao X p a H s/\D.bk a H
 | .cont=>∃a H,ao X p a H s/\D.ct a H
 | .ret u=>∃v a H,ao X p a H s/\aB v u/\D.rt v H
noncomputable def PE(X:Cx)(e:Expr)(t:TE):Prop:=
 ∀(p:List (Addr×Obj)) (s:Shared) (a:St) (H:Hp) (Q:VK),ao X p a H s->t a H Q->wpAny (model X.prog X.w) X.A (eval e X.env) (EP X p a Q) X.xe s
noncomputable def PT(X:Cx)(e:Expr)(t:TT):Prop:=
 ∀(p:List (Addr×Obj)) (s:Shared) (a:St) (H:Hp) (Q:Bool->Hp->Prop),ao X p a H s->t a H Q->wpAny (model X.prog X.w) X.A (isTrue e X.env (eval e X.env)) (TP X p a Q) X.xe s
noncomputable def PW(X:Cx)(e:Expr)(t:TT):Prop:=
 ∀(W:Sem Value) (p:List (Addr×Obj)) (s:Shared) (a:St) (H:Hp) (Q:Bool->Hp->Prop),ao X p a H s->t a H Q->wpAny (model X.prog X.w) X.A (isTrue e X.env W) (TP X p a Q) X.xe s
theorem PW.pt{X:Cx}{e:Expr}{t:TT}(h:PW X e t):PT X e t:=h _
noncomputable def PA(X:Cx)(e:List Expr)(t:TA):Prop:=
 ∀(P:Pos) (p:List (Addr×Obj)) (s:Shared) (a:St) (H:Hp) (Q:List V->Hp->Prop),ao X p a H s->t a H Q->wpAny (model X.prog X.w) X.A (spliced (backTo P (starEach e X.env))) (AP X p a Q) X.xe s
noncomputable def PS(X:Cx)(st:Stmt)(t:TS):Prop:=
 ∀(p:List (Addr×Obj)) (s:Shared) (a:St) (H:Hp) (D:bn),ao X p a H s->t D a H->wpAny (model X.prog X.w) X.A (exec st X.env) (SP X p D) X.xe s
noncomputable def i9(X:Cx)(st:List Stmt)(t:TS):Prop:=
 ∀(p:List (Addr×Obj)) (s:Shared) (a:St) (H:Hp) (D:bn),ao X p a H s->t D a H->wpAny (model X.prog X.w) X.A (execs st X.env) (SP X p D) X.xe s
theorem aO{b:Type}{t:Sem b}{Q q:b->Shared->Prop}{M:Model}{A:Around}{E:Value->Shared->Prop}{s:Shared}(h:wpAny M A t Q E s)(H:∀a s,Q a s->q a s):wpAny M A t q E s:=Fu h H λ_ _ x=>x
section
variable {X:Cx}
noncomputable def aW(i:Nat):TE:=λa H Q=>∃v,a[i]?=some (some v)/\Q v H
noncomputable def tC(v:V):TE:=λ_ H Q=>Q v H
theorem yB(j:X.N[i]?=some x)(k:Co X.env.scope x)(b:(x==("__debug__":Str))=false:=by decide)(d:(x==("__classdict__":Str))=false:=by decide):PE X (.Name x n) (aW i):=by
 intro p s o H Q I h
 obtain⟨v,e,h⟩:=h
 obtain⟨m,q,t⟩:=I.loc
 obtain⟨u,r,l⟩:=t i x v j e k
 have f:EP X p o Q u s:=#[v,H,I,r,h]
 rcases l with ⟨hk,w⟩ | ⟨hk,c,g,a⟩
 ·exact wpAny_Name (wpAny_loadName_local I.ok.kind hk q w f) b
 ·rcases hk with hk |hk
  ·exact wpAny_Name (wpAny_loadName_cell I.ok.kind hk g a f) b
  ·exact wpAny_Name (wpAny_loadName_free I.ok.kind hk g a f d) b
theorem jf{i j p}:PE X (.Constant (.int i) j p) (tC (.int i)):=λ_ _ _ H _ I h=>wpAny_Constant_int #[.int i,H,I.tok _,#[_,Z],h]
theorem J3{b j p}:PE X (.Constant (.bool b) j p) (tC (.bl b)):=λ_ _ _ H _ I h=>Constant_bool #[.bl b,H,I,Z,h]
theorem Xw{j p}:PE X (.Constant .none j p) (tC .non):=λ_ _ _ H _ I h=>Constant_none #[.non,H,I,Z,h]
theorem jk{x j p}:PE X (.Constant (.str x) j p) (tC (.str x)):=λ_ _ _ H _ I h=>Calls.Constant_str #[.str x,H,I.tok _,#[_,Z],h]
noncomputable def Gl(X:Cx)(x:Str):Prop:=X.env.kindOf x=some .globalImplicit
theorem zj{Q:Value->Shared->Prop}(I:ao X p e H s)(a:Gl X x)(b:X.mg x=some u)(h:Q u s)
  (c:(x==("__debug__":Str))=false:=by decide):wpAny (model X.prog X.w) X.A (eval (.Name x d) X.env) Q E s:=
 Calls.Name_function_global I.ok.kind a (Calls.loadGlobal_global (by rw[I.ok.glob];exact I.mod.glob.keeps I.bk) b h) c
theorem zN{Q:Value->Shared->Prop}(I:ao X p j H s)(a:Gl X x)(b:X.mg x=none)(c:bootBuiltins x=some u)(h:Q u s)
  (d:x≠"__name__":=by decide) (e:(x==("__debug__":Str))=false:=by decide):wpAny (model X.prog X.w) X.A (eval (.Name x f) X.env) Q E s:=by
 obtain⟨m,g,i⟩:=I.mod.blt
 exact Calls.Name_function_global I.ok.kind a (Calls.loadGlobal_builtin (by rw[I.ok.glob];exact I.mod.glob.keeps I.bk) b (by rw[I.ok.blt];exact g.keeps I.bk) ((i x d).trans c) h) e
theorem qV{v:V}(a:Gl X x)(b:X.mg x=some u)(r:aB v u)(c:(x==("__debug__":Str))=false:=by decide):PE X (.Name x p) (tC v):=
 λ_ _ _ H _ I h=>zj I a b #[v,H,I,r,h] c
theorem kG{v:V}(a:Gl X x)(b:X.mg x=none)(c:bootBuiltins x=some u)(r:aB v u)(d:x≠"__name__":=by decide)(e:(x==("__debug__":Str))=false:=by decide):PE X (.Name x p) (tC v):=
 λ_ _ _ H _ I h=>zN I a b c #[v,H,I,r,h] d e
variable {a b:Expr}{ta tb:TE}{pos:Pos}
noncomputable def PC(X:Cx)(o:CmpOp)(a b:Expr)(t:TE):Prop:=
 ∀(p:List (Addr×Obj)) (s:Shared) (d:St) (H:Hp) (Q:VK),ao X p d H s->t d H Q->
  wpAny (model X.prog X.w) X.A (eval a X.env) (λv S=>wpAny (model X.prog X.w) X.A (eval b X.env) (λu c=>wpAny (model X.prog X.w) X.A (compareOp o v u) (EP X p d Q) X.xe c) X.xe S) X.xe s
noncomputable def Dt(ta:TE):TE:=λc H Q=>ta c H λx h=>Q (.bl (decide (x= .non))) h
theorem aB.none_iff(r:aB x v):(v==Value.none)=decide (x= .non):=by
 cases x with
 |non=>cases r;rfl
 |bl _=>cases r;rfl
 |int _=>obtain⟨t,rfl⟩:=r;rfl
 |str _=>obtain⟨t,rfl⟩:=r;rfl
 |byt _=>obtain⟨t,rfl⟩:=r;rfl
 |flt _=>obtain⟨t,rfl⟩:=r;rfl
 |ref _=>cases r;rfl
 |ty _=>cases r;rfl
theorem yw{j p}(c:PE X a ta):PC X .Is a (.Constant .none j p) (Dt ta):=by
 intro P s d H Q I h
 refine aO (c P s d H _ I h) λv S z=>?_
 obtain⟨x,e,i,r,q⟩:=z
 exact Constant_none (is_none_gen #[.bl _,e,i,by rw[r.none_iff];rfl,q])
noncomputable def tB(t:TE):TT:=λd H Q=>t d H λx h=>∃c,x= .bl c/\Q c h
theorem ZU(h:PC X o a b t)(e:behindInMarks o b=false:=by first |exact n _ Ln Ln |rfl):PT X (.Compare a [o] [b] pos) (tB t):=by
 intro p s f H Q I g
 refine wpAny_isTrue_Compare1 (aO (h p s f H _ I g) λv S e=>aO e λu m i=>aO i λc w z=>?_) e
 obtain⟨x,j,k,r,l⟩:=z
 obtain⟨d,rfl,q⟩:=l
 cases r
 exact Gu #[j,k,q]
theorem zz(h:PE X e t)(c:∀w,isTrue e X.env w=(do let v <- w;standAt e.pos;holding [v] (truthy v)):=by intro _;rfl):PT X e (tB t):=by
 intro p s f H Q I g
 refine isTrue_plain (aO (h p s f H _ I g) λv S z=>?_) (c _)
 obtain⟨x,i,j,r,k⟩:=z
 obtain⟨d,rfl,q⟩:=k
 cases r
 exact Gu #[i,j,q]
variable {tA tB':TT}{rest:List Expr}
noncomputable def Dn(t u:TT):TT:=λd H Q=>t d H λc h=>if c=true then u d h Q else Q false h
noncomputable def D3(t u:TT):TT:=λd H Q=>t d H λc h=>if c=true then Q true h else u d h Q
noncomputable def Du(t:TT):TT:=λd H Q=>t d H λc h=>Q (!c) h
theorem JS(d:PT X a tA):PW X (.BoolOp .And [a] pos) tA:=by
 intro w p s f H Q I h
 refine isTrue_and (aO (d p s f H Q I h) λc S e=>?_)
 cases c with
 |true=>exact isTrue_and_nil e
 |false=>exact e
theorem ql(d:PT X a tA):PW X (.BoolOp .Or [a] pos) tA:=by
 intro w p s f H Q I h
 refine isTrue_or (aO (d p s f H Q I h) λc S e=>?_)
 cases c with
 |false=>exact isTrue_or_nil e
 |true=>exact e
theorem Qt(f:PT X a tA)(g:PW X (.BoolOp .And (b::rest) pos) tB'):PW X (.BoolOp .And (a::b::rest) pos) (Dn tA tB'):=by
 intro w p s d H Q I h
 refine isTrue_and (aO (f p s d H _ I h) λc S z=>?_)
 obtain⟨e,i,q⟩:=z
 cases c with
 |true=>exact g w p S d e Q i q
 |false=>exact#[e,i,q]
theorem qj(f:PT X a tA)(g:PW X (.BoolOp .Or (b::rest) pos) tB'):PW X (.BoolOp .Or (a::b::rest) pos) (D3 tA tB'):=by
 intro w p s d H Q I h
 refine isTrue_or (aO (f p s d H _ I h) λc S z=>?_)
 obtain⟨e,i,q⟩:=z
 cases c with
 |true=>exact#[e,i,q]
 |false=>exact g w p S d e Q i q
theorem qm(d:PT X a tA):PT X (.UnaryOp .Not a pos) (Du tA):=by
 intro p s e H Q I h
 exact isTrue_not (d p s e H (λc f=>Q (!c) f) I h)
noncomputable def BR(ta tb:TE):TE:=λd H Q=>ta d H λx h=>∃c,x= .bl c/\if c=true then tb d h Q else Q (.bl false) h
noncomputable def BW(ta:TE):TE:=λd H Q=>ta d H λx h=>∃c,x= .bl c/\Q (.bl (!c)) h
theorem Js(h:PE X a t):PE X (.BoolOp o [a] pos) t:=λp s c H Q I d=>BoolOp_one (h p s c H Q I d)
theorem qo(f:PE X a ta)(g:PE X (.BoolOp .And (b::rest) pos) tb):PE X (.BoolOp .And (a::b::rest) pos) (BR ta tb):=by
 intro p s d H Q I h
 refine BoolOp_and (aO (f p s d H _ I h) λv S z=>?_)
 obtain⟨x,e,i,r,q⟩:=z
 obtain⟨c,rfl,q⟩:=q
 cases r
 refine Gu ?_
 cases c with
 |true=>exact g p S d e Q i q
 |false=>exact#[.bl false,e,i,Z,q]
theorem yA(d:PE X a ta):PE X (.UnaryOp .Not a pos) (BW ta):=by
 intro p s e H Q I h
 refine UnaryOp_ (aO (d p s e H _ I h) λv S z=>?_)
 obtain⟨x,f,i,r,q⟩:=z
 obtain⟨c,rfl,q⟩:=q
 cases r
 exact not_of (Gu #[.bl (!c),f,i,Z,q])
noncomputable def D2(t:TT)(ta tb:TE):TE:=λd H Q=>t d H λc h=>if c=true then ta d h Q else tb d h Q
theorem zD(g:PT X c tA)(j:PE X a ta)(k:PE X b tb):PE X (.IfExp c a b pos) (D2 tA ta tb):=by
 intro p s e H Q I h
 refine wpAny_IfExp (aO (g p s e H _ I h) λd S z=>?_)
 obtain⟨f,i,q⟩:=z
 cases d with
 |true=>exact j p S e f Q i q
 |false=>exact k p S e f Q i q
end
noncomputable def aF(K:Frag)(H:Hp)(a:Addr)(x:List V):Prop:=
 Rd H a (.lst x)∨
  ∃(o:Obj) (i:Array Value) (n:Nat),K.lookup a=some o/\o.cls= .type "list"/\o.dict=none/\o.data= .seq i n/\i.size<=sizeLine/\ay x i.toList
noncomputable def ar(K:Frag)(H:Hp)(a:Addr)(x:List V):Prop:=
 Rd H a (.tup x)∨
  ∃(o:Obj) (i:Array Value) (n:Nat),K.lookup a=some o/\o.cls= .type "tuple"/\o.data= .seq i n/\i.size<=sizeLine/\ay x i.toList
noncomputable def CS:Value->Option V
 | .none=>some .non
 | .bool b=>some (.bl b)
 | .int i _=>some (.int i)
 | .str x _=>some (.str x)
 | .bytes b _=>some (.byt b)
 | .float b _=>some (.flt b)
 | .ref a=>some (.ref a)
 | .type n=>some (.ty n)
 |_=>none
theorem aB.abs(r:aB x u):CS u=some x:=by
 cases x with
 |non=>cases r;rfl
 |bl _=>cases r;rfl
 |int _=>obtain⟨t,rfl⟩:=r;rfl
 |str _=>obtain⟨t,rfl⟩:=r;rfl
 |byt _=>obtain⟨t,rfl⟩:=r;rfl
 |flt _=>obtain⟨t,rfl⟩:=r;rfl
 |ref _=>cases r;rfl
 |ty _=>cases r;rfl
theorem aB.inj{x:V}(r:aB x u)(q:aB y u):x=y:=EU (r.abs.symm.trans q.abs)
theorem ay.inj:∀{x y:List V} {u:List Value},ay x u->ay y u->x=y
 |_,_,_,.nil,.nil=>rfl
 |_,_,_,.cons r t,.cons R T=>by rw[r.inj R,ay.inj t T]
section
variable {X:Cx}{pins:List (Addr×Obj)}{σ:St}{H:Hp}{s:Shared}{a:Addr}{xs ys:List V}
theorem aF.of{K:Frag}(h:H a=some (.lst xs)):aF K H a xs:=.inl (.inl h)
theorem ar.of{K:Frag}(h:H a=some (.tup xs)):ar K H a xs:=.inl (.inl h)
theorem ao.list(I:ao X pins σ H s)(h:aF X.K H a xs):∃i:List Value,ay xs i/\PlainL s.heap a i.toArray/\xs.length<=sizeLine:=by
 rcases h with h | ⟨o,i,n,b,c,d,f,g,r⟩
 ·obtain⟨z,i,n,r,e⟩:=h.ok I.hok
  exact#[i,r,#[_,n,e,Z,Z,Z],z]
 ·refine#[i.toList,r,#[o,n,I.kIn a o b,c,d,by simpa using f],?_]
  have e:=r.length
  simp only[EC]at e
  omega
theorem ao.tuple(I:ao X pins σ H s)(h:ar X.K H a xs):∃i:List Value,ay xs i/\IsTup s.heap a i.toArray/\xs.length<=sizeLine:=by
 rcases h with h | ⟨o,i,n,b,c,d,f,r⟩
 ·obtain⟨z,i,r,p⟩:=h.ok I.hok
  exact#[i,r,p,z]
 ·refine#[i.toList,r,#[o,I.kIn a o b,c,n,by simpa using d],?_]
  have e:=r.length
  simp only[EC]at e
  omega
theorem ao.list_inj(I:ao X pins σ H s)(h:aF X.K H a xs)(c:aF X.K H a ys):xs=ys:=by
 obtain⟨b,r,⟨o,n,e,_,_,d⟩,_⟩:=I.list h
 obtain⟨i,R,⟨O,N,E,_,_,D⟩,_⟩:=I.list c
 rw[e]at E;cases E
 rw[d]at D
 injection D with f _
 have:b=i:=by simpa using FE Array.toList f
 subst this
 exact r.inj R
theorem ao.tuple_inj(I:ao X pins σ H s)(h:ar X.K H a xs)(c:ar X.K H a ys):xs=ys:=by
 obtain⟨b,r,⟨o,e,_,n,d⟩,_⟩:=I.tuple h
 obtain⟨i,R,⟨O,E,_,N,D⟩,_⟩:=I.tuple c
 rw[e]at E;cases E
 rw[d]at D
 injection D with f _
 have:b=i:=by simpa using FE Array.toList f
 subst this
 exact r.inj R
end
noncomputable abbrev Cx.wish(X:Cx)(E:Value->Shared->Prop):Cx:={ X with xe:=E }
noncomputable abbrev Cx.nox(X:Cx):Cx:=X.wish λ_ _=>False
theorem Cx.Ok.wish{X:Cx}(o:X.Ok)(E:Value->Shared->Prop):(X.wish E).Ok:=
 #[o.mod,o.kind,o.glob,o.blt,o.above,o.inj,o.has,o.cab,o.hd,o.frames,o.stk,o.exf,o.bs,o.bsz,o.noex,o.exfs,o.funs,o.frf]
theorem Cx.Ok.unwish{X:Cx}(o:(X.wish E).Ok):X.Ok:=
 #[o.mod,o.kind,o.glob,o.blt,o.above,o.inj,o.has,o.cab,o.hd,o.frames,o.stk,o.exf,o.bs,o.bsz,o.noex,o.exfs,o.funs,o.frf]
section
variable {X:Cx}{pins:List (Addr×Obj)}{σ:St}{H:Hp}{s:Shared}{E:Value->Shared->Prop}
theorem ao.wish(I:ao X pins σ H s)(E:Value->Shared->Prop):ao (X.wish E) pins σ H s:=#[I.ok.wish E,I.os,I.bare,I.base,I.loc,I.cell,I.free,I.freeC,I.pin,I.hok,I.len]
theorem ao.unwish(I:ao (X.wish E) pins σ H s):ao X pins σ H s:=#[I.ok.unwish,I.os,I.bare,I.base,I.loc,I.cell,I.free,I.freeC,I.pin,I.hok,I.len]
theorem SP.unwish(h:SP (X.wish E) pins D f c):SP X pins D f c:=by
 cases f with
 |next=>obtain⟨a,b,I,q⟩:=h;exact#[a,b,I.unwish,q]
 |brk=>obtain⟨a,b,I,q⟩:=h;exact#[a,b,I.unwish,q]
 |cont=>obtain⟨a,b,I,q⟩:=h;exact#[a,b,I.unwish,q]
 |ret u=>obtain⟨v,a,b,I,r,q⟩:=h;exact#[v,a,b,I.unwish,r,q]
theorem i9.nox{st:List Stmt}(h:i9 X.nox st t):i9 X st t:=λpins s σ H D I a=>
 Fu (h pins s σ H D (I.wish _) a) (λ_ _ q=>q.unwish) λ_ _ z=>False.elim z
end
section
variable {X:Cx}{st:Stmt}{rest:List Stmt}{t u:TS}{e:Expr}{te:TE}{pos:Pos}
noncomputable def sG:TS:=λD a H=>D.nx a H
noncomputable def dJ(t u:TS):TS:=λD a H=>t { D with nx:=u D } a H
theorem jp:i9 X [] sG:=λ_ _ a H _ I h=>Hj #[a,H,I,h]
theorem jd(b:PS X st t)(c:i9 X rest u):i9 X (st::rest) (dJ t u):=by
 intro p s d H D I h
 refine La (aO (b p s d H { D with nx:=u D } I h) λf S q=>?_)
 cases f with
 |next=>
  obtain⟨a,g,i,q⟩:=q
  exact c p S a g D i q
 |ret v=>exact q
 |brk=>exact q
 |cont=>exact q
theorem jg(a:PS X st t):i9 X [st] t:=by
 intro p s b H D I h
 refine La (aO (a p s b H D I h) λf S q=>?_)
 cases f with
 |next=>exact Hj q
 |ret v=>exact q
 |brk=>exact q
 |cont=>exact q
theorem ao.quiet(I:ao X p a H s):interactive X.env=false:=by simp [interactive,I.ok.kind]
noncomputable def nG(te:TE):TS:=λD a H=>te a H λ_ h=>D.nx a h
theorem jX(b:PE X e te)(c:swapsWith e none pos.line X.env=pure false:=by rfl):PS X (.Expr e pos) (nG te):=by
 intro p s a H D I h
 exact wpAny_Expr_any (aO (b p s a H _ I h) λv S #[x,d,i,r,q]=>#[a,d,i,q]) I.quiet c
noncomputable def gV(te:TE):TS:=λD a H=>te a H D.rt
theorem jm(b:PE X e te):PS X (.Return (some e) pos) (gV te):=by
 intro p s a H D I h
 exact wpAny_Return_some (aO (b p s a H _ I h) λv S #[x,c,i,r,q]=>#[x,a,c,i,r,q])
noncomputable def g9(c:TT)(t u:TS):TS:=λD a H=>c a H λb h=>if b=true then t D a h else u D a h
theorem jx{c:Expr}{a b:List Stmt}{T:TT}(j:PT X c T)(k:i9 X a t)(l:i9 X b u):PS X (.If c a b pos) (g9 T t u):=by
 intro p s f H D I h
 refine wpAny_If (aO (j p s f H _ I h) λd S z=>?_)
 obtain⟨g,i,q⟩:=z
 cases d with
 |true=>exact k p S f g D i q
 |false=>exact l p S f g D i q
end
noncomputable abbrev TG:=V->St->Hp->(St->Hp->Prop)->Prop
noncomputable abbrev sZ:=List V->St->Hp->(St->Hp->Prop)->Prop
noncomputable def PG(X:Cx)(T:Expr)(t:TG):Prop:=
 ∀(p:List (Addr×Obj)) (s:Shared) (b:St) (H:Hp) (v:V) (u:Value) (Q:St->Hp->Prop),ao X p b H s->aB v u->t v b H Q->
  wpAny (model X.prog X.w) X.A (assign T X.env u) (λ_ S=>∃a h,ao X p a h S/\Q a h) X.xe s
noncomputable def Al(X:Cx)(T:List Expr)(t:sZ):Prop:=
 ∀(p:List (Addr×Obj)) (s:Shared) (b:St) (H:Hp) (v:List V) (u:List Value) (Q:St->Hp->Prop),ao X p b H s->ay v u->t v b H Q->
  wpAny (model X.prog X.w) X.A (assignInOrder ((assignEach T X.env).map (·.2)) u) (λ_ S=>∃a h,ao X p a h S/\Q a h) X.xe s
noncomputable abbrev wU:=V->V->V->Hp->(Hp->Prop)->Prop
noncomputable def AB(X:Cx)(t:wU):Prop:=
 ∀(p:List (Addr×Obj)) (s:Shared) (a:St) (H:Hp) (o i v:V) (O I u:Value) (Q:Hp->Prop),ao X p a H s->aB o O->aB i I->aB v u->t o i v H Q->
  wpAny (model X.prog X.w) X.A (setItem O I u) (λ_ S=>∃h,ao X p a h S/\Q h) X.xe s
noncomputable abbrev Ck:=V->V->Hp->VK->Prop
noncomputable def DG(X:Cx)(o:Operator)(t:Ck):Prop:=
 ∀(p:List (Addr×Obj)) (s:Shared) (a:St) (H:Hp) (x y:V) (v u:Value) (Q:VK),ao X p a H s->aB x v->aB y u->t x y H Q->
  wpAny (model X.prog X.w) X.A (inplaceOp o v u) (EP X p a Q) X.xe s
section
variable {X:Cx}{pos:Pos}
noncomputable def a8(i:Nat):TG:=λv a H Q=>Q (a.set i (some v)) H
theorem jy{i:Nat}{x:Str}(a:X.N.Nodup)(b:X.N[i]?=some x)(c:n6 X.env.scope x)(d:X.fn x=true∨X.env.scope.names.lookup x=some .local:=by first |exact .inl Z |exact .inr Z |assumption):PG X (.Name x pos) (a8 i):=by
 intro p s f H v u Q I r h
 exact wpAny_assign_Name (zC I a b c r (λS e=>#[_,H,e,h]) d)
noncomputable def oJ:sZ:=λv a H Q=>v=[]/\Q a H
noncomputable def dw(t:TG)(u:sZ):sZ:=λV b H Q=>∃v r,V=v::r/\t v b H λa h=>u r a h Q
theorem kh:Al X [] oJ:=by
 intro p s a H v u Q I r h
 obtain⟨e,h⟩:=h
 subst e
 cases r
 exact assignInOrder_nil #[a,H,I,h]
theorem jD(b:PG X e t)(c:Al X E u)
  (d:(assignEach (e::E) X.env).map (·.2)=assign e X.env::(assignEach E X.env).map (·.2):=by rfl):Al X (e::E) (dw t u):=by
 intro p s f H V U Q I r h
 obtain⟨v,k,g,h⟩:=h
 subst g
 cases r with
 |cons r R=>
  rw[d]
  refine assignInOrder_cons (aO (b p s f H _ _ _ I r h) λ_ S z=>?_)
  obtain⟨a,i,j,q⟩:=z
  exact c p S a i _ _ Q j R q
noncomputable def oK(K:Frag)(n:Nat)(t:sZ):TG:=λv b H Q=>∃a x,v= .ref a/\ar K H a x/\x.length=n/\t x b H Q
theorem zO{n:Nat}(g:X.calm=true)(h:Al X E t)
  (i:(assignEach E X.env).length=n:=by rfl) (c:(assignEach E X.env).findIdx? (·.1)=none:=by rfl):PG X (.Tuple E k pos) (oK X.K n t):=by
 intro p s f H v u Q I r d
 obtain⟨a,x,j,l,m,d⟩:=d
 subst j
 cases r
 obtain⟨q,R,w,B⟩:=I.tuple l
 refine assign_Tuple_tuple (I.ok.hd g) w (by simp [i,<- m,R.length]) c λy z=>?_
 have A:ao X p f H { s with heap:=y }:=I.kept (t':=s.toks) λb o e=>z b o (En (Ek e)) e
 exact h p _ f H x _ Q A (by simpa using R) d
noncomputable def xA(T b:TE)(t:wU):TG:=λv a H Q=>T a H λo h=>b a h λi c=>t o i v c λd=>Q a d
theorem qI{o i:Expr}{T c:TE}{t:wU}(d:PE X o T)(e:PE X i c)(f:AB X t)
  (g:∀v,assign (.Subscript o i pos) X.env v=(do
   let O <- holding [v] (eval o X.env)
   let a <- holding [v,O] (eval i X.env)
   standAt pos
   holding [v,O,a] (setItem O a v)
   release [v,O,a] []):=by intro _;rfl):PG X (.Subscript o i pos) (xA T c t):=by
 intro p s b H v u Q I r h
 rw[g]
 refine Ec (EG (aO (d p s b H _ I h) λO S z=>?_))
 obtain⟨x,j,k,R,q⟩:=z
 refine Ec (EG (aO (e p S b j _ k q) λa l z=>?_))
 obtain⟨y,m,n,w,A⟩:=z
 refine Ec (GN (Ec (EG (aO (f p l b m x y v O a u _ n R w r A) λ_ E z=>?_))))
 obtain⟨B,C,D⟩:=z
 exact wpAny_release #[b,B,C,D]
noncomputable def dA(t:TE)(g:TG):TS:=λD a H=>t a H λx h=>g x a h D.nx
theorem za{t e:Expr}{T:TE}{g:TG}(b:PE X e T)(c:PG X t g)(d:swapsWithSole [t] e pos.line X.env=pure false:=by rfl)(f:swappedStores [t] e X.env=pure none:=by rfl)
  (i:(assignEach [t] X.env).map (·.2)=[assign t X.env]:=by rfl):PS X (.Assign [t] e pos) (dA T g):=by
 intro p s a H D I h
 refine wpAny_Assign_stores (aO (b p s a H _ I h) λv S z=>?_) d f
 obtain⟨x,j,k,r,Q⟩:=z
 rw[i]
 exact aO (c p S a j x v _ k r Q) λ_ l q=>q
theorem kr{i:Nat}{x:Str}{e:Expr}{t:TE}{p:Pos}(a:X.N.Nodup)(b:X.N[i]?=some x)(c:n6 X.env.scope x)(d:PE X e t)(f:swapsWith e (some (.Name x p)) pos.line X.env=pure false:=by rfl)(g:X.fn x=true∨X.env.scope.names.lookup x=some .local:=by first |exact .inl Z |exact .inr Z |assumption):
  PS X (.Assign [.Name x p] e pos) (dA t (a8 i)):=by
 intro P s j H D I h
 refine wpAny_Assign_Name (aO (d P s j H _ I h) λv S z=>?_) f
 obtain⟨y,k,l,r,q⟩:=z
 exact zC l a b c r (λn m=>#[_,k,m,q]) g
noncomputable def Do(i:Nat)(t:TE)(T:Ck):TS:=λD a H=>∃x,a[i]?=some (some x)/\t a H λy h=>T x y h λz b=>D.nx (a.set i (some z)) b
theorem yD{i:Nat}(q:X.N.Nodup)(g:X.N[i]?=some x)(f:n6 X.env.scope x)(t:PE X e T)(B:DG X o C)(E:X.fn x=true∨X.env.scope.names.lookup x=some .local:=by first |exact .inl Z |exact .inr Z |assumption):
  PS X (.AugAssign (.Name x j) o e pos) (Do i T C):=by
 intro p s n H D I h
 obtain⟨v,F,h⟩:=h
 obtain⟨m,J,K⟩:=I.loc
 have V:Co X.env.scope x:=by rcases f with k |k;exact .inl k;exact .inr (.inl k)
 obtain⟨u,r,l⟩:=K i x v g F V
 refine wpAny_AugAssign_Name ?_
 have G:wpAny (model X.prog X.w) X.A (eval e X.env) (λw S=>wpAny (model X.prog X.w) X.A (inplaceOp o u w) (λr d=>wpAny (model X.prog X.w) X.A (storeName X.env x r) (λ_=>SP X p D .next) X.xe d) X.xe S) X.xe s:=by
  refine aO (t p s n H _ I h) λw L a=>?_
  obtain⟨y,M,O,R,Q⟩:=a
  refine aO (B p L n M v y u w _ O r R Q) λz s2 a=>?_
  obtain⟨zv,P,U,W,Y⟩:=a
  exact zC U q g f W (λs3 I3=>#[_,P,I3,Y]) E
 rcases l with ⟨hk,hm⟩ | ⟨hk,c,hc,b⟩
 ·exact wpAny_loadName_local I.ok.kind hk J hm G
 ·rcases hk with hk |hk
  ·exact wpAny_loadName_cell I.ok.kind hk hc b G
  ·rcases f with k |k
   ·have:X.env.scope.names.lookup x=some .free:=hk
    rw[k]at this;cases this
   ·have:X.env.scope.names.lookup x=some .free:=hk
    rw[k]at this;cases this
noncomputable def DV(f:Int->Int->Int):Ck:=λx y H Q=>∃i j,x= .int i/\y= .int j/\Q (.int (f i j)) H
theorem xF:DG X .Add (DV λi j=>i+j):=by
 intro p s a H x y v u Q I r R h
 obtain⟨i,j,e,E,q⟩:=h
 subst e;subst E
 obtain⟨t,rfl⟩:=r
 obtain⟨T,rfl⟩:=R
 exact iadd_int #[.int _,H,I.tok _,#[_,Z],q]
end
section
variable {X:Cx}{pos:Pos}
noncomputable def sH(c:TT)(t:TS):TS:=λD a H=>∃W:Nat->St->Hp->Prop,(∃m,W m a H)/\∀m a H,W m a H->
 c a H λb h=>if b=true then ∃N:St->Hp->Prop,(∀d e,N d e->∃M,M < m/\W M d e)/\t { D with nx:=N,ct:=N,bk:=D.nx } a h else D.nx a h
theorem QV(o:PassesOwn (model X.prog X.w) X.A X.env X.xe)(E:PT X c T)(F:i9 X B G):PS X (.While c B [] pos) (sH T G):=by
 intro p s J H D I h
 obtain⟨W,⟨M,K⟩,t⟩:=h
 refine wpAny_While (codeAny_whileLoop (λn S=>∃e r,ao X p e r S/\W n e r) ?_ M #[J,H,I,K])
 rintro n L ⟨d,u,O,P⟩
 refine GH o (aO (E p L d u _ O (t n d u P)) λb R z=>?_)
 obtain⟨x,y,q⟩:=z
 cases b with
 |true=>
  obtain⟨N,C,q⟩:=q
  rw[Er Z]
  refine GH o (aO (F p R d x _ y q) λf U Q=>?_)
  cases f with
  |next=>
   obtain⟨a,g,i,j⟩:=Q
   obtain⟨m,k,l⟩:=C a g j
   exact#[m,k,a,g,i,l]
  |cont=>
   obtain⟨a,g,i,j⟩:=Q
   obtain⟨m,k,l⟩:=C a g j
   exact#[m,k,a,g,i,l]
  |brk=>exact Q
  |ret v=>exact Q
 |false=>
  rw[Ew Em]
  exact Hj #[d,x,y,q]
end
structure It where
 go:Nat->Hp->Prop
 yld:Nat->Hp->V->Hp->Prop
 stop:Nat->Hp->Prop
noncomputable def eK(X:Cx)(P:List (Addr×Obj))(H:Hp)(b:Addr):Prop:=
 H b=none/\b≠X.env.locals/\b∉X.fs/\(b∈X.ex∨X.s₀.heap.objs.size<=b)/\(∀x c,X.env.cells.lookup x=some c->c≠b)/\∀p∈X.pn++P,p.1≠b
theorem ao.fpOk{X:Cx}{d:Hp}(I:ao X a i H s)(h:s.heap.objs.size<=b)(f:d b=none):eK X a d b:=by
 refine#[f,Fi (Et I.lt h),I.nofs h,.inr (Es I.sz h),λx c e z=>?_,λp g z=>?_]
 ·obtain⟨v,q⟩:=I.cell x c e
  exact absurd (Et q.lt (by rw[z];exact h)) (Fn _)
 ·exact absurd (Et (Ek (I.pin p g).1) (by rw[z];exact h)) (Fn _)
structure lS(P:Program)(w:World)(K:Frag)(tg:Expr)(J:It)(fp:List Addr)(it:Addr)(tn:Nat->Heap->Prop):Prop where
 mem:it∈fp
 obj:∀i h,tn i h->∀b∈fp,∃o,h.get? b=some o/\∀v,o.data≠ .cell v
 keep:∀i h h',tn i h->(∀b∈fp,∀o,h.get? b=some o->h'.get? b=some o)->tn i h'
 item:∀(X:Cx),X.prog=P->X.w=w->X.K=K->X.calm=true->∀(i:Nat) (pins:List (Addr×Obj)) (s:Shared) (σ:St) (H:Hp) (E:Value->Shared->Prop),ao X pins σ H s->(∀b∈fp,eK X pins H b)->tn i s.heap->J.go i H->
  wpAny (model P w) X.A (pyNext (.ref it)) (λr s1=>∃u,r=some u/\
   wpAny (model P w) X.A (letOwnedTupleGo tg (.ref it) u) (λ_ s2=>∃x H',ao X pins σ H' s2/\aB x u/\J.yld i H x H'/\tn (i+1) s2.heap/\∀b∈fp,H' b=none) E s1) E s
 done:∀(X:Cx),X.prog=P->X.w=w->X.K=K->X.calm=true->∀(i:Nat) (pins:List (Addr×Obj)) (s:Shared) (σ:St) (H:Hp) (E:Value->Shared->Prop),ao X pins σ H s->(∀b∈fp,eK X pins H b)->tn i s.heap->J.stop i H->
  wpAny (model P w) X.A (pyNext (.ref it)) (λr s1=>r=none/\ao X pins σ H s1) E s
 self:∀(A:Around) (i:Nat) (s:Shared) (Q:Value->Shared->Prop) (E:Value->Shared->Prop),tn i s.heap->Q (.ref it) s->wpAny (model P w) A (pyIter (.ref it)) Q E s
noncomputable abbrev TI:=St->Hp->(It->Hp->Prop)->Prop
noncomputable def DF(X:Cx)(p:List (Addr×Obj))(a:St)(T:Expr)(R:It->Hp->Prop)(i:Value)(s:Shared):Prop:=
 ∃(I:Addr) (f:List Addr) (t:Nat->Heap->Prop) (J:It) (H:Hp),i= .ref I/\ao X p a H s/\lS X.prog X.w X.K T J f I t/\t 0 s.heap/\(∀b∈f,eK X p H b)/\R J H
noncomputable def PI(X:Cx)(t iter:Expr)(W:TI):Prop:=
 ∀(p:List (Addr×Obj)) (s:Shared) (a:St) (H:Hp) (R:It->Hp->Prop),ao X p a H s->W a H R->
  wpAny (model X.prog X.w) X.A (eval iter X.env) (λv S=>wpAny (model X.prog X.w) X.A (pyIter v) (DF X p a t R) X.xe S) X.xe s
theorem Yh{s : Shared}{n : String}{Q : Unit -> Shared -> Prop}(a : s.heap.get? i = some o)(b : o.cls = .type n)(c : o.data = .fields v)
    (d : ["enumerate", "zip", "dict_itemiterator", "dict_reverseitemiterator", "odict_iterator", "itertools.zip_longest", "itertools.pairwise"].contains n = false) (H : Q () s) : wpAny M A (letOwnedTupleGo t (.ref i) u) Q E s := by
  unfold letOwnedTupleGo
  cases t <;> first
    | exact Ee H
    | (cases u <;> first
        | exact Ee H
        | (refine Ec (wpAny_load a ?_)
           rw [b, c]
           show wpAny M A (if (["enumerate", "zip", "dict_itemiterator", "dict_reverseitemiterator", "odict_iterator", "itertools.zip_longest", "itertools.pairwise"].contains n && v[0]? == some (rawInt _)) = true then _ else _) Q E s
           rw [Ew (by intro h; rw [d, Bool.false_and] at h; cases h)]
           exact Ee H))
noncomputable def vW(K:Frag)(a:Addr):It:=
 #[λi H=>∃X x,aF K H a X/\X[i]?=some x,λi H x h=>h=H/\∀X,aF K H a X->X[i]?=some x,λi H=>∃X,aF K H a X/\X.length<=i]
noncomputable def sW(K:Frag)(a:Addr):It:=
 #[λi H=>∃X x,ar K H a X/\X[i]?=some x,λi H x h=>h=H/\∀X,ar K H a X->X[i]?=some x,λi H=>∃X,ar K H a X/\X.length<=i]
noncomputable def tI(lo:Int)(n:Nat):It:=#[λi _=>i < n,λi H x h=>h=H/\x= .int (lo+i),λi _=>n<=i]
theorem Y1{P:Program}{K:Frag}(a g:Addr):lS P w K tg (vW K a) [g] g (λi h=>h.IsListIter g a i) where
 mem:=by simp
 obj:=λi h st b j=>by
  have e:b=g:=by simpa using j
  subst e
  obtain⟨o,e,c,d⟩:=st
  exact#[o,e,λv z=>by rw[d]at z;cases z]
 keep:=λi h l st k=>st.at λo e=>k g Lp o e
 item:=by
  intro X q r t L i f s M H E I m st y
  subst q r t
  obtain⟨N,x,n,A⟩:=y
  obtain⟨B,R,p,O⟩:=I.list n
  obtain⟨u,Q,T⟩:=R.get A
  obtain⟨F,C,U,D,G,J⟩:=m g Lp
  refine wpAny_pyNext_list_item st p.isList (x:=u) (by simpa using Q) λl S V=>?_
  have W:ao X f M H { s with heap:=l }:=I.turned (t':=s.toks) (λb o j e=>(V.2 b j).trans e) F C D G J
  obtain⟨o,e,c,d⟩:=id S
  exact#[u,Z,Yh (s:={ s with heap:=l }) e c d Ln #[x,H,W,T,#[Z,λys Y=>by rw[I.list_inj Y n];exact A],S,λb j=>(m b j).1]]
 done:=by
  intro X q r t L i f s M H E I m st y
  subst q r t
  obtain⟨N,n,A⟩:=y
  obtain⟨B,R,p,O⟩:=I.list n
  obtain⟨F,C,U,D,G,J⟩:=m g Lp
  have hl:=R.length
  exact wpAny_pyNext_list_end (I.ok.hd L) st p.isList (by simp;omega) λl eb=>#[Z,I.turned (t':=s.toks) (λb o j e=>eb b o j e) F C D G J]
 self:=λ_ _ _ _ _ st h=>wpAny_pyIter_listiter st h
theorem XE{P:Program}{K:Frag}(a g:Addr):lS P w K tg (sW K a) [g] g (λi h=>h.IsTupleIter g a i) where
 mem:=by simp
 obj:=λi h st b j=>by
  have e:b=g:=by simpa using j
  subst e
  obtain⟨o,e,c,d⟩:=st
  exact#[o,e,λv z=>by rw[d]at z;cases z]
 keep:=λi h m st k=>st.at λo e=>k g Lp o e
 item:=by
  intro X r t y L i f s M H E I n st A
  subst r t y
  obtain⟨N,x,q,B⟩:=A
  obtain⟨l,R,p,O⟩:=I.tuple q
  obtain⟨u,Q,T⟩:=R.get B
  obtain⟨F,C,U,D,G,J⟩:=n g Lp
  refine wpAny_pyNext_tuple_item st (show s.heap.IsTuple a l.toArray from p) (x:=u) (by simpa using Q) λm S V=>?_
  have W:ao X f M H { s with heap:=m }:=I.turned (t':=s.toks) (λb o j e=>(V.2 b j).trans e) F C D G J
  obtain⟨o,e,c,d⟩:=id S
  exact#[u,Z,Yh (s:={ s with heap:=m }) e c d Ln #[x,H,W,T,#[Z,λys Y=>by rw[I.tuple_inj Y q];exact B],S,λb j=>(n b j).1]]
 done:=by
  intro X r t y L i f s M H E I n st A
  subst r t y
  obtain⟨N,q,B⟩:=A
  obtain⟨l,R,p,O⟩:=I.tuple q
  obtain⟨F,C,U,D,G,J⟩:=n g Lp
  have hl:=R.length
  exact wpAny_pyNext_tuple_end (I.ok.hd L) st (show s.heap.IsTuple a l.toArray from p) (by simp;omega) λm eb=>#[Z,I.turned (t':=s.toks) (λb o j e=>eb b o j e) F C D G J]
 self:=λ_ _ _ _ _ st h=>wpAny_pyIter_tupleiter st h
theorem XF{P:Program}{K:Frag}(a:Addr)(lo:Int)(n:Nat):lS P w K M (tI lo n) [a] a (λi h=>IsRangeIter h a (lo+(i:Nat)*1) ((n:Int) - (i:Nat)) 1) where
 mem:=by simp
 obj:=λi h st b c=>by
  have e:b=a:=by simpa using c
  subst e
  exact#[_,st,λv z=>by
   have B:Data.fields _=Data.cell v:=z
   cases B]
 keep:=λi h d st k=>k a Lp _ st
 item:=by
  intro X g j l m i p s A H E I f st q
  subst g j l
  obtain⟨F,r,C,u,x,y⟩:=f a Lp
  have W:=Walks.range (prog:=X.prog) (w:=X.w) (I.ok.hd m) a lo 1 n
  refine W.item i s _ _ q st λv d T D S G=>?_
  obtain⟨t,rfl⟩:=D
  have J:ao X p A H { s with heap:=d,toks:=T }:=I.turned (λb o c e=>G b o (by simpa using c) e) F r u x y
  refine#[_,Z,Yh (s:={ s with heap:=d,toks:=T }) (n:="range_iterator") S Z Z Ln #[.int (lo+i),H,J,#[t,?_],#[Z,Z],S,λb c=>(f b c).1]]
  rw[Int.mul_one]
 done:=by
  intro X g j l m i p s A H E I f st q
  subst g j l
  obtain⟨F,r,C,u,x,y⟩:=f a Lp
  exact wpAny_pyNext_range_end (I.ok.hd m) st (by have:n<=i:=q;omega) λd L=>#[Z,I.turned (t':=s.toks) (λb o c e=>L b o c e) F r u x y]
 self:=λ_ _ _ _ _ st h=>wpAny_pyIter_rangeiter st h
section
variable {X:Cx}{tg:Expr}
noncomputable def wq(K:Frag)(t:TE):TI:=λb H R=>t b H λx h=>∃a,x= .ref a/\(∃c,aF K h a c)/\R (vW K a) h
noncomputable def C1(K:Frag)(t:TE):TI:=λb H R=>t b H λx h=>∃a,x= .ref a/\(∃c,ar K h a c)/\R (sW K a) h
theorem qW(c:PE X l t):PI X tg l (wq X.K t):=by
 intro P s d H R I h
 refine aO (c P s d H _ I h) λv S z=>?_
 obtain⟨x,f,i,r,Q⟩:=z
 obtain⟨a,e,⟨m,g⟩,q⟩:=Q
 subst e
 cases r
 obtain⟨j,n,p,u⟩:=i.list g
 refine Hn p.isList ?_
 refine#[S.heap.objs.size,[S.heap.objs.size],_,_,f,Z,i.kept (t':=S.toks) λb o e=>Eg _ e,Y1 a _,#[_,El _ Z,Z,Z],λb k=>?_,q]
 have e:b=S.heap.objs.size:=by simpa using k
 subst e
 exact i.fpOk (Eh _) (i.hok.fresh (Eh _))
theorem zb(d:PE X l t):PI X tg l (C1 X.K t):=by
 intro P s f H R I h
 refine aO (d P s f H _ I h) λv S z=>?_
 obtain⟨x,g,i,r,Q⟩:=z
 obtain⟨a,e,⟨m,j⟩,q⟩:=Q
 subst e
 cases r
 obtain⟨c,n,p,u⟩:=i.tuple j
 refine wpAny_pyIter_tuple (show S.heap.IsTuple a c.toArray from p) ?_
 refine#[S.heap.objs.size,[S.heap.objs.size],_,_,g,Z,i.kept (t':=S.toks) λb o e=>Eg _ e,XE a _,#[_,El _ Z,Z,Z],λb k=>?_,q]
 have e:b=S.heap.objs.size:=by simpa using k
 subst e
 exact i.fpOk (Eh _) (i.hok.fresh (Eh _))
theorem pW{R:It->Hp->Prop}{lo:Int}(I:ao X p a H s)(c: -(2 ^ 62)<=lo)(d:lo < 2 ^ 62)(f: -(2 ^ 62)<=h)(g:h < 2 ^ 62)
  (q:R (tI lo (h - lo).toNat) H):wpAny (model X.prog X.w) X.A (pyIter (.ref s.heap.objs.size)) (DF X p a tg R) E { s with heap:=s.heap.push { cls:=.type "range",data:=.fields (List.toArray [.int lo t,.int h u,.int 1 v]) },toks:=T }:=by
 refine wpAny_pyIter_range (IsRange.new ..) (small_one c d f g) ?_
 have i:ao X p a H { s with heap:=s.heap.push { cls:=.type "range",data:=.fields (List.toArray [.int lo t,.int h u,.int 1 v]) },toks:=T }:=I.kept λb o e=>Eg _ e
 refine#[(s.heap.push { cls:=.type "range",data:=.fields (List.toArray [.int lo t,.int h u,.int 1 v]) }).objs.size,[(s.heap.push { cls:=.type "range",data:=.fields (List.toArray [.int lo t,.int h u,.int 1 v]) }).objs.size],_,_,H,Z,
  i.kept (t':=T) λb o e=>Eg _ e,XF _ lo (h - lo).toNat,?_,λb j=>?_,q]
 ·have k:lo+((0:Nat):Int)*1=lo:=by simp
  have l:(((h - lo).toNat:Nat):Int) - ((0:Nat):Int)=Builtin.Range.rangeSize lo h 1:=by rw[rangeSize_one];split<;>omega
  show IsRangeIter _ _ (lo+((0:Nat):Int)*1) ((((h - lo).toNat:Nat):Int) - ((0:Nat):Int)) 1
  rw[k,l]
  exact El _ Z
 ·have e:b=(s.heap.push { cls:=.type "range",data:=.fields (List.toArray [.int lo t,.int h u,.int 1 v]) }).objs.size:=by simpa using j
  subst e
  exact i.fpOk (Eh _) (i.hok.fresh (Eh _))
noncomputable def A2(t:TA):TI:=λa H R=>t a H λv h=>∃j:Int,v=[.int j]/\ -(2 ^ 62)<=j/\j < 2 ^ 62/\R (tI 0 j.toNat) h
theorem kP{a:Expr}{T:TA}{p P:Pos}(c:Gl X "range")(d:X.mg "range"=none)(f:PA X [a] T)(g:starEach [a] X.env=[(false,eval a X.env)]:=by rfl):PI X tg (.Call (.Name "range" p) [a] [] P) (A2 T):=by
 intro b s i H R I h
 refine Call_ (zN I c d boot_range (Ff (aO (f P b s i H _ I h) λu S z=>?_) g Z))
 obtain⟨v,o,k,l,Q⟩:=z
 obtain⟨j,e,Q,m,q⟩:=Q
 subst e
 cases l with
 |cons r n=>
  cases n
  obtain⟨t,rfl⟩:=r
  exact call_range_1 (pW k Lo Lo Q m (by simpa using q))
noncomputable def Ac(w:TI)(g:TG)(t:TS):TS:=λD a H=>w a H λJ d=>∃W:Nat->Nat->St->Hp->Prop,(∃m,W 0 m a d)/\∀i m a H,W i m a H->
 (J.stop i H/\D.nx a H)∨(J.go i H/\∃N:St->Hp->Prop,(∀b h,N b h->∃M,M < m/\W (i+1) M b h)/\∀x h,J.yld i H x h->g x a h λc e=>t { D with nx:=N,ct:=N,bk:=D.nx } c e)
noncomputable def iw(f:List Addr)(h:Heap):List (Addr×Obj):=f.filterMap λb=>(h.get? b).map λo=>(b,o)
theorem zc{h:Heap}(H:b∈f)(e:h.get? b=some o):(b,o)∈iw f h:=List.mem_filterMap.mpr #[b,H,by rw[e];rfl]
theorem Y2(H:p∈iw f h):p.1∈f/\h.get? p.1=some p.2:=by
 obtain⟨b,a,e⟩:=List.mem_filterMap.mp H
 cases q:h.get? b with
 |none=>rw[q]at e;cases e
 |some o=>
  rw[q]at e
  have E:(b,o)=p:=EU e
  subst E
  exact#[a,q]
theorem ao.pinned(I:ao X a c H s)(g:∀b∈f,eK X a H b)(i:∀b∈f,∃o,s.heap.get? b=some o/\∀v,o.data≠ .cell v):ao X (a++iw f s.heap) c H s:=
 I.pins_of λp j=>(List.mem_append.mp j).elim (λz=>I.pin p (Ex _ z)) λz=>by
  obtain⟨h,e⟩:=Y2 z
  obtain⟨F,k,l,_⟩:=g p.1 h
  obtain⟨o,E,d⟩:=i p.1 h
  rw[e]at E;cases E
  exact#[e,F,k,l,d]
theorem ao.unpinned(I:ao X (a++c) b H s):ao X a b H s:=I.pins_of λp h=>I.pin p (Ex _ (FH _ h))
theorem kO{iter:Expr}{B:List Stmt}{wi:TI}{g:TG}{tb:TS}{P:Pos}(C:PassesOwn (model X.prog X.w) X.A X.env X.xe)(hc:X.calm=true)(hi:PI X tg iter wi)(hg:PG X tg g)(c:i9 X B tb)
  (hs:∀x,foldedSetIterable iter X.env x=pure x:=by intro _;rfl):PS X (.For tg iter B [] P) (Ac wi g tb):=by
 intro p s σ H D I h
 refine wpAny_For (aO (hi p s σ H _ I h) λv s1 h1=>aO h1 λi0 s2 h2=>?_) hs
 obtain⟨it,F,tn,J,H2,e,I2,T,O,f2,W,⟨m0,w0⟩,E⟩:=h2
 subst e
 have S:∀{t:Hp},(∀b∈F,t b=none)->∀b∈F,eK X p t b:=λhn b c=>#[hn b c,(f2 b c).2]
 refine codeAny_forLoop_any (λn s'=>∃i j t,ao X p j t s'/\tn i s'.heap/\(∀b∈F,t b=none)/\W i n j t) ?_ m0 #[0,σ,H2,I2,O,λb c=>(f2 b c).1,w0]
 rintro n s3 ⟨i,k,M,I3,G,K,w3⟩
 rcases E i n k M w3 with ⟨stop,qn⟩ | ⟨go,N,hN,step⟩
 ·refine GH C (aO (T.done X Z Z Z hc i p s3 k M X.xe I3 (S K) G stop) λr s4 z=>?_)
  obtain⟨R,I4⟩:=z
  subst R
  exact Hj #[k,M,I4,qn]
 ·refine GH C (aO (T.item X Z Z Z hc i p s3 k M X.xe I3 (S K) G go) λr s4 z=>?_)
  obtain⟨u,R,h4⟩:=z
  subst R
  refine GH C (aO h4 λ_ s5 z=>?_)
  obtain⟨x,H5,I5,r5,y5,y,U⟩:=z
  have V:=I5.pinned (S U) (T.obj _ _ y)
  refine GH C (aO (hg _ s5 k H5 x u _ V r5 (step x H5 y5)) λ_ s6 z=>?_)
  obtain⟨Y,H6,I6,q6⟩:=z
  refine GH C (aO (c _ s6 Y H6 _ I6 q6) λf s7 Q=>?_)
  have again:∀{a:St} {l:Hp},ao X (p++iw F s5.heap) a l s7->N a l->∃m,m < n/\∃i j t,ao X p j t s7/\tn i s7.heap/\(∀b∈F,t b=none)/\W i m j t:=λ{a l} q L=>by
   obtain⟨m',hm,w7⟩:=hN a l L
   refine#[m',hm,i+1,a,l,q.unpinned,T.keep _ _ _ y λb c o e=>(q.pin (b,o) (Ex _ (Ex _ (zc c e)))).1,λb c=>?_,w7]
   obtain⟨o,e,d⟩:=T.obj _ _ y b c
   exact(q.pin (b,o) (Ex _ (Ex _ (zc c e)))).2.1
  cases f with
  |next=>obtain⟨a,l,q,L⟩:=Q;exact again q L
  |cont=>obtain⟨a,l,q,L⟩:=Q;exact again q L
  |brk=>obtain⟨a,l,q,Q⟩:=Q;exact#[a,l,q.unpinned,Q]
  |ret v=>obtain⟨x7,a,l,q,r7,Q⟩:=Q;exact#[x7,a,l,q.unpinned,r7,Q]
end
theorem oH{K:Frag}{a:Addr}{X:List V}{g:TG}{t:TS}{D:bn}{b:St}{H:Hp}(Pv:Nat->St->Hp->Prop)(k:Pv 0 b H)(l:∀i b H,i<=X.length->Pv i b H->aF K H a X)
  (n:∀i x b H,X[i]?=some x->Pv i b H->g x b H λc j=>t { D with nx:=Pv (i+1),ct:=Pv (i+1),bk:=D.nx } c j) (o:∀b H,Pv X.length b H->D.nx b H):
  ∃W:Nat->Nat->St->Hp->Prop,(∃m,W 0 m b H)/\∀i m b H,W i m b H->
   ((vW K a).stop i H/\D.nx b H)∨((vW K a).go i H/\∃N:St->Hp->Prop,(∀d h,N d h->∃M,M < m/\W (i+1) M d h)/\∀x h,(vW K a).yld i H x h->g x b h λc j=>t { D with nx:=N,ct:=N,bk:=D.nx } c j):=by
 refine#[λi m b H=>m=X.length - i/\i<=X.length/\Pv i b H,#[X.length,Lp,Eu _,k],?_]
 rintro i m b H ⟨rfl,r,p⟩
 have q:=l i b H r p
 by_cases f:i < X.length
 ·refine .inr #[#[X,X[i],q,by simp [f]],Pv (i+1),λd h P=>#[X.length - (i+1),Lo,Z,f,P],λx h y=>?_]
  obtain⟨e,y⟩:=y
  subst e
  exact n i x b _ (y X q) p
 ·have e:i=X.length:=by omega
  subst e
  exact .inl #[#[X,q,Eh _],o b H p]
theorem ua{K:Frag}{a:Addr}{X:List V}{g:TG}{t:TS}{D:bn}{b:St}{H:Hp}(Pv:Nat->St->Hp->Prop)(k:Pv 0 b H)(l:∀i b H,i<=X.length->Pv i b H->ar K H a X)
  (n:∀i x b H,X[i]?=some x->Pv i b H->g x b H λc j=>t { D with nx:=Pv (i+1),ct:=Pv (i+1),bk:=D.nx } c j) (o:∀b H,Pv X.length b H->D.nx b H):
  ∃W:Nat->Nat->St->Hp->Prop,(∃m,W 0 m b H)/\∀i m b H,W i m b H->
   ((sW K a).stop i H/\D.nx b H)∨((sW K a).go i H/\∃N:St->Hp->Prop,(∀d h,N d h->∃M,M < m/\W (i+1) M d h)/\∀x h,(sW K a).yld i H x h->g x b h λc j=>t { D with nx:=N,ct:=N,bk:=D.nx } c j):=by
 refine#[λi m b H=>m=X.length - i/\i<=X.length/\Pv i b H,#[X.length,Lp,Eu _,k],?_]
 rintro i m b H ⟨rfl,r,p⟩
 have q:=l i b H r p
 by_cases f:i < X.length
 ·refine .inr #[#[X,X[i],q,by simp [f]],Pv (i+1),λd h P=>#[X.length - (i+1),Lo,Z,f,P],λx h y=>?_]
  obtain⟨e,y⟩:=y
  subst e
  exact n i x b _ (y X q) p
 ·have e:i=X.length:=by omega
  subst e
  exact .inl #[#[X,q,Eh _],o b H p]
theorem KZ{lo:Int}{n:Nat}{g:TG}{t:TS}{D:bn}{a:St}{H:Hp}(Pv:Nat->St->Hp->Prop)(j:Pv 0 a H)
  (k:∀i a H,i < n->Pv i a H->g (.int (lo+i)) a H λb f=>t { D with nx:=Pv (i+1),ct:=Pv (i+1),bk:=D.nx } b f) (l:∀a H,Pv n a H->D.nx a H):
  ∃W:Nat->Nat->St->Hp->Prop,(∃m,W 0 m a H)/\∀i m a H,W i m a H->
   ((tI lo n).stop i H/\D.nx a H)∨((tI lo n).go i H/\∃N:St->Hp->Prop,(∀c h,N c h->∃M,M < m/\W (i+1) M c h)/\∀x h,(tI lo n).yld i H x h->g x a h λb f=>t { D with nx:=N,ct:=N,bk:=D.nx } b f):=by
 refine#[λi m a H=>m=n - i/\i<=n/\Pv i a H,#[n,Lp,Eu _,j],?_]
 rintro i m a H ⟨rfl,o,p⟩
 by_cases d:i < n
 ·refine .inr #[d,Pv (i+1),λc h P=>#[n - (i+1),Lo,Z,d,P],λx h y=>?_]
  obtain⟨e,y⟩:=y
  subst e y
  exact k i a _ d p
 ·have e:i=n:=by omega
  subst e
  exact .inl #[Eh _,l a H p]
noncomputable abbrev R2:=V->V->Hp->VK->Prop
noncomputable def eJ(X:Cx)(f:Value->Value->Sem Value)(r:R2):Prop:=
 ∀(p:List (Addr×Obj)) (s:Shared) (a:St) (H:Hp) (x y:V) (v u:Value) (Q:VK),ao X p a H s->aB x v->aB y u->r x y H Q->
  wpAny (model X.prog X.w) X.A (f v u) (EP X p a Q) X.xe s
noncomputable def CP(X:Cx)(f:Value->Sem Value)(r:V->Hp->VK->Prop):Prop:=
 ∀(p:List (Addr×Obj)) (s:Shared) (a:St) (H:Hp) (x:V) (v:Value) (Q:VK),ao X p a H s->aB x v->r x H Q->
  wpAny (model X.prog X.w) X.A (f v) (EP X p a Q) X.xe s
noncomputable def c8(X:Cx)(f:Value)(r:List V->Hp->VK->Prop):Prop:=
 ∀(p:List (Addr×Obj)) (s:Shared) (a:St) (H:Hp) (x:List V) (u:List Value) (Q:VK),ao X p a H s->ay x u->r x H Q->
  wpAny (model X.prog X.w) X.A (call f u) (EP X p a Q) X.xe s
noncomputable def CO(X:Cx)(r:V->Hp->(Bool->Hp->Prop)->Prop):Prop:=
 ∀(p:List (Addr×Obj)) (s:Shared) (a:St) (H:Hp) (x:V) (v:Value) (Q:Bool->Hp->Prop),ao X p a H s->aB x v->r x H Q->
  wpAny (model X.prog X.w) X.A (truthy v) (TP X p a Q) X.xe s
noncomputable def dF(r:R2)(t T:TE):TE:=λa H Q=>t a H λx h=>T a h λy b=>r x y b Q
noncomputable def D4(r:V->Hp->VK->Prop)(t:TE):TE:=λa H Q=>t a H λx h=>r x h Q
noncomputable def rI(C:Int->Int->Prop)(g:Int->Int->V):R2:=λx y H Q=>∃i j,x= .int i/\y= .int j/\C i j/\Q (g i j) H
noncomputable def u6(g:Int->Int->V):R2:=λx y H Q=>∃i j,x= .int i/\y= .int j/\Q (g i j) H
noncomputable def rU(g:Int->V):V->Hp->VK->Prop:=λx H Q=>∃i,x= .int i/\Q (g i) H
section
variable {X:Cx}{a b c:Expr}{ta tb tc:TE}{pos:Pos}
theorem xg(k:PE X a ta)(l:PE X b tb){R:V->V->Hp->Prop}(I:ao X p e H s)
  (h:ta e H λx j=>tb e j λy d=>R x y d)  {f:Value->Value->Sem Value}
  (m:∀v u i x y d,ao X p e d i->aB x v->aB y u->R x y d->wpAny (model X.prog X.w) X.A (f v u) Q X.xe i):
  wpAny (model X.prog X.w) X.A (eval a X.env) (λv S=>wpAny (model X.prog X.w) X.A (eval b X.env) (λu g=>wpAny (model X.prog X.w) X.A (f v u) Q X.xe g) X.xe S) X.xe s:=by
 refine aO (k p s e H _ I h) λv n z=>?_
 obtain⟨x,j,o,r,q⟩:=z
 refine aO (l p n e j _ o q) λu i z=>?_
 obtain⟨y,d,t,B,C⟩:=z
 exact m v u i x y d t r B C
theorem jv{o:Operator}{r:R2}(d:eJ X (binaryOp o) r)(e:PE X a ta)(f:PE X b tb):PE X (.BinOp a o b pos) (dF r ta tb):=by
 intro p s g H Q I h
 exact wpAny_BinOp (xg e f I h λv u S x y i j R k q=>d p S g i x y v u Q j R k q)
theorem wC(e:CP X (unaryOp o) r)(f:PE X a ta):PE X (.UnaryOp o a pos) (D4 r ta):=by
 intro p s d H Q I h
 exact UnaryOp_ (aO (f p s d H _ I h) λv S #[x,g,i,R,q]=>e p S d g x v Q i R q)
theorem Cw{f:Value->Value->Sem Value}{C:Int->Int->Prop}{g:Int->Int->Int}
  (rule:∀(i j:Int) (t u:Tok) (s:Shared) (Q:Value->Shared->Prop) (E:Value->Shared->Prop),C i j->Q (.int (g i j) s.toks) { s with toks:=s.toks+1 }->wpAny (model X.prog X.w) X.A (f (.int i t) (.int j u)) Q E s):
  eJ X f (rI C λi j=>.int (g i j)):=by
 intro p s e H x y v u Q I r R h
 obtain⟨i,j,rfl,rfl,d,q⟩:=h
 obtain⟨t,rfl⟩:=r
 obtain⟨T,rfl⟩:=R
 exact rule i j t T s _ _ d #[.int (g i j),H,I.tok _,#[_,Z],q]
theorem Bn{f:Value->Value->Sem Value}{g:Int->Int->Int}
  (rule:∀(i j:Int) (t u:Tok) (s:Shared) (Q:Value->Shared->Prop) (E:Value->Shared->Prop),Q (.int (g i j) s.toks) { s with toks:=s.toks+1 }->wpAny (model X.prog X.w) X.A (f (.int i t) (.int j u)) Q E s):
  eJ X f (u6 λi j=>.int (g i j)):=by
 intro p s d H x y v u Q I r R h
 obtain⟨i,j,rfl,rfl,q⟩:=h
 obtain⟨t,rfl⟩:=r
 obtain⟨T,rfl⟩:=R
 exact rule i j t T s _ _ #[.int (g i j),H,I.tok _,#[_,Z],q]
theorem yo{f:Value->Value->Sem Value}{g:Int->Int->Bool}
  (rule:∀(i j:Int) (t u:Tok) (s:Shared) (Q:Value->Shared->Prop) (E:Value->Shared->Prop),Q (.bool (g i j)) s->wpAny (model X.prog X.w) X.A (f (.int i t) (.int j u)) Q E s):
  eJ X f (u6 λi j=>.bl (g i j)):=by
 intro p s d H x y v u Q I r R h
 obtain⟨i,j,rfl,rfl,q⟩:=h
 obtain⟨t,rfl⟩:=r
 obtain⟨T,rfl⟩:=R
 exact rule i j t T s _ _ #[.bl (g i j),H,I,Z,q]
noncomputable def CD(i j:Int):Prop:=0<=j/\j<=1000000/\i.natAbs < 2 ^ 64
noncomputable def tE(i j:Int):Prop:=(-(2 ^ 64) < i/\i < 2 ^ 64)∨(-(2 ^ 64) < j/\j < 2 ^ 64)
theorem tE.ok(h:tE i j):IntMulOk i j:=by
 rcases h with ⟨H,d⟩ | ⟨H,d⟩
 ·exact .of_left (intBits_le_64 H d)
 ·exact .of_right (intBits_le_64 H d)
theorem jW:eJ X (binaryOp .Add) (u6 λi j=>.int (i+j)):=Bn λ_ _ _ _ _ _ _ q=>add_int q
theorem ky:eJ X (binaryOp .Sub) (u6 λi j=>.int (i - j)):=Bn λ_ _ _ _ _ _ _ q=>sub_int q
theorem zh:eJ X (binaryOp .Mult) (rI tE λi j=>.int (i*j)):=Cw λ_ _ _ _ _ _ _ h q=>mul_int q h.ok
theorem kX:eJ X (binaryOp .Mod) (rI (λ_ j=>0 < j) λi j=>.int (i % j)):=Cw λi j _ _ _ _ _ h q=>by
 have H:(0:Int) < j:=h
 exact mod_int' Lo (by rw[Int.fmod_eq_emod_of_nonneg i Lo];exact q)
theorem qJ:eJ X (binaryOp .Pow) (rI CD λi j=>.int (i ^ j.toNat)):=Cw λ_ _ _ _ _ _ _ h q=>pow_int_small h.1 h.2.1 h.2.2 q
theorem D6{f:Value->Sem Value}{g:Int->Int}
  (rule:∀(i:Int) (t:Tok) (s:Shared) (Q:Value->Shared->Prop) (E:Value->Shared->Prop),Q (.int (g i) s.toks) { s with toks:=s.toks+1 }->wpAny (model X.prog X.w) X.A (f (.int i t)) Q E s):
  CP X f (rU λi=>.int (g i)):=by
 intro p s d H x v Q I r h
 obtain⟨i,rfl,q⟩:=h
 obtain⟨t,rfl⟩:=r
 exact rule i t s _ _ #[.int (g i),H,I.tok _,#[_,Z],q]
theorem ZV:CP X (unaryOp .USub) (rU λi=>.int (-i)):=D6 λ_ _ _ _ _ q=>neg_int q
end
noncomputable def BC:V->V->Bool
 | .non,.non=>true | .non,.int _=>true | .int _,.non=>true | .non,.bl _=>true | .bl _,.non=>true | .non,.str _=>true | .str _,.non=>true
 | .int _,.int _=>true | .bl _,.bl _=>true | .str _,.str _=>true | .byt _,.byt _=>true
 | .int _,.str _=>true | .str _,.int _=>true | .bl _,.str _=>true | .str _,.bl _=>true
 |_,_=>false
noncomputable def yG:R2:=λx y H Q=>BC x y=true/\Q (.bl (decide (x=y))) H
noncomputable def DZ:R2:=λx y H Q=>BC x y=true/\Q (.bl (!decide (x=y))) H
theorem Yo:decide (V.int i=V.int j)=(i==j):=by
 rw[HZ]
 simp
theorem ZW:decide (V.bl i=V.bl j)=(i==j):=by
 rw[HZ]
 simp
theorem Yp:decide (V.str i=V.str j)=(i==j):=by
 rw[HZ]
 simp
theorem Yq:decide (V.byt i=V.byt j)=(i.toList==j.toList):=by
 rw[HZ]
 cases i
 cases j
 simp
section
variable {X:Cx}{a b c:Expr}{ta tb tc:TE}{pos:Pos}
theorem jP{Q:VK}(I:ao X p d H s)(q:Q (.bl k) H)(e:k=f):EP X p d Q (.bool f) s:=by
 subst e
 exact#[.bl k,H,I,Z,q]
theorem zw:eJ X (compareOp .Eq) yG:=by
 intro p s e H x y v u Q I R r h
 obtain⟨d,q⟩:=h
 cases x with
 |non=>
  cases R
  cases y with
  |non=>cases r;exact PySem.EqNone.eq_none_none (jP I q Lp)
  |bl j=>cases r;exact PySem.EqNone.eq_none_bool (jP I q Lp)
  |int j=>obtain⟨T,rfl⟩:=r;exact PySem.EqNone.eq_none_int (jP I q Lp)
  |str j=>obtain⟨T,rfl⟩:=r;exact PySem.EqNone.eq_none_str (jP I q Lp)
  |_=>exact absurd (show false=true from d) Em
 |bl i=>
  cases R
  cases y with
  |non=>cases r;exact PySem.EqNone.eq_bool_none (jP I q Lp)
  |bl j=>cases r;exact eq_bool (jP I q ZW)
  |str j=>obtain⟨T,rfl⟩:=r;exact PySem.EqMixed.eq_bool_str (jP I q Lp)
  |_=>exact absurd (show false=true from d) Em
 |int i=>
  obtain⟨t,rfl⟩:=R
  cases y with
  |non=>cases r;exact PySem.EqNone.eq_int_none (jP I q Lp)
  |int j=>obtain⟨T,rfl⟩:=r;exact eq_int (jP I q Yo)
  |str j=>obtain⟨T,rfl⟩:=r;exact PySem.EqMixed.eq_int_str (jP I q Lp)
  |_=>exact absurd (show false=true from d) Em
 |str i=>
  obtain⟨t,rfl⟩:=R
  cases y with
  |non=>cases r;exact PySem.EqNone.eq_str_none (jP I q Lp)
  |bl j=>cases r;exact PySem.EqMixed.eq_str_bool (jP I q Lp)
  |int j=>obtain⟨T,rfl⟩:=r;exact PySem.EqMixed.eq_str_int (jP I q Lp)
  |str j=>obtain⟨T,rfl⟩:=r;exact eq_str (jP I q Yp)
  |_=>exact absurd (show false=true from d) Em
 |byt i=>
  obtain⟨t,rfl⟩:=R
  cases y with
  |byt j=>obtain⟨T,rfl⟩:=r;exact PySem.W.eq_bytes (jP I q Yq)
  |_=>exact absurd (show false=true from d) Em
 |_=>cases y<;>exact absurd (show false=true from d) Em
theorem qS:eJ X (compareOp .NotEq) DZ:=by
 intro p s e H x y v u Q I R r h
 obtain⟨d,q⟩:=h
 cases x with
 |non=>
  cases R
  cases y with
  |non=>cases r;exact PySem.EqNone.ne_none_none (jP I q Lp)
  |bl j=>cases r;exact PySem.EqNone.ne_none_bool (jP I q Lp)
  |int j=>obtain⟨T,rfl⟩:=r;exact PySem.EqNone.ne_none_int (jP I q Lp)
  |str j=>obtain⟨T,rfl⟩:=r;exact PySem.EqNone.ne_none_str (jP I q Lp)
  |_=>exact absurd (show false=true from d) Em
 |bl i=>
  cases R
  cases y with
  |non=>cases r;exact PySem.EqNone.ne_bool_none (jP I q Lp)
  |bl j=>cases r;exact ne_bool (jP I q (FE not ZW))
  |str j=>obtain⟨T,rfl⟩:=r;exact PySem.EqMixed.ne_bool_str (jP I q Lp)
  |_=>exact absurd (show false=true from d) Em
 |int i=>
  obtain⟨t,rfl⟩:=R
  cases y with
  |non=>cases r;exact PySem.EqNone.ne_int_none (jP I q Lp)
  |int j=>obtain⟨T,rfl⟩:=r;exact ne_int (jP I q (FE not Yo))
  |str j=>obtain⟨T,rfl⟩:=r;exact PySem.EqMixed.ne_int_str (jP I q Lp)
  |_=>exact absurd (show false=true from d) Em
 |str i=>
  obtain⟨t,rfl⟩:=R
  cases y with
  |non=>cases r;exact PySem.EqNone.ne_str_none (jP I q Lp)
  |bl j=>cases r;exact PySem.EqMixed.ne_str_bool (jP I q Lp)
  |int j=>obtain⟨T,rfl⟩:=r;exact PySem.EqMixed.ne_str_int (jP I q Lp)
  |str j=>obtain⟨T,rfl⟩:=r;exact ne_str (jP I q (FE not Yp))
  |_=>exact absurd (show false=true from d) Em
 |byt i=>
  obtain⟨t,rfl⟩:=R
  cases y with
  |byt j=>obtain⟨T,rfl⟩:=r;exact PySem.W.ne_bytes (jP I q (FE not Yq))
  |_=>exact absurd (show false=true from d) Em
 |_=>cases y<;>exact absurd (show false=true from d) Em
theorem J4:eJ X (compareOp .Lt) (u6 λi j=>.bl (decide (i < j))):=yo λ_ _ _ _ _ _ _ q=>lt_int q
theorem JC:eJ X (compareOp .Gt) (u6 λi j=>.bl (decide (j < i))):=yo λ_ _ _ _ _ _ _ q=>gt_int q
theorem ZN:eJ X (compareOp .GtE) (u6 λi j=>.bl (decide (j<=i))):=yo λ_ _ _ _ _ _ _ q=>ge_int q
theorem aA(b:Expr)(h:o≠ .In:=by decide)(H:o≠ .NotIn:=by decide):behindInMarks o b=false:=by
 have e:(o==CmpOp.In)=false:=by cases o<;>first |rfl |exact absurd Z h
 have E:(o==CmpOp.NotIn)=false:=by cases o<;>first |rfl |exact absurd Z H
 cases b<;>simp [behindInMarks,e,E]
theorem j4(d:eJ X (compareOp o) r)(e:PE X a ta)(f:PE X b tb)(g:behindInMarks o b=false):PE X (.Compare a [o] [b] pos) (dF r ta tb):=by
 intro p s i H Q I h
 exact wpAny_Compare1 (xg e f I h λv u S x y j k R l q=>d p S i j x y v u Q k R l q) g
noncomputable def im(t:TE):TT:=λd H Q=>t d H λx h=>∃k,x= .bl k/\Q k h
theorem jE{o:CmpOp}{r:R2}(f:eJ X (compareOp o) r)(g:PE X a ta)(i:PE X b tb)(j:behindInMarks o b=false):PT X (.Compare a [o] [b] pos) (im (dF r ta tb)):=by
 intro p s d H Q I h
 refine wpAny_isTrue_Compare1 (aO (g p s d H _ I h) λv S #[x,l,m,R,q]=>aO (i p S d l _ m q) λu n #[y,t,w,A,B]=>
  aO (f p n d t x y v u _ w R A B) λc G #[z,C,D,E,k,e,F]=>?_) j
 subst e
 cases E
 exact Gu #[C,D,F]
noncomputable def AE(K:Frag)(x:V)(H:Hp)(k:Bool):Prop:=
 match x with
 | .non=>k=false
 | .bl b=>k=b
 | .int i=>k=(i != 0)
 | .str y=>y.length<=sizeLine/\k=((y.length:Int) != 0)
 | .byt y=>y.size<=sizeLine/\k=((y.size:Int) != 0)
 | .ref p=>(∃d,aF K H p d/\k=!d.isEmpty)∨(∃d,ar K H p d/\k=!d.isEmpty)∨∃e,H p=some (.dK e)/\k=!e.isEmpty
 |_=>False
theorem XG{d:Type}{k:List (d×V)}{v:List (d×Value)}(r:KV k v):(!v.isEmpty)=!k.isEmpty:=by
 cases r<;>rfl
theorem Kk(r:ay x i):(!i.toArray.isEmpty)=!x.isEmpty:=by
 cases r<;>simp
theorem dP:(sizeLine:Nat) < 2 ^ 63:=by rw[Iz];decide
theorem Ae:CO X (λx H Q=>∃k,AE X.K x H k/\Q k H):=by
 intro o s B H x v Q I R h
 obtain⟨k,e,q⟩:=h
 have C:=dP
 have D:sizeLine=16777216:=Iz
 cases x with
 |non=>
  cases R
  have E:k=false:=e
  subst E
  exact truthy_none #[H,I,q]
 |bl b=>
  cases R
  have E:k=b:=e
  subst E
  exact Gu #[H,I,q]
 |int i=>
  obtain⟨t,rfl⟩:=R
  have E:k=(i != 0):=e
  subst E
  exact PySem.P.truthy_int #[H,I,q]
 |str y=>
  obtain⟨t,rfl⟩:=R
  obtain⟨z,E⟩:y.length<=sizeLine/\k=((y.length:Int) != 0):=e
  subst E
  exact PySem.P.truthy_str Lo #[H,I.tok _,q]
 |byt y=>
  obtain⟨t,rfl⟩:=R
  obtain⟨z,E⟩:y.size<=sizeLine/\k=((y.size:Int) != 0):=e
  subst E
  exact PySem.W.truthy_bytes Lo #[H,I.tok _,q]
 |ref p=>
  cases R
  have E:(∃g,aF X.K H p g/\k=!g.isEmpty)∨(∃g,ar X.K H p g/\k=!g.isEmpty)∨∃d,H p=some (.dK d)/\k=!d.isEmpty:=e
  rcases E with ⟨g,j,E⟩ | ⟨g,j,E⟩ | ⟨d,j,E⟩
  ·subst E
   obtain⟨l,r,n,u⟩:=I.list j
   have f:=r.length
   exact wpAny_truthy_list n.isList (by simp only[Ej];omega) #[H,I.tok _,by rw[Kk r];exact q]
  ·subst E
   obtain⟨l,r,n,u⟩:=I.tuple j
   have f:=r.length
   exact truthy_tuple n (by simp only[Ej];omega) #[H,I.tok _,by rw[Kk r];exact q]
  ·subst E
   obtain⟨u,A,V,r,m⟩:d.length<=sizeLine/\(p==sysModules)=false/\∃V,KV d V/\s.heap.DictOf (aS X.prog X.w) p V:=I.hok p _ j
   have f:d.length=V.length:=Paired.length r
   exact wpAny_truthy_dict A m Lo #[H,I.tok _,by rw[XG r];exact q]
 |_=>exact(show False from e).elim
theorem pS(f:PE X a ta)(g:∀w,isTrue a X.env w=(do let v <- w;standAt a.pos;holding [v] (truthy v))):
  PT X a (λd H Q=>ta d H λx e=>∃k,AE X.K x e k/\Q k e):=by
 intro p s d H Q I h
 exact isTrue_plain (aO (f p s d H _ I h) λv S #[x,i,j,r,q]=>Ae p S d i x v Q j r q) (g _)
theorem zK:eJ X (binaryOp .Add) (λx y H Q=>∃i j,x= .str i/\y= .str j/\i.length+j.length<=sizeLine/\Q (.str (i++j)) H):=by
 intro p s e H x y v u Q I r R h
 obtain⟨i,j,rfl,rfl,d,q⟩:=h
 obtain⟨t,rfl⟩:=r
 obtain⟨T,rfl⟩:=R
 exact add_str (λT f=>#[.str (i++j),H,I.tok _,#[_,Z],q]) d
theorem dG(r:ay [x] U):∃u,U=[u]/\aB x u:=by
 cases r with
 |cons R d=>cases d;exact#[_,Z,R]
theorem sQ(r:ay [x,y] U):∃u w,U=[u,w]/\aB x u/\aB y w:=by
 cases r with
 |cons R d=>
  cases d with
  |cons e f=>cases f;exact#[_,_,Z,R,e]
theorem Y3(e:X.calm=true):c8 X (.builtin "max") (λx H Q=>∃i j,x=[.int i,.int j]/\Q (.int (if j > i then j else i)) H):=by
 intro p s f H x U Q I r h
 obtain⟨i,j,rfl,q⟩:=h
 obtain⟨u,w,rfl,⟨t,rfl⟩,⟨T,rfl⟩⟩:=sQ r
 refine max_two_ints (I.ok.hd e) λg l k=>#[_,H,I.kept k,?_,q]
 by_cases d:j > i
 ·rw[Er d,Er d];exact#[_,Z]
 ·rw[Ew d,Ew d];exact#[_,Z]
theorem kQ:c8 X (.type "int") (λx H Q=>(∃i,x=[.int i]/\Q (.int i) H)∨∃k,x=[.bl k]/\Q (.int (if k then 1 else 0)) H):=by
 intro p s d H x U Q I r h
 rcases h with ⟨i,rfl,q⟩ | ⟨k,rfl,q⟩
 ·obtain⟨u,rfl,t,rfl⟩:=dG r
  exact call_int_int #[.int i,H,I,#[_,Z],q]
 ·obtain⟨u,rfl,R⟩:=dG r
  cases R
  exact call_int_bool #[.int (if k then 1 else 0),H,I.tok _,#[_,Z],q]
end
structure lR(h:Heap)(x dx C:Addr)(mA:Str->Option Value):Prop where
 obj:h.get? x=some (instObj C dx)
 ns:h.Ns1 dx mA
 ne:dx≠x
theorem Y4{h:Heap}(n:h.Ns1 d m):∃O,h.get? d=some O/\∀name,lookIn name O=some (m name):=by
 obtain⟨o,E,j,b,c,f,_,g⟩:=n
 refine#[o,b,λname=>?_]
 have e:=g name
 unfold nsFind findBy at e
 rw[<- Array.find?_toList]at e
 unfold lookIn
 rw[c]
 dsimp only
 split
 ·rename_i y q
  rw[q]at e
  exact FE some e
 ·rename_i q
  rw[q]at e
  have a:E.toList.any (·.refKey)=false:=by
   rw[List.any_eq_false]
   intro y i
   obtain⟨z,t,H⟩:=f y (Array.mem_toList_iff.mp i)
   simp [DictEntry.refKey,H]
  have A:¬E.toList.any (·.refKey)=true:=by rw[a];exact Em
  rw[Ew A]
  exact FE some e
theorem lR.look(I:lR h x d C m):∃o,PySem.W.InstAt h x (instObj C d) C (some o)/\∀name,lookIn name o=some (m name):=
 let #[o,H,a]:=Y4 I.ns
 #[o,#[I.obj,Z,Z,H],a]
section
variable {prog:Program}{w:World}{A:Around}{E:Value->Shared->Prop}{s:Shared}{K:Frag}{x dx C f:Addr}{mA:Str->Option Value}{name:Str}{v:Value}
theorem ue{Q:Value->Shared->Prop}(X:K.In s.heap)(I:lR s.heap x dx C mA)(a:plainGet K C name=true)(b:hasDictIn K C=true)
  (c:findIn K (.ref C) name=some none) (d:mA name=some v) (H:PySem.W.handedIn v=true) (h:Q v { s with toks:=s.toks+1 }):
  wpAny (model prog w) A (getAttr (.ref x) name e) Q E s:=by
 obtain⟨o,J,g⟩:=I.look
 exact PySem.W.get_value X J (Ij a).1 (PySem.W.findObj_own b c Z (by rw[g,d])) H h
theorem oM{Q:Value×List Value->Shared->Prop}(X:K.In s.heap)(I:lR s.heap x dx C mA)(H:plainGet K C name=true)
  (a:findIn K (.ref C) name=some (some (.ref f))) (b:isFn K (.ref f)=true) (c:mA name=none) (h:Q (.ref f,[.ref x]) s):
  wpAny (model prog w) A (getMethod (.ref x) name p) Q E s:=by
 obtain⟨o,J,d⟩:=I.look
 exact PySem.W.method_fn X J (Ij H).1 (Ij H).2 a (beq_iff_eq.mp b) (by show(lookIn name o).map (·.isSome)=some false;rw[d,c];rfl) h
theorem vC{Q:Unit->Shared->Prop}(X:K.In s.heap)(I:lR s.heap x dx C mA)
  (k:findIn K (.ref C) "__setattr__"=some (some (.builtin "object.__setattr__"))) (l:PySem.W.plainOver K C=true) (m:PySem.W.takerIn K C name=some none) (n:hasDictIn K C=true)
  (o:PySem.Within mA N) (p:N.length<=sizeLine)
  (h:∀d,lR d x dx C (λy=>if y=name then some v else mA y)->Heap.SameBut dx s.heap d->Q () { s with heap:=d,toks:=s.toks+2 }):
  wpAny (model prog w) A (setAttr (.ref x) name v) Q E s:=by
 obtain⟨O,J,B⟩:=I.look
 refine PySem.W.set_plain X J k (PySem.W.osa_open (s:={ s with toks:=s.toks+1 }) (r:=none) X J l m λb=>?_)
 obtain⟨D,q,e⟩:=PySem.W.any_some n
 have t:s.heap.get? x=some #[.ref C,some dx,.plain,(List.toArray [])]:=I.obj
 refine Ec (Ee (Ec (Ec (Ix t (Ec (PySem.W.Looks.here (s:={ s with toks:=s.toks+1 }) (PySem.W.looks_clsIn X q) ?_))))))
 rw[e]
 refine Ee (a:=some dx) (Ec (Ee (Ec ?_)))
 refine wpAny_nsSet1 (s:={ s with toks:=s.toks+1 }) I.ns λd H c=>?_
 obtain⟨F,u,z,g,i,j⟩:=H.count (PySem.Within.cons name v o)
 refine Ec (wpAny_lookBehind g (by rw[i];exact pastItsLine_dict (Es j (by rw[EM];omega))) ?_)
 exact Ee (h _ #[(c.2 _ (ES I.ne)).trans I.obj,H,I.ne] c)
theorem oX{R:Result->Shared->Prop}(X:K.In s.heap)(H:PySem.W.makesIn K C=true)
  (b:findIn K (.ref C) "__init__"=some (some (.ref f))) (c:typeIn K (.ref f)=some (.type "function"))
  (h:codeAny (model prog w) (A.under (.builtin "type.__call__" #[.ref C::a,k])) (.call (.ref f) #[.ref (s.heap.objs.size+1)::a,k]) (PySem.W.InitBack (s.heap.objs.size+1) R)
   { s with heap:=(s.heap.push emptyDict).push (instObj C s.heap.objs.size) }):
  codeAny (model prog w) A (.call (.ref C) #[a,k]) R s:=by
 obtain⟨e,g,d,t,os⟩:=s
 exact PySem.W.make_core (PySem.W.makes_of X H) (PySem.W.looks_findIn X b) (λS=>PySem.W.bind_fn X S c) (.inl Z) h
end
noncomputable def dQ(f:Str)(v:V):List (Str×V)->List (Str×V)
 | []=>[(f,v)]
 | (g,x)::r=>if g=f then (g,v)::r else (g,x)::dQ f v r
theorem JE(f g:Str)(v:V):∀F:List (Str×V),(dQ f v F).lookup g=if g=f then some v else F.lookup g
 | []=>by
  show List.lookup g [(f,v)]=_
  by_cases h:g=f
  ·have H:(g==f)=true:=beq_iff_eq.mpr h
   simp only[List.lookup,H,Er h]
  ·have H:(g==f)=false:=beq_eq_false_iff_ne.mpr h
   simp only[List.lookup,H,Ew h]
 | (k,x)::r=>by
  have i:=JE f g v r
  rw[show dQ f v ((k,x)::r)=(if k=f then (k,v)::r else (k,x)::dQ f v r) from Z]
  by_cases a:k=f
  ·rw[Er a]
   by_cases h:g=k
   ·have H:(g==k)=true:=beq_iff_eq.mpr h
    simp only[List.lookup,H,Er (h.trans a)]
   ·have H:(g==k)=false:=beq_eq_false_iff_ne.mpr h
    simp only[List.lookup,H,Ew (λe:g=f=>h (e.trans a.symm))]
  ·rw[Ew a]
   by_cases h:g=k
   ·have H:(g==k)=true:=beq_iff_eq.mpr h
    simp only[List.lookup,H,Ew (λe:g=f=>a (h.symm.trans e))]
   ·have H:(g==k)=false:=beq_eq_false_iff_ne.mpr h
    simp only[List.lookup,H]
    exact i
theorem Jy(f:Str)(v:V):∀F:List (Str×V),f∈(dQ f v F).map (·.1)/\∀g,g∈F.map (·.1)->g∈(dQ f v F).map (·.1)
 | []=>#[by simp [dQ],λg h=>by simp at h]
 | (k,x)::r=>by
  obtain⟨i,I⟩:=Jy f v r
  rw[show dQ f v ((k,x)::r)=(if k=f then (k,v)::r else (k,x)::dQ f v r) from Z]
  by_cases H:k=f
  ·rw[Er H]
   subst H
   exact#[Lp,λg h=>by simpa using h]
  ·rw[Ew H]
   refine#[?_,λg h=>?_]
   ·rw[FF]
    exact EB _ i
   ·rw[FF]at h ⊢
    rcases List.mem_cons.mp h with e |e
    ·exact List.mem_cons.mpr (.inl e)
    ·exact EB _ (I g e)
theorem JF(f:Str)(v:V):∀F:List (Str×V),(dQ f v F).length<=F.length+1
 | []=>by simp [dQ]
 | (k,x)::r=>by
  have i:=JF f v r
  rw[show dQ f v ((k,x)::r)=(if k=f then (k,v)::r else (k,x)::dQ f v r) from Z]
  by_cases h:k=f
  ·rw[Er h,EM,EM];omega
  ·rw[Ew h,EM,EM];omega
theorem dH.some_of{v:V}{o:Option Value}(r:dH (some v) o):∃u,o=some u/\aB v u:=by
 cases o with
 |none=>exact(show False from r).elim
 |some u=>exact#[u,Z,r]
theorem dH.none_of(r:dH none o):o=none:=by
 cases o with
 |none=>rfl
 |some u=>exact(show False from r).elim
theorem Y5(r:aB v u):PySem.W.handedIn u=true:=by
 cases v with
 |non=>cases (show u=Value.none from r);rfl
 |bl b=>cases (show u=Value.bool b from r);rfl
 |int i=>obtain⟨t,e⟩:=(show ∃t,u=Value.int i t from r);cases e;rfl
 |str x=>obtain⟨t,e⟩:=(show ∃t,u=Value.str x t from r);cases e;rfl
 |byt b=>obtain⟨t,e⟩:=(show ∃t,u=Value.bytes b t from r);cases e;rfl
 |flt b=>obtain⟨t,e⟩:=(show ∃t,u=Value.float b t from r);cases e;rfl
 |ref a=>cases (show u=Value.ref a from r);rfl
 |ty n=>cases (show u=Value.type n from r);rfl
section
variable {P:Program}{w:World}{H H':Hp}{h h':Heap}{a C dx:Addr}{fs fs':List (Str×V)}
theorem JT(b:dZ P w H h)(e:H a=some (.ins C dx fs)):∃m,lR h a dx C m/\(∀f,dH (fs.lookup f) (m f))/\PySem.Within m (fs.map (·.1))/\fs.length<=1000/\H dx=some (.own a):=by
 obtain⟨d,z,N,o,m,n,r,q⟩:=(show aJ P w H h a (.ins C dx fs) from b a _ e)
 exact#[m,#[o,n,N],r,q,z,d]
end
structure nK(K:Frag)(C:Addr):Prop where
 pg:plainGet K C Str.empty=true
 hd:hasDictIn K C=true
 po:PySem.W.plainOver K C=true
 sa:findIn K (.ref C) "__setattr__"=some (some (.builtin "object.__setattr__"))
theorem nK.get{K:Frag}(c:nK K C)(f:Str):plainGet K C f=true:=c.pg
noncomputable def bu(K:Frag)(C:Addr)(f:Str):Prop:=findIn K (.ref C) f=some none
theorem bu.taker{K:Frag}(n:bu K C f):PySem.W.takerIn K C f=some none:=by
 unfold PySem.W.takerIn
 rw[show findIn K (.ref C) f=some none from n]
 rfl
structure bV(K:Frag)(C:Addr)(m:Str)(f:Addr):Prop where
 at_:findIn K (.ref C) m=some (some (.ref f))
 fn:isFn K (.ref f)=true
 kp:keepIn K (.ref f)=true
section
variable {X:Cx}{pins:List (Addr×Obj)}{σ:St}{H:Hp}{s:Shared}{a C dx:Addr}{fs:List (Str×V)}{f:Str}{v:V}{A:Around}{E:Value->Shared->Prop}
theorem Kl{Q:Value->Shared->Prop}(I:ao X pins σ H s)(e:H a=some (.ins C dx fs))(c:nK X.K C)(n:bu X.K C f)(l:fs.lookup f=some v)
  (h:∀u S,ao X pins σ H S->aB v u->Q u S):wpAny (model X.prog X.w) A (getAttr (.ref a) f b) Q E s:=by
 obtain⟨m,O,r,_,_,_⟩:=JT I.hok e
 obtain⟨u,d,R⟩:=dH.some_of (v:=v) (o:=m f) (by rw[<- l];exact r f)
 exact ue I.kIn O (c.get f) c.hd n d (Y5 R) (h u _ (I.tok _) R)
theorem Km{Q:Value×List Value->Shared->Prop}(I:ao X pins σ H s)(e:H a=some (.ins C dx fs))(c:nK X.K C)(k:bV X.K C m g)(l:fs.lookup m=none)
  (h:Q (.ref g,[.ref a]) s):wpAny (model X.prog X.w) A (getMethod (.ref a) m p) Q E s:=by
 obtain⟨M,O,r,_,_,_⟩:=JT I.hok e
 have b:M m=none:=dH.none_of (by rw[<- l];exact r m)
 exact oM I.kIn O (c.get m) k.at_ k.fn b h
theorem Kn{Q:Unit->Shared->Prop}(I:ao X pins σ H s)(e:H a=some (.ins C dx fs))(c:nK X.K C)(n:bu X.K C f)(F:fs.length < 1000)(R:aB y u)
  (h:∀S,ao X pins σ (ah H a (.ins C dx (dQ f y fs))) S->Q () S):wpAny (model X.prog X.w) A (setAttr (.ref a) f u) Q E s:=by
 obtain⟨m,O,r,W,_,i⟩:=JT I.hok e
 have j:(fs.map (·.1)).length<=sizeLine:=by rw[Ef,Iz];omega
 refine vC I.kIn O c.sa c.po n.taker c.hd W j λk d l=>h _ ?_
 have p:∃o,k.get? dx=some o:=let #[o,_,_,t,_]:=d.ns;#[o,t]
 refine I.write (x:=a) (e:=dx) (by rw[e];exact True.intro) (.inr i) (λb q B z=>(l.2 b B).trans z) p ?_
 refine#[by rw[jl O.ne];exact i,?_,O.ne,d.obj,_,d.ns,λg=>?_,λg D=>?_]
 ·have:=JF f y fs;omega
 ·show dH ((dQ f y fs).lookup g) (if g=f then some u else m g)
  rw[JE]
  by_cases q:g=f
  ·rw[Er q,Er q];exact R
  ·rw[Ew q,Ew q];exact r g
 ·by_cases q:g=f
  ·rw[q];exact(Jy f y fs).1
  ·refine(Jy f y fs).2 g (W g λz=>D ?_)
   show(if g=f then some u else m g)=none
   rw[Ew q];exact z
theorem ao.made(I:ao X pins σ H s):ao X pins σ (ah (ah H s.heap.objs.size (.own (s.heap.objs.size+1))) (s.heap.objs.size+1) (.ins C s.heap.objs.size []))
  { s with heap:=(s.heap.push emptyDict).push (instObj C s.heap.objs.size) }:=by
 have c:(s.heap.push emptyDict).get? s.heap.objs.size=some emptyDict:=El s.heap Z
 have d:((s.heap.push emptyDict).push (instObj C s.heap.objs.size)).get? (s.heap.objs.size+1)=some (instObj C s.heap.objs.size):=by
  have:=El (s.heap.push emptyDict) (o:=instObj C s.heap.objs.size) Z
  rwa [Fh]at this
 have g:(s.heap.push emptyDict).Ns s.heap.objs.size (λ_=>none):=#[emptyDict,(List.toArray []),_,c,Z,(λe h=>absurd h Lp),λ_=>Z]
 have i:=I.laid (a:=s.heap.objs.size) (o:=.own (s.heap.objs.size+1)) (h':=s.heap.push emptyDict) (t':=s.toks) (λb u q=>Eg _ q) (Eh _) #[_,c]
 refine i.laid (a:=s.heap.objs.size+1) (o:=.ins C s.heap.objs.size []) (t':=s.toks) (λb u q=>Eg _ q) (ID (Fh _ _)) ?_
 have n:s.heap.objs.size≠s.heap.objs.size+1:=En (FQ _)
 refine#[by rw[jl n,jc],Eu _,n,d,λ_=>none,(Heap.Ns1.of_empty g).at λo q=>Eg _ q,λ_=>True.intro,λy j=>absurd Z j]
theorem tP{f:Str}{s:Shared}(c:attributeBase e f b (eval e b)=eval e b)
  (h:wpAny (model p w) A (eval e b) (λo S=>wpAny (model p w) A (getAttr o f true) Q E S) E s):wpAny (model p w) A (eval (.Attribute e f d) b) Q E s:=
 Attribute_any_ h (by rw[arm_eval_Attribute,c])
end
noncomputable def Ds(K:Frag)(t:TE)(f:Str):TE:=λb H Q=>t b H λx h=>∃a C d F v,x= .ref a/\h a=some (.ins C d F)/\nK K C/\bu K C f/\F.lookup f=some v/\Q v h
noncomputable def Dg(K:Frag)(t T:TE)(f:Str):TS:=λD b H=>T b H λy c=>t b c λx h=>∃a C d F,x= .ref a/\h a=some (.ins C d F)/\nK K C/\bu K C f/\F.length < 1000/\
 D.nx b (ah h a (.ins C d (dQ f y F)))
noncomputable def Ax(X:Cx)(o:Operator)(r:V->V->Hp->VK->Prop):Prop:=
 ∀(p:List (Addr×Obj)) (s:Shared) (a:St) (H:Hp) (x y:V) (u v:Value) (Q:VK),ao X p a H s->aB x u->aB y v->r x y H Q->wpAny (model X.prog X.w) X.A (inplaceOp o u v) (EP X p a Q) X.xe s
noncomputable def vh(K:Frag)(t T:TE)(r:V->V->Hp->VK->Prop)(f:Str):TS:=λD b H=>t b H λx h=>∃a C g c v,x= .ref a/\h a=some (.ins C g c)/\nK K C/\bu K C f/\c.lookup f=some v/\
 T b h λy i=>r v y i λz e=>∃d F,e a=some (.ins C d F)/\F.length < 1000/\D.nx b (ah e a (.ins C d (dQ f z F)))
section
variable {X:Cx}{o e value:Expr}{f:Str}{pos pos' tpos:Pos}{ta tv:TE}
theorem zA(b:PE X e ta)(d:attributeBase e f X.env (eval e X.env)=eval e X.env):PE X (.Attribute e f pos) (Ds X.K ta f):=by
 intro p s g H Q I h
 refine tP d (aO (b p s g H _ I h) λu S z=>?_)
 obtain⟨x,i,j,r,a,C,D,F,v,E,k,c,n,l,q⟩:=z
 subst E
 obtain rfl:u=Value.ref a:=r
 exact Kl j k c n l λU t m R=>#[v,i,m,R,q]
theorem qK(d:PE X o ta)(g:PE X value tv)(i:swapsWith value (some (.Attribute o f pos')) pos.line X.env=pure false):PS X (.Assign [.Attribute o f pos'] value pos) (Dg X.K ta tv f):=by
 intro p s b H D I h
 refine plainObj_wpAny_Assign_Attribute (aO (g p s b H _ I h) λu S #[y,j,k,r,q]=>aO (d p S b j _ k q) λO w z=>?_) i
 obtain⟨x,A,m,R,a,C,B,F,E,t,c,n,l,Q⟩:=z
 subst E
 obtain rfl:O=Value.ref a:=R
 exact Kn m t c n l r λG v=>#[b,_,v,Q]
theorem Y6{O:Operator}{r:V->V->Hp->VK->Prop}(i:PE X o ta)(j:PE X value tv)(g:Ax X O r):PS X (.AugAssign (.Attribute o f tpos) O value pos) (vh X.K ta tv r f):=by
 intro p s d H D I h
 refine wpAny_AugAssign_AttributeAny (aO (i p s d H _ I h) λk s1 b=>?_)
 obtain⟨x,m,t,R,a,C,dx,fs,v,w,A,c,n,l,q⟩:=b
 subst w
 obtain rfl:k=Value.ref a:=R
 refine Kl t A c n l λu S B F=>aO (j p S d m _ B q) λW G #[y,J,L,M,Q]=>aO (g p G d J v y u W _ L F M Q) λw4 s4 b=>?_
 obtain⟨z,H3,N,P,T,U,E,Y,q4⟩:=b
 exact Kn N E c n Y P λs5 I5=>#[d,_,I5,q4]
noncomputable def C8:V->V->Hp->VK->Prop:=λx y H Q=>∃i j,x= .int i/\y= .int j/\Q (.int (i+j)) H
theorem xE:Ax X .Add C8:=by
 rintro p s a H x y u v Q I r R ⟨i,j,rfl,rfl,q⟩
 obtain⟨t,rfl⟩:=(show ∃t,u=Value.int i t from r)
 obtain⟨T,rfl⟩:=(show ∃T,v=Value.int j T from R)
 exact PyProof.Rows.iadd_int #[.int (i+j),H,I.tok _,#[_,Z],q]
end
section
variable {X:Cx}{pins:List (Addr×Obj)}{σ:St}{H:Hp}{s:Shared}{A:Around}{E:Value->Shared->Prop}{Q:Value->Shared->Prop}{c:Value}{b:Bool}
inductive b8(K:Frag)(H:Hp):V->Value->Prop where
 |non:b8 K H .non (.type "NoneType")
 |bl (x:Bool):b8 K H (.bl x) (.type "bool")
 |int (i:Int):b8 K H (.int i) (.type "int")
 |str (x:Str):b8 K H (.str x) (.type "str")
 |flt (x:UInt64):b8 K H (.flt x) (.type "float")
 |lst {a:Addr} {xs:List V} (e:H a=some (.lst xs)):b8 K H (.ref a) (.type "list")
 |frz {a:Addr} {o:Obj} {xs:List V} (e:H a=some (.frz o (.lst xs))):b8 K H (.ref a) (.type "list")
 |tup {a:Addr} {xs:List V} (e:H a=some (.tup xs)):b8 K H (.ref a) (.type "tuple")
 |dK {a:Addr} {kvs:List (bo×V)} (e:H a=some (.dK kvs)):b8 K H (.ref a) (.type "dict")
 |dT {a:Addr} {kvs:List (List bo×V)} (e:H a=some (.dT kvs)):b8 K H (.ref a) (.type "dict")
 |ins {a C dx:Addr} {fs:List (Str×V)} (e:H a=some (.ins C dx fs)) (cl:nK K C) (ha:findIn K (.ref C) "__class__"=some (some (.builtin "object.__class__")))
   (hn:specialIn K (.builtin "object.__class__") "__get__"=some (some (.builtin "getset_descriptor.__get__"))) (htk:PySem.W.takesIn K (.builtin "object.__class__")=some true)
   (hm:mroIn K C (.type "object")=some true):b8 K H (.ref a) (.ref C)
theorem Y7(I:ao X pins σ H s)(r:aB x u)(T:b8 X.K H x t)(e:kitOne X.K t c=some b)(h:∀v,Q (.bool b) { s with toks:=v }):
  wpAny (model X.prog X.w) A (call (.builtin "isinstance") [u,c]) Q E s:=by
 cases T with
 |non=>cases (show u=Value.none from r);exact HI PySem.W.kitx_none I.kIn True.intro e (λz=>nomatch z) h
 |bl y=>cases (show u=Value.bool y from r);exact HI PySem.W.kitx_bool I.kIn True.intro e (λz=>nomatch z) h
 |int i=>obtain⟨t,q⟩:=(show ∃t,u=Value.int i t from r);cases q;exact HI PySem.W.kitx_int I.kIn True.intro e (λz=>nomatch z) h
 |str y=>obtain⟨t,q⟩:=(show ∃t,u=Value.str y t from r);cases q;exact HI PySem.W.kitx_str I.kIn True.intro e (λz=>nomatch z) h
 |flt y=>obtain⟨t,q⟩:=(show ∃t,u=Value.float y t from r);cases q;exact HI PySem.W.kitx_float I.kIn True.intro e (λz=>nomatch z) h
 | @lst a g d=>
  cases (show u=Value.ref a from r)
  obtain⟨_,_,n,_,f⟩:=(show aJ X.prog X.w H s.heap a (.lst g) from I.hok a _ d)
  exact HI PySem.W.kitx_list I.kIn #[_,f,Z] e (λz=>nomatch z) h
 | @frz a B g d=>
  cases (show u=Value.ref a from r)
  obtain⟨_,_,_,n,_,f⟩:=(show aJ X.prog X.w H s.heap a (.frz B (.lst g)) from I.hok a _ d)
  exact HI PySem.W.kitx_list I.kIn #[_,f,Z] e (λz=>nomatch z) h
 | @tup a g d=>
  cases (show u=Value.ref a from r)
  obtain⟨_,_,_,p⟩:=(show aJ X.prog X.w H s.heap a (.tup g) from I.hok a _ d)
  obtain⟨o,f,j,_⟩:=p
  exact HI PySem.W.kitx_tuple I.kIn #[o,f,j] e (λz=>nomatch z) h
 | @dK a k d=>
  cases (show u=Value.ref a from r)
  obtain⟨_,_,V,_,p⟩:=(show aJ X.prog X.w H s.heap a (.dK k) from I.hok a _ d)
  obtain⟨o,D,F,f,j,_⟩:=p
  exact HI PySem.W.kitx_dict I.kIn #[o,f,j.1] e (λz=>nomatch z) h
 | @dT a k d=>
  cases (show u=Value.ref a from r)
  obtain⟨_,_,g,_,o,D,F,f,j,_⟩:=(show aJ X.prog X.w H s.heap a (.dT k) from I.hok a _ d)
  exact HI PySem.W.kitx_dict I.kIn #[o,f,j.1] e (λz=>nomatch z) h
 | @ins a C N P d m G L l M=>
  cases (show u=Value.ref a from r)
  obtain⟨R,O,_⟩:=JT I.hok d
  obtain⟨S,J,_⟩:=O.look
  exact HI (PySem.W.kitx_own (m.get _) m.hd G L l M) I.kIn J e (λz=>nomatch z) h
end
structure bE(k:Nat)(A:Around):Prop where
 hd:A.handled=none
 dp:A.depth+3*k+5 < recursionLimit
 un:A.units+16*k+200 < cLine
theorem bE.mono(r:bE k A)(h:j<=k):bE j A:=#[r.hd,by have:=r.dp;omega,by have:=r.un;omega]
theorem bE.deeper(r:bE (k+1) A)(e:Env):bE k (A.deeper e):=
 #[r.hd,by have:=r.dp;show A.depth+1+3*k+5 < _;omega,by have:=r.un;show A.units+3+16*k+200 < _;omega]
theorem XH{A:Around}:(A.under (.builtin "type.__call__" #[.ref C::u,k])).depth=A.depth+1:=by
 first |rfl |simp [Around.under,Code.weight,Code.isCreation,Code.isGuard,Code.isCaller,Code.frames,Code.isFrame,guardIds]
theorem XI{A:Around}:(A.under (.builtin "type.__call__" #[.ref C::u,k])).units=A.units+1:=by
 first |rfl |simp [Around.under,Code.cUnits,Code.frames,Code.isFrame]
theorem bE.make(r:bE (k+1) A)(C:Addr)(u:List Value)(K:List (Str×Value)):bE k (A.under (.builtin "type.__call__" #[.ref C::u,K])):=
 #[r.hd,by have:=r.dp;rw[XH];omega,by have:=r.un;rw[XI];omega]
theorem bE.depth(r:bE k A):A.depth < recursionLimit:=by have:=r.dp;omega
theorem bE.units(r:bE k A):A.units+64 < cLine:=by have:=r.un;omega
noncomputable def aL:TA:=λ_ H Q=>Q [] H
noncomputable def al(t:TE)(T:TA):TA:=λa H Q=>t a H λx h=>T a h λX b=>Q (x::X) b
section
variable {X:Cx}{e:Expr}{es:List Expr}{te:TE}{t:TA}{pos:Pos}
theorem jb:PA X [] aL:=λ_ _ _ _ H Q I h=>GS #[[],H,I,.nil,h]
theorem ja(b:PE X e te)(c:PA X es t)(d:starEach (e::es) X.env=(false,eval e X.env)::starEach es X.env:=by rfl):PA X (e::es) (al te t):=by
 intro pos p s a H Q I h
 rw[d]
 show wpAny _ _ (spliced ((false,eval e X.env)::backTo pos (starEach es X.env))) _ _ s
 refine Gp (aO (b p s a H _ I h) λu S z=>?_)
 obtain⟨x,f,i,r,q⟩:=z
 exact aO (c pos p S a f _ i q) λU m #[g,j,k,R,l]=>#[x::g,j,k,.cons r R,l]
noncomputable def bN(t:TA):TE:=λa H Q=>t a H λx h=>x.length<=sizeLine/\∀p,h p=none->Q (.ref p) (ah h p (.tup x))
noncomputable def lI(t:TA):TE:=λa H Q=>t a H λx h=>x.length<=sizeLine/\∀p,h p=none->Q (.ref p) (ah h p (.lst x))
theorem ji{x}(h:PA X es t):PE X (.Tuple es x pos) (bN t):=by
 intro p s c H Q I d
 refine wpAny_Tuple_spliced (aO (h pos p s c H _ I d) λU S #[f,a,i,r,z,q]=>#[by rw[<- r.length];exact z,?_])
 have g:a S.heap.objs.size=none:=i.hok.fresh (Eh _)
 refine#[.ref S.heap.objs.size,ah a S.heap.objs.size (.tup f),i.laid (t':=S.toks) (λb u e=>Eg _ e) (Eh _) ?_,Z,q _ g]
 exact#[z,U,r,#[_,El _ Z,Z,_,Z]]
theorem jL(h:PA X es t):PE X (.List es pos) (lI t):=by
 intro p s c H Q I d
 refine wpAny_List_spliced (aO (h pos p s c H _ I d) λU S #[x,a,i,r,z,q]=>#[by rw[<- r.length];exact z,?_])
 have f:a S.heap.objs.size=none:=i.hok.fresh (Eh _)
 refine#[.ref S.heap.objs.size,ah a S.heap.objs.size (.lst x),i.laid (t':=S.toks) (λb u e=>Eg _ e) (Eh _) ?_,Z,q _ f]
 exact#[z,U,0,r,El _ Z]
end
noncomputable abbrev Sp:=List V->Hp->VK->XK->Prop
noncomputable abbrev nH:=List Env->Hp->Shared->XK->Value->Shared->Prop
structure lP(P:Program)(w:World)(K:Frag)(mg:Str->Option Value)(base:Heap)(A:Around)(outer:List Env)(s:Shared)(H:Hp):Prop where
 frames:A.frames=some outer
 mod:Mod K mg base
 bs:∀b o,base.get? b=some o->s.heap.get? b=some o/\H b=none
 bsz:base.objs.size<=s.heap.objs.size
 funs:s.heap.FunFrames base outer
 frf:∀b∈hZ outer,H b=none
 hok:dZ P w H s.heap
 bare:AllBare s.gens
noncomputable def CE(o:List Env)(P:Program)(w:World)(H:Hp)(s:Shared)(Q:VK)(u:Value)(S:Shared):Prop:=
 ∃v h,S.os=s.os/\AllBare S.gens/\Un (hZ o) [] H h s.heap S.heap/\dZ P w h S.heap/\aB v u/\Q v h
noncomputable def CR(C:nH)(o:List Env)(P:Program)(w:World)(H:Hp)(s:Shared)(Q:VK)(E:XK)(r:Result)(S:Shared):Prop:=
 match r with
 | .ok (.ret u)=>CE o P w H s Q u S
 | .ok _=>False
 | .error e=>C o H s E e S
structure ai(P:Program)(w:World)(K:Frag)(mg:Str->Option Value)(base:Heap)(CX:nH)(k:Nat)(f:Addr)(fd:FuncData)(ps:List Str)(sp:Sp):Prop where
 len:∀vs H Q E,sp vs H Q E->vs.length=ps.length
 run:∀(A:Around) (outer:List Env) (s:Shared) (H:Hp) (args:Args) (us:List Value) (vs:List V) (Q:VK) (E:XK),bE k A->lP P w K mg base A outer s H->BindsTo s fd args (ps.zip us)->ay vs us->sp vs H Q E->
  codeAny (model P w) A (.call (.ref f) args) (CR CX outer P w H s Q E) s
theorem lP.make{P:Program}{K:Frag}(e:lP P w K m b A o s H)(C:Addr)(u:List Value)(k:List (Str×Value)):
  lP P w K m b (A.under (.builtin "type.__call__" #[.ref C::u,k])) o s H:=#[by first |exact e.frames | (simpa [Around.under,Code.envs,Code.isFrame,pushEnvs] using e.frames),e.mod,e.bs,e.bsz,e.funs,e.frf,e.hok,e.bare]
section
variable {X:Cx}{pins:List (Addr×Obj)}{σ:St}{H:Hp}{s s':Shared}
theorem ao.env0(I:ao X pins σ H s):lP X.prog X.w X.K X.mg X.base X.A X.stack s H:=
 #[I.ok.frames,I.ok.mod,I.bs,Es I.ok.bsz I.sz,I.stack,I.stkFree,I.hok,I.bare]
theorem ao.after(I:ao X pins σ H s)(h:CE X.stack X.prog X.w H s Q u s'):EP X pins σ Q u s':=by
 obtain⟨v,c,os,B,U,a,r,q⟩:=h
 obtain⟨e,g,d,t,o⟩:=s'
 obtain rfl:o=s.os:=os
 exact#[v,c,I.call (h':=e) (g':=g) (d':=d) (t':=t) (ch:=[]) U a B (λb z=>absurd z Lp),r,q]
end
noncomputable def dB(s:Sp)(d:List V)(E:XK)(t:TA):TE:=λa H Q=>t a H λv h=>s (v++d) h Q E
noncomputable def sF(C:Addr)(m:Str)(s:Sp)(d:List V)(E:XK)(T:TE)(t:TA):TE:=λb H Q=>T b H λx h=>∃a D f,x= .ref a/\h a=some (.ins C D f)/\f.lookup m=none/\
 t b h λv c=>s (x::(v++d)) c Q E
noncomputable def BU(C:Addr)(s:Sp)(D:List V)(E:XK)(t:TA):TE:=λa H Q=>t a H λb h=>∀x d,h x=none->h d=none->d≠x->
 s (.ref x::(b++D)) (ah (ah h d (.own x)) x (.ins C d [])) (λv c=>v= .non/\Q (.ref x) c) E
noncomputable def aC(K:Frag)(f:FuncData)(p:List Str)(d:List Value):Prop:=
 ∀(s:Shared) (u:List Value),K.In s.heap->(u++d).length=p.length->BindsTo s f #[u,[]] (p.zip (u++d))
theorem aC.all{K:Frag}{p:List Str}(h:∀u:List Value,u.length=p.length->bindArgs f #[u,[]]=pure (p.zip u)):aC K f p []:=λs u _ H=>by
 rw[List.append_nil]at H ⊢
 exact .of_eq (h u H)
noncomputable def dj(C:nH)(X:Cx)(E:XK):Prop:=∀(p:List (Addr×Obj)) (a:St) (H:Hp) (s:Shared) (e:Value) (S:Shared),ao X p a H s->C X.stack H s E e S->X.xe e S
section
variable {X:Cx}{CX:nH}{k:Nat}{f C:Addr}{fd:FuncData}{ps:List Str}{sp:Sp}{dvs:List V}{ds:List Value}{E:XK}{x m:Str}{p pos apos:Pos}{e o:Expr}{es:List Expr}{ta:TE}{t:TA}
theorem Qu{us:List Value}{vs:List V}(F:ai X.prog X.w X.K X.mg X.base CX k f fd ps sp)(d:bE k X.A)(g:aC X.K fd ps ds)(i:ay dvs ds)(j:dj CX X E)
  (I:ao X a c H s) (r:ay vs us) (h:sp (vs++dvs) H Q E):wpAny (model X.prog X.w) X.A (call (.ref f) us) (EP X a c Q) X.xe s:=by
 have R:ay (vs++dvs) (us++ds):=r.append i
 have l:(us++ds).length=ps.length:=by rw[<- R.length];exact F.len _ _ _ _ h
 refine wpAny_call (G7 (F.run X.A X.stack s H #[us,[]] (us++ds) (vs++dvs) Q E d I.env0 (g s us I.kIn l) R h) λr S b=>?_)
 cases r with
 |error e=>exact j a c H s e S I b
 |ok n=>
  cases n with
  |ret u=>exact I.after b
  |next=>exact False.elim b
  |brk=>exact False.elim b
  |cont=>exact False.elim b
theorem kH(F:ai X.prog X.w X.K X.mg X.base CX k f fd ps sp)(c:bE k X.A)(d:Gl X x)(g:X.mg x=some (.ref f))(j:keepIn X.K (.ref f)=true)(l:aC X.K fd ps ds)(n:ay dvs ds)(u:dj CX X E)
  (v:PA X (e::es) t) (a:(x==("__debug__":Str))=false:=by decide) (y:starEach (e::es) X.env=(false,eval e X.env)::starEach es X.env:=by rfl) (b:(backTo pos (starEach es X.env)).any (·.1)=false:=by rfl):
  PE X (.Call (.Name x p) (e::es) [] pos) (dB sp dvs E t):=by
 intro P s z H Q I h
 refine Fm (zj I d g ?_ a)
 refine IZ (h₀:=X.base) I.ok.mod.kin j (aO (v pos P s z H _ I h) λU S #[B,D,i,r,q]=>#[i.kIn,?_]) y b
 exact Qu F c l n u i r q
theorem kY(v:PE X o ta)(c:nK X.K C)(g:bV X.K C m f)(F:ai X.prog X.w X.K X.mg X.base CX k f fd ps sp)(y:bE k X.A)(B:aC X.K fd ps ds)(D:ay dvs ds)(G:dj CX X E)(J:PA X (e::es) t)
  (b:starEach (e::es) X.env=(false,eval e X.env)::starEach es X.env:=by rfl) (d:(backTo pos (starEach es X.env)).any (·.1)=false:=by rfl)
  (L:eval (.Call (.Attribute o m apos) (e::es) [] pos) X.env=(do
   let O <- eval o X.env
   standAt apos.atName
   let (f,first) <- holding [O] (getMethod O m pl)
   callWith pos f first (backTo pos (starEach (e::es) X.env)) (backToKw pos (keywordEach [] X.env))):=by rfl):
  PE X (.Call (.Attribute o m apos) (e::es) [] pos) (sF C m sp dvs E ta t):=by
 intro P s i H Q I h
 refine Ia (pl:=pl) (aO (v P s i H _ I h) λu S z=>?_) L
 obtain⟨x,M,j,R,a,W,Y,N,T,l,q⟩:=z
 subst N
 obtain rfl:u=Value.ref a:=R
 refine Km j T c g l ?_
 refine IZ (first:=[.ref a]) (h₀:=X.base) I.ok.mod.kin g.kp (aO (J pos P S i M _ j q) λus s2 #[vs,H2,n,r,U]=>#[n.kIn,?_]) b d
 exact Qu (us:=.ref a::us) (vs:=.ref a::vs) F y B D G n (.cons Z r) U
theorem pN(d:PE X o ta)(c:nK X.K C)(b:bV X.K C m f)(F:ai X.prog X.w X.K X.mg X.base CX k f fd ps sp)(g:bE k X.A)(j:aC X.K fd ps ds)(n:ay dvs ds)(r:dj CX X E)
  (v:eval (.Call (.Attribute o m apos) [] [] pos) X.env=(do
   let O <- eval o X.env
   standAt apos.atName
   let (f,first) <- holding [O] (getMethod O m pl)
   callWith pos f first (backTo pos (starEach [] X.env)) (backToKw pos (keywordEach [] X.env))):=by rfl):
  PE X (.Call (.Attribute o m apos) [] [] pos) (sF C m sp dvs E ta aL):=by
 intro P s y H Q I h
 refine Ia (pl:=pl) (aO (d P s y H _ I h) λu S z=>?_) v
 obtain⟨x,G,i,R,a,J,L,B,D,l,q⟩:=z
 subst B
 obtain rfl:u=Value.ref a:=R
 refine Km i D c b l ?_
 exact PySem.W.callWith_K0 (first:=[.ref a]) i.kIn b.kp (Qu (us:=[.ref a]) (vs:=[.ref a]) F g j n r i (.cons Z .nil) q)
structure Mk(K:Frag)(C f:Addr):Prop where
 makes:PySem.W.makesIn K C=true
 init:findIn K (.ref C) "__init__"=some (some (.ref f))
 fn:isFn K (.ref f)=true
 kp:keepIn K (.ref C)=true
theorem pX(M:Mk X.K C f)(F:ai X.prog X.w X.K X.mg X.base CX k f fd ps sp)(l:bE (k+1) X.A)(n:aC X.K fd ps ds)(q:ay dvs ds)
  (y:dj CX X E) (I:ao X b c H s) (r:ay g U)
  (h:∀x d,H x=none->H d=none->d≠x->sp (.ref x::(g++dvs)) (ah (ah H d (.own x)) x (.ins C d [])) (λv z=>v= .non/\Q (.ref x) z) E):
  wpAny (model X.prog X.w) X.A (call (.ref C) U) (EP X b c Q) X.xe s:=by
 have j:=h (s.heap.objs.size+1) s.heap.objs.size (I.hok.fresh (Gm _)) (I.hok.fresh (Eh _)) (En (FQ _))
 have i:=ao.made (C:=C) I
 have R:ay (V.ref (s.heap.objs.size+1)::(g++dvs)) (Value.ref (s.heap.objs.size+1)::(U++ds)):=.cons Z (r.append q)
 have B:(Value.ref (s.heap.objs.size+1)::U++ds).length=ps.length:=by
  have e:=R.length
  rw[F.len _ _ _ _ j]at e
  exact e.symm
 refine wpAny_call (oX (f:=f) I.kIn M.makes M.init (beq_iff_eq.mp M.fn) (G7 (F.run _ X.stack _ _ #[Value.ref (s.heap.objs.size+1)::U,[]] (Value.ref (s.heap.objs.size+1)::(U++ds)) _ _ E (l.make C U [])
  (i.env0.make C U []) (n _ (Value.ref (s.heap.objs.size+1)::U) i.kIn B) R j) λr S a=>?_))
 cases r with
 |error e=>exact y b c _ _ e S i a
 |ok D=>
  cases D with
  |ret u=>
   obtain⟨v,G,J,L,N,O⟩:=i.after a
   subst N
   exact#[L,#[V.ref (s.heap.objs.size+1),G,J,Z,O]]
  |next=>exact False.elim a
  |brk=>exact False.elim a
  |cont=>exact False.elim a
theorem Yr(M:Mk X.K C f)(F:ai X.prog X.w X.K X.mg X.base CX k f fd ps sp)(c:bE (k+1) X.A)(d:Gl X x)(g:X.mg x=some (.ref C))(j:aC X.K fd ps ds)(l:ay dvs ds)(n:dj CX X E)
  (u:PA X (e::es) t) (a:(x==("__debug__":Str))=false:=by decide) (v:starEach (e::es) X.env=(false,eval e X.env)::starEach es X.env:=by rfl) (b:(backTo pos (starEach es X.env)).any (·.1)=false:=by rfl):
  PE X (.Call (.Name x p) (e::es) [] pos) (BU C sp dvs E t):=by
 intro P s y H Q I h
 refine Fm (zj I d g ?_ a)
 refine IZ (h₀:=X.base) I.ok.mod.kin M.kp (aO (u pos P s y H _ I h) λU S #[z,B,i,r,q]=>#[i.kIn,?_]) v b
 exact pX M F c j l n i r q
end
structure am(N P:List Str)(sc:Scope):Prop where
 kind:sc.kind= .function
 co:sc.isCoroutine=false
 gen:sc.isGenerator=false
 nd:N.Nodup
 pre:N.take P.length=P
 par:∀x∈P,sc.names.lookup x=some .local∨sc.names.lookup x=some .cell
 nofree:∀y∈sc.names,y.2≠ .free
theorem K6{kindOf:Str->Option NameKind}:∀{b:List (Str×Value)} {m:Str->Option Value},(∀v,(x,v)∉b)->bindL kindOf b m x=m x
 | [],_,_=>rfl
 | (n,v)::r,m,h=>by
  unfold bindL
  rw[K6 λw H=>h w (EB _ H)]
  split
  ·have:x≠n:=by rintro rfl;exact h v Ez
   simp [this]
  ·rfl
theorem K7{kindOf:Str->Option NameKind}:∀{b:List (Str×Value)} {m:Str->Option Value},(∀v,(x,v)∉b)->bindC kindOf b m x=m x
 | [],_,_=>rfl
 | (n,v)::r,m,h=>by
  unfold bindC
  rw[K7 λw H=>h w (EB _ H)]
  split
  ·rfl
  ·have:x≠n:=by rintro rfl;exact h v Ez
   simp [this]
theorem K8{kindOf:Str->Option NameKind}:∀{P:List Str} {V:List Value} {i:Nat} {m:Str->Option Value},P.Nodup->P[i]?=some x->V[i]?=some v->kindOf x=some .local->
  bindL kindOf (P.zip V) m x=some v
 | [],_,_,_,_,h,_,_=>by simp at h
 |_::_,[],_,_,_,_,h,_=>by simp at h
 |p::P,w::V,0,m,n,H,a,b=>by
  simp at H a;subst H;subst a
  show bindL kindOf ((p,w)::P.zip V) m p=_
  unfold bindL
  rw[K6 λv c=>(List.nodup_cons.mp n).1 (HV c).1,Er b]
  simp
 |p::P,w::V,i+1,m,n,H,a,b=>by
  show bindL kindOf ((p,w)::P.zip V) m x=_
  unfold bindL
  exact K8 (i:=i) (List.nodup_cons.mp n).2 (by simpa using H) (by simpa using a) b
theorem K9{kindOf:Str->Option NameKind}:∀{P:List Str} {V:List Value} {i:Nat} {m:Str->Option Value},P.Nodup->P[i]?=some x->V[i]?=some v->kindOf x≠some .local->
  bindC kindOf (P.zip V) m x=some v
 | [],_,_,_,_,h,_,_=>by simp at h
 |_::_,[],_,_,_,_,h,_=>by simp at h
 |p::P,w::V,0,m,n,H,a,b=>by
  simp at H a;subst H;subst a
  show bindC kindOf ((p,w)::P.zip V) m p=_
  unfold bindC
  rw[K7 λv c=>(List.nodup_cons.mp n).1 (HV c).1,Ew b]
  simp
 |p::P,w::V,i+1,m,n,H,a,b=>by
  show bindC kindOf ((p,w)::P.zip V) m x=_
  unfold bindC
  exact K9 (i:=i) (List.nodup_cons.mp n).2 (by simpa using H) (by simpa using a) b
noncomputable def fe(N:List Str)(v:List V):St:=v.map some++List.replicate (N.length - v.length) none
noncomputable def eN(C:nH)(P:Program)(w:World)(K:Frag)(mg:Str->Option Value)(base:Heap)(N:List Str)(q:Str)(S:Scope)(f:Addr)(c:Value)(A:Around)(outer:List Env)(s:Shared)(H:Hp)(E:XK):Cx where
 prog:=P
 w:=w
 K:=K
 mg:=mg
 base:=base
 A:=A.deeper (envOfC q S s.heap.objs.size f c)
 N:=N
 s₀:=s
 H₀:=H
 env:=envOfC q S s.heap.objs.size f c
 outer:=outer
 stack:=envOfC q S s.heap.objs.size f c::outer
 ex:=[]
 calm:=true
 fn:=λ_=>true
 pn:=[]
 xe:=λe b=>wpAny (model P w) (A.deeper (envOfC q S s.heap.objs.size f c)) (leaving (envOfC q S s.heap.objs.size f c) e) (λ_ a=>C outer H s E e a) (λd a=>C outer H s E d a) b
theorem QW{s:Scope}{n:Nat}(h:s.names.lookup x=some .cell):∃c,(cellsFrom n s.names []).lookup x=some c:=by
 have q:=PySem.W.cellsFrom_some s.names n [] (.inl h)
 exact Option.isSome_iff_exists.mp q
theorem Y8{P:Program}{K:Frag}{A:Around}{l:List V}
  (S:am N t d) (O:A.handled=none) (j:lP P w K M B A o s H) (hl:l.length=t.length) (r:ay l U)
  (x:InCallC s s.heap.objs.size (bindL (envOfC Q d s.heap.objs.size f I).kindOf (t.zip U) λ_=>none) (cellsFrom (s.heap.objs.size+1) d.names []) (bindC (envOfC Q d s.heap.objs.size f I).kindOf (t.zip U) λ_=>none) T):
  ao (eN Y P w K M B N Q d f I A o s H E) [] (fe N l) H T:=by
 have R:t.length<=N.length:=by have:=FE List.length S.pre;rw[ED]at this;omega
 obtain⟨F,tk,rfl,J⟩:=x.done
 have m:∀b:Addr,b∉(eN Y P w K M B N Q d f I A o s H E).ex:=λb z=>absurd (show b∈([]:List Addr) from z) Lp
 refine#[#[j.mod,S.kind,Z,Z,Eh _,λy z c F g=>?_,λy hy=>?_,λy c _ h=>?_,λ_=>O,Around.frames_deeper j.frames,.inr #[Z,Z],λb z=>absurd z (m b),j.bs,j.bsz,λb _ _=>m b,λb z=>absurd z (m b),j.funs,j.frf],
  rfl,j.bare,Un.kept J,#[_,x.toInCall.ns,λi y v F g h3=>?_],λy c h=>#[_,x.cell y c h],j.hok.fresh (Eh _),λy c h=>?_,λp C=>absurd (show p∈([]:List (Addr×Obj)) from C) Lp,j.hok.kept J,?_]
 ·exact name_of_addr x.apart (FL F) (FL g)
 ·have hy:d.names.lookup y=some .cell∨d.names.lookup y=some .free:=hy
  rcases hy with hy |hy
  ·exact QW hy
  ·exact absurd Z (S.nofree _ (FL hy))
 ·exact GP (x.above y c (FL h))
 ·have G:i < l.length:=by
   unfold fe at g
   by_cases G:i < l.length
   ·exact G
   ·rw[Gb (by simpa using G)]at g
    rw[Lk]at g
    split at g<;>cases g
  have W:l[i]?=some v:=by
   unfold fe at g
   rw[Gg (by simpa using G),Eo]at g
   cases e:l[i]? with
   |none=>rw[e]at g;cases g
   |some a=>rw[e]at g;cases g;rfl
  obtain⟨u,L,X⟩:=r.get W
  have C:t[i]?=some y:=by
   rw[<- S.pre,List.getElem?_take_of_lt Lo];exact F
  have D:t.Nodup:=by rw[<- S.pre];exact S.nd.sublist (Gn _ _)
  refine#[u,X,?_]
  rcases S.par y (EA C) with k |k
  ·exact .inl #[k,K8 D C L k]
  ·obtain⟨c,e⟩:=QW (n:=s.heap.objs.size+1) k
   refine .inr #[.inl k,c,e,?_]
   have q:=x.cell y c e
   rw[K9 D C L (by show d.names.lookup y≠_;rw[k];decide)]at q
   exact q
 ·exact j.hok.fresh (GP (x.above y c (FL h)))
 ·unfold fe
  show _=N.length
  rw[Ei,Ef,Hk]
  omega
theorem wn{P:Program}{K:Frag}{kV:Value}
    {G:Sp} (lk:K.lookup f=some #[oc,od,.func (fnOf name c p h a dV kV L pm an C ct),o1]) (M:codeIn K C c=true) (S:am N T a)
  (len:∀d H Q E,G d H Q E->d.length=T.length)
  (j:∀(A:Around) (O:List Env) (s:Shared) (H:Hp) (d:List V) (Q:VK) (E:XK),bE k (A.deeper (envOfC c a s.heap.objs.size f C))->G d H Q E->
   ∃t,i9 (eN U P w K Y B N c a f C A O s H E) h t/\t { nx:=λ_ i=>Q .non i,rt:=Q } (fe N d) H):
  ai P w K Y B U (k+1) f (fnOf name c p h a dV kV L pm an C ct) T G:=by
 refine#[len,λA O s H a0 us d Q E R z hb r D=>?_]
 have hl:=len _ _ _ _ D
 have KX:K.In s.heap:=z.mod.kin.keeps λb o e=>(z.bs b o e).1
 have X:s.heap.NoLimit:=z.mod.nolimit.keeps λb o e=>(z.bs b o e).1
 have l:∀y∈T.zip us,a.names.lookup y.1=some .local∨(a.names.lookup y.1=some .cell/\((cellsFrom (s.heap.objs.size+1) a.names []).lookup y.1).isSome=true):=λ#[n,v] hy=>by
  rcases S.par n (HV hy).1 with q |q
  ·exact .inl q
  ·exact .inr #[q,PySem.W.cellsFrom_some _ _ _ (.inl q)]
 refine codeAny_call_function R.depth (KX _ _ lk) Z S.co S.gen Z (PySem.W.codeRec_of KX M) (hb _ _ _ _ ?_)
 refine wpAny_newFunctionEnv_cells S.kind l λe1 he s1 x=>?_
 subst he
 refine#[X.keeps x.toInCall.keep,codeAny_func ?_]
 obtain⟨t,ht,hq⟩:=j A O s H d Q E (R.deeper _) D
 have I:ao (eN U P w K Y B N c a f C A O s H E) [] (fe N d) H s1:=Y8 S R.hd z hl r x
 refine Fu (ht [] s1 (fe N d) H _ I hq) (λfl s' m=>?_) λe s' m=>m
 have F:∀{g:St} {i:Hp} {v:V} {u:Value},ao (eN U P w K Y B N c a f C A O s H E) [] g i s'->aB v u->Q v i->CE O P w H s Q u s':=
  λ{g i v u} J rv q=>#[v,i,J.os,J.bare,J.base,J.hok,rv,q]
 cases fl with
 |ret u=>
  obtain⟨v,g,i,J,rv,q⟩:=m
  exact F J rv q
 |next=>
  obtain⟨g,i,J,q⟩:=m
  exact F (v:=V.non) (u:=Value.none) J Z q
 |brk=>
  obtain⟨_,_,_,q⟩:=m
  exact False.elim q
 |cont=>
  obtain⟨_,_,_,q⟩:=m
  exact False.elim q
section
variable {X:Cx}{x:Str}{p pos:Pos}{e:Expr}{es:List Expr}{t:TA}{id T:String}{r:List V->Hp->VK->Prop}
noncomputable def CA(r:List V->Hp->VK->Prop)(t:TA):TE:=λa H Q=>t a H λv h=>r v h Q
theorem jF(d:c8 X (.builtin id) r)(f:Gl X x)(g:X.mg x=none)(i:bootBuiltins x=some (.builtin id))(j:PA X (e::es) t)(k:x≠"__name__":=by decide)(a:(x==("__debug__":Str))=false:=by decide)
  (l:starEach (e::es) X.env=(false,eval e X.env)::starEach es X.env:=by rfl) (b:(backTo pos (starEach es X.env)).any (·.1)=false:=by rfl):PE X (.Call (.Name x p) (e::es) [] pos) (CA r t):=by
 intro P s c H Q I h
 refine Fm (zN I f g i ?_ k a)
 exact PyProof.Rows.callWith_builtin1 (aO (j pos P s c H _ I h) λu S #[v,m,n,R,q]=>d P S c m v u Q n R q) l b
theorem jC(d:c8 X (.type T) r)(f:Gl X x)(g:X.mg x=none)(i:bootBuiltins x=some (.type T))(j:PA X (e::es) t)(k:x≠"__name__":=by decide)(a:(x==("__debug__":Str))=false:=by decide)
  (l:starEach (e::es) X.env=(false,eval e X.env)::starEach es X.env:=by rfl) (b:(backTo pos (starEach es X.env)).any (·.1)=false:=by rfl):PE X (.Call (.Name x p) (e::es) [] pos) (CA r t):=by
 intro P s c H Q I h
 refine Fm (zN I f g i ?_ k a)
 exact Ff (aO (j pos P s c H _ I h) λu S #[v,m,n,R,q]=>d P S c m v u Q n R q) l b
end
end _L
namespace HT
open PySem PyProof.Rows
theorem eqAt_int(A:Around)(s:Shared)(a:Int)(t:Tok)(c:Int)(u:Tok):∃e,SeqAt.EqAt A s (.int a t) (.int c u) e/\(e=true↔a=c):=
 #[(a==c),SeqAt.EqAt.int_int a t c u,Lp]
section
variable {prog:Program}{w:World}{A:Around}{E:Value->Shared->Prop}{s:Shared}
theorem cat_tup{v W:List Value}{Q:Value->Shared->Prop}(m:IsTup s.heap t v.toArray)(o:IsTup s.heap b W.toArray)(i:v≠[])
  (p:W=[]->Q (.ref t) s) (q:W≠[]->Q (.ref s.heap.objs.size) { s with heap:=s.heap.push { cls:=.type "tuple",data:=.seq (v++W).toArray } })
  (g:v.length+W.length<=sizeLine):wpAny (model prog w) A (binaryOp .Add (.ref t) (.ref b)) Q E s:=by
 obtain⟨⟨cls,D,data,j⟩,c,k,n,l⟩:=id m
 obtain⟨⟨C,d,data2,S⟩,h,H,N,a⟩:=id o
 simp only at k l H a
 subst k l H a
 have e:v.toArray++W.toArray=(v++W).toArray:=by simp
 by_cases f:W=[]
 ·exact concat_meets #[_,c,Z] #[_,h,Z] Lb seq_tuple_add HM HJ (Hw _ _)
   (tuple_addW1 t b v.toArray W.toArray n N D d j S (by simpa using i) (by simp [f])) #[c,h,p f]
 ·refine concat_meets #[_,c,Z] #[_,h,Z] Lb seq_tuple_add HM HJ (Hw _ _)
   (tuple_addW2 t b v.toArray W.toArray n N D d j S (by simpa using i) (by simpa using f) (by rw[Ej,Ej];exact g)) #[c,h,?_]
  rw[e]
  exact q f
noncomputable def sIx(n d:Nat):Option Int->Nat
 |none=>d
 |some v=>if v < 0 then (v+(n:Int)).toNat else min v.toNat n
theorem sIx_none(n d:Nat):sIx n d none=d:=rfl
theorem sIx_nat(n d k:Nat):sIx n d (some (k:Int))=min k n:=by
 show(if (k:Int) < 0 then ((k:Int)+(n:Int)).toNat else min (k:Int).toNat n)=min k n
 rw[Ew Lo,Fs]
theorem yO(n d:Nat)(H:d<=n)(o:Option Int):sIx n d o<=n:=by
 cases o with
 |none=>exact H
 |some v=>
  show(if v < 0 then (v+(n:Int)).toNat else min v.toNat n)<=n
  by_cases h:v < 0
  ·rw[Er h];omega
  ·rw[Ew h];exact Nat.min_le_right _ _
theorem Ys(v:Int)(n d:Nat):(if v < 0 then max (v+(n:Int)) 0 else min v (n:Int))=((sIx n d (some v):Nat):Int):=by
 show(if v < 0 then max (v+(n:Int)) 0 else min v (n:Int))=(((if v < 0 then (v+(n:Int)).toNat else min v.toNat n):Nat):Int)
 by_cases h:v < 0
 ·simp only[Er h];omega
 ·simp only[Ew h];omega
theorem XJ(lo h:Option Int)(n:Nat):Builtin.Slice.sliceAdjust lo h 1 (n:Int)=(((sIx n 0 lo:Nat):Int),((sIx n n h:Nat):Int)):=by
 have H:¬((1:Int) < 0):=by omega
 unfold Builtin.Slice.sliceAdjust
 simp only[H,Fy]
 refine Prod.ext ?_ ?_
 ·cases lo with
  |none=>rfl
  |some v=>exact Ys v n 0
 ·cases h with
  |none=>rfl
  |some v=>exact Ys v n n
theorem XL(i j:Nat):Builtin.Slice.slicePlaces (i:Int) (j:Int) 1=j - i:=by
 unfold Builtin.Slice.slicePlaces
 have h:(1:Int) > 0:=by omega
 simp only[h,Hf,Int.ediv_one]
 split<;>omega
theorem Ko{Q:Option Int->Shared->Prop}(p:IsPart v o)(h:Q o s):wpAny (model prog w) A (Builtin.Slice.slicePartIndex v) Q E s:=by
 cases p with
 |none=>exact slicePart_none h
 |int i t=>exact slicePart_int h
theorem sliceApplied_gen{lo:Option Int}{Q:Int×Int×Nat->Shared->Prop}(d:s.heap.IsSliceOf e v c .none)(p:IsPart v lo)(P:IsPart c b)
  (h:Q (((sIx n 0 lo:Nat):Int),1,sIx n n b - sIx n 0 lo) s):wpAny (model prog w) A (Builtin.Slice.sliceApplied (.ref e) (pure (n:Int))) Q E s:=by
 obtain⟨os,H,f,a⟩:=id d
 unfold Builtin.Slice.sliceApplied Builtin.Slice.sliceFields
 refine Ec (Ec (EJ H a (x:=v) Z (Ec (EJ H a (x:=c) Z (Ec (EJ H a (x:=.none) Z (Ee ?_)))))))
 refine Ec (slicePart_none ?_)
 show wpAny _ _ (if ((1:Int)==0)=true then _ else _) _ _ s
 rw[Ew Ln]
 refine Ec (Ko p (Ec (Ko P (Ec (Ee ?_)))))
 show wpAny _ _ (match Builtin.Slice.sliceAdjust lo b 1 (n:Int) with | (lo,b)=>pure (lo,(1:Int),Builtin.Slice.slicePlaces lo b 1)) _ _ s
 rw[XJ lo b n]
 show wpAny _ _ (pure (((sIx n 0 lo:Nat):Int),(1:Int),Builtin.Slice.slicePlaces ((sIx n 0 lo:Nat):Int) ((sIx n n b:Nat):Int) 1)) _ _ s
 rw[XL]
 exact Ee h
theorem pQ(X:Array Value)(i k:Nat):((List.range k).filterMap λ(m:Nat)=>X[((i:Int)+(m:Int)*1).toNat]?).toArray=((X.toList.drop i).take k).toArray:=by
 have e:(λ(m:Nat)=>X[((i:Int)+(m:Int)*1).toNat]?)=λm=>X[i+m]?:=by
  funext m
  have:((i:Int)+(m:Int)*1).toNat=i+m:=by omega
  rw[this]
 rw[e]
 have:=pick_run X i k
 rw[List.filterMap_map]at this
 have a:((λx=>X[x]?) ∘ λx=>i+x)=λm=>X[i+m]?:=rfl
 rw[a]at this
 rw[this]
theorem getItem_tuple_cut{lo:Option Int}{Q:Value->Shared->Prop}(ht:IsTup s.heap t items)(hs:s.heap.IsSliceOf sl vl vu .none)(pl:IsPart vl lo)(pu:IsPart vu hi)
  (hw:¬(sIx items.size 0 lo=0/\sIx items.size items.size hi=items.size))
  (h:Q (.ref s.heap.objs.size) { s with heap:=s.heap.push { cls:=.type "tuple",data:=.seq ((items.toList.drop (sIx items.size 0 lo)).take (sIx items.size items.size hi - sIx items.size 0 lo)).toArray } })
  (hsz:items.size<=sizeLine):wpAny (model prog w) A (getItem (.ref t) (.ref sl)) Q E s:=by
 have htake:sizeOk (.seq ((items.toList.drop (sIx items.size 0 lo)).take (sIx items.size items.size hi - sIx items.size 0 lo)).toArray):=by
  show((items.toList.drop (sIx items.size 0 lo)).take (sIx items.size items.size hi - sIx items.size 0 lo)).toArray.size<=sizeLine
  rw[Ej,ED,Ga,EC]
  omega
 have hj:sIx items.size items.size hi<=items.size:=yO _ _ (Eh _) hi
 obtain⟨os,hos,hcs,hds⟩:=id hs
 have hTs:s.TypeIs (.ref sl) "slice":=#[os,hos,hcs]
 unfold getItem
 try with_reducible refine EG ?_
 first |refine Ec (Ee ?_) |skip
 refine Ec (IX ht.typeIs Ln ?_)
 refine Ec (EV (name:=Str.ofString "__getitem__") ht.typeIs Gs
  (EX Gs ht.typeIs entry_tuple_getitem ?_ (args_tuple_getitem _ _)))
 show wpAny _ _ (Builtin.Tuple.tupleItemsOf (.ref t) >>= _) _ _ s
 refine Ec (tupleItemsOf_ ht ?_)
 refine Ec (Gf hTs ?_)
 rw[Er Ln]
 refine Ec (sliceApplied_gen hs pl pu ?_)
 have hno:¬((((sIx items.size 0 lo:Nat):Int)==0&&(1:Int)==1&&(sIx items.size items.size hi - sIx items.size 0 lo)==items.size)=true):=by
  intro q
  rw[Fx,Fx]at q
  have q1:((sIx items.size 0 lo:Nat):Int)=0:=eq_of_beq q.1.1
  have q2:sIx items.size items.size hi - sIx items.size 0 lo=items.size:=eq_of_beq q.2
  exact hw #[Lo,Lo]
 show wpAny _ _ (if (((sIx items.size 0 lo:Nat):Int)==0&&(1:Int)==1&&(sIx items.size items.size hi - sIx items.size 0 lo)==items.size)=true then _ else _) _ _ s
 rw[Ew hno,pQ]
 first
  |exact Ec (m:=Builtin.Tuple.tupleExact _) (EY (Ee #[_,Z,Ee h]) htake)
  |exact Ec (m:=Builtin.Tuple.tupleExact _) (EY (Ec (Ee (Ee #[_,Z,Ee h]))) htake)
  |exact Ec (Ec (m:=Builtin.Tuple.tupleExact _) (EY (Ee (Ee #[_,Z,Ee h])) htake))
  |exact Ec (Ec (m:=Builtin.Tuple.tupleExact _) (EY (Ee #[_,Z,Ee h]) htake))
end
end HT
namespace _L
open PySem PySem.Spec PyProof.Rows
noncomputable abbrev TO:=St->Hp->(Option Int->Hp->Prop)->Prop
noncomputable def PO(X:Cx)(e:Option Expr)(t:TO):Prop:=
 ∀(p:List (Addr×Obj)) (s:Shared) (a:St) (H:Hp) (Q:Option Int->Hp->Prop),ao X p a H s->t a H Q->
  wpAny (model X.prog X.w) X.A (evalPart e X.env) (λu S=>∃o h,ao X p a h S/\IsPart u o/\Q o h) X.xe s
noncomputable def i7:TO:=λ_ H Q=>Q none H
noncomputable def lJ(t:TE):TO:=λa H Q=>t a H λx h=>∃i,x= .int i/\Q (some i) h
section
variable {X:Cx}{e:Expr}{te:TE}{lo hi:Option Expr}{tl th:TO}{pos p2:Pos}
theorem j5:PO X none i7:=by
 intro p s a H Q I h
 rw[evalPart_none]
 exact Ee #[none,H,I,.none,h]
theorem jK(h:PE X e te):PO X (some e) (lJ te):=by
 intro p s a H Q I b
 rw[evalPart_some]
 refine aO (h p s a H _ I b) λu S z=>?_
 obtain⟨x,c,d,r,f⟩:=z
 obtain⟨i,rfl,q⟩:=f
 obtain⟨t,rfl⟩:=r
 exact#[some i,c,d,.int i t,q]
noncomputable def Cj(X:Cx)(r:V->Option Int->Option Int->Hp->VK->Prop):Prop:=
 ∀(p:List (Addr×Obj)) (s:Shared) (a:St) (H:Hp) (x:V) (v b c:Value) (lo hi:Option Int) (S:Addr) (Q:VK),ao X p a H s->aB x v->s.heap.IsSliceOf S b c .none->IsPart b lo->IsPart c hi->r x lo hi H Q->
  ∃T id,typeLookup (.type T) "__getitem__"=pure (some (.builtin id))/\s.TypeIs v T/\wpAny (model X.prog X.w) X.A (getItem v (.ref S)) (EP X p a Q) X.xe s
noncomputable def CB(r:V->Option Int->Option Int->Hp->VK->Prop)(te:TE)(tl th:TO):TE:=λa H Q=>te a H λx h=>tl a h λl b=>th a b λu c=>r x l u c Q
theorem jO{r:V->Option Int->Option Int->Hp->VK->Prop}(g:Cj X r)(i:PE X e te)(j:PO X lo tl)(k:PO X hi th):PE X (.Subscript e (.Slice lo hi none p2) pos) (CB r te tl th):=by
 intro p s a H Q I h
 refine Subscript_ (aO (i p s a H _ I h) λv m z=>?_)
 obtain⟨x,n,o,R,t⟩:=z
 refine wpAny_Slice (aO (j p m a n _ o t) λc y #[l,B,C,P,D]=>aO (k p y a B _ C D) λd S z=>?_)
 obtain⟨u,f,E,F,G⟩:=z
 rw[evalPart_none]
 refine Ee ?_
 have J:ao X p a f { S with heap:=S.heap.push { cls:=.type "slice",data:=.fields (List.toArray [c,d,.none]) } }:=E.kept (t':=S.toks) λb O q=>Eg _ q
 obtain⟨T,id,K,L,M⟩:=g p { S with heap:=S.heap.push { cls:=.type "slice",data:=.fields (List.toArray [c,d,.none]) } } a f x v c d l u S.heap.objs.size Q J R (Heap.IsSliceOf.new ..) P F G
 show wpAny (model X.prog X.w) X.A (subscriptTail e (.Slice lo hi none p2) v (.ref S.heap.objs.size)) (EP X p a Q) X.xe { S with heap:=S.heap.push { cls:=.type "slice",data:=.fields (List.toArray [c,d,.none]) } }
 exact tail_any (ops:=[.ref S.heap.objs.size,v]) L K M (by with_unfolding_all rfl)
noncomputable def aV(x:List V)(lo hi:Option Int):List V:=(x.drop (HT.sIx x.length 0 lo)).take (HT.sIx x.length x.length hi - HT.sIx x.length 0 lo)
theorem zg(x:List V)(lo hi:Option Int):(aV x lo hi).length<=x.length:=by
 unfold aV
 rw[ED,Ga]
 omega
noncomputable def De(K:Frag):V->Option Int->Option Int->Hp->VK->Prop:=λx lo hi H Q=>∃a b,x= .ref a/\ar K H a b/\
 ¬(HT.sIx b.length 0 lo=0/\HT.sIx b.length b.length hi=b.length)/\∀p,H p=none->Q (.ref p) (ah H p (.tup (aV b lo hi)))
theorem y6:Cj X (De X.K):=by
 intro p s n H x v V t lo hi S Q I R j P k h
 obtain⟨a,d,rfl,l,m,q⟩:=h
 cases R
 obtain⟨i,r,f,g⟩:=I.tuple l
 have c:i.toArray.size=d.length:=by rw[Ej];exact r.length.symm
 refine#["tuple",_,PyProof.Rows.slot_tuple_getitem.lookup,f.typeIs,?_]
 refine HT.getItem_tuple_cut f j P k (by rw[c];exact m) ?_ (by rw[c];exact g)
 rw[c]
 refine#[.ref s.heap.objs.size,_,I.laid (t':=s.toks) (o:=.tup (aV d lo hi)) (λb O q=>Eg _ q) (Eh _) ?_,Z,q _ (I.hok.fresh (Eh _))]
 exact#[Es (zg d lo hi) g,_,(r.drop (HT.sIx d.length 0 lo)).take (HT.sIx d.length d.length hi - HT.sIx d.length 0 lo),IsTup.new _ _]
noncomputable def Bu(K:Frag):R2:=λx y H Q=>∃a b c Y,x= .ref a/\y= .ref b/\ar K H a c/\ar K H b Y/\c≠[]/\c.length+Y.length<=sizeLine/\
 (Y=[]->Q (.ref a) H)/\(Y≠[]->∀p,H p=none->Q (.ref p) (ah H p (.tup (c++Y))))
theorem ay.nil_iff(r:ay x u):u=[]↔x=[]:=by
 cases r with
 |nil=>simp
 |cons _ _=>simp
theorem uP:eJ X (binaryOp .Add) (Bu X.K):=by
 intro p s A H x y v u Q I d f h
 obtain⟨a,b,g,Y,rfl,rfl,j,k,l,c,m,n⟩:=h
 cases d
 cases f
 obtain⟨t,R,P,_⟩:=I.tuple j
 obtain⟨i,r,p2,_⟩:=I.tuple k
 refine HT.cat_tup P p2 (λz=>l (R.nil_iff.mp z)) (λz=>#[.ref a,H,I,Z,m (r.nil_iff.mp z)]) (λz=>?_) (by rw[<- R.length,<- r.length];exact c)
 refine#[.ref s.heap.objs.size,_,I.laid (t':=s.toks) (o:=.tup (g++Y)) (λb O q=>Eg _ q) (Eh _) ?_,Z,n (λw=>z (r.nil_iff.mpr w)) _ (I.hok.fresh (Eh _))]
 exact#[by rw[Ei];exact c,_,R.append r,IsTup.new _ _]
end
noncomputable def lY(n:Nat)(i:Int):Option Nat:=if 0<=i then (if i < n then some i.toNat else none) else if -(n:Int)<=i then some (i+n).toNat else none
noncomputable def dC{a:Type}(x:List a)(i:Int):Option a:=(lY x.length i).bind λj=>x[j]?
theorem Yt(h:lY n i=some j):seqIndex? i n=some j/\j < n/\ -(n:Int)<=i/\i < n:=by
 unfold lY at h
 by_cases a:0<=i
 ·rw[Er a]at h
  by_cases H:i < n
  ·rw[Er H]at h
   have e:i.toNat=j:=EU h
   exact#[by rw[seqIndex_of a H,e],Lo,Lo,H]
  ·rw[Ew H]at h;cases h
 ·rw[Ew a]at h
  by_cases H: -(n:Int)<=i
  ·rw[Er H]at h
   have e:(i+n).toNat=j:=EU h
   exact#[by rw[seqIndex_neg Lo H,e],Lo,H,Lo]
  ·rw[Ew H]at h;cases h
theorem QB{a:Type}{x:List a}{v:a}(h:dC x i=some v):∃j,seqIndex? i x.length=some j/\x[j]?=some v/\j < x.length/\ -(x.length:Int)<=i/\i < x.length:=by
 unfold dC at h
 cases e:lY x.length i with
 |none=>rw[e]at h;cases h
 |some j=>
  rw[e]at h
  obtain⟨H,b,c,d⟩:=Yt e
  exact#[j,H,h,b,c,d]
theorem ju{a:Type}{x:List a}{j:Nat}{v:a}(h:x[j]?=some v):dC x (j:Int)=some v:=by
 have H:j < x.length:=(List.getElem?_eq_some_iff.mp h).1
 have e:lY x.length (j:Int)=some j:=by
  unfold lY
  rw[Er Lo,Er Lo];simp
 unfold dC;rw[e];exact h
noncomputable def tN(b:Expr):Prop:=∀o i,subscripted b false o i=operate [o,i] (getItem o i)
noncomputable def Cd(X:Cx)(r:R2):Prop:=
 ∀(a S:Expr) (p:List (Addr×Obj)) (s:Shared) (b:St) (H:Hp) (x y:V) (v u:Value) (Q:VK),ao X p b H s->aB x v->aB y u->r x y H Q->
  subscripted S false v u=operate [v,u] (getItem v u)->wpAny (model X.prog X.w) X.A (subscriptTail a S v u) (EP X p b Q) X.xe s
noncomputable def Ci(X:Cx)(id:String)(r:V->List V->Hp->VK->Prop):Prop:=
 ∀(p:List (Addr×Obj)) (s:Shared) (a:St) (H:Hp) (x:V) (b:List V) (v:Value) (u:List Value) (Q:VK),ao X p a H s->aB x v->ay b u->r x b H Q->
  wpAny (model X.prog X.w) X.A (call (.builtin id) (v::u)) (EP X p a Q) X.xe s
section
variable {X:Cx}{a b:Expr}{ta tb:TE}{pos:Pos}
theorem js{r:R2}(c:Cd X r)(d:PE X a ta)(e:PE X b tb)(f:tN b):PE X (.Subscript a b pos) (dF r ta tb):=by
 intro p s g H Q I h
 exact Subscript_ (xg d e I h λv u S x y i j R k q=>c a b p S g i x y v u Q j R k q (f _ _))
noncomputable def iy(K:Frag):R2:=λx y H Q=>∃p c i v,x= .ref p/\y= .int i/\aF K H p c/\dC c i=some v/\Q v H
noncomputable def eu(K:Frag):R2:=λx y H Q=>∃p c i v,x= .ref p/\y= .int i/\ar K H p c/\dC c i=some v/\Q v H
noncomputable def yH:R2:=λx y H Q=>∃z i c,x= .str z/\y= .int i/\z.length<=sizeLine/\dC z.cps.toList i=some c/\Q (.str #[(List.toArray [c])]) H
theorem jr:Cd X (iy X.K):=by
 intro V S P s k H x y v u Q I n o h l
 obtain⟨p,L,i,z,rfl,rfl,A,B,q⟩:=h
 cases n
 obtain⟨t,rfl⟩:=o
 obtain⟨d,r,e,M⟩:=I.list A
 obtain⟨j,c,C,N,D,F⟩:=QB B
 obtain⟨w,E,R⟩:=r.get C
 have G:=r.length
 have O:=dP
 have f:EP X P k Q w s:=#[z,H,I,R,q]
 by_cases m:0<=i
 ·have g:i.toNat=j:=by
   rw[seqIndex_of m F]at c
   exact EU c
  exact item_listR e.isList m Lo (by rw[g];simpa using E) f l
 ·have g:(i+(d.toArray.size:Int)).toNat=j:=by
   rw[seqIndex_neg Lo D]at c
   rw[Ej,<- G]
   exact EU c
  exact subscriptTail_builtinR (x:=w) e.isList.typeIs slot_list_getitem.lookup
   (wpAny_getItem_list_neg (Q:=λr J=>r=w/\EP X P k Q r J) e.isList Lo (by rw[Ej]<;>omega) Lo (by rw[g];simpa using E) #[Z,f]) l
theorem jJ:Cd X (eu X.K):=by
 intro V S P s c H x y v u Q I e g h k
 obtain⟨p,D,i,z,rfl,rfl,l,m,q⟩:=h
 cases e
 obtain⟨t,rfl⟩:=g
 obtain⟨n,r,d,F⟩:=I.tuple l
 obtain⟨j,o,A,G,J,L⟩:=QB m
 obtain⟨w,E,R⟩:=r.get A
 have B:=r.length
 have M:=dP
 have f:EP X P c Q w s:=#[z,H,I,R,q]
 exact subscriptTail_builtinR (x:=w) d.typeIs slot_tuple_getitem.lookup
  (getItem_tuple (j:=j) (Q:=λr C=>r=w/\EP X P c Q r C) d Lo Lo (by rw[Ej,<- B];exact o) (by simpa using E) #[Z,f]) k
theorem Kc:Cd X yH:=by
 intro V S p s o H x y v u Q I r R h e
 obtain⟨z,i,c,rfl,rfl,w,f,q⟩:=h
 obtain⟨t,rfl⟩:=r
 obtain⟨T,rfl⟩:=R
 obtain⟨j,d,g,A,k,l⟩:=QB f
 have m:z.cps.toList.length=z.length:=by simp [Str.length]
 rw[m]at d k l
 have B:=dP
 exact tail_any (typeIs_str s z t) slot_str_getitem.lookup (getItem_str (c:=c) (by
  have E:decide (i < -(2 ^ 63:Int))=false:=EH Lo
  have n:decide (i≥2 ^ 63)=false:=EH Lo
  rw[E,n,Lg]) (by rw[d];simpa using g) #[.str #[(List.toArray [c])],H,I.tok _,#[_,Z],q]) e
theorem XN(i:List Value)(n j:Nat)(u:Value):Obj.mapSeq (·.setIfInBounds j u) { cls:=.type "list",data:=.seq i.toArray n }={ cls:=.type "list",data:=.seq (i.set j u).toArray n }:=by
 simp [Obj.mapSeq]
theorem ao.lst(I:ao X c d H s)(h:H p=some (.lst x)):
  ∃(i:List Value) (n:Nat),ay x i/\s.heap.get? p=some { cls:=.type "list",data:=.seq i.toArray n }/\x.length<=sizeLine:=by
 obtain⟨z,i,n,r,e⟩:=I.hok p _ h
 exact#[i,n,r,e,z]
theorem ao.lstUpd{c i:List Value}{f:Obj->Obj}(I:ao X d j H s)(h:H p=some (.lst o))
  (k:s.heap.get? p=some { cls:=.type "list",data:=.seq c.toArray n }) (g:f { cls:=.type "list",data:=.seq c.toArray n }={ cls:=.type "list",data:=.seq i.toArray N }) (r:ay y i) (l:y.length<=sizeLine) (t:Nat):
  ao X d j (ah H p (.lst y)) { s with heap:=s.heap.update p f,toks:=t }:=by
 have e:(s.heap.update p f).get? p=some { cls:=.type "list",data:=.seq i.toArray N }:=by
  rw[Heap.get?_update_self f k (by rw[g]<;>rfl),g]
 refine I.write (x:=p) (e:=p) (by rw[h];trivial) (.inl Z) (λb u m q=>(Heap.get?_update_other _ _ (Ne.symm m)).trans q) #[_,e] ?_
 exact#[l,i,N,r,e]
noncomputable def pU:V->V->V->Hp->(Hp->Prop)->Prop:=λo i v H Q=>∃p x k j,o= .ref p/\i= .int k/\H p=some (.lst x)/\lY x.length k=some j/\Q (ah H p (.lst (x.set j v)))
theorem zE:AB X pU:=by
 intro P s z H o i v O F u Q I R A B h
 obtain⟨p,C,k,j,rfl,rfl,l,D,q⟩:=h
 cases R
 obtain⟨t,rfl⟩:=A
 obtain⟨c,n,r,e,E⟩:=I.lst l
 obtain⟨d,G,m,w⟩:=Yt D
 have f:=r.length
 have J:=dP
 have x:ao X P z (ah H p (.lst (C.set j v))) { s with heap:=s.heap.update p (Obj.mapSeq (·.setIfInBounds j u)) }:=
  I.lstUpd l e (XN c n j u) (r.set B j) (by rw[HW];exact E) s.toks
 by_cases y:0<=k
 ·have g:k.toNat=j:=by
   rw[seqIndex_of y w]at d
   exact EU d
  exact PySem.W.ki_setAt e y Lo (by rw[Ej,<- f];exact w) (by rw[g];exact#[_,x,q])
 ·have g:(k+(c.toArray.size:Int)).toNat=j:=by
   rw[seqIndex_neg Lo m]at d
   rw[Ej,<- f]
   exact EU d
  exact PySem.W.ki_setBack e Lo (by rw[Ej,<- f];exact m) Lo (by rw[g];exact#[_,x,q])
theorem QI(lo H:Option Int)(n:Nat):(sliceBounds lo H none n).1=((HT.sIx n 0 lo:Nat):Int)/\(sliceBounds lo H none n).2.1=((HT.sIx n n H:Nat):Int)/\(sliceBounds lo H none n).2.2=1:=by
 refine#[?_,?_,Z]
 ·cases lo with
  |none=>simp [sliceBounds,HT.sIx]
  |some i=>
   simp only[sliceBounds,HT.sIx,IK,show(1:Int) > 0 by decide,Hf]
   by_cases h:i < 0
   ·simp only[h,Hf]<;>omega
   ·simp only[h,Fy]<;>omega
 ·cases H with
  |none=>simp [sliceBounds,HT.sIx]
  |some i=>
   simp only[sliceBounds,HT.sIx,IK,show(1:Int) > 0 by decide,Hf]
   by_cases h:i < 0
   ·simp only[h,Hf]<;>omega
   ·simp only[h,Fy]<;>omega
theorem KE(i:List Value)(lo h:Option Int):slicePick i.toArray lo h none=((i.drop (HT.sIx i.length 0 lo)).take (HT.sIx i.length i.length h - HT.sIx i.length 0 lo)).toArray:=by
 obtain⟨H,c,d⟩:=QI lo h i.toArray.size
 unfold slicePick
 rw[H,c,d]
 simp only[sliceRange_one,pick_run,Ej]<;>rfl
noncomputable def yI(K:Frag):V->Option Int->Option Int->Hp->VK->Prop:=λx lo h H Q=>∃a c,x= .ref a/\aF K H a c/\∀p,H p=none->Q (.ref p) (ah H p (.lst (aV c lo h)))
theorem kI:Cj X (yI X.K):=by
 intro p s m H x v V n lo e S Q I R g P i h
 obtain⟨a,c,rfl,j,q⟩:=h
 cases R
 obtain⟨k,r,f,l⟩:=I.list j
 have d:=r.length
 refine#["list",_,slot_list_getitem.lookup,f.isList.typeIs,?_]
 refine wpAny_getItem_list_slice f.isList g P i .none Lp ?_ (by rw[Ej]<;>omega)
 rw[KE,<- d]
 refine#[.ref s.heap.objs.size,_,I.laid (t':=s.toks) (o:=.lst (aV c lo e)) (λb O q=>Eg _ q) (Eh _) ?_,Z,q _ (I.hok.fresh (Eh _))]
 exact#[Es (zg c lo e) l,_,0,(r.drop (HT.sIx c.length 0 lo)).take (HT.sIx c.length c.length e - HT.sIx c.length 0 lo),El _ Z]
noncomputable def cn:V->Bool
 | .non=>true
 | .bl _=>true
 | .int _=>true
 | .str _=>true
 |_=>false
noncomputable def lN:V->V->Bool
 | .non,.non=>true
 | .bl a,.bl b=>a==b
 | .bl a,.int b=>(if a then 1 else 0)==b
 | .int a,.bl b=>a==(if b then 1 else 0)
 | .int a,.int b=>a==b
 | .str a,.str b=>a==b
 |_,_=>false
theorem ZX(R:aB y u)(r:aB x v)(F:cn y=true)(f:cn x=true):SeqAt.EqAt A s u v (lN y x):=by
 cases y with
 |non=>
  cases R
  cases x with
  |non=>cases r;exact SeqAt.EqAt.same _
  |bl b=>cases r;exact SeqAt.EqAt.none_bool b
  |int b=>obtain⟨t,rfl⟩:=r;exact SeqAt.EqAt.none_int b t
  |str b=>obtain⟨t,rfl⟩:=r;exact SeqAt.EqAt.none_str b t
  |_=>exact absurd (show false=true from f) Em
 |bl a=>
  cases R
  cases x with
  |non=>cases r;exact SeqAt.EqAt.bool_none a
  |bl b=>cases r;exact SeqAt.EqAt.bool_bool a b
  |int b=>obtain⟨t,rfl⟩:=r;exact SeqAt.EqAt.bool_int a b t
  |str b=>obtain⟨t,rfl⟩:=r;exact SeqAt.EqAt.bool_str a b t
  |_=>exact absurd (show false=true from f) Em
 |int a=>
  obtain⟨T,rfl⟩:=R
  cases x with
  |non=>cases r;exact SeqAt.EqAt.int_none a T
  |bl b=>cases r;exact SeqAt.EqAt.int_bool a T b
  |int b=>obtain⟨t,rfl⟩:=r;exact SeqAt.EqAt.int_int a T b t
  |str b=>obtain⟨t,rfl⟩:=r;exact SeqAt.EqAt.int_str a T b t
  |_=>exact absurd (show false=true from f) Em
 |str a=>
  obtain⟨T,rfl⟩:=R
  cases x with
  |non=>cases r;exact SeqAt.EqAt.str_none a T
  |bl b=>cases r;exact SeqAt.EqAt.str_bool a T b
  |int b=>obtain⟨t,rfl⟩:=r;exact SeqAt.EqAt.str_int a T b t
  |str b=>obtain⟨t,rfl⟩:=r;exact SeqAt.EqAt.str_str a T b t
  |_=>exact absurd (show false=true from f) Em
 |_=>exact absurd (show false=true from F) Em
noncomputable def lW(x:V)(u:Value):Bool:=match u with
 | .none=>lN .non x
 | .bool b=>lN (.bl b) x
 | .int i _=>lN (.int i) x
 | .str z _=>lN (.str z) x
 |_=>false
theorem ZY(r:aB y u)(f:cn y=true):lW x u=lN y x:=by
 cases y with
 |non=>cases r;rfl
 |bl b=>cases r;rfl
 |int i=>obtain⟨t,rfl⟩:=r;rfl
 |str z=>obtain⟨t,rfl⟩:=r;rfl
 |_=>exact absurd (show false=true from f) Em
theorem qX:∀{c:List V} {U:List Value},ay c U->c.all cn=true->U.any (lW x)=c.any λy=>lN y x
 |_,_,.nil,_=>rfl
 |y::c,u::U,.cons r t,f=>by
  rw[Le,Fx]at f
  rw[HF,HF,ZY r f.1,qX t f.2]
theorem qt(R:aB x v)(F:cn x=true):∀{c:List V} {U:List Value},ay c U->c.all cn=true->∀u∈U,SeqAt.EqAt A s u v (lW x u)
 |_,_,.nil,_=>λu hu=>by cases hu
 |y::c,u::U,.cons r t,f=>λd hu=>by
  rw[Le,Fx]at f
  rcases List.mem_cons.mp hu with rfl |hu
  ·rw[ZY r f.1];exact ZX r R f.1 F
  ·exact qt R F t f.2 d hu
noncomputable def mQ(x:V)(c:List V):Bool:=c.any λy=>lN y x
noncomputable def Cy(K:Frag)(n:Bool):R2:=λx y H Q=>∃p c,y= .ref p/\(aF K H p c∨ar K H p c)/\cn x=true/\c.all cn=true/\Q (.bl (if n then !mQ x c else mQ x c)) H
theorem zr:eJ X (compareOp .In) (Cy X.K false):=by
 intro d s j H x y v u Q I R e h
 obtain⟨p,k,rfl,hq,F,f,q⟩:=h
 cases e
 rcases hq with hq |hq
 ·obtain⟨i,r,P,g⟩:=I.list hq
  refine SeqAt.in_listAt (lW x) P.isList (λw c=>qt R F r f w (by simpa using c)) #[.bl _,H,I,Z,?_]
  rw[show i.toArray.any (lW x)=i.any (lW x) by simp,qX r f]
  exact q
 ·obtain⟨i,r,P,g⟩:=I.tuple hq
  refine SeqAt.in_tupleAt (lW x) P (λw c=>qt R F r f w (by simpa using c)) #[.bl _,H,I,Z,?_]
  rw[show i.toArray.any (lW x)=i.any (lW x) by simp,qX r f]
  exact q
theorem Jk:eJ X (compareOp .NotIn) (Cy X.K true):=by
 intro d s j H x y v u Q I R e h
 obtain⟨p,k,rfl,hq,F,f,q⟩:=h
 cases e
 rcases hq with hq |hq
 ·obtain⟨i,r,P,g⟩:=I.list hq
  refine SeqAt.notIn_listAt (lW x) P.isList (λw c=>qt R F r f w (by simpa using c)) #[.bl _,H,I,Z,?_]
  rw[show i.toArray.any (lW x)=i.any (lW x) by simp,qX r f]
  exact q
 ·obtain⟨i,r,P,g⟩:=I.tuple hq
  refine SeqAt.notIn_tupleAt (lW x) P (λw c=>qt R F r f w (by simpa using c)) #[.bl _,H,I,Z,?_]
  rw[show i.toArray.any (lW x)=i.any (lW x) by simp,qX r f]
  exact q
theorem jH:c8 X (.builtin "len") (λx H Q=>∃p y,x=[.ref p]/\(aF X.K H p y∨ar X.K H p y)/\Q (.int y.length) H):=by
 intro d s g H x U Q I r h
 obtain⟨p,y,rfl,hq,q⟩:=h
 obtain⟨u,rfl,e⟩:=dG r
 cases e
 have j:=dP
 rcases hq with hq |hq
 ·obtain⟨i,R,P,f⟩:=I.list hq
  have c:=R.length
  exact Calls.call_len_list P.isList (by simp only[Ej]<;>omega) #[.int y.length,H,I.tok _,#[s.toks+1,by rw[Ej,c]],q]
 ·obtain⟨i,R,P,f⟩:=I.tuple hq
  have c:=R.length
  exact len_tuple P (by simp only[Ej]<;>omega) #[.int y.length,H,I.tok _,#[s.toks+1,by rw[Ej,c]],q]
theorem Jl:c8 X (.type "list") (λx H Q=>∃p y,x=[.ref p]/\(aF X.K H p y∨ar X.K H p y)/\∀l,H l=none->Q (.ref l) (ah H l (.lst y))):=by
 intro P s z H x U Q I r h
 obtain⟨p,y,rfl,hq,q⟩:=h
 obtain⟨u,rfl,A⟩:=dG r
 cases A
 have f:∀(i:List Value),ay y i->y.length<=sizeLine->∀(c:Heap) (C:Nat),(∀b O,s.heap.get? b=some O->c.get? b=some O)->
   c.get? s.heap.objs.size=some { cls:=.type "list",dict:=none,data:=.seq i.toArray C,slots:=(List.toArray []) }->EP X P z Q (.ref s.heap.objs.size) { s with heap:=c }:=λi R d c C k e=>
  #[.ref s.heap.objs.size,_,I.laid (t':=s.toks) k (Eh _) (show aJ X.prog X.w _ c _ (.lst y) from #[d,i,C,R,e]),Z,q _ (I.hok.fresh (Eh _))]
 rcases hq with hq |hq
 ·obtain⟨i,R,j,d⟩:=I.list hq
  have g:=R.length
  obtain⟨o,m,t,n,v⟩:=j.isList
  exact call_list_seq p (.inl Z) m t v (λc C k e=>f i R d c C k e) (by simp only[Ej]<;>omega)
 ·obtain⟨i,R,j,d⟩:=I.tuple hq
  have g:=R.length
  obtain⟨o,m,t,n,v⟩:=j
  exact call_list_seq p (.inr Z) m t v (λc C k e=>f i R d c C k e) (by simp only[Ej]<;>omega)
theorem jI:c8 X (.type "tuple") (λx H Q=>∃p y,x=[.ref p]/\((aF X.K H p y/\∀l,H l=none->Q (.ref l) (ah H l (.tup y)))∨(ar X.K H p y/\Q (.ref p) H))):=by
 intro P s g H x U Q I r h
 obtain⟨p,y,rfl,h⟩:=h
 obtain⟨u,rfl,n⟩:=dG r
 cases n
 rcases h with ⟨d,q⟩ | ⟨d,q⟩
 ·obtain⟨i,R,f,j⟩:=I.list d
  have k:=R.length
  refine call_tuple_list f.isList (λc t=>?_) (by simp only[Ej]<;>omega)
  have m:ao X P g H { s with heap:=c }:=I.kept (t':=s.toks) t
  have v:ao X P g (ah H c.objs.size (.tup y)) { s with heap:=c.push { cls:=.type "tuple",data:=.seq i.toArray } }:=
   m.laid (t':=s.toks) (λb o e=>Eg _ e) (Eh _) (show aJ X.prog X.w _ _ _ (.tup y) from #[j,i,R,IsTup.new _ _])
  exact#[.ref c.objs.size,_,v,Z,q _ (m.hok.fresh (Eh _))]
 ·obtain⟨i,R,f,j⟩:=I.tuple d
  exact call_tuple_same f #[.ref p,H,I,Z,q]
noncomputable def Dw(K:Frag)(T:String)(x:V)(H:Hp):Prop:=match x with
 | .str _=>T="str"
 | .int _=>T="int"
 | .ref p=>(T="list"/\∃c,aF K H p c)∨(T="tuple"/\∃o,K.lookup p=some o/\o.cls= .type "tuple"/\o.dict=none)∨
   (T="dict"/\((∃k,H p=some (.dK k))∨∃k,H p=some (.dT k)))∨(T="set"/\∃S n,H p=some (.set S n))
 |_=>False
theorem ZZ(I:ao X j u H s)(r:aB x v)(d:Dw X.K T x H):
  s.TypeIs v T/\∀a,v= .ref a->∃O,s.heap.get? a=some O/\O.dict=none:=by
 cases x with
 |str z=>
  obtain⟨t,rfl⟩:=r
  cases (show T="str" from d)
  exact#[typeIs_str s z t,λ_ e=>nomatch e]
 |int i=>
  obtain⟨t,rfl⟩:=r
  cases (show T="int" from d)
  exact#[typeIs_int s i t,λ_ e=>nomatch e]
 |ref p=>
  cases r
  rcases d with ⟨rfl,w,l⟩ | ⟨rfl,o,h,m,f⟩ | ⟨rfl,h⟩ | ⟨rfl,S,n,h⟩
  ·obtain⟨q,_,P,_⟩:=I.list l
   refine#[P.isList.typeIs,λa e=>?_]
   cases e
   obtain⟨o,n,e,c,f,_⟩:=P
   exact#[o,e,f]
  ·refine#[#[o,I.kIn p o h,m],λa e=>?_]
   cases e
   exact#[o,I.kIn _ o h,f]
  ·have z:∃o,s.heap.get? p=some o/\o.ExactDict:=by
    rcases h with ⟨k,h⟩ | ⟨k,h⟩
    ·obtain⟨_,_,_,_,o,_,_,e,E,_⟩:=I.hok p _ h
     exact#[o,e,E]
    ·obtain⟨_,_,_,_,o,_,_,e,E,_⟩:=I.hok p _ h
     exact#[o,e,E]
   obtain⟨o,e,E⟩:=z
   refine#[#[o,e,E.1],λa g=>?_]
   cases g
   exact#[o,e,E.2.1]
  ·obtain⟨o,_,_,_,e,E,_⟩:=I.hok p _ h
   refine#[#[o,e,E.1],λa g=>?_]
   cases g
   exact#[o,e,E.2.1]
 |_=>exact False.elim d
noncomputable def Dq(K:Frag)(T:String)(r:V->List V->Hp->VK->Prop)(t:TE):TE:=λc H Q=>t c H λx h=>Dw K T x h/\r x [] h Q
noncomputable def Dp(K:Frag)(T:String)(r:V->List V->Hp->VK->Prop)(d:TE)(t:TA):TE:=λc H Q=>d c H λx h=>Dw K T x h/\t c h λe f=>r x e f Q
variable {o e:Expr}{es:List Expr}{to:TE}{t:TA}{name:Str}{apos cpos:Pos}{T id:String}{r:V->List V->Hp->VK->Prop}
theorem yy(P:PlainAttrs T)(S:Slot T name id)(f:typeOf (.builtin id)=pure (.type "method_descriptor"))(j:Ci X id r)(k:PE X o to)
  (c:attributeBase o name X.env (eval o X.env)=eval o X.env:=by rfl) (d:(apos.endLine==cpos.line)=true:=by rfl):PE X (.Call (.Attribute o name apos) [] [] cpos) (Dq X.K T r to):=by
 intro p s g H Q I h
 refine wpAny_Call_method0_late c d (aO (k p s g H _ I h) λv l z=>?_)
 obtain⟨x,m,i,R,n,q⟩:=z
 obtain⟨u,w⟩:=ZZ i R n
 exact#[T,id,P,S,f,u,w,Im Z (PySem.evalArgs_none (j p l g m x [] v [] Q i R .nil q))]
theorem kU(P:PlainAttrs T)(S:Slot T name id)(i:typeOf (.builtin id)=pure (.type "method_descriptor"))(m:Ci X id r)(n:PE X o to)(q:PA X (e::es) t)
  (d:attributeBase o name X.env (eval o X.env)=eval o X.env:=by rfl)
  (g:((backTo cpos (starEach (e::es) X.env)).all (λx=>!x.1)&&(backToKw cpos (keywordEach [] X.env)).all (λx=>x.1.isSome)
   &&decide ((e::es).length+([]:List Keyword).length+(if ([]:List Keyword).isEmpty then 0 else 1) < 30))=true:=by rfl)
  (f:(apos.endLine==cpos.line)=true:=by rfl) (u:starEach (e::es) X.env=(false,eval e X.env)::starEach es X.env:=by rfl) (c:(backTo cpos (starEach es X.env)).any (·.1)=false:=by rfl):
  PE X (.Call (.Attribute o name apos) (e::es) [] cpos) (Dp X.K T r to t):=by
 intro p s j H Q I h
 refine wpAny_Call_method_late d g f Z (aO (n p s j H _ I h) λv w z=>?_)
 obtain⟨x,y,k,R,A,B⟩:=z
 obtain⟨C,D⟩:=ZZ k R A
 refine#[T,id,P,S,i,C,D,?_]
 have l:=q cpos p w j y _ k B
 rw[u]at l ⊢
 refine Im (by show(false||(backTo cpos (starEach es X.env)).any (·.1))=false;rw[c]<;>rfl) (Calls.evalArgs_plain ?_)
 exact aO l λU E #[F,G,J,L,M]=>m p E j G x F v U Q J R L M
end
noncomputable def Ce(X:Cx)(id:String)(r:V->List V->Hp->VK->Prop):Prop:=
 ∀(p:List (Addr×Obj)) (s:Shared) (a:St) (H:Hp) (x:V) (b:List V) (v:Value) (u:List Value) (Q:VK),ao X p a H s->aB x v->ay b u->r x b H Q->
  wpAny (model X.prog X.w) X.A (call (.builtin id) (v::u)) (EP X p a Q) X.xe s
theorem ay.one:∀{x:V} {U:List Value},ay [x] U->∃u,U=[u]/\aB x u
 |_,_,.cons r .nil=>#[_,Z,r]
theorem ay.zero:∀{u:List Value},ay [] u->u=[]
 |_,.nil=>rfl
theorem ay.dropLast(h:ay x u):ay x.dropLast u.dropLast:=by
 induction h with
 |nil=>exact .nil
 |cons r t i=>
  cases t with
  |nil=>exact .nil
  |cons q T=>exact .cons r i
theorem ay.reverse(h:ay x u):ay x.reverse u.reverse:=by
 induction h with
 |nil=>exact .nil
 |cons r t i=>rw[Hv,Hv];exact ay.append i (.cons r .nil)
theorem XO{c:Type}(l:List c):l.eraseIdx (l.length - 1)=l.dropLast:=by
 induction l with
 |nil=>rfl
 |cons a r i=>
  cases r with
  |nil=>rfl
  |cons b r=>
   have e:(a::b::r).length - 1=((b::r).length - 1)+1:=by
    have h:(a::b::r).length=r.length+2:=rfl
    have H:(b::r).length=r.length+1:=rfl
    omega
   rw[e,List.eraseIdx_cons_succ,i]
   all_goals rfl
section
variable {X:Cx}{pins:List (Addr×Obj)}{σ:St}{H:Hp}{s:Shared}{l b:Addr}{xs ys zs:List V}
theorem ao.lset{i its':List Value}{f:Array Value->Array Value}{t':Nat}(I:ao X pins σ H s)(h:H l=some (.lst xs))
  (e:s.heap.get? l=some { cls:=.type "list",data:=.seq i.toArray n }) (a:f i.toArray=its'.toArray) (c:ay ys its') (d:ys.length<=sizeLine):
  ao X pins σ (ah H l (.lst ys)) { s with heap:=s.heap.update l (Obj.mapSeq f),toks:=t' }:=by
 have q:=PySem.IsL.update e f
 rw[a]at q
 refine I.write (x:=l) (e:=l) (by rw[h];exact EE) (.inl Z) (λB u g j=>(Ey s.heap (Obj.mapSeq f) (ES g)).trans j) #[_,q] ?_
 exact#[d,its',_,c,q]
theorem ao.lnew{t':Nat}(I:ao X pins σ H s)(h:ay ys i)(a:ys.length<=sizeLine):
  ao X pins σ (ah H s.heap.objs.size (.lst ys)) { s with heap:=s.heap.push { cls:=.type "list",data:=.seq i.toArray },toks:=t' }:=
 I.laid (λ_ _ q=>Eg _ q) (Eh _) #[a,i,0,h,El _ Z]
theorem ao.fresh(I:ao X pins σ H s):H s.heap.objs.size=none:=I.hok.fresh (Eh _)
theorem ao.lstM(I:ao X pins σ H s)(h:H l=some (.lst xs)):xs.length<=sizeLine/\∃(i:List Value) (n:Nat),ay xs i/\xs.length=i.length/\s.heap.get? l=some { cls:=.type "list",data:=.seq i.toArray n }:=by
 obtain⟨z,i,n,r,e⟩:=I.hok l _ h
 exact#[z,i,n,r,r.length,e]
theorem eU(h:n<=sizeLine):Builtin.List.listTooLong n=false:=by
 unfold Builtin.List.listTooLong
 exact EH Lo
end
section
variable {X:Cx}
noncomputable def mW:V->List V->Hp->VK->Prop:=λx v H Q=>∃l a y,x= .ref l/\v=[y]/\H l=some (.lst a)/\a.length < sizeLine/\Q .non (ah H l (.lst (a++[y])))
theorem jT:Ce X "list.append" mW:=by
 intro p s d H x V v U Q I R b h
 obtain⟨l,f,y,rfl,rfl,a,g,q⟩:=h
 cases R
 obtain⟨u,rfl,c⟩:=b.one
 obtain⟨z,i,n,r,j,e⟩:=I.lstM a
 refine IM F.slot_list_append #[_,e,Z] F.entry_list_append (F.args_list_append_2 _ _) (PySem.list_append l i.toArray n u (by rw[Ej];omega)) #[e,?_]
 refine#[.non,_,I.lset (its':=i++[u]) a e Lp (r.append (.cons c .nil)) ?_,Z,q]
 rw[Ei,Gz]
 omega
noncomputable def u5:V->List V->Hp->VK->Prop:=λx v H Q=>∃l b a z,x= .ref l/\v=[.ref b]/\H l=some (.lst a)/\H b=some (.lst z)/\a.length+z.length<=sizeLine/\Q .non (ah H l (.lst (a++z)))
theorem Y9:Ce X "list.extend" u5:=by
 intro p s t H x V v U Q I R g h
 obtain⟨l,b,w,y,rfl,rfl,f,j,A,q⟩:=h
 cases R
 obtain⟨u,rfl,k⟩:=g.one
 cases k
 obtain⟨z,a,n,r,B,e⟩:=I.lstM f
 obtain⟨C,i,N,m,o,E⟩:=I.lstM j
 have d:a.toArray.size+i.toArray.size<=sizeLine:=by rw[Ej,Ej];omega
 have c:¬(!a.toArray.isEmpty&&Builtin.List.listTooLong (a.toArray.size+i.toArray.size))=true:=by
  rw[eU d,Hs]
  exact Em
 refine IM F.slot_list_extend #[_,e,Z] F.entry_list_extend (F.args_list_extend_2 _ _)
  (AutoSeq1.list_extend_list_list_0 l a.toArray n b i.toArray N c (by rw[Ej];omega) Lo) #[e,E,?_]
 refine#[.non,_,I.lset (its':=a++i) f e Lp (r.append m) ?_,Z,q]
 rw[Ei]
 omega
noncomputable def Dc:V->List V->Hp->VK->Prop:=λx v H Q=>∃l a y,x= .ref l/\v=[]/\H l=some (.lst a)/\a[a.length - 1]?=some y/\Q y (ah H l (.lst a.dropLast))
theorem xP:Ce X "list.pop" Dc:=by
 intro p s m H x V v U Q I R d h
 obtain⟨l,o,y,rfl,rfl,c,f,q⟩:=h
 cases R
 have a:=d.zero
 subst a
 obtain⟨z,i,n,r,g,e⟩:=I.lstM c
 obtain⟨u,j,k⟩:=r.get f
 have b:i.toArray[i.toArray.size - 1]?=some u:=by
  show i.toArray[i.length - 1]?=some u
  rw[<- Ge,<- g]
  exact j
 refine IM F.slot_list_pop #[_,e,Z] F.entry_list_pop (F.args_list_pop_1 _) (MeetsSeq.list_pop_last l i.toArray n u b (by rw[Ej];omega)) #[e,?_]
 refine#[y,_,I.lset (its':=i.dropLast) c e ?_ r.dropLast ?_,k,q]
 ·show i.toArray.eraseIdxIfInBounds (i.toArray.size - 1)=i.dropLast.toArray
  rw[Ej,List.eraseIdxIfInBounds_toArray,XO]
 ·rw[List.length_dropLast]
  omega
noncomputable def yE:R2:=λx y H Q=>∃l b a z,x= .ref l/\y= .ref b/\H l=some (.lst a)/\H b=some (.lst z)/\a.length+z.length<=sizeLine/\∀p,H p=none->Q (.ref p) (ah H p (.lst (a++z)))
theorem qL:eJ X (binaryOp .Add) yE:=by
 intro p s m H x y v u Q I R c h
 obtain⟨l,b,o,t,rfl,rfl,d,f,w,q⟩:=h
 cases R
 cases c
 obtain⟨z,a,n,r,A,e⟩:=I.lstM d
 obtain⟨B,i,N,g,j,E⟩:=I.lstM f
 refine PySem.P.add_list e E ?_ (by rw[Ej,Ej];omega)
 have k:a.toArray++i.toArray=(a++i).toArray:=by simp
 rw[k]
 exact#[.ref _,_,I.lnew (t':=s.toks) (r.append g) (by rw[Ei];omega),Z,q _ I.fresh]
end
section
variable {prog:Program}{w:World}{A:Around}{E:Value->Shared->Prop}{s:Shared}
theorem Za(i I : List Value)(a c : Nat) : i.toArray.extract 0 a ++ I.toArray ++ i.toArray.extract c i.toArray.size = (i.take a ++ I ++ i.drop c).toArray := by
  apply Array.toList_inj.mp
  first
    | (simp
       exact FY Lp)
    | simp [FY]
    | simp
theorem XQ{a c n:Nat}(hac:a<=c)(hc:c<=n):sliceBounds (some (a:Int)) (some (c:Int)) none n=((a:Int),(c:Int),1):=by
 simp only[sliceBounds,IK]
 have h1:¬((a:Int) < 0):=by omega
 have h2:¬((c:Int) < 0):=by omega
 simp only[h1,h2,Fy,show(1:Int) > 0 by decide,Hf]
 congr 1
 ·omega
 ·congr 1;omega
set_option maxRecDepth 100000 in
theorem KF{a c : Nat}{Q : Unit -> Shared -> Prop}
    (e : s.heap.get? l = some { cls := .type "list", data := .seq i n }) (y : s.heap.get? b = some { cls := .type "list", data := .seq N I }) (q : l ≠ b)
    (C : s.heap.IsSliceOf p z B .none) (P : IsPart z (some (a : Int))) (D : IsPart B (some (c : Int))) (r : a <= c) (F : c <= i.size)
    (f : i.size + N.size <= sizeLine) (h : Q () { s with heap := s.heap.update l (Obj.mapSeq λX => X.extract 0 a ++ N ++ X.extract c X.size) }) :
    wpAny (model prog w) A (setItem (.ref l) (.ref p) (.ref b)) Q E s := by
  have t : s.heap.IsList l i := PySem.IsL.isList e
  have G : s.heap.IsList b N := PySem.IsL.isList y
  obtain ⟨os, d, u, g⟩ := id C
  have k : s.TypeIs (.ref p) "slice" := #[os, d, u]
  have j : ¬ ((rawPart none == rawInt 0) = true) := Em
  have H : Builtin.List.listSameRef (.ref l) (.ref b) = false := by
    unfold Builtin.List.listSameRef
    exact beq_eq_false_iff_ne.mpr q
  have o : (max (a : Int) (c : Int)).toNat = c := by omega
  have v : ((λX : Array Value => X.extract 0 a ++ N ++ X.extract c X.size) i).size <= sizeLine + 1 := by
    simp only [IG, Array.size_extract]
    omega
  unfold setItem
  try with_reducible refine EG ?_
  first | refine Ec (Ee ?_) | skip
  refine Ec (IX t.typeIs Ln ?_)
  refine Ec (EV (name := Str.ofString "__setitem__") t.typeIs slot_list_setitem
    (EX slot_list_setitem t.typeIs entry_list_setitem ?_ (args_list_setitem _ _ _)))
  show wpAny _ _ (Builtin.List.listSubscript? (.ref p) >>= _) _ _ s
  refine Ec ?_
  unfold Builtin.List.listSubscript?
  refine Ec (F' k slice_no_index ?_)
  simp only [Option.isNone_none, Hf]
  refine Ee ?_
  show wpAny _ _ (typeOf (.ref p) >>= _) _ _ s
  refine Ec (Gf k ?_)
  first
    | rw [Ew Ln]
    | refine Iq Ln ?_
  rw [listSliceParts_eq]
  refine Ec (Ec (EJ d g (x := .none) Z (Ec (wpAny_listPart .none ?_))))
  rw [Ew j]
  refine Ec (EJ d g (x := z) Z (Ec (wpAny_listPart P ?_)))
  refine Ec (EJ d g (x := B) Z (Ec (wpAny_listPart D (Ee ?_))))
  first
    | simp only [H, Ep, Fy]
    | refine Iq H ?_
    | (dsimp only
       rw [Ew (by rw [H]; exact Em)])
  refine Ec (m := Builtin.List.listAllItems (.ref b) "must assign iterable to extended slice") ?_
  unfold Builtin.List.listAllItems
  refine Ec (Gf G.typeIs ?_)
  first
    | refine PySem.W.KFB.if_so Ln ?_
    | rw [Er Ln]
    | simp only [Hm, Bool.true_or, Hf]
  unfold Builtin.List.listItems
  refine Ec (Fq y Z (Ee ?_))
  refine Ec (Ec (Fq e Z (Ee ?_)))
  refine Ec (Iw ((sliceIndices_raw (some (a : Int)) (some (c : Int)) none i.size Lp).trans (FE (pure : Int × Int × Int -> Sem (Int × Int × Int)) (XQ r F))) ?_)
  show wpAny _ _ (if ((1 : Int) == 1) = true then _ else _) _ _ s
  rw [Er Ln]
  refine Ec (Gv ?_)
  first
    | simp only [eU f, Ep, Fy]
    | refine Iq (eU f) ?_
  first | refine Ec (Ee ?_) | skip
  show wpAny _ _ (updateSeq l (λX => X.extract 0 ((a : Int)).toNat ++ N ++ X.extract (max (a : Int) (c : Int)).toNat X.size) >>= _) _ _ s
  rw [o, Fs]
  refine Ec (Io (hz := Es (FG _ _) f) (_hz' := v) e Z ?_)
  refine Ec (wpAny_letGo ?_)
  first
    | exact Ec (Ee (Ee #[.none, Z, Ee h]))
    | exact Ee #[.none, Z, Ee h]
end
section
variable {X:Cx}
theorem Zb{Q:Unit->Shared->Prop}(I:ao X p o H s)
  (k:H l=some (.lst x)) (q:H b=some (.lst y)) (f:l≠b) (t:s.heap.IsSliceOf u v B .none) (R:aB (.int a) v) (D:aB (.int c) B) (m:0<=a) (g:a<=c) (J:c<=x.length)
  (K:x.length+y.length<=sizeLine) (h:∀S,ao X p o (ah H l (.lst (x.take a.toNat++y++x.drop c.toNat))) S->Q () S):
  wpAny (model X.prog X.w) X.A (setItem (.ref l) (.ref u) (.ref b)) Q X.xe s:=by
 obtain⟨T,rfl⟩:=R
 obtain⟨L,rfl⟩:=D
 obtain⟨z,d,n,r,M,e⟩:=I.lstM k
 obtain⟨N,i,O,E,F,G⟩:=I.lstM q
 obtain⟨j,rfl⟩:=Lm m
 obtain⟨C,rfl⟩:=Lm (Int.le_trans m g)
 simp only[Fs]at h
 refine KF (a:=j) (c:=C) e G f t (.int _ _) (.int _ _) Lo (by rw[Ej];omega) (by rw[Ej,Ej];omega) (h _ ?_)
 refine I.lset (its':=d.take j++i++d.drop C) (t':=s.toks) k e ?_ (ay.append (ay.append (r.take _) E) (r.drop _)) ?_
 ·exact Za d i j C
 ·rw[Ei,Ei,ED,Ga]
  omega
end
end _L
namespace Att
open PySem PySem.W PySem.Calls PyProof.Rows
theorem JN{P:Params}:∀(N:List Int) (v:List Value),WellAll P h v (N.map WData.int)->IntsAre v N:=by
 intro N
 induction N with
 |nil=>
  intro v w
  rw[List.map_nil]at w
  cases w
  exact .nil
 |cons n N i=>
  intro v w
  rw[FF]at w
  cases w with
  |cons a b=>
   cases a
   exact .cons _ _ (i _ b)
theorem Zc{l:OpenLaw}(k:l.most=some n){P:Params}
  (H:l.row.toRowW.claim.pre args=true) (g:WellAll P h v args):
  ∃a V N,v=[Value.ref a]/\args=[WData.list (N.map WData.int)]/\h.get? a=some { cls:=.type "list",data:=.seq V.toArray }/\IntsAre V N/\N.length<=n:=by
 have i:WShape.hasAll [] args [.list .int]=true:=(pre_splitW H).1
 have j:l.pre.holds [] { args:=args }=true:=(pre_splitW H).2
 obtain⟨d,r,rfl,m,o⟩:=hasAllW_cons i
 obtain rfl:=hasAllW_nil o
 obtain⟨x,rfl,p⟩:=hasW_list m
 obtain⟨N,rfl⟩:=items_int p
 have b:N.length<=n:=by
  unfold OpenLaw.pre at j
  have e:(WTm.not (.lt (.lit (.int (n:Int))) (.len (.arg 0)))).holds [] { args:=[.list (N.map .int)] }=true:=by
   have e:=(holds_andW j).1
   rw[k]at e
   exact e
  have f:=condW_of e (w_not (w_lt w_lit (w_len_list (w_arg Z))))
  rw[Ef]at f
  refine HK λq=>?_
  have Q:(n:Int) < ((N.length:Nat):Int):=by omega
  first
   | (rw[EN Q]at f;exact absurd f Ln)
   | (simp at f;omega)
 cases g with
 |cons w W=>
  cases W
  cases w with
  |list s c=>exact#[_,_,N,Z,Z,s,JN N _ c,b]
theorem Zd(l:OpenLaw)(args:List WData):l.row.toRowW.claim.post args (.bool true) args=true:=
 postW_of (r:=l.row.toRowW) (X:=(true==true))
  (show WShape.has [] (.bool true) .bool=true by first |rfl |decide |simp [WShape.has,WShape.arms,WShape.armsAll])
  (show(WTm.eq .res (.lit (.bool true))).value [] { args:=args,res:=some (.bool true),after:=args }=some (.bool (true==true)) from w_eq_bool (w_res Z) w_lit) Z
theorem attach_call{l:OpenLaw}{y:World->Heap->Prop}{d:DefRec}
  (x:l.most=some n) (g:d.params.defaults=[])
  (call:∀(w:World) (S s:Shared) (m M:Str->Option Value) (F:Addr) (o:Obj) (p C D:Value) (a:Addr) (v:List Value) (N:List Int),
   Ground q L [] z w S m M s.heap->y w s.heap->
   s.heap.get? F=some o->o.data= .func (docDef d.name d.params d.body d.scope p C D)->s.heap.CodeRec C d.name->m d.name=some (.ref F)->
   s.heap.get? a=some { cls:=.type "list",data:=.seq v.toArray }->IntsAre v N->N.length<=n->s.gens=(List.toArray [])->
   codeAny (model l.prog w) callerA (.call (.ref F) #[[.ref a],[]]) (λr e=>r= .ok (.ret (.bool true))/\OldK s.heap e.heap/\e.os=s.os/\AllBare e.gens) s):
  WalkO q L z y l.row.toRowW d [] (λf v=>PySem.call f v):=by
 intro w S s m M G Y F o p C D B kV E I i t j J A V W H u K k O
 obtain rfl:B= .none:=Dflts.none t g
 obtain rfl:kV= .none:=Dflts.noKw t
 obtain⟨a,v,N,rfl,rfl,b,h,c⟩:=Zc x H k
 refine enter_call (G7 (call w S s m M F o p C D a v N G Y E (fd_plain I) i j b h c J) λr e P=>?_)
 obtain⟨rfl,Q,R,T⟩:=P
 exact#[.inl #[.bool true,.bool true,[],Z,λ_=>Z,.bool true,Zd l _,λ_=>#[List.Pairwise.nil,λ_ U=>(nomatch U)]],Q,R,T]
end Att
namespace _L
open PySem PySem.Spec PyProof.Rows
theorem Qa:∀{v:List Value} {N:List Int},IntsAre v N->ay (N.map V.int) v
 |_,_,.nil=>.nil
 |_,_,.cons n t h=>.cons #[t,Z] (Qa h)
noncomputable def wS(H:Hp):Prop:=∀b,H b=none∨∃o x,H b=some (.frz o (.lst x))
theorem oV{P:Program}{K:Frag}{S:Shared}{i:List Value}
  (Y:K.In S.heap) (l:S.heap.Ns mainGlobals M) (c:S.heap.Ns builtinsNs mb) (Q:∀x:Str,x≠"__name__"->mb x=bootBuiltins x) (p:S.heap.NoLimit) (hg:S.gens=(List.toArray []))
  (J:S.heap.get? a=some { cls:=.type "list",data:=.seq i.toArray }) (hi:IntsAre i O) (hl:O.length<=sizeLine) (hr:bE k callerA)
  (F:∀f:Heap,K.In f->f.Ns mainGlobals M->ai P w K M f CX k fa fd [x] sp) (j:∀(s:Shared) (u:Value),BindsTo s fd #[[u],[]] [(x,u)])
  (R:∀H:Hp,wS H->aF K H a (O.map V.int)->sp [.ref a] H (λv _=>v= .bl true) λ_ _ _=>False)
  (T:∀H e g,CX [] H S (λ_ _ _=>False) e g->False):
  codeAny (model P w) callerA (.call (.ref fa) #[[.ref a],[]]) (λr g=>r= .ok (.ret (.bool true))/\OldK S.heap g.heap/\g.os=S.os/\AllBare g.gens) S:=by
 have rv:=Qa hi
 have L:=hi.length
 have C:∀H:Hp,wS H->aF K H a (O.map V.int)->dZ P w H S.heap->(∀b,H b≠none->b=a)->(H a≠none->K.lookup a=none)->
   codeAny (model P w) callerA (.call (.ref fa) #[[.ref a],[]]) (λr g=>r= .ok (.ret (.bool true))/\OldK S.heap g.heap/\g.os=S.os/\AllBare g.gens) S:=by
  intro H hO hS t hA hK
  have B:∀{b:Addr} {o:Obj},S.heap.get? b=some o->H b=none->(iq S.heap H).get? b=some o:=λe n=>oQ e n
  have U:∀{b:Addr} {o:Obj} {E:Array DictEntry} {y:Nat},S.heap.get? b=some o->o.data= .dict E y->H b=none:=λ{b o E y} e d=>by
   cases q:H b with
   |none=>rfl
   |some u=>
    have W:b=a:=hA b (by rw[q];simp)
    subst W
    rw[J]at e;cases e
    have d':Data.seq i.toArray _=Data.dict E y:=d
    cases d'
  have N:∀{b:Addr} {m:Str->Option Value},S.heap.Ns b m->(iq S.heap H).Ns b m:=λ{b m} #[o,E,y,e,d,r]=>#[o,E,y,B e (U e d),d,r]
  have A:K.In (iq S.heap H):=λb o e=>B (Y b o e) (by
   cases q:H b with
   |none=>rfl
   |some u=>
    have W:b=a:=hA b (by rw[q];simp)
    subst W
    rw[hK (by rw[q];simp)]at e;cases e)
  have hM:Mod K M (iq S.heap H):=#[A,N l,#[mb,N c,Q],let #[mc,h1,h2]:=p;#[mc,N h1,h2]]
  have e0:lP P w K M (iq S.heap H) callerA [] S H:=#[Z,hM,λb o e=>uu e,ID (Y0 _ _),EE,λb c=>absurd (show b∈([]:List Addr) from c) Lp,t,.of_eq hg]
  refine G7 ((F _ A (N l)).run callerA [] S H #[[.ref a],[]] [.ref a] [.ref a] _ _ hr e0 (j S (.ref a)) (.cons Z .nil) (R H hO hS)) λr g h=>?_
  cases r with
  |error e=>exact(T H e g h).elim
  |ok fl=>
   cases fl with
   |next=>exact False.elim h
   |brk=>exact False.elim h
   |cont=>exact False.elim h
   |ret u=>
    obtain⟨v,H',os,D,un,G,r',q⟩:=h
    have q':v= .bl true:=q
    subst q'
    obtain rfl:u=Value.bool true:=r'
    refine#[Z,OldK.of_keep λb o e=>?_,os,D]
    cases q:H b with
    |none=>exact un.keep b o e q (by intro z;exact absurd (show b∈([]:List Addr) from z) Lp) Lp
    |some u=>
     rcases hO b with z | ⟨ob,xs,z⟩
     ·rw[q]at z;cases z
     ·have z2:=un.frzs b ob _ z
      obtain⟨e1,_⟩:=t b _ z
      obtain⟨e2,_⟩:=G b _ z2
      rw[e]at e1;cases e1
      exact e2
 cases X:K.lookup a with
 |some o=>
  have e:=Y a o X
  rw[J]at e
  cases e
  refine C (λ_=>none) (λ_=>.inl Z) (.inr #[_,i.toArray,_,X,Z,Z,Z,by rw[Ej,L];exact hl,by simpa using rv]) (λb u z=>by have I:(none:Option HO)=some u:=z;cases I) (λb z=>absurd Z z) λz=>absurd Z z
 |none=>
  refine C (λb=>if b=a then some (.frz { cls:=.type "list",data:=.seq i.toArray } (.lst (O.map V.int))) else none) (λb=>?_) (.inl (.inr #[{ cls:=.type "list",data:=.seq i.toArray },Er Z])) (λb u z=>?_) (λb z=>?_) λ_=>X
  ·by_cases c:b=a
   ·exact .inr #[_,_,Er c]
   ·exact .inl (Ew c)
  ·by_cases c:b=a
   ·have I:=(Er c).symm.trans z
    cases I
    subst c
    exact#[J,by rw[Ef];exact hl,i,_,rv,J]
   ·have I:=(Ew c).symm.trans z
    cases I
  ·by_cases c:b=a
   ·exact c
   ·exact absurd (Ew c) z
theorem vM{l:PySem.W.OpenLaw}{n k:Nat}{E:World->Heap->Prop}{d:DefRec}{K:Params->Frag}{CX:World->nH}{sp:World->Sp}{x:Str}
  (O:l.most=some n) (r:n<=sizeLine) (t:d.params.defaults=[]) (P:bE k callerA)
  (Q:∀(w:World) (h:Heap),E w h->(K w.params).In h)
  (F:∀(w:World) (m:Str->Option Value) (p:Addr) (h:Heap),(K w.params).In h->h.Ns mainGlobals m->m d.name=some (.ref p)->
   ∃y:FuncData,(∀(s:Shared) (u:Value),BindsTo s y #[[u],[]] [(x,u)])/\
    ∀B:Heap,(K w.params).In B->B.Ns mainGlobals m->ai l.prog w (K w.params) m B (CX w) k p y [x] (sp w))
  (z:∀(w:World) (H:Hp) (a:Addr) (N:List Int),N.length<=n->wS H->aF (K w.params) H a (N.map V.int)->sp w [.ref a] H (λv _=>v= .bl true) λ_ _ _=>False)
  (A:∀(w:World) (H:Hp) (s:Shared) (e:Value) (C:Shared),CX w [] H s (λ_ _ _=>False) e C->False):
  PySem.W.WalkO q L XP E l.row.toRowW d [] (λf I=>PySem.call f I):=by
 refine Att.attach_call O t λw J S m mb p o pm cd R a I N G Y ho hd U D j i c X=>?_
 have M:=Q w _ Y
 obtain⟨y,hb,hF⟩:=F w m p _ M G.T.g D
 exact oV M G.T.g G.T.b G.T.builtins G.T.nolimit X j i (Es c r) P hF hb (λH hO hS=>z w H a N c hO hS) λH e C=>A w H S e C
noncomputable def bY(s:Stmt)(j:Nat):Stmt:=match s with
 | .ClassDef _ _ _ b _ _ _ _ _ _ _=>b.getD j (.Pass #[0,0,0,0])
 |_=>.Pass #[0,0,0,0]
noncomputable def bp(s:Stmt):Arguments:=match s with
 | .FunctionDef _ a _ _ _ _ _ _ _ _=>a
 |_=>{ posonlyargs:=[],args:=[],vararg:=none,kwonlyargs:=[],kw_defaults:=[],kwarg:=none,defaults:=[] }
noncomputable def be(s:Stmt):List Stmt:=match s with
 | .FunctionDef _ _ b _ _ _ _ _ _ _=>b
 |_=>[]
noncomputable def aa(s:Stmt):Scope:=match s with
 | .FunctionDef _ _ _ _ _ _ S _ _ _=>S
 |_=>{ kind:=.function,names:=[],isGenerator:=false,isCoroutine:=false }
noncomputable abbrev aD:nH:=λ_ _ _ _ _ _=>False
noncomputable abbrev E0:XK:=λ_ _ _=>False
theorem bq{X:Cx}:dj aD X E0:=λ_ _ _ _ _ _ _ h=>h.elim
structure aN(K:Frag)(x qual:Str)(st:Stmt)(f:Addr)(fd:FuncData):Prop where
 ex:∃(oc:Value) (od:Option Addr) (kV doc pm:Value) (an:Option Addr) (cdv ct:Value) (osl:Array (Option Value)),
  fd=fnOf x qual (bp st) (be st) (aa st) .none kV doc pm an cdv ct/\K.lookup f=some #[oc,od,.func fd,osl]/\codeIn K cdv qual=true
 kp:keepIn K (.ref f)=true
section
variable {P:Program}{w:World}{K:Frag}{mg:Str->Option Value}{base:Heap}
theorem aN.ok{st:Stmt}{d:Sp}(F:aN K x a st f i)(S:am N p (aa st))(len:∀v H Q E,d v H Q E->v.length=p.length)
  (b:∀(c:Value) (A:Around) (o:List Env) (s:Shared) (H:Hp) (v:List V) (Q:VK) (E:XK),bE k (A.deeper (envOfC a (aa st) s.heap.objs.size f c))->d v H Q E->
   ∃t,i9 (eN aD P w K mg base N a (aa st) f c A o s H E).nox (be st) t/\t { nx:=λ_ j=>Q .non j,rt:=Q } (fe N v) H):ai P w K mg base aD (k+1) f i p d:=by
 obtain⟨m,n,kV,D,r,u,c,C,O,rfl,lk,e⟩:=F.ex
 refine wn lk e S len λA o s H v Q E l g=>?_
 obtain⟨t,h,q⟩:=b c A o s H v Q E l g
 exact#[t,h.nox,q]
theorem aN.binds{st:Stmt}{p:List Str}(F:aN K x q st f b)
  (h:∀(kV d a:Value) (A:Option Addr) (c C:Value) (u:List Value),u.length=p.length->bindArgs (fnOf x q (bp st) (be st) (aa st) .none kV d a A c C) #[u,[]]=pure (p.zip u)):aC K b p []:=by
 obtain⟨O,e,kV,d,a,A,c,C,o,rfl,lk,H⟩:=F.ex
 exact .all (h kV d a A c C)
theorem Z0{st:Stmt}{kV:Value}(l:K.lookup f=some #[O,e,.func (fnOf x q (bp st) (be st) (aa st) .none kV d p a C b),o])
  (c:codeIn K C q=true) (k:keepIn K (.ref f)=true):aN K x q st f (fnOf x q (bp st) (be st) (aa st) .none kV d p a C b):=#[#[O,e,kV,d,p,a,C,b,o,Z,l,c],k]
end
theorem kB(h:bE k A):A.units+1 < cLine:=FR (Nat.add_le_add_left (by decide:1<=64) _) h.units
section
variable {X:Cx}
theorem pv(i:Nat){x:Str}{p:Pos}(H:X.N[i]?=some x:=by rfl)(a:Co X.env.scope x:=by first |exact Or.inl Z |exact Or.inr (Or.inl Z) |exact Or.inr (Or.inr Z))(b:(x==("__debug__":Str))=false:=by decide)
  (h:(x==("__classdict__":Str))=false:=by decide):PE X (.Name x p) (aW i):=yB H a b h
end
theorem eQ{A B:Prop}(h:B):if false=true then A else B:=by
 rw[Ew Em]
 exact h
theorem eS{A B:Prop}(h:A):if true=true then A else B:=by
 rw[Er Z]
 exact h
theorem bH{c A B:Prop}[Decidable c](H:c->A)(a:¬c->B):if c then A else B:=by
 by_cases h:c
 ·rw[Er h]
  exact H h
 ·rw[Ew h]
  exact a h
noncomputable def ae(H h:Hp):Prop:=∀b o,H b=some o->h b=some o
theorem ae.refl(H:Hp):ae H H:=λ_ _ h=>h
theorem ae.trans(a:ae H d)(b:ae d e):ae H e:=λc o h=>b c o (a c o h)
theorem ae.free(e:ae H a)(h:a l=Option.none):H l=Option.none:=by
 cases q:H l with
 |none=>rfl
 |some o=>
  rw[e l o q]at h
  cases h
theorem ae.seq{K:Frag}(e:ae H b)(h:aF K H a x):aF K b a x:=by
 rcases h with (h | ⟨o,h⟩) |h
 ·exact .inl (.inl (e _ _ h))
 ·exact .inl (.inr #[o,e _ _ h])
 ·exact .inr h
section
variable {prog:Program}{w:World}{A:Around}{R:Result->Shared->Prop}{s:Shared}
noncomputable abbrev vX:Value->Shared->Prop:=λ_ _=>False
theorem Ze{iter:Expr}(I:Nat->Shared->Prop)
  (T:∀n s,I n s->wpAny (model prog w) A (pyNext B) (λr S=>match r with
   |none=>R (.ok .next) S
   |some v=>wpAny (model prog w) A (letOwnedTupleGo t B v) (λ_ b=>wpAny (model prog w) A (assign t e v) (λ_ d=>
     wpAny (model prog w) A (forIn l true λc r=>if r=true then do let o <- isTrue c e (eval c e);pure (ForInStep.yield o) else pure (ForInStep.yield r)) (λo a=>
      if o=true then wpAny (model prog w) A (eval E e) (λx g=>
       wpAny (model prog w) A (call (.builtin "list.append") [p,x]) (λ_ i=>∃m,m < n/\I m i) vX g) vX a
      else ∃m,m < n/\I m a) vX d) vX b) vX S) vX s)
  (n:Nat) (h:I n s):
  codeAny (model prog w) A (.compLoop (.ListComp E [#[t,iter,l,0]] k C) 0 B p e) R s:=by
 refine codeAny_loop Z I (λn s D=>?_) n h
 show wpAny _ A ((compTurn (.ListComp E [#[t,iter,l,0]] k C) 0 B p e).onRaise (λx=>do noteFrame x e;theTreesLotGoes x)) _ _ s
 refine wpAny_noted ?_
 rw[compTurn_list]
 refine Ec (GN (Ec (Fu (T n s D) (λr S H=>?_) λ_ _ f=>f.elim)))
 cases r with
 |none=>exact Ee H
 |some v=>
  refine Ec (Fu H (λ_ b q=>?_) λ_ _ f=>f.elim)
  refine Ec (Fu q (λ_ d u=>Ec (Fu u (λo a j=>?_) λ_ _ f=>f.elim)) λ_ _ f=>f.elim)
  cases o with
  |false=>exact Ee #[Z,j]
  |true=>
   exact Ec (Ec (Fu j (λx g y=>Ec (Fu y (λ_ i z=>Ee (Ee #[Z,z])) λ_ _ f=>f.elim)) λ_ _ f=>f.elim))
end
noncomputable def a5(X:Cx)(s:Scope)(M:List Str)(c:List (Str×Addr))(C:Addr)(f:List Addr)(S:Shared)(H:Hp):Cx where
 prog:=X.prog
 w:=X.w
 K:=X.K
 mg:=X.mg
 base:=X.base
 A:=X.A
 N:=M
 s₀:=S
 H₀:=H
 env:=compEnvC s c C X.env
 outer:=X.stack
 stack:=X.stack
 ex:=f
 fn:=λ_=>false
 calm:=X.calm
 pn:=[]
 xe:=λ_ _=>False
noncomputable def An(n:Nat)(I:List Nat)(a:St):St:=List.replicate n none++I.map λi=>(a[i]?).getD none
structure aZ(N:List Str)(sc scope:Scope)(M:List Str)(nT:Nat)(ix:List Nat):Prop where
 cell:∀y∈scope.names,y.2≠ .cell
 kind:scope.kind= .function
 loc:∀y∈scope.names,y.2= .local->scope.names.lookup y.1=some .local
 fre:∀y∈scope.names,y.2= .free->sc.names.lookup y.1=some .cell
 nms:M.drop nT=ix.map λi=>N.getD i Str.empty
 len:M.length=nT+ix.length
 vis:∀i∈ix,scope.names.lookup (N.getD i Str.empty)=some .free
theorem Jm{E:Env}(c:E.scope.kind= .function):∀{N:List (Str×NameKind)} {y:Str},N.lookup y=some .free->E.kindOf y=some .cell->
  (N.map λ(n,k)=>if (k==NameKind.free&&E.scope.kind== .function&&E.kindOf n==some .cell) then (n,NameKind.cell) else (n,k)).lookup y=some .cell
 | [],_,h,_=>by simp at h
 | (n,k)::r,y,h,b=>by
  have i:=@Jm E c r y
  show List.lookup y ((if (k==NameKind.free&&E.scope.kind== .function&&E.kindOf n==some .cell)=true then (n,NameKind.cell) else (n,k))::_)=_
  cases H:y==n with
  |true=>
   simp only[Fo,H]at h
   cases h
   have e:y=n:=by simpa using H
   subst e
   rw[Er (by rw[c,b];rfl)]
   simp [Fo]
  |false=>
   simp only[Fo,H]at h
   by_cases a:(k==NameKind.free&&E.scope.kind== .function&&E.kindOf n==some .cell)=true
   ·rw[Er a];simp only[Fo,H];exact i h b
   ·rw[Ew a];simp only[Fo,H];exact i h b
theorem Kq{E:Env}:∀{N:List (Str×NameKind)} {y:Str} {K:NameKind},
  (N.map λ(n,k)=>if (k==NameKind.free&&E.scope.kind== .function&&E.kindOf n==some .cell) then (n,NameKind.cell) else (n,k)).lookup y=some K->
  ∃k,N.lookup y=some k/\(K=k∨k= .free)
 | [],_,_,h=>by simp at h
 | (n,k)::r,y,K,h=>by
  have i:=@Kq E r y K
  have h:List.lookup y ((if (k==NameKind.free&&E.scope.kind== .function&&E.kindOf n==some .cell)=true then (n,NameKind.cell) else (n,k))::_)=some K:=h
  cases a:y==n with
  |true=>
   refine#[k,by simp only[Fo,a],?_]
   by_cases H:(k==NameKind.free&&E.scope.kind== .function&&E.kindOf n==some .cell)=true
   ·right
    simp only[Fx]at H
    simpa using H.1.1
   ·rw[Ew H]at h;simp only[Fo,a]at h;left;exact(EU h).symm
  |false=>
   have b:List.lookup y (r.map λ(n,k)=>if (k==NameKind.free&&E.scope.kind== .function&&E.kindOf n==some .cell) then (n,NameKind.cell) else (n,k))=some K:=by
    by_cases H:(k==NameKind.free&&E.scope.kind== .function&&E.kindOf n==some .cell)=true
    ·rw[Er H]at h;simp only[Fo,a]at h;exact h
    ·rw[Ew H]at h;simp only[Fo,a]at h;exact h
   obtain⟨c,e,q⟩:=i b
   exact#[c,by simp only[Fo,a];exact e,q]
noncomputable def aR(e:Env):List (Str×NameKind)->List (Str×Addr)->List (Str×Addr)
 | [],a=>a
 | (n,k)::r,a=>if k== .free then aR e r ((n,(e.cells.lookup n).getD 0)::a) else aR e r a
theorem z9{E:Env}:∀{N:List (Str×NameKind)} {acc:List (Str×Addr)},(∀y∈N,y.2= .free->∃c,E.cells.lookup y.1=some c)->(∀x c,acc.lookup x=some c->E.cells.lookup x=some c)->
  ∀x c,(aR E N acc).lookup x=some c->E.cells.lookup x=some c
 | [],_,_,b,x,c,h=>b x c h
 | (n,k)::r,acc,f,b,x,c,h=>by
  unfold aR at h
  by_cases g:(k==NameKind.free)=true
  ·rw[Er g]at h
   refine z9 (λy H=>f y (EB _ H)) (λX j a=>?_) x c h
   obtain⟨C,d⟩:=f (n,k) Ez (by simpa using g)
   have d:E.cells.lookup n=some C:=d
   simp only[Fo]at a
   cases i:X==n with
   |true=>
    rw[i]at a
    have e:X=n:=by simpa using i
    subst e
    rw[d]at a
    rw[d]
    exact a
   |false=>rw[i]at a;exact b _ _ a
  ·rw[Ew g]at h
   exact z9 (λy H=>f y (EB _ H)) b x c h
theorem qx:∀{a:List (Str×Addr)},(∃c,(x,c)∈a)->∃c,a.lookup x=some c
 | [],h=>by obtain⟨_,h⟩:=h;cases h
 | (n,c)::r,h=>by
  simp only[Fo]
  cases H:x==n with
  |true=>exact#[c,Z]
  |false=>
   obtain⟨C,h⟩:=h
   rcases List.mem_cons.mp h with e |h
   ·injection e with E _
    subst E
    simp at H
   ·exact qx #[C,h]
theorem qP:∀{N:List (Str×NameKind)} {a:List (Str×Addr)},((∃c,(x,c)∈a)∨(x,NameKind.free)∈N)->∃c,(x,c)∈aR E N a
 | [],_,h=>by
  rcases h with h |h
  ·exact h
  ·cases h
 | (n,k)::r,a,h=>by
  unfold aR
  by_cases H:(k==NameKind.free)=true
  ·rw[Er H]
   refine qP ?_
   rcases h with ⟨c,h⟩ |h
   ·exact .inl #[c,EB _ h]
   ·rcases List.mem_cons.mp h with e |h
    ·injection e with b _
     subst b
     exact .inl #[_,Ez]
    ·exact .inr h
  ·rw[Ew H]
   refine qP ?_
   rcases h with h |h
   ·exact .inl h
   ·rcases List.mem_cons.mp h with e |h
    ·injection e with _ d
     subst d
     exact absurd Z H
    ·exact .inr h
theorem qB{e:Env}:∀(N:List (Str×NameKind)) (A:List (Str×Addr)),(∀y∈N,y.2= .free->∃c,e.cells.lookup y.1=some c)->
  (forIn N A (λx r=>match x with | (name,K)=>if (K==NameKind.free)=true then (do let a <- cellOf e name;pure (ForInStep.yield ((name,a)::r))) else pure (ForInStep.yield r)):Sem (List (Str×Addr)))=pure (aR e N A)
 | [],A,_=>rfl
 | (n,k)::r,A,b=>by
  have i:=λA=>qB r A λy H=>b y (EB _ H)
  rw[FV]
  unfold aR
  by_cases h:(k==NameKind.free)=true
  ·obtain⟨C,E⟩:=b (n,k) Ez (by simpa using h)
   have E:e.cells.lookup n=some C:=E
   have d:cellOf e n=pure C:=by unfold cellOf;rw[E]
   rw[Er h]
   simp only[h,Hf,d,E]
   exact i _
  ·rw[Ew h]
   simp only[h]
   exact i _
theorem qC{e:Env}{S:Scope}(H:∀y∈S.names,y.2= .free->∃c,e.cells.lookup y.1=some c):closureFor S e=pure (aR e S.names []):=by
 have h:=qB S.names [] H
 exact FE (λt:Sem (List (Str×Addr))=>t >>= λs=>pure s) h
section
variable {X:Cx}{pins:List (Addr×Obj)}{σ:St}{H:Hp}{s:Shared}
theorem Jf(I:ao X pins σ H s)(S:aZ X.N X.env.scope a M n i):∀y∈a.names,y.2= .free->∃c,X.env.cells.lookup y.1=some c:=
 λy h e=>I.ok.has y.1 (.inl (S.fre y h e))
theorem on{g:Heap}(I:ao X pins σ H s)(F:∀b∈Y,eK X pins H b)(P:∀b∈Y,b < s.heap.objs.size)
  (S:aZ X.N X.env.scope a M n G) (Q:s.heap.objs.size<=C) (O:∀b o,s.heap.get? b=some o->g.get? b=some o) (R:g.Ns C m):
  ao (a5 X a M (aR X.env a.names []) C Y s H) [] (An n G σ) H { s with heap:=g,toks:=tk }:=by
 have sub:∀x c,(aR X.env a.names []).lookup x=some c->X.env.cells.lookup x=some c:=z9 (Jf I S) (λx c h=>by simp at h)
 have j:∀x,a.names.lookup x=some .free->∃c,(aR X.env a.names []).lookup x=some c:=λx e=>qx (qP (.inr (FL e)))
 have hex:∀x K,(relabel a X.env).names.lookup x=some K->(K= .cell∨K= .free)->a.names.lookup x=some .free:=λx K e A=>by
  obtain⟨k,t,q⟩:=Kq e
  rcases q with q |q
  ·rcases A with z |z
   ·exact absurd (q.symm.trans z) (S.cell (x,k) (FL t))
   ·rw[t,<- q,z]
  ·rw[t,q]
 refine#[#[I.ok.mod,S.kind,I.ok.glob,I.ok.blt,Q,λx y c h1 h2=>I.ok.inj x y c (sub x c h1) (sub y c h2),λx hx=>?_,λx c hx=>?_,I.ok.hd,I.ok.frames,.inl Z,λb w=>#[λz=>?_,λx c e=>?_],I.bs,Es I.ok.bsz I.sz,λb o e w=>?_,λb w hz=>?_,I.stack,I.stkFree],
  rfl,I.bare,Un.kept O,#[m,R,λk y v t E _=>?_],λx c e=>?_,I.hok.fresh Q,λx c e=>I.freeC x c (sub x c e),λp hp=>absurd (show p∈([]:List (Addr×Obj)) from hp) Lp,I.hok.kept O,?_]
 ·rcases hx with hx |hx
  ·exact j x (hex x _ hx (.inl Z))
  ·exact j x (hex x _ hx (.inr Z))
 ·exact absurd (show false=true from hx) Ln
 ·have z':b=C:=z
  have:=P b w
  rw[z']at this
  exact absurd this (Nat.not_lt.mpr Q)
 ·exact(F b w).2.2.2.2.1 x c (sub x c e)
 ·rcases(F b w).2.2.2.1 with z |z
  ·exact I.ok.noex b o e z
  ·exact absurd (Et (Ek e) (Es I.ok.bsz z)) (Fn _)
 ·rcases List.mem_cons.mp (I.stkSub b hz) with z |z
  ·exact(F b w).2.1 z
  ·exact(F b w).2.2.1 z
 ·have E:(An n G σ)[k]?=some (some v):=E
  have t:M[k]?=some y:=t
  unfold An at E
  by_cases A:k < n
  ·rw[Gg (by simpa using A),Lk]at E
   simp [A]at E
  ·have B:n<=k:=HK A
   rw[Gb (by simpa using B),Hk,Eo]at E
   cases J:G[k - n]? with
   |none=>rw[J]at E;cases E
   |some i=>
    rw[J]at E
    have L:(σ[i]?).getD none=some v:=EU E
    have V:σ[i]?=some (some v):=by
     cases W:σ[i]? with
     |none=>rw[W]at L;cases L
     |some o=>rw[W]at L;exact FE some L
    have hi:i < X.N.length:=by rw[<- I.len];exact(List.getElem?_eq_some_iff.mp V).1
    have e7:y=X.N.getD i Str.empty:=by
     have q:(M.drop n)[k - n]?=some y:=by rw[List.getElem?_drop];rw[Nat.add_sub_cancel' B];exact t
     rw[S.nms,Eo,J]at q
     exact(EU q).symm
    have e8:X.N[i]?=some y:=by rw[e7,Ed hi,GK,Ed hi];rfl
    have d:a.names.lookup y=some .free:=by rw[e7];exact S.vis i (EA J)
    have f:X.env.scope.names.lookup y=some .cell:=S.fre (y,.free) (FL d) Z
    obtain⟨m',_,hl⟩:=I.loc
    obtain⟨u,r,l⟩:=hl i y v e8 V (.inr (.inl f))
    refine#[u,r,?_]
    rcases l with ⟨l,_⟩ | ⟨_,c,ec,o,T,U⟩
    ·have l:X.env.scope.names.lookup y=some .local:=l
     rw[f]at l
     cases l
    ·obtain⟨c',D⟩:=j y d
     have q:=sub y c' D
     rw[ec]at q
     cases q
     exact .inr #[.inl (Jm I.ok.kind d f),c,D,o,O _ _ T,U]
 ·obtain⟨v,o,T,U⟩:=I.cell x c (sub x c e)
  exact#[v,o,O _ _ T,U]
 ·show(An n G σ).length=M.length
  rw[S.len]
  simp [An]
theorem ao.track(I:ao X pins σ H s)(f:eK X pins H D)(G:X.s₀.heap.objs.size<=D)(a:aJ X.prog X.w (ah H D o) s.heap D o):ao X pins σ (ah H D o) s:=by
 have n:=f.1
 have N:∀b u,H b=some u->b≠D:=λb u e=>jo e n
 refine#[I.ok,I.os,I.bare,#[I.base.keep,I.base.slot,λb O e q i=>?_,I.base.there,λb d e=>?_,λb O u e=>?_,λb P e=>?_],I.loc,I.cell,?_,λx c e=>?_,λp h=>?_,λb u e=>?_,I.len]
 ·rw[jl (En (Et (Ek e) G))]
  exact I.base.free b O e q i
 ·have q:=I.base.tups b d e
  rw[jl (N _ _ q)]
  exact q
 ·have q:=I.base.frzs b O u e
  rw[jl (N _ _ q)]
  exact q
 ·obtain⟨m,q⟩:=I.base.tbls b P e
  exact#[m,by rw[jl (N _ _ q)];exact q]
 ·rw[jl (ES f.2.1)]
  exact I.free
 ·rw[jl (f.2.2.2.2.1 x c e)]
  exact I.freeC x c e
 ·obtain⟨e,q,r⟩:=I.pin p h
  exact#[e,by rw[jl (f.2.2.2.2.2 p h)];exact q,r]
 ·by_cases g:b=D
  ·subst g
   rw[jc]at e
   cases e
   exact a
  ·rw[jl g]at e
   exact(I.hok b u e).stay (λ_ _ _ q=>q) (λc q=>by rw[jl (N _ _ q)];exact q) λc d q=>by rw[jl (N _ _ q)];exact q
noncomputable abbrev gZ(u:List Value):Obj:={ cls:=.type "list",data:=.seq u.toArray u.length }
theorem Zf(u:List Value)(y:Value):({ cls:=.type "list",data:=.seq (u.toArray.push y) (u.length+1) }:Obj)=gZ (u++[y]):=by
 show({ cls:=.type "list",data:=.seq (u.toArray.push y) (u.length+1) }:Obj)={ cls:=.type "list",data:=.seq (u++[y]).toArray (u++[y]).length }
 rw[Ei,Gz,List.push_toArray]
noncomputable def PF(X:Cx)(i:List Expr)(t:TT):Prop:=
 ∀(pins:List (Addr×Obj)) (s:Shared) (σ:St) (H:Hp) (Q:Bool->Hp->Prop),ao X pins σ H s->t σ H Q->
  wpAny (model X.prog X.w) X.A (forIn i true λc r=>if r=true then do let o <- isTrue c X.env (eval c X.env);pure (ForInStep.yield o) else pure (ForInStep.yield r)) (TP X pins σ Q) X.xe s
noncomputable def i6:TT:=λ_ H Q=>Q true H
theorem zi:PF X [] i6:=λ_ _ _ H _ I h=>wpAny_tests_nil #[H,I,h]
theorem Z1{c:Expr}{t:TT}(h:PT X c t):PF X [c] t:=λpins s σ H Q I q=>wpAny_tests_one (h pins s σ H Q I q)
noncomputable def nh(I:List Nat)(σ:St):St:=I.map λi=>(σ[i]?).getD none
noncomputable def dM(J:It)(n:Nat)(t:St)(g:TG)(j:TT)(k:TE)(Q:List V->Hp->Prop)(H:Hp):Prop:=
 ∃W:Nat->Nat->List V->Hp->Prop,(∃m,W 0 m [] H)/\∀i m Y H,W i m Y H->
  (J.stop i H/\Q Y H)∨(J.go i H/\Y.length < sizeLine/\∃N:List V->Hp->Prop,(∀c h,N c h->∃M,M < m/\W (i+1) M c h)/\
   ∀x d (e:St),e.length=n->J.yld i H x d->g x (e++t) d λa h=>(∃T:St,T.length=n/\a=T++t)/\j a h λb f=>if b=true then k a f λy l=>N (Y++[y]) l else N Y f)
theorem Kr{iter:Expr}
  {RR:Value->Addr->Result->Shared->Prop} 
  (I:ao X pins σ H s) (hc:X.calm=true) (T:lS X.prog X.w X.K tg J k it tn) (st:tn 0 s.heap) (hf:∀b∈k,eK X pins H b) (S:aZ X.N X.env.scope scope M nT ix)
  (hg:∀cl C k s H,PG (a5 X scope M cl C k s H) tg g) (hi:∀cl C k s H,PF (a5 X scope M cl C k s H) i0 tt) (he:∀cl C k s H,PE (a5 X scope M cl C k s H) e0 te)
  (h:dM J nT (nh ix σ) g tt te Qf H)
  (h':∀D C Y m t G,(∀b o u,H b=some (.frz o u)->t b=some (.frz o u))->t D=none->ao X pins σ (ah t D (.lst Y)) G->eK X pins (ah t D (.lst Y)) C->G.heap.Ns C m->Qf Y t->RR (.ref D) C (.ok .next) G):
  wpAny (model X.prog X.w) X.A (newList []) (λacc B=>wpAny (model X.prog X.w) X.A (newFunctionEnv scope X.env.globals (aR X.env scope.names []) [] X.env.qual none .none (some X.env)) (λc0 s0=>
   codeAny (model X.prog X.w) X.A (.compStart (.ListComp e0 [#[tg,iter,i0,0]] scope p1) 0 (.ref it) acc { c0 with scope:=relabel scope X.env }) (RR acc c0.locals) s0) E B) E s:=by
 obtain⟨W,⟨m0,w0⟩,t1⟩:=h
 have h3:∀b∈k,b < s.heap.objs.size:=λb a=>by
  obtain⟨o,e,_⟩:=T.obj 0 _ st b a
  exact Ek e
 refine EY (wpAny_newFunctionEnv S.cell (by intro y hy;simp at hy) (λF l f=>?_) S.kind)
 dsimp only at l f ⊢
 generalize h4:s.heap.push { cls:=.type "list",dict:=none,data:=.seq ([]:List Value).toArray }=H2 at l f ⊢
 have hC:H2.objs.size=s.heap.objs.size+1:=by rw[<- h4,Fh]
 have P:s.heap.objs.size≠H2.objs.size:=by rw[hC];exact En (FQ _)
 have h0:s.heap.objs.size<=H2.objs.size:=by rw[hC];exact Gm _
 have b0:∀b,b < s.heap.objs.size->b≠H2.objs.size/\b≠s.heap.objs.size:=λb a=>#[by rw[hC];exact En (GF a),En a]
 have o1:∀b o,s.heap.get? b=some o->F.get? b=some o:=λb o e=>f.extBut b o (b0 b (Ek e)).1 (Eg _ (h4▸Eg _ e))
 have h5:F.get? s.heap.objs.size=some (gZ []):=f.extBut _ _ P (Eg _ (h4▸El _ Z))
 have a0:H s.heap.objs.size=none:=I.hok.fresh (Eh _)
 have h6:s.heap.objs.size∉hZ X.stack:=λa=>(List.mem_cons.mp (I.stkSub _ a)).elim (λe=>absurd I.lt (by rw[<- e];exact Fn _)) (I.nofs (Eh _))
 generalize hD:s.heap.objs.size=D at*
 generalize b2:H2.objs.size=C at*
 have J0:∀tk,ao (a5 X scope M (aR X.env scope.names []) C k s H) [] (An nT ix σ) H { s with heap:=F,toks:=tk }:=λtk=>on I hf (by rw[hD];exact h3) S (by rw[hD];exact h0) o1 l
 have c1:∀x c,(aR X.env scope.names []).lookup x=some c->c≠D:=λx c e z=>by
  have sub:=z9 (Jf I S) (acc:=[]) (λx c h=>by simp at h) x c e
  obtain⟨v,o,ho,_⟩:=I.cell x c sub
  have:=Ek ho
  rw[z,hD]at this
  exact Fn _ this
 have p0:∀{σ0:St} {t:Hp} {G:Shared} {U:List Value},ao (a5 X scope M (aR X.env scope.names []) C k s H) [] σ0 t G->G.heap.get? D=some (gZ U)->t D=none->
   ao (a5 X scope M (aR X.env scope.names []) C k s H) [(D,gZ U)] σ0 t G:=λ{σ0 t G U} I' e n=>I'.pins_of λp hp=>by
  have ep:p=(D,gZ U):=by simpa using hp
  subst ep
  exact#[e,n,P,h6,λv z=>by cases z]
 have L:∀{t:Hp} {U:List Value},(∀b∈k,t b=none)->∀b∈k,eK (a5 X scope M (aR X.env scope.names []) C k s H) [(D,gZ U)] t b:=λ{t U} hn b a=>
  #[hn b a,((J0 0).ok.exf b a).1,(J0 0).ok.exfs b a,.inl a,((J0 0).ok.exf b a).2,λp hp z=>by
   have ep:p=(D,gZ U):=by simpa [a5] using hp
   rw[ep]at z
   have:=h3 b a
   rw[<- z]at this
   exact Fn _ this]
 have l0:∀B:Shared,(∃tk,B={ s with heap:=F,toks:=tk })->
   codeAny (model X.prog X.w) X.A (.compLoop (.ListComp e0 [#[tg,iter,i0,0]] scope p1) 0 (.ref it) (.ref D) (compEnvC scope (aR X.env scope.names []) C X.env)) (RR (.ref D) C) B:=by
  rintro B ⟨tk,rfl⟩
  refine Ze (λn G=>∃i Y U ts t,ts.length=nT/\ao (a5 X scope M (aR X.env scope.names []) C k s H) [(D,gZ U)] (ts++nh ix σ) t G/\ay Y U/\Y.length<=sizeLine/\tn i G.heap/\(∀b∈k,t b=none)/\W i n Y t) ?_ m0
   #[0,[],[],List.replicate nT none,H,Hk,p0 (J0 tk) h5 a0,.nil,Eu _,T.keep _ _ _ st λb a o e=>o1 b o e,λb a=>(hf b a).1,w0]
  rintro n s1 ⟨i,Y,U,ts,Q,a1,I1,rv,hz,s7,f0,w1⟩
  rcases t1 i n Y Q w1 with ⟨stop,q⟩ | ⟨go,a2,N,hN,step⟩
  ·refine aO (T.done (a5 X scope M (aR X.env scope.names []) C k s H) Z Z Z hc i _ s1 _ Q vX I1 (L f0) s7 stop) λr s2 j=>?_
   obtain⟨hr,I2⟩:=j
   subst hr
   have IO:ao X pins σ Q s2:=I.call' (ch:=k) I2.os I2.base I2.hok I2.bare λb a=>#[(hf b a).2.2.2.1,(hf b a).2.1,(hf b a).2.2.2.2.1,(hf b a).2.2.2.2.2]
   have pD:=I2.pin (D,gZ U) (by simp [a5])
   have h8:Q D=none:=pD.2.1
   have fD:eK X pins Q D:=by rw[<- hD];exact I.fpOk (Eh _) (by rw[hD];exact h8)
   have IT:ao X pins σ (ah Q D (.lst Y)) s2:=IO.track fD (by rw[<- hD];exact I.sz) #[hz,U,U.length,rv,pD.1]
   obtain⟨mC,a3,_⟩:=I2.loc
   have a4:Q C=none:=I2.free
   exact h' D C Y mC Q s2 I2.base.frzs h8 IT (I.fpOk (by rw[hD];exact h0) (by rw[jl (ES P)];exact a4)) a3 q
  ·refine aO (T.item (a5 X scope M (aR X.env scope.names []) C k s H) Z Z Z hc i _ s1 _ Q vX I1 (L f0) s7 go) λr s2 j=>?_
   obtain⟨u,hr,h2⟩:=j
   subst hr
   refine aO h2 λ_ s3 j=>?_
   obtain⟨x,H3,I3,r3,y3,O,f1⟩:=j
   have a':=I3.pinned (L f1) (T.obj _ _ O)
   refine aO (hg _ _ _ _ _ _ s3 _ H3 x u _ a' r3 (step x H3 ts a1 y3)) λ_ s4 j=>?_
   obtain⟨σ1,H4,I4,⟨t0,h1,e4⟩,q4⟩:=j
   subst e4
   refine aO (hi _ _ _ _ _ _ s4 _ H4 _ I4 q4) λb s5 j=>?_
   obtain⟨H5,I5,q5⟩:=j
   cases b with
   |false=>
    obtain⟨m',hm,w'⟩:∃m',m' < n/\W (i+1) m' Y H5:=hN _ _ q5
    refine#[m',hm,i+1,Y,U,t0,H5,h1,I5.unpinned,rv,hz,T.keep _ _ _ O λb a o e=>(I5.pin (b,o) (Ex _ (Ex _ (zc a e)))).1,λb a=>?_,w']
    obtain⟨o,e,d⟩:=T.obj _ _ O b a
    exact(I5.pin (b,o) (Ex _ (Ex _ (zc a e)))).2.1
   |true=>
    refine aO (he _ _ _ _ _ _ s5 _ H5 _ I5 q5) λv s6 j=>?_
    obtain⟨y,H6,I6,r6,q6⟩:=j
    obtain⟨m',hm,w'⟩:=hN _ _ q6
    have pD:=I6.pin (D,gZ U) (Ex _ (FH _ Ez))
    have hl:=rv.length
    have R:∀b∈k,∀o,s3.heap.get? b=some o->s6.heap.get? b=some o:=λb a o e=>(I6.pin (b,o) (Ex _ (Ex _ (zc a e)))).1
    have V:∀b∈k,H6 b=none:=λb a=>by
     obtain⟨o,e,d⟩:=T.obj _ _ O b a
     exact(I6.pin (b,o) (Ex _ (Ex _ (zc a e)))).2.1
    refine append_at (hsz:=by rw[Ej,<- hl];exact hz) pD.1 λh7 sb b1=>?_
    have I7:ao (a5 X scope M (aR X.env scope.names []) C k s H) [] (t0++nh ix σ) H6 { s6 with heap:=h7 }:=
     (I6.pins_of (pins':=[]) λp hp=>absurd hp Lp).turned (t':=s6.toks) (it:=D) (λb o a e=>(sb.2 b a).trans e) pD.2.1 P (.inr (by show s.heap.objs.size<=D;rw[hD];exact Eh _)) c1 λp hp=>absurd (show p∈([]:List (Addr×Obj)) from hp) Lp
    refine#[m',hm,i+1,Y++[y],U++[v],t0,H6,h1,p0 I7 (b1.trans (FE some (Zf U v))) pD.2.1,rv.append (.cons r6 .nil),by rw[Ei,Gz];exact a2,
     T.keep _ _ _ (T.keep _ _ _ O R) λb a o e=>(sb.2 b λz=>?_).trans e,V,w']
    have:=h3 b a
    rw[z]at this
    exact Fn _ this
 exact codeAny_compStart_list (l0 _ #[_,Z]) (T.self _ 0 _ _ _ (T.keep _ _ _ st λb a o e=>o1 b o e) (l0 _ #[_,Z]))
noncomputable def sE(w:TI)(n:Nat)(i:List Nat)(g:TG)(t:TT)(T:TE):TE:=λσ H Q=>w σ H λJ a=>dM J n (nh i σ) g t T (λy h=>∀p,h p=none->Q (.ref p) (ah h p (.lst y))) a
theorem kJ{t E iter:Expr}{i:List Expr}{a:Scope}{p:Pos}{M:List Str}{k:Nat}{l:List Nat}{W:TI}{g:TG}{r:TT}{u:TE}(v:X.calm=true)(y:PI X t iter W)(S:aZ X.N X.env.scope a M k l)
  (z:∀c C f s H,PG (a5 X a M c C f s H) t g) (B:∀c C f s H,PF (a5 X a M c C f s H) i r) (G:∀c C f s H,PE (a5 X a M c C f s H) E u)
  (K:∀x,foldedSetIterable iter X.env x=pure x:=by intro _;rfl):
  PE X (.ListComp E [#[t,iter,i,0]] a p) (sE W k l g r u):=by
 intro pins s σ H Q I h
 rw[eval_ListComp]
 refine wpAny_comprehension_free (use:=none) Z K (qC (Jf I S)) S.kind S.loc (aO (y pins s σ H _ I h) λxv s1 L=>aO L λO s2 P=>?_)
 obtain⟨it,f,tn,J,H2,e,U,T,d,V,R⟩:=P
 subst e
 refine Kr (RR:=λj C=>compPost (model X.prog X.w) X.A X.xe none (EP X pins σ Q) j C) U v T d V S z B G R ?_
 intro D C ys m H' Y _ n I' F ns q
 exact#[m,ns,λh' sb=>#[.ref D,_,I'.turned (t':=Y.toks) (λb o hb e=>(sb.2 b hb).trans e) F.1 F.2.1 F.2.2.2.1 F.2.2.2.2.1 F.2.2.2.2.2,Z,q D n]]
theorem Yu{t E iter:Expr}{d:List Expr}{c:Scope}{p P f:Pos}{y:Str}{i:Nat}{M:List Str}{U:Nat}{V:List Nat}{W:TI}{g:TG}{Y:TT}{te:TE}(hN:X.N.Nodup)(hy:X.N[i]?=some y)(hx:n6 X.env.scope y)
  (hc:X.calm=true) (hI:PI X t iter W) (S:aZ X.N X.env.scope c M U V)
  (hg:∀l C j s H,PG (a5 X c M l C j s H) t g) (hi:∀l C j s H,PF (a5 X c M l C j s H) d Y) (he:∀l C j s H,PE (a5 X c M l C j s H) E te)
  (r:swapsWith (.ListComp E [#[t,iter,d,0]] c p) (some (.Name y P)) f.line X.env=pure true:=by rfl)
  (hf:X.fn y=true∨X.env.scope.names.lookup y=some .local:=by first |exact .inl Z |exact .inr Z |assumption)
  (hs:∀x,foldedSetIterable iter X.env x=pure x:=by intro _;rfl):
  PS X (.Assign [.Name y P] (.ListComp E [#[t,iter,d,0]] c p) f) (λD σ H=>sE W U V g Y te σ H λv H1=>D.nx (σ.set i (some v)) H1):=by
 intro pins s σ H D I h
 rw[exec_Assign_Name_used _ _ _ _ r]
 refine Ec (GN (Ec ?_))
 show wpAny _ X.A (do let _ <- comprehension (.ListComp E [#[t,iter,d,0]] c p) c X.env _ (newList []) false (eval iter X.env) (some (assign (.Name y P) X.env))) _ _ s
 refine Ec (aO (wpAny_comprehension_free (use:=some (assign (.Name y P) X.env)) (Q:=λ_ k=>SP X pins D .next k) Z hs (qC (Jf I S)) S.kind S.loc
  (aO (hI pins s σ H _ I h) λxv s1 h1=>aO h1 λi0 s2 h2=>?_)) λ_ k hq=>Ee (Ee hq))
 obtain⟨it,j,tn,J,H2,e,I2,T,u,f2,R⟩:=h2
 subst e
 refine Kr (RR:=λB C=>compPost (model X.prog X.w) X.A X.xe (some (assign (.Name y P) X.env)) (λ_ k=>SP X pins D .next k) B C) I2 hc T u f2 S hg hi he R ?_
 intro Dd C ys m H' k _ n I' F ns q
 show wpAny _ X.A (assign (.Name y P) X.env (.ref Dd)) _ _ k
 refine wpAny_assign_Name (KY I' hN hy hx (v:=.ref Dd) Z (λG K hh=>?_) hf)
 obtain⟨a,sb,ha⟩:=hh
 have L:C≠a:=by
  rcases ha with z |z
  ·rw[z];exact F.2.1
  ·exact ES (F.2.2.2.2.1 _ _ z)
 exact#[m,ns.sameBut sb L,λh' O=>#[_,_,K.turned (t':=G.toks) (λb o hb e=>(O.2 b hb).trans e) F.1 F.2.1 F.2.2.2.1 F.2.2.2.2.1 F.2.2.2.2.2,q Dd n]]
end
section
variable {X:Cx}
noncomputable def Ao(i j:Int):Prop:=0 < j/\j<=1000000000000000000
theorem Jg:eJ X (binaryOp .FloorDiv) (rI Ao λi j=>.int (i / j)):=Cw λi j _ _ _ _ _ h q=>by
 have b:(0:Int) < j:=h.1
 have c:j<=1000000000000000000:=h.2
 refine floordiv_int Lo (by rw[Int.fdiv_eq_ediv_of_nonneg i Lo];exact q) (.inl (PyProof.noPylong_of_log2 ?_))
 have H:j.natAbs≠0:=by omega
 have a:j.natAbs < 2 ^ 60:=by omega
 have d:j.natAbs.log2 < 60:=(Nat.log2_lt H).mpr a
 omega
noncomputable def CT:V->Option Value
 | .ty n=>some (.type n)
 | .ref a=>some (.ref a)
 |_=>none
theorem jS:c8 X (.builtin "isinstance") (λf H Q=>∃x y c t b,f=[x,y]/\CT y=some c/\b8 X.K H x t/\kitOne X.K t c=some b/\Q (.bl b) H):=by
 intro p s i H f U Q I r h
 obtain⟨x,y,c,t,b,rfl,d,ty,e,q⟩:=h
 obtain⟨u,w,rfl,g,R⟩:=sQ r
 have E:w=c:=by
  cases y with
  |ty n=>exact Eq.trans R (EU d)
  |ref a=>exact Eq.trans R (EU d)
  |_=>cases d
 subst E
 exact Y7 I g ty e λT=>#[.bl b,H,I.tok T,Z,q]
theorem JG:∀{B:List Bool} {U:List Value},ay (B.map V.bl) U->LSm.BoolsAre U B
 | [],_,.nil=>.nil
 |b::r,_,.cons (b:=u) h t=>by
  have e:u=Value.bool b:=h
  subst e
  exact .cons b (JG t)
theorem oi(j:X.calm=true):c8 X (.builtin "all") (λx H Q=>∃(p:Addr) (B:List Bool),x=[.ref p]/\aF X.K H p (B.map V.bl)/\Q (.bl (B.all id)) H):=by
 intro P s w H x U Q I r h
 obtain⟨p,B,rfl,k,q⟩:=h
 obtain⟨u,rfl,R⟩:=dG r
 cases R
 obtain⟨a,l,m,y⟩:=I.list k
 have f:=JG l
 have c:=m.isList
 have d:p < s.heap.objs.size:=by obtain⟨_,e,_⟩:=c;exact Ek e
 refine call_all_walk (Hn c ?_)
 refine#[s.heap.objs.size,[s.heap.objs.size,p],[s.heap.objs.size],a.toArray.size,_,_,λi=>(B[i]?).getD true,Z,Walks.list (A:=X.A.in1) (I.ok.hd j) _ p (En d) a.toArray,
  #[#[_,El _ Z,Z,Z],c.push _],λi v S z E n g=>?_,λC t o=>?_]
 ·obtain⟨b,e,rfl⟩:=f.get i v (by simpa using n)
  simp only[e,Option.getD_some]at g
  exact Gu g
 ·have e:((List.range a.toArray.size).all λi=>(B[i]?).getD true)=B.all id:=by
   rw[Ej,f.length];exact LSm.range_all B
  rw[e]
  exact#[.bl _,H,I.kept (t':=t) (LSm.kept_iter o),Z,q]
theorem qc:∀{Y:List Str} {U:List Value},ay (Y.map V.str) U->StrsAre U Y
 | [],_,.nil=>.nil
 |y::r,_,.cons (b:=u) h t=>by
  obtain⟨T,e⟩:∃T,u=Value.str y T:=h
  subst e
  exact .cons y T (qc t)
theorem QC:Ci X "str.join" (λx a H Q=>∃(z:Str) (p:Addr) (y:List Str),x= .str z/\a=[.ref p]/\aF X.K H p (y.map V.str)/\z.length<=16/\(y.map (·.length)).sum+y.length<=1048576/\Q (.str (Txt.join z y)) H):=by
 intro P s l H x a v U Q I r R h
 obtain⟨z,p,y,rfl,rfl,b,c,d,q⟩:=h
 obtain⟨u,rfl,e⟩:=dG R
 cases e
 obtain⟨t,rfl⟩:=r
 obtain⟨i,f,g,j⟩:=I.list b
 exact join_listW g.isList (by simpa using qc f) c d λT k=>#[.str _,H,I.tok k,#[_,Z],q]
noncomputable def oA:Expr->Option V
 | .Constant (.str x) _ _=>some (.str x)
 | .Constant (.int i) _ _=>some (.int i)
 |_=>none
theorem yz(h:oA e=some v):PE X e (tC v):=by
 cases e with
 |Constant c j p=>
  cases c with
  |str x=>cases h;exact jk
  |int i=>cases h;exact jf
  |_=>cases h
 |_=>cases h
theorem su(h:oA e=some v):starEach (e::a) E=(false,eval e E)::starEach a E:=by
 cases e with
 |Constant c j p=>rfl
 |_=>cases h
noncomputable def oU(e:Expr):Bool:=(oA e).isSome
noncomputable def oy(e:Expr):V:=(oA e).getD .non
theorem QD:∀{E:List Expr},E.all oU=true->PA X E (λ_ H Q=>Q (E.map oy) H)
 | [],_=>jb
 |e::E,h=>by
  rw[Le,Fx]at h
  obtain⟨v,a⟩:=Option.isSome_iff_exists.mp (show(oA e).isSome=true from h.1)
  have b:oy e=v:=by unfold oy;rw[a];rfl
  rw[FF,b]
  exact ja (yz a) (QD h.2) (su a)
theorem Zg{E:List Expr}(h:E.all oU=true):(E.map oy).all cn=true:=by
 rw[List.all_eq_true]at h ⊢
 intro v H
 obtain⟨e,a,rfl⟩:=List.mem_map.mp H
 have q:=h e a
 unfold oU at q
 unfold oy
 cases e with
 |Constant c j p=>
  cases c with
  |str x=>rfl
  |int i=>rfl
  |_=>exact absurd q Em
 |_=>exact absurd q Em
noncomputable def BV(t:TS):TS:=λD b H=>∃R:St->Hp->Prop,t { D with nx:=R } b H/\∀a h,R a h->D.nx a h
theorem j3{st:Stmt}{t:TS}(h:PS X st t):PS X st (BV t):=by
 intro p s b H D I c
 obtain⟨R,d,e⟩:=c
 refine aO (h p s b H _ I d) λf S q=>?_
 cases f with
 |next=>obtain⟨a,g,i,q⟩:=q;exact#[a,g,i,e _ _ q]
 |brk=>exact q
 |cont=>exact q
 |ret v=>exact q
theorem oW{t:St}(h:t.length=1):∃v,t=[v]:=by
 cases t with
 |nil=>cases h
 |cons v r=>
  cases r with
  |nil=>exact#[v,Z]
  |cons _ _=>cases h
theorem Xh{lo:Int}{t:TE}{Q:List V->Hp->Prop}(Pv:Nat->List V->Hp->Prop)(g:Pv 0 [] H)(j:n<=sizeLine)(b:∀i Y h,Pv i Y h->Y.length<=i)
  (k:∀i Y h,i < n->Pv i Y h->t (some (.int (lo+i))::c) h λy d=>Pv (i+1) (Y++[y]) d) (l:∀Y h,Pv n Y h->Q Y h):
  dM (tI lo n) 1 c (a8 0) i6 t Q H:=by
 refine#[λi m Y h=>m=n - i/\i<=n/\Pv i Y h,#[n,Lp,Eu _,g],?_]
 rintro i m Y h ⟨rfl,q,p⟩
 by_cases a:i < n
 ·refine .inr #[a,FR (b i Y h p) (Et a j),Pv (i+1),λo d P=>#[n - (i+1),Lo,Z,a,P],λx d T f y=>?_]
  obtain⟨e,y⟩:=y
  subst e y
  obtain⟨v,rfl⟩:=oW f
  exact#[#[[some _],Z,Z],k i Y _ a p]
 ·have e:i=n:=by omega
  subst e
  exact .inl #[Eh _,l Y h p]
end
section
variable {κ:Type}[DecidableEq κ]
noncomputable def bQ(K:List (κ×V))(k:κ):Option V:=(K.find? λa=>decide (a.1=k)).map (·.2)
noncomputable def aQ(K:List (κ×V))(k:κ)(v:V):List (κ×V):=
 if (K.any λa=>decide (a.1=k))=true then K.map (λa=>if a.1=k then (a.1,v) else a) else K++[(k,v)]
theorem sO:bQ ([]:List (κ×V)) k=none:=rfl
theorem j9{p:κ×V}(e:p.1=k):bQ (p::r) k=some p.2:=by simp [bQ,Gi,e]
theorem kc{p:κ×V}(e:¬p.1=k):bQ (p::r) k=bQ r k:=by simp [bQ,Gi,e]
theorem Jh(k:κ):∀K:List (κ×V),(K.any λa=>decide (a.1=k))=(bQ K k).isSome
 | []=>rfl
 |p::r=>by
  rw[HF]
  by_cases e:p.1=k
  ·simp only[j9 e,EN e,Bool.true_or,Option.isSome_some]
  ·rw[kc e,EH e,Bool.false_or];exact Jh k r
theorem QX(k j:κ)(y:V):∀K:List (κ×V),bQ (K.map λa=>if a.1=k then (a.1,y) else a) j=(bQ K j).map λx=>if j=k then y else x
 | []=>rfl
 |p::r=>by
  have i:=QX k j y r
  rw[FF]
  by_cases h:p.1=k
  ·rw[Er h]
   by_cases e:p.1=j
   ·rw[j9 (p:=(p.1,y)) e,j9 e,HU,Er (e.symm.trans h)]
   ·rw[kc (p:=(p.1,y)) e,kc e,i]
  ·rw[Ew h]
   by_cases e:p.1=j
   ·rw[j9 (p:=p) e,j9 e,HU,Ew (λz=>h (e.trans z))]
   ·rw[kc (p:=p) e,kc e,i]
theorem Qb(k j:κ)(y:V):∀K:List (κ×V),bQ K k=none->bQ (K++[(k,y)]) j=if j=k then some y else bQ K j
 | [],_=>by
  by_cases e:k=j
  ·rw[Er e.symm];exact j9 (p:=(k,y)) e
  ·rw[Ew (λz=>e z.symm)];exact kc (p:=(k,y)) e
 |p::r,h=>by
  rw[List.cons_append]
  have H:¬p.1=k:=λz=>by rw[j9 z]at h;cases h
  rw[kc H]at h
  have i:=Qb k j y r h
  by_cases e:p.1=j
  ·rw[j9 e,j9 e,Ew (λz=>H (e.trans z))]
  ·rw[kc e,kc e,i]
theorem sP(K:List (κ×V))(k j:κ)(y:V):bQ (aQ K k y) j=if j=k then some y else bQ K j:=by
 unfold aQ
 by_cases a:(K.any λb=>decide (b.1=k))=true
 ·rw[Er a,QX]
  rw[Jh]at a
  by_cases e:j=k
  ·obtain⟨x,h⟩:=Option.isSome_iff_exists.mp a
   rw[Er e,e,h,HU,Er Z]
  ·rw[Ew e]
   cases bQ K j with
   |none=>rfl
   |some x=>rw[HU,Ew e]
 ·rw[Ew a]
  refine Qb k j y K ?_
  rw[Jh]at a
  cases q:bQ K k with
  |none=>rfl
  |some x=>rw[q]at a;exact(a Z).elim
theorem qw(K:List (κ×V))(k:κ)(v:V):(aQ K k v).length<=K.length+1:=by
 unfold aQ
 split
 ·rw[Ef];omega
 ·rw[Ei,EM,IS];omega
theorem dH.isSome_eq(r:dH o u):o.isSome=u.isSome:=by
 cases o with
 |none=>cases u with
  |none=>rfl
  |some _=>exact(show False from r).elim
 |some _=>cases u with
  |none=>exact(show False from r).elim
  |some _=>rfl
theorem dH.getD(r:dH o u)(R:aB d D):aB (o.getD d) (u.getD D):=by
 cases o with
 |none=>cases u with
  |none=>exact R
  |some _=>exact(show False from r).elim
 |some _=>cases u with
  |none=>exact(show False from r).elim
  |some _=>exact r
theorem KV.val(r:KV a v)(k:κ):dH (bQ a k) (valueAt v k):=by
 unfold KV at r
 induction r with
 |nil=>exact True.intro
 | @cons p q P Q h t i=>
  obtain⟨H,c⟩:=h
  by_cases e:p.1=k
  ·have E:q.1=k:=H.symm.trans e
   have b:valueAt (q::Q) k=some q.2:=by simp [valueAt,Gi,E]
   rw[j9 e,b];exact c
  ·have E:¬q.1=k:=λz=>e (H.trans z)
   have b:valueAt (q::Q) k=valueAt Q k:=by simp [valueAt,Gi,E]
   rw[kc e,b];exact i
theorem KV.any(r:KV a v)(k:κ):(a.any λK=>decide (K.1=k))=v.any λK=>decide (K.1=k):=by
 unfold KV at r
 induction r with
 |nil=>rfl
 |cons h t i=>rw[HF,HF,i,h.1]
theorem KV.repl(r:KV a v)(k:κ)(R:aB y u):
  KV (a.map λK=>if K.1=k then (K.1,y) else K) (v.map λK=>if K.1=k then (K.1,u) else K):=by
 unfold KV at r ⊢
 induction r with
 |nil=>exact .nil
 | @cons p q P Q h t i=>
  rw[FF,FF]
  refine .cons ?_ i
  obtain⟨H,b⟩:=h
  by_cases e:p.1=k
  ·rw[Er e,Er (H.symm.trans e)];exact#[H,R]
  ·rw[Ew e,Ew (λz=>e (H.trans z))];exact#[H,b]
theorem KV.put(r:KV a v)(k:κ)(R:aB y u):KV (aQ a k y) (stored v k u):=by
 unfold aQ stored
 rw[r.any k]
 by_cases e:(v.any λK=>decide (K.1=k))=true
 ·rw[Er e,Er e];exact r.repl k R
 ·rw[Ew e,Ew e];exact Paired.snoc r #[Z,R]
theorem KV.length(r:KV k v):k.length=v.length:=Paired.length r
end
theorem KS{P:Program}(r:aB (kV k) u):(aS P w).is k u=true:=by
 cases k with
 |inl i=>obtain⟨t,e⟩:=(show ∃t,u=Value.int i t from r);subst e;exact Xf P w i t
 |inr x=>obtain⟨t,e⟩:=(show ∃t,u=Value.str x t from r);subst e;exact Xg P w x t
theorem Qc{P:Program}:∀{K:List bo} {u:List Value},ay (K.map kV) u->ItemsAre (aS P w) K u
 | [],_,r=>by rw[List.map_nil]at r;cases r;exact .nil
 |k::K,_,r=>by
  rw[FF]at r
  cases r with
  |cons h t=>exact .cons (KS h) (Qc t)
noncomputable abbrev KT(H:Hp):List (List bo×V)->List (List bo×Addr×Value)->Prop:=Paired λp q=>p.1=q.1/\H q.2.1=some (.tup (p.1.map kV))/\aB p.2 q.2.2
theorem KT.val(r:KT H a x)(k:List bo):dH (bQ a k) ((atKey x k).map (·.2)):=by
 induction r with
 |nil=>exact True.intro
 | @cons p q P Q h t i=>
  obtain⟨c,_,d⟩:=h
  by_cases e:p.1=k
  ·have E:q.1=k:=c.symm.trans e
   have b:atKey (q::Q) k=some q.2:=by simp [atKey,Gi,E]
   rw[j9 e,b];exact d
  ·have E:¬q.1=k:=λz=>e (c.trans z)
   have b:atKey (q::Q) k=atKey Q k:=by simp [atKey,Gi,E]
   rw[kc e,b];exact i
theorem KT.repl(r:KT H b x)(k:List bo)(R:aB y u):
  KT H (b.map λK=>if K.1=k then (K.1,y) else K) (x.map (putAt k u)):=by
 induction r with
 |nil=>exact .nil
 | @cons p q P Q h t i=>
  rw[FF,FF]
  refine .cons ?_ i
  obtain⟨a,c,d⟩:=h
  unfold putAt
  by_cases e:p.1=k
  ·rw[Er e,Er (a.symm.trans e)];exact#[a,c,R]
  ·rw[Ew e,Ew (λz=>e (a.trans z))];exact#[a,c,d]
theorem KT.put(r:KT H a x)(k:List bo)(h:H b=some (.tup (k.map kV)))(R:aB y u):
  KT H (aQ a k y) (storedH x k b u):=by
 have e:(a.any λK=>decide (K.1=k))=(atKey x k).isSome:=by
  rw[Jh,(r.val k).isSome_eq,Option.isSome_map]
 unfold aQ storedH
 rw[e]
 by_cases q:(atKey x k).isSome=true
 ·rw[Er q,Er q];exact r.repl k R
 ·rw[Ew q,Ew q];exact Paired.snoc r #[Z,h,R]
theorem KT.keeps{h:Hp}(r:KT H k x)(a:∀b y,H b=some (.tup y)->h b=some (.tup y)):KT h k x:=
 Paired.mapP r λ_ _ z=>#[z.1,a _ _ z.2.1,z.2.2]
section
variable {P:Program}{w:World}{H:Hp}{h:Heap}{a:Addr}
theorem wF(o:dZ P w H h)(e:Rd H a u):aJ P w H h a u:=e.ok o
theorem J5(o:dZ P w H h)(e:Rd H a (.dK k)):k.length<=sizeLine/\(a==sysModules)=false/\∃v,KV k v/\h.DictOf (aS P w) a v:=
 show aJ P w H h a (.dK k) from wF o e
theorem ZO(o:dZ P w H h)(e:H a=some (.dK k)):k.length<=sizeLine/\(a==sysModules)=false/\∃v,KV k v/\h.DictOf (aS P w) a v:=J5 o (.inl e)
theorem Kd{k:List bo}(O:dZ P w H h)(e:H a=some (.tup (k.map kV))):(tupleKind (aS P w)).is h k a:=by
 obtain⟨_,i,r,o,b,c,n,d⟩:=(show aJ P w H h a (.tup (k.map kV)) from O a _ e)
 exact#[o,i.toArray,n,b,c,d,by simpa using Qc r]
theorem KU(O:dZ P w H h)(e:Rd H a (.dT k)):k.length<=sizeLine/\(a==sysModules)=false/\
  ∃X,KT H k X/\h.DictOfH (tupleKind (aS P w)) a X:=by
 obtain⟨z,y,X,r,o,E,c,d,f,g,i,j⟩:=(show aJ P w H h a (.dT k) from wF O e)
 refine#[z,y,X,r,o,E,c,d,f,g,i,λx hx=>?_,j]
 have all:∀{l:List (List bo×V)} {m:List (List bo×Addr×Value)},KT H l m->∀x∈m,(tupleKind (aS P w)).is h x.1 x.2.1:=by
  intro l m q
  induction q with
  |nil=>intro x hx;exact nomatch hx
  | @cons p q n Q b t I=>
   intro x hx
   rcases List.mem_cons.mp hx with e |hx
   ·subst e
    exact Kd O (by rw[<- b.1];exact b.2.1)
   ·exact I x hx
 exact all r x hx
theorem AU(o:dZ P w H h)(e:H a=some (.dT k)):k.length<=sizeLine/\(a==sysModules)=false/\
  ∃x,KT H k x/\h.DictOfH (tupleKind (aS P w)) a x:=KU o (.inl e)
end
noncomputable def dN(H:Hp)(a:Addr)(y:V)(r:Option V):Prop:=
 (∃K k,Rd H a (.dK K)/\y=kV k/\r=bQ K k)∨∃K k b,Rd H a (.dT K)/\y= .ref b/\H b=some (.tup (k.map kV))/\r=bQ K k
noncomputable def le(H:Hp)(a:Addr)(y v:V)(h:Hp):Prop:=
 (∃K k,H a=some (.dK K)/\y=kV k/\K.length < sizeLine/\h=ah H a (.dK (aQ K k v)))∨
 ∃K k b,H a=some (.dT K)/\y= .ref b/\H b=some (.tup (k.map kV))/\K.length < sizeLine/\h=ah H a (.dT (aQ K k v))
theorem dN.k{H:Hp}{k:bo}(e:H a=some (.dK b)):dN H a (kV k) (bQ b k):=.inl #[b,k,.inl e,Z,Z]
theorem le.k{H:Hp}{k:bo}(e:H a=some (.dK b))(h:b.length < sizeLine):le H a (kV k) v (ah H a (.dK (aQ b k v))):=.inl #[b,k,e,Z,h,Z]
section
variable {X:Cx}{pins:List (Addr×Obj)}{σ:St}{H:Hp}{s:Shared}{a:Addr}{y v:V}{u r:Value}{o:Option V}{A:Around}{E:Value->Shared->Prop}
theorem ao.big(I:ao X pins σ H s):sysModules < s.heap.objs.size:=by
 have h:mainGlobals < s.heap.objs.size:=(I.mod.glob.keeps I.bk).lt
 exact Nat.lt_trans Ln h
theorem Zh{Q:Value->Shared->Prop}(m:A.units+1 < cLine)(I:ao X pins σ H s)(g:dN H a y (some v))(j:aB y u)(h:∀W S,ao X pins σ H S->aB v W->Q W S):
  wpAny (model X.prog X.w) A (getItem (.ref a) u) Q E s:=by
 rcases g with ⟨K,k,e,d,l⟩ | ⟨K,k,b,e,d,n,l⟩
 ·subst d
  obtain⟨z,q,t,R,D⟩:=J5 I.hok e
  obtain⟨W,f,c⟩:=dH.some_of (v:=v) (o:=valueAt t k) (by rw[l];exact R.val k)
  exact wpAny_getItem_of (KS j) D.mapOf f (h W _ (I.tok _) c)
 ·subst d
  cases (show u=Value.ref b from j)
  obtain⟨z,q,x,R,D⟩:=KU I.hok e
  obtain⟨W,f,c⟩:=dH.some_of (v:=v) (o:=(atKey x k).map (·.2)) (by rw[l];exact R.val k)
  obtain⟨p,B,i⟩:=Option.map_eq_some_iff.mp f
  refine wpAny_getItem_heap (HG m) (Kd I.hok n) D B ?_
  rw[i]
  exact h W _ (I.tok _) c
theorem CW{Q:Value->Shared->Prop}(i:A.units+1 < cLine)(I:ao X pins σ H s)(g:dN H a y o)(f:aB y u)(h:∀S,ao X pins σ H S->Q (.bool o.isSome) S):
  wpAny (model X.prog X.w) A (compareOp .In u (.ref a)) Q E s:=by
 rcases g with ⟨K,k,e,c,l⟩ | ⟨K,k,b,e,c,j,l⟩
 ·subst c
  obtain⟨z,d,m,R,D⟩:=J5 I.hok e
  refine wpAny_in_of (KS f) d D.mapOf ?_
  rw[<- (R.val k).isSome_eq,<- l]
  exact h _ (I.tok _)
 ·subst c
  cases (show u=Value.ref b from f)
  obtain⟨z,d,x,R,D⟩:=KU I.hok e
  refine wpAny_in_heap (HG i) (Kd I.hok j) d D ?_
  have q:=(R.val k).isSome_eq
  rw[Option.isSome_map]at q
  rw[<- q,<- l]
  exact h _ (I.tok _)
theorem Yv(I:ao X pins σ H s)(m:Ay (H a))(c:Heap.SameBut a s.heap h)(d:∃q,h.get? a=some q)(n:aJ X.prog X.w (ah H a O) h a O):
  ao X pins σ (ah H a O) { s with heap:=h,toks:=t }:=
 I.write (x:=a) (e:=a) m (.inl Z) (λb q f z=>(c.2 b f).trans z) d n
theorem Xx{P:Program}{h:Heap}{k:List (bo×V)}(z:k.length<=sizeLine)(c:(a==sysModules)=false)(R:KV k b)(d:h.DictOf (aS P w) a b):
  aJ P w e h a (.dK k):=#[z,c,b,R,d]
theorem Zi{Q:Unit->Shared->Prop}(J:A.units+1 < cLine)(I:ao X pins σ H s)(g:le H a y v L)(x:aB y u)(B:aB v r)(h:∀S,ao X pins σ L S->Q () S):
  wpAny (model X.prog X.w) A (setItem (.ref a) u r) Q E s:=by
 rcases g with ⟨K,k,e,i,l,j⟩ | ⟨K,k,b,e,i,C,l,j⟩
 ·subst i j
  obtain⟨z,m,M,R,D⟩:=ZO I.hok e
  have n:M.length<=sizeLine:=by rw[<- R.length];exact z
  have p:(aQ K k v).length<=sizeLine:=by have:=qw K k v;omega
  refine wpAny_setItem_pairs (hsz:=n) (KS x) D λF d t=>h _ ?_
  have N:∃q,F.get? a=some q:=let #[q,_,_,f,_]:=d;#[q,f]
  exact Yv I (by rw[e];exact True.intro) t N (Xx p m (R.put k B) d)
 ·subst i j
  cases (show u=Value.ref b from x)
  obtain⟨z,m,O,R,D⟩:=AU I.hok e
  have n:O.length<=sizeLine:=by rw[<- Paired.length R];exact z
  have p:(aQ K k v).length<=sizeLine:=by have:=qw K k v;omega
  refine wpAny_setItem_heap (hsz:=n) (HG J) (Kd I.hok C) D λF d t=>h _ ?_
  obtain⟨q,P,T,f,U,W,Y,_,h5⟩:=d
  refine Yv I (by rw[e];exact True.intro) t #[q,f] #[p,m,_,(R.put k C B).keeps λc ys G=>?_,q,P,T,f,U,W,Y,h5]
  rw[jl (jQ G e (λz=>nomatch z))]
  exact G
end
noncomputable def Az(i:Expr):Prop:=∀o I,subscripted i false o I=operate [o,I] (getItem o I)
theorem vG{id:String}
  (k:typeLookup (.type T) "__getitem__"=pure (some (.builtin id))) (l:Az a)
  (h:wpAny (model p w) A (eval v e) (λo b=>wpAny (model p w) A (eval a e) (λi S=>S.TypeIs o T/\wpAny (model p w) A (getItem o i) Q E S) E b) E s):
  wpAny (model p w) A (eval (.Subscript v a m) e) Q E s:=by
 refine Subscript_ (Fu h (λo b d=>Fu d (λi S H=>?_) λ_ _ x=>x) λ_ _ x=>x)
 obtain⟨j,H⟩:=H
 unfold subscriptTail
 refine Ec ?_
 rw[getitemInPython_of_ne j.not_modules]
 refine Ec (F' j k ?_)
 have f:wpAny (model p w) A (subscripted a false o i) (λr c=>wpAny (model p w) A (letTemporaryGo v o r >>= λ_=>pure r) Q E c) E S:=by
  rw[l o i]
  exact wpAny_operating (Fu H (λr c g=>Ec (wpAny_letTemporaryGo (Ee g))) λ_ _ x=>x)
 first
  |exact Ee (Ec f)
  |exact Ec (Ee (Ec f))
  |exact Ec f
theorem Xi{X:Cx}(I:ao X p c H s)(g:dN H a y o):s.TypeIs (.ref a) "dict":=by
 rcases g with ⟨K,k,e,_,_⟩ | ⟨K,k,b,e,_,_,_⟩
 ·obtain⟨_,_,v,_,d⟩:=J5 I.hok e
  exact d.typeIs
 ·obtain⟨_,_,x,_,d⟩:=KU I.hok e
  exact d.typeIs
noncomputable def BS(t T:TE):TE:=λb H Q=>t b H λx c=>T b c λy h=>∃a v,x= .ref a/\dN h a y (some v)/\Q v h
noncomputable def Dr(t T:TE):TE:=λb H Q=>t b H λy c=>T b c λx h=>∃a o,x= .ref a/\dN h a y o/\Q (.bl o.isSome) h
noncomputable def p7(t T c:TE):TS:=λD b H=>c b H λv d=>t b d λx e=>T b e λy f=>∃a h,x= .ref a/\le f a y v h/\D.nx b h
section
variable {X:Cx}{o i e value:Expr}{pos pos' tpos:Pos}{td ty tv:TE}
theorem uT(d:X.A.units+1 < cLine)(f:PE X o td)(j:PE X i ty)(k:Az i):PE X (.Subscript o i pos) (BS td ty):=by
 intro p s b H Q I h
 refine vG PySem.F.slot_dict_getitem.lookup k (aO (f p s b H _ I h) λu S #[x,l,m,R,q]=>aO (j p S b l _ m q) λC D z=>?_)
 obtain⟨y,n,c,t,a,v,E,g,w⟩:=z
 subst E
 obtain rfl:u=Value.ref a:=R
 exact#[Xi c g,Zh d c g t λW G B r=>#[v,n,B,r,w]]
theorem yv(c:X.A.units+1 < cLine)(d:PE X i ty)(f:PE X o td):PC X .In i o (Dr ty td):=by
 intro p s b H Q I h
 refine aO (d p s b H _ I h) λv S #[y,j,k,r,q]=>aO (f p S b j _ k q) λu w z=>?_
 obtain⟨x,l,m,R,a,O,E,g,n⟩:=z
 subst E
 obtain rfl:u=Value.ref a:=R
 exact CW c m g r λB t=>#[.bl O.isSome,l,t,Z,n]
theorem zk(c:X.A.units+1 < cLine)(d:PE X o td)(f:PE X i ty)(j:PE X value tv)(k:swapsWith value (some (.Subscript o i pos')) pos.line X.env=pure false):
  PS X (.Assign [.Subscript o i pos'] value pos) (p7 td ty tv):=by
 intro p s b H D I h
 refine wpAny_Assign_Subscript (aO (j p s b H _ I h) λr S #[v,l,m,R,q]=>aO (d p S b l _ m q) λu n #[x,t,w,B,Q]=>aO (f p n b t _ w Q) λL M z=>?_) k
 obtain⟨y,N,C,E,a,F,G,g,J⟩:=z
 subst G
 obtain rfl:u=Value.ref a:=B
 exact Zi c C g E R λO K=>#[b,F,K,J]
end
theorem oE{P:Program}(h:Heap)(a:sysModules < h.objs.size):aJ P w H (h.push { cls:=.type "dict",data:=.dict (List.toArray []) }) h.objs.size (.dK []):=
 #[Eu _,beq_eq_false_iff_ne.mpr (ES (En a)),[],.nil,Heap.DictOf.new h]
noncomputable def Ab:TE:=λ_ H Q=>∀p,H p=none->Q (.ref p) (ah H p (.dK []))
section
variable {X:Cx}{pos:Pos}
theorem QY:PE X (.Dict [] [] pos) Ab:=λp s b H Q I h=>
 wpAny_Dict_empty #[.ref s.heap.objs.size,_,I.laid (a:=s.heap.objs.size) (o:=.dK []) (t':=s.toks) (λ_ _ q=>Eg _ q) (Eh _) (oE s.heap I.big),Z,h _ (I.hok.fresh (Eh _))]
end
noncomputable def cV(k m:List (bo×V)):List (bo×V):=m.foldl (λa K=>aQ a K.1 K.2) k
theorem KV.merge:∀{m:List (bo×V)} {R:List (bo×Value)} {k:List (bo×V)} {v:List (bo×Value)},KV m R->KV k v->KV (cV k m) (merged v R):=by
 intro m R k v r
 unfold KV at r
 induction r generalizing k v with
 |nil=>intro q;exact q
 | @cons p q P Q h t i=>
  intro a
  have e:KV (aQ k p.1 p.2) (stored v q.1 q.2):=by
   have:=a.put p.1 h.2
   rw[<- h.1];exact this
  exact i e
theorem qD:∀(m k:List (bo×V)),(cV k m).length<=k.length+m.length
 | [],k=>by show k.length<=k.length+0;omega
 |p::r,k=>by
  have h:=qD r (aQ k p.1 p.2)
  have H:=qw k p.1 p.2
  show(cV (aQ k p.1 p.2) r).length<=_
  rw[EM];omega
structure M2(X:Cx)(o:Expr)(m:Str)(apos:Pos)(e f:Expr)(cpos:Pos):Prop where
 base:attributeBase o m X.env (eval o X.env)=eval o X.env
 few:((backTo cpos (starEach [e,f] X.env)).all (λx=>!x.1)&&(backToKw cpos (keywordEach [] X.env)).all (λx=>x.1.isSome)
  &&decide (([e,f]:List Expr).length+([]:List Keyword).length+(if ([]:List Keyword).isEmpty then 0 else 1) < 30))=true
 line:(apos.endLine==cpos.line)=true
 trees:backTo cpos (starEach [e,f] X.env)=[(false,eval e X.env),(false,eval f X.env)]
noncomputable def DB(H:Hp)(a:Addr):Prop:=(∃k,Rd H a (.dK k))∨∃k,Rd H a (.dT k)
theorem xG{X:Cx}(I:ao X p g H s)(d:DB H a):
  s.TypeIs (.ref a) "dict"/\(∀b,Value.ref a= .ref b->∃o,s.heap.get? b=some o/\o.dict=none)/\(a==sysModules)=false:=by
 rcases d with ⟨k,e⟩ | ⟨k,e⟩
 ·obtain⟨_,h,v,_,D⟩:=J5 I.hok e
  refine#[D.typeIs,λb q=>?_,h]
  cases q
  obtain⟨o,_,_,c,f,_⟩:=D
  exact#[o,c,f.2.1]
 ·obtain⟨_,h,x,_,D⟩:=KU I.hok e
  refine#[D.typeIs,λb q=>?_,h]
  cases q
  obtain⟨o,_,_,c,f,_⟩:=D
  exact#[o,c,f.2.1]
section
variable {X:Cx}{pins:List (Addr×Obj)}{σ:St}{H:Hp}{s:Shared}{a:Addr}{y d:V}{u r:Value}{o:Option V}{A:Around}{E:Value->Shared->Prop}
theorem xp{Q:Value->Shared->Prop}(m:A.units+1 < cLine)(I:ao X pins σ H s)(g:dN H a y o)(i:aB y u)(j:aB d r)(h:∀W S,ao X pins σ H S->aB (o.getD d) W->Q W S):
  wpAny (model X.prog X.w) A (call (.builtin "dict.get") [.ref a,u,r]) Q E s:=by
 rcases g with ⟨K,k,e,c,l⟩ | ⟨K,k,b,e,c,n,l⟩
 ·subst c
  obtain⟨z,f,v,R,D⟩:=J5 I.hok e
  refine call_meetsIn Ie D.typeIs PySem.F.entry_dict_get (Lj _ _ _) (meets_dict_get_default (aS X.prog X.w) a (KS i) f r) #[_,D.mapOf,h _ _ (I.tok _) ?_]
  rw[l]
  exact(R.val k).getD j
 ·subst c
  cases (show u=Value.ref b from i)
  obtain⟨z,f,x,R,D⟩:=KU I.hok e
  refine call_meetsIn Ie D.typeIs PySem.F.entry_dict_get (Lj _ _ _) (meetsH_dict_get_default (tupleKind (aS X.prog X.w)) a b f r) #[HG m,k,x,Kd I.hok n,D,h _ _ (I.tok _) ?_]
  rw[l]
  exact(R.val k).getD j
end
noncomputable def Aa(t T d:TE):TE:=λb H Q=>t b H λx h=>∃a,x= .ref a/\DB h a/\T b h λy e=>d b e λz c=>∃o,dN c a y o/\Q (o.getD z) c
section
variable {X:Cx}{o e f:Expr}{apos cpos:Pos}{td ty tx:TE}
theorem zR(j:X.A.units+1 < cLine)(k:PE X o td)(l:PE X e ty)(n:PE X f tx)(m:M2 X o "get" apos e f cpos):PE X (.Call (.Attribute o "get" apos) [e,f] [] cpos) (Aa td ty tx):=by
 intro p s b H Q I h
 refine wpAny_Call_method m.base m.few m.line PySem.F.plainAttrs_dict Ie PySem.F.type_dict_get (aO (k p s b H _ I h) λu S c=>?_)
 obtain⟨x,q,i,R,a,E,d,t⟩:=c
 subst E
 obtain rfl:u=Value.ref a:=R
 obtain⟨T,v,_⟩:=xG i d
 refine#[T,v,?_]
 rw[m.trees]
 refine Im Z (Calls.evalArgs_plain (Gp (aO (l p S b q _ i t) λO w #[y,B,C,D,G]=>
  Gp (aO (n p w b B _ C G) λP U #[z,J,K,L,V,g,M]=>GS ?_))))
 exact xp j K g D L λW Y N r=>#[_,J,N,r,M]
end
section
variable {X:Cx}{pins:List (Addr×Obj)}{σ:St}{H:Hp}{s:Shared}{a:Addr}{kvs:List (bo×V)}{A:Around}{E:Value->Shared->Prop}
theorem oC{Q:Value->Shared->Prop}(I:ao X pins σ H s)(e:Rd H a (.dK kvs))(h:∀p S,H p=none->ao X pins σ (ah H p (.dK kvs)) S->Q (.ref p) S):wpAny (model X.prog X.w) A (call (.type "dict") [.ref a]) Q E s:=by
 obtain⟨z,f,v,r,D⟩:=J5 I.hok e
 refine kt_call_dict f D (by rw[<- r.length];exact z) λi d g=>?_
 refine h _ _ (I.hok.fresh (Eh _)) (I.laid (a:=s.heap.objs.size) (o:=.dK kvs) (t':=s.toks) (λb q c=>?_) (Eh _) (Xx z (beq_eq_false_iff_ne.mpr (ES (En I.big))) r d))
 exact(g.2 b (En (Ek c))).trans (Eg _ c)
end
section
variable {X:Cx}{pins:List (Addr×Obj)}{σ:St}{H:Hp}{s:Shared}
theorem KV.get{a:Type}:∀{K:List (a×V)} {c:List (a×Value)} {i:Nat} {k:a} {x:V},KV K c->K[i]?=some (k,x)->∃v,c[i]?=some (k,v)/\aB x v
 |_,_,_,_,_,.nil,e=>by simp at e
 |_,_,0,k,x,.cons (b:=q) r _,e=>by
  simp at e
  subst e
  obtain⟨R,d⟩:=r
  obtain⟨g,Q⟩:=q
  cases R
  exact#[Q,Z,d]
 |_,_,i+1,k,x,.cons _ t,e=>by
  obtain⟨v,h,f⟩:=KV.get (i:=i) t (by simpa using e)
  exact#[v,by simpa using h,f]
theorem qA:c8 X (.type "dict") (λx H Q=>∃a k,x=[.ref a]/\H a=some (.dK k)/\∀p,H p=none->Q (.ref p) (ah H p (.dK k))):=by
 intro pins s σ H x U Q I r h
 obtain⟨a,k,rfl,b,q⟩:=h
 obtain⟨u,rfl,R⟩:=dG r
 cases R
 exact oC I (.inl b) λp S n i=>#[.ref p,_,i,Z,q p n]
theorem JH{a:Type}[DecidableEq a]{k:a}{y:Value}:∀{K:List (a×Value)},(K.map (·.1)).Nodup->(k,y)∈K->valueAt K k=some y
 | [],_,h=>nomatch h
 | (j,z)::r,n,h=>by
  unfold valueAt
  rw[FF,IQ]at n
  rcases List.mem_cons.mp h with e |h
  ·cases e
   simp [Gi]
  ·have b:¬j=k:=λe=>n.1 (by rw[e];exact List.mem_map.mpr #[_,h,Z])
   rw[Gi]
   simp only[b,decide_false]
   exact JH n.2 h
theorem QZ{a:Type}[DecidableEq a]{A:Around}{s:Shared}{K:List (a×Value)}:∀{l:List (a×Value)},(∀p∈l,∃y,valueAt K p.1=some y/\SeqAt.EqAt A s p.2 y true)->PySem.W.KeqHits A s K l true
 | [],_=>.nil
 | (k,v)::r,h=>by
  obtain⟨y,c,d⟩:=h (k,v) Ez
  exact .hit (e:=true) (b:=true) c d (QZ λp f=>h p (EB _ f))
theorem Z2(o:X.A.units < cLine):eJ X (compareOp .Eq) (λx y H Q=>∃a b k,x= .ref a/\y= .ref b/\H a=some (.dK k)/\H b=some (.dK k)/\(∀p∈k,∃i,p.2= .int i)/\Q (.bl true) H):=by
 intro pins s σ H x y v u Q I t w h
 obtain⟨a,b,k,rfl,rfl,z,B,C,q⟩:=h
 cases t
 cases w
 obtain⟨z1,M,V,R,E⟩:=ZO I.hok z
 obtain⟨z2,F,vb,d,D⟩:=ZO I.hok B
 have L:=R.length
 have G:=d.length
 obtain⟨_,_,_,_,_,_,_,_,N⟩:=id D
 refine PySem.W.keq_eq (r:=true) M F E D o (λ_=>QZ λp J=>?_) ?_
 ·obtain⟨i,K,e⟩:=List.getElem_of_mem J
  have c:i < k.length:=by omega
  have f:k[i]?=some (k[i].1,k[i].2):=Ed c
  obtain⟨O,g,j⟩:=R.get f
  obtain⟨v2,P,l⟩:=d.get f
  have S:p=(k[i].1,O):=by
   have:V[i]?=some p:=by rw[Ed K,e]
   rw[this]at g
   exact EU g
  subst S
  obtain⟨n,T⟩:=C _ (GQ c)
  rw[T]at j l
  obtain⟨U,rfl⟩:=j
  obtain⟨Y,rfl⟩:=l
  refine#[_,JH N (EA P),?_]
  obtain⟨e',m,h2⟩:=HT.eqAt_int X.A.in1 s n U n Y
  rw[h2.mpr Z]at m
  exact m
 ·rw[<- L,<- G,Hm]
  exact#[.bl true,H,I,Z,q]
theorem oY:Ci X "str.index" (λx a H Q=>∃(z y:Str) (i:Nat) (r:List Nat),x= .str z/\a=[.str y]/\Builtin.Str.occurrences z y 0 z.length 1=i::r/\Q (.int i) H):=by
 intro pins s σ H x a v U Q I R b h
 obtain⟨z,y,i,r,rfl,rfl,c,q⟩:=h
 obtain⟨u,rfl,T,rfl⟩:=dG b
 obtain⟨t,rfl⟩:=R
 exact SC.index c #[.int i,H,I.tok _,#[_,Z],q]
end
section
open PySem.W PySem.Calls Builtin Builtin.ObjectAttr
variable {prog:Program}{w:World}{A:Around}{E:Value->Shared->Prop}{s:Shared}{K:Frag}{x C:Addr}{ox:Obj}{od:Option Obj}{name:Str}
structure og(K:Frag)(C:Addr):Prop where
 ga:findIn K (.ref C) "__getattribute__"=some (some (.builtin "BaseException.__getattribute__"))
 gh:findIn K (.ref C) "__getattr__"=some none
 sa:findIn K (.ref C) "__setattr__"=some (some (.builtin "object.__setattr__"))
 cl:findIn K (.ref C) "__class__"=some (some (.builtin "object.__class__"))
 gt:specialIn K (.builtin "object.__class__") "__get__"=some (some (.builtin "getset_descriptor.__get__"))
 tk:takesIn K (.builtin "object.__class__")=some true
 mb:mroIn K C (.type "BaseException")=some true
 mo:mroIn K C (.type "object")=some true
 hd:hasDictIn K C=true
abbrev nL:List Value:=[.type "ValueError",.type "Exception",.type "BaseException",.type "object"]
end
section
open PySem.W PySem.Calls
variable {prog:Program}{w:World}{A:Around}{E:Value->Shared->Prop}{R:Result->Shared->Prop}{K:Frag}{h:Heap}{g:Array GenState}{d:Drawn}{t:Nat}{os:OsState}{C B:Addr}
theorem Zj(q:excIn K C nL "ValueError.__new__"=true):(∃p q N r f a s sub u c D k i j m o,K.lookup C=some (excClassObj p q C N r f a s sub u c D k i j m o "ValueError.__new__")/\tailIn K nL f=true/\nsOkIn K N=true/\nsIn K N "__init__"=some none):=by
 unfold excIn at q
 split at q
 ·rename_i D z S F
  split at q
  ·rename_i O f k i j m n o x y
   simp only[Fx,beq_iff_eq,Bool.not_eq_true']at q
   obtain⟨⟨⟨⟨⟨rfl,rfl⟩,H⟩,G⟩,b⟩,e⟩:=q
   obtain⟨p,r,M,I,Q,J,s,sub,u,c,L⟩:=z
   dsimp only at x H b e
   subst x H
   have v:S=(List.toArray [k,i,j,m,some (.builtin "ValueError.__new__"),o]):=by
    obtain⟨l⟩:=S
    simp only at y
    rw[y]
   subst v
   exact#[p,Q,I,r,f,J,s,sub,u,c,D,k,i,j,m,o,F,G,b,e]
  ·cases q
 ·cases q
end
theorem aJ.obj{P:Program}{a:Addr}(x:aJ P w H h a o):∃u,h.get? a=some u:=by
 cases o with
 |lst X=>obtain⟨_,_,_,_,e⟩:=x;exact#[_,e]
 |tup X=>obtain⟨_,_,_,o,e,_⟩:=x;exact#[_,e]
 |dK k=>obtain⟨_,_,_,_,o,_,_,e,_⟩:=x;exact#[_,e]
 |dT k=>obtain⟨_,_,_,_,o,_,_,e,_⟩:=x;exact#[_,e]
 |set S n=>obtain⟨o,_,_,_,e,_⟩:=x;exact#[_,e]
 |ins C d F=>obtain⟨_,_,_,e,_⟩:=x;exact#[_,e]
 |own y=>obtain⟨_,e⟩:=x;exact#[_,e]
 |xd F=>obtain⟨_,⟨_,_,_,e,_⟩,_⟩:=x;exact#[_,e]
 |rng lo b=>obtain⟨_,_,_,e⟩:=x;exact#[_,e]
 |frz O u=>obtain⟨e,_⟩:=x;exact#[_,e]
 |tbl p=>exact#[_,(show h.get? a=some _ from x)]
 |met f y=>exact#[_,(show h.get? a=some _ from x)]
 |ext c=>obtain⟨_,⟨_,e⟩,_⟩:=x;exact#[_,e]
theorem ao.laidN{X:Cx}{h':Heap}{a:Addr}{o:HO}{t':Nat}(I:ao X p g H s)(k:∀b u,s.heap.get? b=some u->h'.get? b=some u)(d:s.heap.get? a=none)(N:aJ X.prog X.w (ah H a o) h' a o):
  H a=none/\ao X p g (ah H a o) { s with heap:=h',toks:=t' }:=by
 have i:∀b u,s.heap.get? b=some u->b≠a:=λb u q z=>by rw[z,d]at q;cases q
 have h:H a=none:=by
  cases q:H a with
  |none=>rfl
  |some u=>obtain⟨U,e⟩:=(I.hok a u q).obj;rw[d]at e;cases e
 refine#[h,I.un ?_ ?_]
 ·exact { keep:=λb u q _ _ _=>k b u q,slot:=λb u q _ _ _=>#[u.slots,k b u q],free:=λb u q n _=>by rw[jl (i b u q)];exact n,there:=λb u q _=>#[u,k b u q],tups:=λb x q=>by rw[jl (jo q h)];exact q,frzs:=λb u x q=>by rw[jl (jo q h)];exact q,tbls:=λb P q=>#[(List.toArray []),by rw[jl (jo q h),q];simp] }
 ·intro b u e
  by_cases f:b=a
  ·subst f;rw[jc]at e;cases e;exact N
  ·rw[jl f]at e
   exact(I.hok b u e).stay (λc v _ q=>k c v q) (λc q=>by rw[jl (jo q h)];exact q) λc x q=>by rw[jl (jo q h)];exact q
noncomputable def vU(C:Addr)(d:Option Addr)(x:Addr):HO:=.ext λh=>∃o,h.get? x=some o/\o.cls= .ref C/\notCls o=true/\o.dict=d/\∃v,o.data= .fields v/\v[1]?=some .none
theorem xw{P:Program}{h:Heap}(e:h.get? x=some o)(a:o.cls= .ref C)(b:notCls o=true)(c:o.dict=d)(f:∃v,o.data= .fields v/\v[1]?=some .none):aJ P w H h x (vU C d x):=
 #[#[o,e,a,b,c,f],#[o,e],λg i #[O,E,q] k=>#[O,k O E,q]]
noncomputable def vJ(C:Addr):TE:=λa H Q=>∀x,H x=none->Q (.ref x) (ah H x (vU C none x))
section
variable {X:Cx}{CX:nH}{k:Nat}{f C:Addr}{fd:FuncData}{ps:List Str}{sp:Sp}{E:XK}{x m g:Str}{p pos pos':Pos}{e o value:Expr}{es:List Expr}{ta tv:TE}{t:TA}
theorem Qd(M:excIn X.K C nL "ValueError.__new__"=true)(l:keepIn X.K (.ref C)=true)(n:Gl X x)(r:X.mg x=some (.ref C))(c:(x==("__debug__":Str))=false:=by decide):
  PE X (.Call (.Name x p) [] [] pos) (vJ C):=by
 intro P s D H Q I h
 refine Fm (zj I n r ?_ c)
 refine PySem.W.callWith_K0 I.kIn l ?_
 obtain⟨G,q,N,J,L,j,S,sub,O,u,R,U,V,Y,k3,k5,v,w,b,i⟩:=Zj M
 have y:=I.kIn _ _ v
 obtain⟨hp,g,d,T,os⟩:=s
 refine wpAny_call_exc_subT PySem.F.excBase_ValueError (PySem.W.tail_of_in I.kIn w) y (.of_isNs (PySem.W.isNs_of_in I.kIn b)) (PySem.W.nsMap_none_of_in I.kIn b i) (λh' e m=>?_) (Eu _)
 obtain⟨t,z,_,_⟩:=m.there
 obtain⟨A,B⟩:=I.laidN (a:=e) (h':=h') (o:=vU C none e) (t':=T) m.keeps m.new (xw z Z Z Z #[_,Z,Z])
 exact#[.ref e,_,B,Z,h e A]
end
theorem ao.turnedN{X:Cx}{p:List (Addr×Obj)}{d:St}{H:Hp}{s:Shared}{g:Heap}{t':Nat}{f:List Addr}(I:ao X p d H s)(a:∀b∈f,eK X p H b)(k:∀b o,b∉f->s.heap.get? b=some o->g.get? b=some o):
  ao X p d H { s with heap:=g,toks:=t' }:=by
 have N:∀b u,H b=some u->b∉f:=λb u e z=>by rw[(a b z).1]at e;cases e
 refine I.step (g':=s.gens) (d':=s.drawn) (ch:=f) (λb i=>?_) (λb o _ _ h e _=>k b o h e) (λb o _ _ h e _=>#[o.slots,k b o h e]) (λ_ _ _ _ n=>n)
  (λb o h e=>#[o,k b o h e]) (λ_ _ e=>e) (λ_ _ _ e=>e) (λb P e=>#[(List.toArray []),by rw[e];simp]) (λm j=>?_) (λb u e=>?_) I.bare
 ·obtain⟨A,F,B,l,t,w⟩:=a b i
  exact#[l,F,t,w]
 ·obtain⟨o,E,x,y,r⟩:=j
  exact#[o,E,x,k _ o (λz=>(a _ z).2.1 Z) y,r]
 ·refine(I.hok b u e).stay (λc v h q=>k c v ?_ q) (λ_ q=>q) λ_ _ q=>q
  rcases h with z |z
  ·rw[z];exact N b u e
  ·exact N c _ z
section
variable {M:Model}{A:Around}{E:Value->Shared->Prop}{s:Shared}
structure cy(fl:Value)(hZ:List Addr)(x:Addr)(ox:Obj)(h h':Heap):Prop where
 ex:∃T oT ts,h.objs.size<=T/\h'.get? x=some (Obj.mapFields (·.setIfInBounds 1 (.ref T)) ox)/\h'.get? T=some oT/\oT.data= .fields ts/\ts[3]?=some fl
 keep:∀b o,b∉hZ->b≠x->h.get? b=some o->h'.get? b=some o
 slot:∀b o,b≠x->h.get? b=some o->∃sl,h'.get? b=some { o with slots:=sl }
theorem Qe{Q:Unit->Shared->Prop}
  (t:A.frames=some (d::O)) (F:s.heap.FunFrames G (d::O)) (N:d.frame=some L)
  (I:s.heap.get? x=some u) (v:u.data= .fields J) (w:1 < J.size)
  (h:∀K,cy (rawInt L) ((d::O).filterMap (·.frame)) x u s.heap K->Q () { s with heap:=K }):
  wpAny M A (do let a <- frameOf d;let p <- entryPlaceOf L q;let b <- EntryCells.newEntry f a .none (rawInt L) .none p;setField (.ref x) 1 b) Q E s:=by
 have y:x∉(d::O).filterMap (·.frame):=λP=>by
  obtain⟨_,o,r,z⟩:=F.mem P
  rw[I]at r;injection r with r;subst r;exact z J v
 refine Ec (wpAny_frameOf_fun t F N λH c=>?_)
 refine Ec (wpAny_entryPlaceOf λp B=>?_)
 unfold EntryCells.newEntry newFields
 refine Ec (EY ?_ (B.sizeOk5 _ _ _ _ _))
 have g:H.get? x=some u:=(c.2.1 x y).trans I
 have i:=Eg (h:=H) { cls:=.type "traceback",dict:=none,data:=.fields ([f,.ref L,.none,rawInt L,.none]++(if p.isEmpty then List.replicate 6 Value.none else p)).toArray } g
 refine Fg i v w (h _ ?_)
 have C:H.objs.size≠x:=Fi (Ek g)
 have j:=ER v (·.setIfInBounds 1 (Value.ref H.objs.size))
 have l:=ET (Obj.mapFields (·.setIfInBounds 1 (Value.ref H.objs.size))) i (Fv j)
 have k:∀b o,b≠x->H.get? b=some o->((H.push { cls:=.type "traceback",dict:=none,data:=.fields ([f,.ref L,.none,rawInt L,.none]++(if p.isEmpty then List.replicate 6 Value.none else p)).toArray }).update x (Obj.mapFields (·.setIfInBounds 1 (Value.ref H.objs.size)))).get? b=some o:=λb o D e=>by
  rw[Ey _ _ (ES D)]
  exact Eg _ e
 have m:=(Ey (H.push { cls:=.type "traceback",dict:=none,data:=.fields ([f,.ref L,.none,rawInt L,.none]++(if p.isEmpty then List.replicate 6 Value.none else p)).toArray })
  (Obj.mapFields (·.setIfInBounds 1 (Value.ref H.objs.size))) (ES C)).trans (El H Z)
 refine#[#[H.objs.size,_,_,ID c.1.symm,l,m,Z,Lp],λb o D n e=>k b o n ((c.2.1 b D).trans e),λb o n e=>?_]
 obtain⟨S,R⟩:=c.2.2 b o e
 exact#[S,k b _ n R]
theorem XS{Q:Unit->Shared->Prop}
  (H:A.frames=some (e::o)) (i:s.heap.FunFrames b (e::o)) (a:e.frame=some L)
  (c:s.heap.get? x=some O) (d:O.data= .fields v) (f:v[1]?=some .none)
  (h:∀g,cy (rawInt L) ((e::o).filterMap (·.frame)) x O s.heap g->Q () { s with heap:=g }):
  wpAny M A (noteFrame (.ref x) e) Q E s:=by
 unfold noteFrame
 simp only[a]
 refine Ec (EJ c d f ?_)
 rw[Ew Ln]
 exact Qe H i a c d (Array.getElem?_eq_some_iff.mp f).1 h
theorem xM{hZ:List Addr}{Q:Unit->Shared->Prop}(N:cy C hZ x O H s.heap)(j:H.get? x=some O)(v:O.data= .fields w)(k:1 < w.size)
  (h:∀p,cy .none hZ x O H p->Q () { s with heap:=p }):wpAny M A (setFlight (.ref x) none) Q E s:=by
 obtain⟨T,D,F,c,r,t,g,y⟩:=N.ex
 have l:=ER v (·.setIfInBounds 1 (Value.ref T))
 have m:T≠x:=λz=>absurd (Et (Ek j) (by rw[<- z];exact c)) (Fn _)
 unfold setFlight
 refine Ec (EJ r l (x:=.ref T) (by simp [k]) ?_)
 rw[Er (show(Value.ref T != Value.none)=true from by simp)]
 have i:=(Array.getElem?_eq_some_iff.mp y).1
 refine Fg t g i (h _ ?_)
 have a:=ER g (·.setIfInBounds 3 ((none:Option Addr).elim Value.none λf=>rawInt f))
 have n:=ET (Obj.mapFields (·.setIfInBounds 3 ((none:Option Addr).elim Value.none λf=>rawInt f))) t (Fv a)
 have u:∀b o,H.get? b=some o->T≠b:=λb o e z=>absurd (Et (Ek e) (by rw[<- z];exact c)) (Fn _)
 refine#[#[T,_,_,c,by rw[Ey _ _ m];exact r,n,a,by simp [i]],λb o B d e=>?_,λb o d e=>?_]
 ·rw[Ey _ _ (u b o e)]
  exact N.keep b o B d e
 ·obtain⟨S,q⟩:=N.slot b o d e
  exact#[S,by rw[Ey _ _ (u b o e)];exact q]
theorem Xj{base:Heap}{Q:Unit->Shared->Prop}
  (a:A.frames=some (e::o)) (f:s.heap.FunFrames base (e::o)) (g:e.frame=some L)
  (b:s.heap.get? x=some O) (c:O.data= .fields v) (d:v[1]?=some .none)
  (h:∀H,cy .none ((e::o).filterMap (·.frame)) x O s.heap H->Q () { s with heap:=H }):
  wpAny M A (leaving e (.ref x)) Q E s:=by
 unfold leaving
 exact Ec (XS a f g b c d λH N=>xM (s:={ s with heap:=H }) N b c (Array.getElem?_eq_some_iff.mp d).1 h)
end
section
variable {M:Model}{A:Around}{E:Value->Shared->Prop}{s:Shared}
noncomputable abbrev dO(T:Addr)(h:Heap):Heap:=h.update T (Obj.mapFields (·.setIfInBounds 3 Value.none))
theorem Qg{base:Heap}{Q:Unit->Shared->Prop}
  (f:A.frames=some (e::O)) (w:s.heap.FunFrames base (e::O)) (j:e.frame=some L)
  (k:s.heap.get? x=some l) (m:l.data= .fields v) (p:v[1]?=some (.ref T)) (g:T≠x) (i:s.heap.get? T=some y) (c:y.data= .fields t) (r:t[3]?=some .none)
  (h:∀u,cy (rawInt L) ((e::O).filterMap (·.frame)) x l (dO T s.heap) u->Q () { s with heap:=u }):
  wpAny M A (noteFrame (.ref x) e) Q E s:=by
 unfold noteFrame
 simp only[j]
 refine Ec (EJ k m p ?_)
 rw[Er (show(Value.ref T != Value.none)=true from by simp)]
 refine Ec (EJ i c r ?_)
 rw[Ew (show ¬((Value.none==rawInt L)=true) from by simp [rawInt])]
 refine Ec (Fg i c (Array.getElem?_eq_some_iff.mp r).1 ?_)
 have a:∀b,b≠T->(dO T s.heap).get? b=s.heap.get? b:=λb H=>Ey _ _ (ES H)
 have n:∀b o,s.heap.get? b=some o->(∀v,o.data≠ .fields v)->b≠T:=λb o H d q=>by
  rw[q,i]at H;injection H with H;subst H;exact d t c
 exact Qe (s:={ s with heap:=dO T s.heap }) f (w.of_keeps λb o H d=>#[o,(a b (n b o H d)).trans H,Z]) j ((a x (ES g)).trans k) m (Array.getElem?_eq_some_iff.mp p).1 h
theorem XT{base:Heap}{Q:Unit->Shared->Prop}
  (b:A.frames=some (e::o)) (i:s.heap.FunFrames base (e::o)) (j:e.frame=some L)
  (d:s.heap.get? x=some O) (f:O.data= .fields v) (g:v[1]?=some (.ref T)) (H:T≠x) (k:s.heap.get? T=some l) (c:l.data= .fields t) (m:t[3]?=some .none)
  (h:∀a,cy .none ((e::o).filterMap (·.frame)) x O (dO T s.heap) a->Q () { s with heap:=a }):
  wpAny M A (leaving e (.ref x)) Q E s:=by
 unfold leaving
 exact Ec (Qg b i j d f g H k c m λa N=>xM (s:={ s with heap:=a }) N ((Ey _ _ H).trans d) f (Array.getElem?_eq_some_iff.mp g).1 h)
end
noncomputable def fQ(C:Addr)(d:Option Addr)(T x:Addr):HO:=.ext λh=>∃o v,h.get? x=some o/\o.cls= .ref C/\notCls o=true/\o.dict=d/\o.data= .fields v/\v[1]?=some (.ref T)
noncomputable def eM(T:Addr):HO:=.ext λh=>∃o t,h.get? T=some o/\o.data= .fields t/\t[3]?=some .none
theorem Af{P:Program}{h:Heap}(e:h.get? x=some o)(c:o.cls= .ref C)(f:notCls o=true)(g:o.dict=d)(i:o.data= .fields a)(b:a[1]?=some (.ref T)):aJ P w H h x (fQ C d T x):=
 #[#[o,a,e,c,f,g,i,b],#[o,e],λb j #[O,v,E,q] k=>#[O,v,k O E,q]]
theorem Z3{P:Program}{h:Heap}(e:h.get? T=some o)(b:o.data= .fields a)(c:a[3]?=some .none):aJ P w H h T (eM T):=
 #[#[o,a,e,b,c],#[o,e],λd f #[O,t,E,q] k=>#[O,t,k O E,q]]
noncomputable def eI(P:Program)(w:World):nH:=λo H s E e S=>∃x C d T h,e= .ref x/\S.os=s.os/\AllBare S.gens/\Un (hZ o) [] H h s.heap S.heap/\dZ P w h S.heap/\
 h x=some (fQ C d T x)/\h T=some (eM T)/\T≠x/\E (.ref C) d h
section
variable {X:Cx}{pins:List (Addr×Obj)}{σ:St}{H:Hp}{s:Shared}{x C:Addr}{d:Option Addr}
theorem cy.hok{fl:Value}(I:ao X pins σ H s)(g:H x=some (.ext M))(P:s.heap.get? x=some o)(B:o.cls= .ref C)(D:o.dict=d)(j:o.data= .fields E)(k:1 < E.size)(l:∀b∈G,H b=none)
  (N:cy .none G x o s.heap J):∃T,H T=none/\T≠x/\s.heap.objs.size<=T/\dZ X.prog X.w (ah (ah H T (eM T)) x (fQ C d T x)) J:=by
 obtain⟨T,Q,R,h,m,F,n,p⟩:=N.ex
 have i:H T=none:=I.hok.fresh h
 have r:T≠x:=ES (jo g i)
 have a:=ER j (·.setIfInBounds 1 (Value.ref T))
 refine#[T,i,r,h,λb u e=>?_]
 by_cases t:b=x
 ·subst t
  rw[jc]at e
  cases e
  refine Af m ((Ho _ _).trans B) ?_ ?_ a (by simp [k])
  ·unfold notCls
   rw[a]
  ·obtain⟨S,U,O,K⟩:=o
   simp only at j
   subst j
   exact D
 ·rw[jl t]at e
  by_cases f:b=T
  ·subst f
   rw[jc]at e
   cases e
   exact Z3 F n p
  ·rw[jl f]at e
   refine(I.hok b u e).stay (λc v A q=>?_) (λc q=>?_) λc V q=>?_
   ·have y:c≠x:=by
     rcases A with z |z
     ·rw[z];exact t
     ·exact jQ z g (by intro q;cases q)
    refine N.keep c v (λL=>?_) y q
    have:=l c L
    rcases A with z |z
    ·rw[z,e]at this;cases this
    ·rw[z]at this;cases this
   ·rw[jl (jQ q g (by intro z;cases z)),jl (jo q i)]
    exact q
   ·rw[jl (jQ q g (by intro z;cases z)),jl (jo q i)]
    exact q
theorem cy.un{h':Heap}(I:ao X pins σ H s)(hex:X.ex=[])(j:H x=some (.ext k))(l:H T=none)(c:s.heap.objs.size<=T)(f:∀b∈p,b∈X.fs∨X.s₀.heap.objs.size<=b)
  (N:cy .none p x y s.heap h'):Un X.fs [] X.H₀ (ah (ah H T (eM T)) x (fQ C d T x)) X.s₀.heap h':=by
 have g:∀b,H b=none->b≠x:=λb e z=>by rw[z,j]at e;cases e
 have r:∀b o,X.s₀.heap.get? b=some o->b≠T:=λb o e=>En (Et (Ek e) (Es I.sz c))
 have a:∀b:Addr,b∉X.ex:=λb z=>by rw[hex]at z;cases z
 have t:∀b,H b=none->b≠T->ah (ah H T (eM T)) x (fQ C d T x) b=none:=λb e z=>by rw[jl (g b e),jl z];exact e
 have U:∀b u,H b=some u->(∀k,u≠ .ext k)->ah (ah H T (eM T)) x (fQ C d T x) b=some u:=λb u e z=>by
  rw[jl (λq=>by rw[q,j]at e;cases e;exact z _ Z),jl (jo e l)]
  exact e
 refine#[λb o e n h _=>?_,λb o e n h _=>?_,λb o e n _=>?_,λb o e _=>?_,λb v e=>U b _ (I.base.tups b v e) (by intro _ q;cases q),λb o u e=>U b _ (I.base.frzs b o u e) (by intro _ q;cases q),λb P e=>?_]
 ·refine N.keep b o (λz=>?_) (g b (I.base.free b o e n (a b))) (I.base.keep b o e n h (a b))
  rcases f b z with q |q
  ·exact h q
  ·exact absurd (Et (Ek e) q) (Fn _)
 ·obtain⟨w,q⟩:=I.base.slot b o e n h (a b)
  obtain⟨S,Q⟩:=N.slot b _ (g b (I.base.free b o e n (a b))) q
  exact#[S,Q]
 ·exact t b (I.base.free b o e n (a b)) (r b o e)
 ·obtain⟨O,q⟩:=I.base.there b o e (a b)
  by_cases h:b=x
  ·obtain⟨A,_,_,_,i,_⟩:=N.ex
   exact#[_,by rw[h];exact i]
  ·obtain⟨w,Q⟩:=N.slot b O h q
   exact#[_,Q]
 ·obtain⟨m,q⟩:=I.base.tbls b P e
  exact#[m,U b _ q (by intro _ q;cases q)]
end
section
variable {P:Program}{w:World}{K:Frag}{mg:Str->Option Value}{base:Heap}{N:List Str}{qual:Str}{scope:Scope}{f:Addr}{cd:Value}{A:Around}{outer:List Env}{s₀:Shared}{H₀:Hp}{E:XK}
variable {pins:List (Addr×Obj)}{σ:St}{H:Hp}{s:Shared}{x C:Addr}{d:Option Addr}
theorem sV(I:ao (eN (eI P w) P w K mg base N qual scope f cd A outer s₀ H₀ E) pins σ H s)(c:H x=some (vU C d x))
  (h:∀T,H T=none->E (.ref C) d (ah (ah H T (eM T)) x (fQ C d T x))):(eN (eI P w) P w K mg base N qual scope f cd A outer s₀ H₀ E).xe (.ref x) s:=by
 obtain⟨⟨O,l,q,t,r,v,m,n⟩,_⟩:=I.hok x _ c
 have g:=(Array.getElem?_eq_some_iff.mp n).1
 refine Xj (base:=base) I.ok.frames I.stack Z l m n λy o=>?_
 obtain⟨T,p,a,i,j⟩:=o.hok (C:=C) (d:=d) (fl:=.none) I c l q r m g λb k=>I.stkFree b k
 have u:=o.un (C:=C) (d:=d) I Z c p i λb k=>by
  rcases List.mem_cons.mp (I.stkSub b k) with e |e
  ·exact .inr (by rw[e];exact I.ok.above)
  ·exact .inl e
 exact#[x,C,d,T,_,Z,I.os,I.bare,u,j,jc,by rw[jl a,jc],a,h T p]
theorem ao.cleared{X:Cx}(I:ao X pins σ H s)(c:H T=some (eM T))(i:s.heap.get? T=some O)(j:O.data= .fields t)(k:t[3]?=some .none):ao X pins σ H { s with heap:=dO T s.heap }:=by
 have h:=ER j (·.setIfInBounds 3 Value.none)
 have g:=ET (Obj.mapFields (·.setIfInBounds 3 Value.none)) i (Fv h)
 have:=I.write (x:=T) (e:=T) (o:=eM T) (h':=dO T s.heap) (t':=s.toks) (by rw[c];exact True.intro) (.inl Z) (λb u a q=>(Ey _ _ (ES a)).trans q) #[_,g] (Z3 g h (by simp [(Array.getElem?_eq_some_iff.mp k).1]))
 have l:ah H T (eM T)=H:=by
  funext b
  by_cases a:b=T
  ·rw[a,jc,c]
  ·rw[jl a]
 rw[l]at this
 exact this
theorem vN(I:ao (eN (eI P w) P w K mg base N qual scope f cd A outer s₀ H₀ E) pins σ H s)(g:H x=some (fQ C d T x))(n:H T=some (eM T))(c:T≠x)
  (h:∀t,H t=none->E (.ref C) d (ah (ah H t (eM t)) x (fQ C d t x))):(eN (eI P w) P w K mg base N qual scope f cd A outer s₀ H₀ E).xe (.ref x) s:=by
 obtain⟨⟨O,V,o,D,G,F,p,q⟩,_⟩:=I.hok x _ g
 obtain⟨⟨J,L,r,u,v⟩,_⟩:=I.hok T _ n
 have i:=(Array.getElem?_eq_some_iff.mp q).1
 have y:=I.cleared n r u v
 refine XT (base:=base) I.ok.frames I.stack Z o p q c r u v λM z=>?_
 have j:(dO T s.heap).get? x=some O:=(Ey _ _ c).trans o
 obtain⟨t,B,a,k,l⟩:=cy.hok (C:=C) (d:=d) (fl:=.none) y g j D F p i (λb m=>I.stkFree b m) z
 have U:=cy.un (C:=C) (d:=d) y Z g B k (λb m=>by
  rcases List.mem_cons.mp (I.stkSub b m) with e |e
  ·exact .inr (by rw[e];exact I.ok.above)
  ·exact .inl e) z
 exact#[x,C,d,t,_,Z,I.os,I.bare,U,l,jc,by rw[jl a,jc],a,h t B]
theorem uR{j:XK}(m:∀x C d T t a,a x=some (fQ C d T x)->a T=some (eM T)->a t=none->j (.ref C) d a->E (.ref C) d (ah (ah a t (eM t)) x (fQ C d t x))):
  dj (eI P w) (eN (eI P w) P w K mg base N qual scope f cd A outer s₀ H₀ E) j:=by
 intro pins σ H s e S I h
 obtain⟨x,C,d,T,a,rfl,os,B,u,c,k,l,i,n⟩:=h
 obtain⟨p,g,D,q,o⟩:=S
 obtain rfl:o=s.os:=os
 have r:=I.call (h':=p) (g':=g) (d':=D) (t':=q) (ch:=[]) u c B (λb z=>absurd z Lp)
 exact vN r k l i λt v=>m x C d T t a k l v n
end
section
open PySem.W
variable {prog:Program}{w:World}{A:Around}{E:Value->Shared->Prop}{K:Frag}{x C:Addr}{ox:Obj}{vs:Array Value}{env:Env}
theorem XU{ev:Sem Value}(e:A.handled=none)
  (h:wpAny (model prog w) A ev (λv S=>∃x C ox vs,v= .ref x/\K.In S.heap/\og K C/\typeIn K (.ref C)=some (.type "type")/\S.heap.get? x=some ox/\ox.cls= .ref C/\ox.data= .fields vs/\vs[1]?=some .none/\E (.ref x) S) E s):
  wpAny (model prog w) A (raiseStmt env (some ev) none) Q E s:=by
 unfold raiseStmt
 refine Ec (Fu h (λv S a=>?_) λ_ _ z=>z)
 obtain⟨x,C,ox,vs,rfl,X,f,i,b,j,c,m,n⟩:=a
 obtain⟨H,g,d,T,os⟩:=S
 have L:Looks (model prog w) H (typeOf (.ref x)) (.ref C):=j▸(Looks.ld b).andThen .now
 have l:Looks (model prog w) H (isType (.ref x)) false:=by
  intro y B D F k q
  unfold isType loadHead
  refine Ec (Ix (k _ _ b) ?_)
  rw[c]
  exact Ee q
 have _L:=IJ (M:=model prog w) X f.mb
 have o:=looks_typeIn (M:=model prog w) X i
 have p:Looks (model prog w) H (isInstance (.ref x) (.type "BaseException")) true:=L.andThen _L
 have r:Looks (model prog w) H (isExcClass (.ref x)) false:=by
  unfold isExcClass
  exact l.andThen .now
 have t:Looks (model prog w) H (raisedInstance (.ref x)) (.ref x):=by
  unfold raisedInstance
  exact L.andThen (o.andThen (by rw[Er Ln];exact .now))
 have u:Looks (model prog w) H (excFromValue (.ref x) "exceptions must derive from BaseException") (.ref x):=by
  unfold excFromValue
  exact r.andThen (by rw[Ew Ln];exact p.andThen (by rw[Er Z];exact .now))
 refine Ec (Ee ?_)
 refine Ec (EG (u.at ?_))
 dsimp only
 refine Ec (l.at ?_)
 rw[Ew Ln]
 refine Ec (t.at ?_)
 unfold setFlight
 refine Ec (Ec (EJ b c m ?_))
 rw[Ew Ln]
 exact Ee (wpAny_raiseNew_none e n)
end
noncomputable def vV(X:Cx)(W:Addr->Addr->Option Addr->Hp->Prop):Prop:=∀(p:List (Addr×Obj)) (a:St) (H:Hp) (s:Shared) (x C:Addr) (d:Option Addr),ao X p a H s->H x=some (vU C d x)->W x C d H->X.xe (.ref x) s
theorem Qh{P:Program}{K:Frag}:
  vV (eN (eI P w) P w K m b N q s f g A o a c E) (λx C d H=>∀T,H T=none->E (.ref C) d (ah (ah H T (eM T)) x (fQ C d T x))):=
 λ_ _ _ _ _ _ _ I e h=>sV I e h
noncomputable def yR(K:Frag)(t:TE)(W:Addr->Addr->Option Addr->Hp->Prop):TS:=λ_ a H=>t a H λv h=>∃x C d,v= .ref x/\h x=some (vU C d x)/\og K C/\typeIn K (.ref C)=some (.type "type")/\W x C d h
theorem Q0{X:Cx}{e:Expr}{t:TE}{P:Pos}{W:Addr->Addr->Option Addr->Hp->Prop}(f:X.calm=true)(F:vV X W)(g:PE X e t):PS X (.Raise (some e) none P) (yR X.K t W):=by
 intro p s b H D I h
 rw[arm_exec_Raise]
 refine Ec (GN ?_)
 refine XU (K:=X.K) (ev:=do let v <- eval e X.env;standAt P;pure v) (I.ok.hd f) (Ec (aO (g p s b H _ I h) λu S a=>Ec (GN (Ee ?_))))
 obtain⟨v,j,i,r,x,C,d,ev,c,k,l,q⟩:=a
 subst ev
 obtain rfl:u=Value.ref x:=r
 obtain⟨⟨o,m,n,z,A,V,w,y⟩,_⟩:=i.hok x _ c
 exact#[x,C,o,V,Z,i.kIn,k,l,m,n,w,y,F p b j S x C d i c q]
section
variable {X:Cx}{pins:List (Addr×Obj)}{σ:St}{H:Hp}{s:Shared}{x C:Addr}{d:Option Addr}
theorem ao.noted{t':Nat}(I:ao X pins σ H s)(a:H x=some (.ext l))(p:s.heap.get? x=some O)(r:O.cls= .ref C)(t:O.dict=d)(v:O.data= .fields w)(c:1 < w.size)
  (N:cy .none (hZ X.stack) x O s.heap y):∃T,H T=none/\T≠x/\ao X pins σ (ah (ah H T (eM T)) x (fQ C d T x)) { s with heap:=y,toks:=t' }:=by
 obtain⟨T,m,f,g,i⟩:=cy.hok (C:=C) (d:=d) (fl:=.none) I a p r t v c (λb h=>I.stkFree b h) N
 have j:∀b,H b=none->b≠x:=λb e z=>by rw[z,a]at e;cases e
 have U:∀b u,H b=some u->(∀l,u≠ .ext l)->ah (ah H T (eM T)) x (fQ C d T x) b=some u:=λb u e z=>by
  rw[jl (λq=>by rw[q,a]at e;cases e;exact z _ Z),jl (jo e m)]
  exact e
 refine#[T,m,f,I.call (g':=s.gens) (d':=s.drawn) (ch:=[]) ?_ i I.bare (λb z=>absurd z Lp)]
 refine#[λb o e n h _=>N.keep b o h (j b n) e,λb o e n _ _=>N.slot b o (j b n) e,λb o e n _=>?_,λb o e _=>?_,λb A e=>U b _ e (by intro _ q;cases q),λb o u e=>U b _ e (by intro _ q;cases q),λb P e=>#[(List.toArray []),by rw[U b _ e (by intro _ q;cases q)];simp]]
 ·rw[jl (j b n),jl (En (Et (Ek e) g))]
  exact n
 ·by_cases h:b=x
  ·obtain⟨B,_,_,_,k,_⟩:=N.ex
   exact#[_,by rw[h];exact k]
  ·obtain⟨S,q⟩:=N.slot b o h e
   exact#[_,q]
end
noncomputable abbrev Cx.mark(X:Cx)(e:Value)(xe:Value->Shared->Prop):Cx:={ X with A:=X.A.mark (some e),calm:=false,xe:=xe }
theorem ao.mark{X:Cx}(I:ao X p a H s)(e:Value)(x:Value->Shared->Prop):ao (X.mark e x) p a H s:=
 #[#[I.ok.mod,I.ok.kind,I.ok.glob,I.ok.blt,I.ok.above,I.ok.inj,I.ok.has,I.ok.cab,(λz=>nomatch (show false=true from z)),I.ok.frames,I.ok.stk,I.ok.exf,I.ok.bs,I.ok.bsz,I.ok.noex,I.ok.exfs,I.ok.funs,I.ok.frf],I.os,I.bare,I.base,I.loc,I.cell,I.free,I.freeC,I.pin,I.hok,I.len]
theorem ao.unmark{X:Cx}(o:X.Ok)(I:ao (X.mark e x) p a H s):ao X p a H s:=
 #[o,I.os,I.bare,I.base,I.loc,I.cell,I.free,I.freeC,I.pin,I.hok,I.len]
section
open PySem.W
theorem qE{K:Frag}(X:K.In h)(a:h.get? x=some o)(b:o.cls= .ref C)(H:clsIn K B≠none)(tB:typeIn K (.ref B)=some (.type "type"))(m:mroIn K B (.type "BaseException")=some true)(c:mroIn K C (.ref B)=some true):
  Looks M h (excMatches (.ref x) (.ref B)) true:=by
 have L:Looks M h (typeOf (.ref x)) (.ref C):=b▸(Looks.ld a).andThen .now
 have l:=looks_typeIn (M:=M) X tB
 have _L:Looks M h (isInstance (.ref B) (.type "tuple")) false:=l.andThen (Looks.of_pure tc_notTuple)
 have d:Looks M h (isType (.ref B)) true:=by
  unfold clsIn at H
  split at H
  ·rename_i e
   intro A Q E s k q
   unfold isType loadHead
   exact Ec (Ix (k _ _ (X _ _ e)) (Ee q))
  ·exact absurd Z H
 have f:Looks M h (isExcClass (.ref B)) true:=by
  unfold isExcClass
  exact d.andThen (by rw[Er Z];exact IJ X m)
 have g:=IJ (M:=M) X c
 intro A Q E s k q
 unfold excMatches
 refine Ec (_L A _ E s k ?_)
 rw[Ew Ln]
 refine Ec (Ee ?_)
 dsimp only
 refine Ec ?_
 rw[FV]
 refine Ec (Ec (f A _ E s k ?_))
 simp only[GV,Ep,Fy]
 refine Ee ?_
 dsimp only
 rw[GL]
 refine Ee ?_
 refine Ec (L A _ E s k ?_)
 refine Ec ?_
 rw[FV]
 refine Ec (Ec (g A _ E s k ?_))
 simp only[Hf]
 refine Ee (Ee ?_)
 exact Ee q
end
noncomputable abbrev XR:=Addr->Addr->Option Addr->Addr->Hp->Prop
noncomputable def XW(X:Cx)(p:List (Addr×Obj))(a:St)(R:XR)(e:Value)(s:Shared):Prop:=
 ∃x C d T H,e= .ref x/\ao X p a H s/\H x=some (fQ C d T x)/\H T=some (eM T)/\T≠x/\R x C d T H
noncomputable abbrev CM:=St->Hp->VK->XR->Prop
noncomputable abbrev CN:=bn->XR->St->Hp->Prop
noncomputable def DE(X:Cx)(e:Expr)(t:CM):Prop:=
 ∀(p:List (Addr×Obj)) (s:Shared) (a:St) (H:Hp) (Q:VK) (R:XR),ao X p a H s->t a H Q R->wpAny (model X.prog X.w) X.A (eval e X.env) (EP X p a Q) (XW X p a R) s
noncomputable def DH(X:Cx)(st:Stmt)(t:CN):Prop:=
 ∀(p:List (Addr×Obj)) (s:Shared) (a:St) (H:Hp) (D:bn) (R:XR),ao X p a H s->t D R a H->wpAny (model X.prog X.w) X.A (exec st X.env) (SP X p D) (XW X p a R) s
noncomputable def DP(R:XR):XK:=λc d H=>∀x C T,c= .ref C->H x=some (fQ C d T x)->H T=some (eM T)->T≠x->R x C d T H
noncomputable def y9(s:Sp)(d:List V)(t:TA):CM:=λa H Q R=>t a H λv h=>s (v++d) h Q (DP R)
section
variable {X:Cx}{k:Nat}{f:Addr}{fd:FuncData}{ps:List Str}{sp:Sp}{dvs:List V}{ds:List Value}{x:Str}{p pos:Pos}{e:Expr}{es:List Expr}{t:TA}{te:CM}
theorem pO(F:ai X.prog X.w X.K X.mg X.base (eI X.prog X.w) k f fd ps sp)(y:bE k X.A)(D:Gl X x)(E:X.mg x=some (.ref f))(G:keepIn X.K (.ref f)=true)(J:aC X.K fd ps ds)(L:ay dvs ds)
  (M:PA X.nox (e::es) t) (g:(x==("__debug__":Str))=false:=by decide) (N:starEach (e::es) X.env=(false,eval e X.env)::starEach es X.env:=by rfl) (j:(backTo pos (starEach es X.env)).any (·.1)=false:=by rfl):
  DE X (.Call (.Name x p) (e::es) [] pos) (y9 sp dvs t):=by
 intro P s O H Q R I h
 refine Fm (zj I D E ?_ g)
 refine IZ (h₀:=X.base) I.ok.mod.kin G (Fu (M pos P s O H _ (I.wish _) h) (λU S #[v,W,i,r,q]=>#[i.kIn,?_]) λ_ _ z=>z.elim) N j
 have i:=i.unwish
 have m:ay (v++dvs) (U++ds):=r.append L
 have Y:(U++ds).length=ps.length:=by rw[<- m.length];exact F.len _ _ _ _ q
 refine wpAny_call (G7 (F.run X.A X.stack S W #[U,[]] (U++ds) (v++dvs) Q (DP R) y i.env0 (J S U i.kIn Y) m q) λr s' a=>?_)
 cases r with
 |error e=>
  obtain⟨x,C,d,T,H',rfl,os,B,un,l,n,o,c,hw⟩:=a
  exact#[x,C,d,T,H',Z,i.call' os un l B (λb z=>absurd z Lp),n,o,c,hw x C T Z n o c]
 |ok fl=>
  cases fl with
  |ret u=>exact i.after a
  |next=>exact False.elim a
  |brk=>exact False.elim a
  |cont=>exact False.elim a
theorem uY{i:Nat}{y:Str}{P:Pos}(d:X.N.Nodup)(g:X.N[i]?=some y)(j:n6 X.env.scope y)(l:DE X e te)(m:swapsWith e (some (.Name y P)) pos.line X.env=pure false:=by rfl)(n:X.fn y=true∨X.env.scope.names.lookup y=some .local:=by first |exact .inl Z |exact .inr Z |assumption):
  DH X (.Assign [.Name y P] e pos) (λD R b H=>te b H (λv c=>D.nx (b.set i (some v)) c) R):=by
 intro a s b H D R I h
 refine wpAny_Assign_Name (aO (l a s b H _ R I h) λv S z=>?_) m
 obtain⟨y,c,o,r,q⟩:=z
 exact zC o d g j r (λw u=>#[_,c,u,q]) n
end
theorem aN.ok1{P:Program}{K:Frag}{st:Stmt}{a:Sp}(F:aN K x q st f g)(S:am N p (aa st))(len:∀v H Q E,a v H Q E->v.length=p.length)
  (h:∀(c:Value) (A:Around) (o:List Env) (s:Shared) (H:Hp) (v:List V) (Q:VK) (E:XK),bE k (A.deeper (envOfC q (aa st) s.heap.objs.size f c))->a v H Q E->
   ∃t,i9 (eN (eI P w) P w K m b N q (aa st) f c A o s H E) (be st) t/\t { nx:=λ_ i=>Q .non i,rt:=Q } (fe N v) H):ai P w K m b (eI P w) (k+1) f g p a:=by
 obtain⟨l,n,kV,D,r,u,c,C,O,rfl,lk,d⟩:=F.ex
 exact wn lk d S len λA o s H v Q E j e=>h c A o s H v Q E j e
end _L
namespace _L
open PySem PySem.Spec PyProof.Rows PySem.SeqAt
noncomputable def ip(x y:List V):Bool:=(List.range (min x.length y.length)).all (λj=>lN (x.getD j .non) (y.getD j .non))&&x.length==y.length
section
variable {X:Cx}
theorem Zk(r:ay x i)(R:ay y I)(f:x.all cn=true)(F:y.all cn=true)(j:Nat)(c:j < i.toArray.size)(d:j < I.toArray.size):EqAt A s i.toArray[j] I.toArray[j] (lN (x.getD j .non) (y.getD j .non)):=by
 have L:=r.length
 have p:=R.length
 have H:j < x.length:=by simp at c;omega
 have h:j < y.length:=by simp at d;omega
 have a:x[j]?=some x[j]:=Ed H
 have b:y[j]?=some y[j]:=Ed h
 obtain⟨u,q,g⟩:=r.get a
 obtain⟨U,Q,k⟩:=R.get b
 have l:=List.all_eq_true.mp f _ (GQ H)
 have m:=List.all_eq_true.mp F _ (GQ h)
 have E:i.toArray[j]=u:=by
  obtain⟨_,e⟩:=List.getElem?_eq_some_iff.mp q
  simpa using e
 have n:I.toArray[j]=U:=by
  obtain⟨_,e⟩:=List.getElem?_eq_some_iff.mp Q
  simpa using e
 have G:x.getD j .non=x[j]:=by rw[GK,a];rfl
 have o:y.getD j .non=y[j]:=by rw[GK,b];rfl
 rw[E,n,G,o]
 exact ZX g k l m
theorem yp(f:X.A.units < cLine):eJ X (compareOp .Eq) (λx y H Q=>∃a b c Y,x= .ref a/\y= .ref b/\ar X.K H a c/\ar X.K H b Y/\c.all cn=true/\Y.all cn=true/\Q (.bl (ip c Y)) H):=by
 intro p s z H x y v u Q I g k h
 obtain⟨a,b,c,Y,rfl,rfl,l,m,F,n,q⟩:=h
 cases g
 cases k
 obtain⟨i,r,P,_⟩:=I.tuple l
 obtain⟨d,R,o,_⟩:=I.tuple m
 refine eq_tupleAt (e:=λj=>lN (c.getD j .non) (Y.getD j .non)) (show s.heap.IsTuple a i.toArray from P) (show s.heap.IsTuple b d.toArray from o) f (λj t w=>Zk r R F n j t w) ?_
 have e:((List.range (min i.toArray.size d.toArray.size)).all (λj=>lN (c.getD j .non) (Y.getD j .non))&&i.toArray.size==d.toArray.size)=ip c Y:=by
  unfold ip
  rw[Ej,Ej,<- r.length,<- R.length]
 rw[e]
 exact#[.bl _,H,I,Z,q]
end
end _L
namespace _L
open PySem PySem.Spec PyProof.Rows
section
variable {prog:Program}{w:World}{A:Around}{E:Value->Shared->Prop}{s:Shared}
theorem XV{Q:Nat->Shared->Prop}(H:n≠0)(h:∀i d,i < n->Q i { s with drawn:=d }):wpAny (model prog w) A (choose a n) Q E s:=by
 intro Γ p _
 show Sem.wp _ Γ (.choose a n .pure) _ _ p s
 rw[Sem.wp_choose]
 exact#[H,h _ _ (Nat.mod_lt _ (Nat.pos_of_ne_zero H))]
theorem Xk{α:Type}:∀(n:Nat) (xs:List α) (s:Shared) {Q:List α->Shared->Prop},xs.length=n->(∀ys d,ys.Perm xs->Q ys { s with drawn:=d })->
  wpAny (model prog w) A (drawOrder n xs) Q E s:=by
 intro n
 induction n with
 |zero=>
  intro xs s Q hl h
  cases xs with
  |nil=>
   unfold drawOrder
   exact Ee (h [] s.drawn .rfl)
  |cons _ _=>cases hl
 |succ n ih=>
  intro xs s Q hl h
  cases xs with
  |nil=>cases hl
  |cons x r=>
   unfold drawOrder
   refine Ec (XV Lp λi d hi=>?_)
   have hg:(x::r)[i]?=some ((x::r)[i]'hi):=Ed hi
   rw[hg]
   dsimp only
   refine Ec (ih _ _ (by rw[I8 hi,hl];rfl) λys d' hp=>Ee (h _ d' ?_))
   refine(List.Perm.cons _ hp).trans ?_
   rw[IH]
   refine List.perm_middle.symm.trans ?_
   rw[HQ,List.take_append_drop]
end
noncomputable def i8:Value->Str
 | .str x _=>x
 |_=>#[(List.toArray [])]
theorem KG(t:SetTable)(n:Nat):(t.orStandIn n).led=t.led:=by
 unfold SetTable.orStandIn
 split
 ·rfl
 ·rfl
theorem XX(t:SetTable)(e:Array (Int×Value))(h:Int)(x:Value):(layNew t e h x).2.1.led=t.led:=by
 unfold layNew
 split
 ·exact KG _ _
 ·rfl
theorem QJ(t:SetTable)(E:Array (Int×Value))(n:Nat):(relayAll t E n).2.1.led=t.led:=by
 unfold relayAll
 split
 ·rename_i T o e
  unfold SetTable.relaid SetTable.laid at e
  cases h:SetTable.layClean (SetTable.sizeAbove n - 1) (E.map (·.1)) with
  |none=>rw[h]at e;cases e
  |some O=>
   rw[h]at e
   cases e
   dsimp only
   split<;>rfl
 ·rfl
theorem Kv(t:SetTable)(E:Array (Int×Value))(n:Nat)(H:t.plain=false):(relayAll t E n).2.1.plain=false:=by
 unfold relayAll
 split
 ·rename_i T o e
  unfold SetTable.relaid SetTable.laid at e
  cases h:SetTable.layClean (SetTable.sizeAbove n - 1) (E.map (·.1)) with
  |none=>rw[h]at e;cases e
  |some O=>
   rw[h]at e
   cases e
   dsimp only
   split
   ·exact H
   ·rfl
 ·rfl
noncomputable def ci(p:Program)(w:World)(h:Heap)(a:Addr)(L:List Str):Prop:=
 ∃o E b t,h.get? a=some o/\o.ExactSet/\o.data= .set E b t/\ElemsOf (PySem.strKind p w) E.toList/\(E.toList.map λe=>i8 e.2).Perm L/\L.Nodup
  /\E.size < scanBound/\t.fits E.size=true/\t.led=!(w.params.followText "set-order")/\(t.plain=false∨E.size=0)
theorem ci.at{H:Heap}{a:Addr}(x:ci p w h a L)(e:∀o,h.get? a=some o->H.get? a=some o):ci p w H a L:=
 let #[o,E,b,t,c,r]:=x;#[o,E,b,t,e o c,r]
section
variable {prog:Program}{w:World}{A:Around}{E:Value->Shared->Prop}{s:Shared}
theorem JI{a:Array (Int×Value)}(b:ElemsOf (PySem.strKind prog w) a.toList)(x:Str):
  (a.toList.findIdx? (λe=>(PySem.strKind prog w).is x e.2)=none↔¬x∈a.toList.map λe=>i8 e.2):=by
 rw[List.findIdx?_eq_none_iff]
 constructor
 ·intro h m
  obtain⟨e,H,f⟩:=List.mem_map.mp m
  obtain⟨⟨k,g,_⟩,_⟩:=b e H
  obtain⟨t,c⟩:=Ht g
  have q:=h e H
  rw[c]at f q
  have d:k=x:=f
  subst d
  have Q:(PySem.strKind prog w).is k (.str k t)=true:=strKind_is prog w k t
  rw[Q]at q;cases q
 ·intro h e H
  cases q:(PySem.strKind prog w).is x e.2 with
  |false=>rfl
  |true=>
   obtain⟨t,c⟩:=Ht q
   exact absurd (List.mem_map.mpr #[e,H,by rw[c];rfl]) h
theorem JJ{b:Array (Int×Value)}{T:SetTable}(d:s.heap.get? a=some o)(f:o.ExactSet)(h:o.data= .set p c t)
  (g:ElemsOf (PySem.strKind prog w) b.toList) (i:(b.toList.map λe=>i8 e.2).Perm L) (j:L.Nodup) (k:b.size < scanBound) (l:T.fits b.size=true)
  (m:T.led=!(w.params.followText "set-order")) (n:T.plain=false):
  (s.heap.update a (Obj.putSet b T)).get? a=some { o with data:=.set b (c+1) T }/\ci prog w (s.heap.update a (Obj.putSet b T)) a L:=by
 have H:(s.heap.update a (Obj.putSet b T)).get? a=some { o with data:=.set b (c+1) T }:=by
  have q:=ET (Obj.putSet b T) d (by rw[putSet_of b T h];rfl)
  rwa [putSet_of b T h]at q
 exact#[H,_,b,c+1,T,H,f,Z,g,i,j,k,l,m,.inl n]
theorem Xl{Q : Bool -> Shared -> Prop}(hS : ci prog w s.heap a L)(room : L.length + 1 < scanBound)
    (h : ∀ b R l, Heap.SameBut a s.heap R -> ci prog w R a (if x ∈ L then L else L ++ [x]) -> s.toks <= l -> Q b { s with heap := R, toks := l }) :
    wpAny (model prog w) A (setAdd a (.str x f)) Q E s := by
  obtain ⟨o, g, ep, t, n, U, u, H, v, B, hb, V, X, Y⟩ := hS
  have d : (PySem.strKind prog w).is x (.str x f) = true := strKind_is prog w x f
  have C : g.size = L.length := by rw [<- v.length_eq, Ef, EC]
  unfold setAdd
  refine EG (Ec ((PySem.strKind prog w).pyHash (k := x) d ?_))
  unfold setAddHashed setAddHashedIn
  refine EG (Ec (F8 (s := { s with toks := s.toks + 1 }) n u V ?_))
  dsimp only
  rw [byScan_of Z hb H]
  simp only [↓reduceIte]
  unfold setAddByScan
  refine Ec (Ec (Gv (Ec (wpAny_setScan_of (knd := PySem.strKind prog w) d n u V H ?_))))
  cases hr : List.findIdx? (λe => (PySem.strKind prog w).is x e.2) g.toList with
  | some j =>
    dsimp only
    have D : x ∈ L := by
      refine Decidable.byContradiction λhn => ?_
      have q := (JI (prog := prog) (w := w) H x).mpr λm => hn (v.mem_iff.mp m)
      rw [q] at hr; cases hr
    have q := h false s.heap (s.toks + 1) (Heap.SameBut.refl a s.heap) (by rw [Er D]; exact #[o, g, ep, t, n, U, u, H, v, B, hb, V, X, Y]) (Gm _)
    exact Ee (Ee q)
  | none =>
    dsimp only
    have D : ¬ x ∈ L :=λm => (JI (prog := prog) (w := w) H x).mp hr (v.mem_iff.mpr m)
    have W : ∀ (b : Bool) {S : Shared} {Q' : Unit -> Shared -> Prop}, Q' () S -> wpAny (model prog w) A (match b with | true => rule "set.scan.the-table-gave-way" | false => pure ()) Q' E S := by
      intro b S Q' hq
      cases b
      · exact Ee hq
      · exact Gv hq
    have p := layNew_perm t g ((PySem.strKind prog w).hash x) (.str x f)
    have M := layNew_fits t g ((PySem.strKind prog w).hash x) (.str x f)
    have O := XX t g ((PySem.strKind prog w).hash x) (.str x f)
    generalize layNew t g ((PySem.strKind prog w).hash x) (.str x f) = N at p M O ⊢
    obtain ⟨c, t1, w0, g4⟩ := N
    dsimp only at p M O ⊢
    rw [Array.toList_push] at p
    have F : ElemsOf (PySem.strKind prog w) c.toList := (H.push d Z).perm p
    have P : (c.toList.map λe => i8 e.2).Perm (L ++ [x]) := by
      refine (p.map _).trans ?_
      rw [EK]
      exact v.append_right _
    have G : (L ++ [x]).Nodup := List.nodup_append.mpr #[B, by simp,λy hy z hz e => by rw [Iu] at hz; subst hz; subst e; exact D hy]
    have mM : c.size = g.size + 1 := by rw [<- EC, p.length_eq, Ei, EC]; rfl
    have b1 : c.size < scanBound := by rw [mM, C]; exact room
    refine Ec (W _ ?_)
    have i : ∀ T : SetTable, T.fits c.size = true -> T.led = t.led -> T.plain = false ->
        wpAny (model prog w) A (do
          storeSet a c T
          if (!w0 && T.tooFull) = true then do
              (match (relayAll T c (SetTable.grown c.size)).2.2 with | true => rule "set.scan.the-table-gave-way" | false => pure ())
              storeSet a (relayAll T c (SetTable.grown c.size)).1 (relayAll T c (SetTable.grown c.size)).2.1
              pure (some true)
            else pure (some true)) (λr s' => r = some true /\ Q true s') E { s with toks := s.toks + 1 } := by
      intro T g1 g2 g3
      refine Ec (wpAny_storeSet_of (s := { s with toks := s.toks + 1 }) n u ?_ (HS b1))
      obtain ⟨o1, S1⟩ := JJ (s := s) (prog := prog) (w := w) n U u F P G b1 g1 (g2.trans X) g3
      have I := Gc s.heap a (Obj.putSet c T)
      split
      · have J := relayAll_perm T c (SetTable.grown c.size)
        have f2 := relayAll_fits T c (SetTable.grown c.size)
        have l2 := QJ T c (SetTable.grown c.size)
        have q2 := Kv T c (SetTable.grown c.size) g3
        generalize relayAll T c (SetTable.grown c.size) = Z at J f2 l2 q2 ⊢
        obtain ⟨K, t3, g0⟩ := Z
        dsimp only at J f2 l2 q2 ⊢
        have bj : K.size = c.size := by rw [<- EC, J.length_eq, EC]
        have b2 : K.size < scanBound := by rw [bj]; exact b1
        refine Ec (W _ (Ec (wpAny_storeSet_of (s := { s with heap := s.heap.update a (Obj.putSet c T), toks := s.toks + 1 }) o1 Z ?_ (HS b2))))
        obtain ⟨_, S2⟩ := JJ (s := { s with heap := s.heap.update a (Obj.putSet c T) }) (prog := prog) (w := w) o1 U Z (F.perm J) ((J.map _).trans P) G b2 f2 (l2.trans (g2.trans X)) q2
        exact Ee #[Z, h true _ _ (I.trans (Gc _ a _)) (by rw [Ew D]; exact S2) (Gm _)]
      · exact Ee #[Z, h true _ _ I (by rw [Ew D]; exact S1) (Gm _)]
    split
    · rename_i tp
      refine Ec ?_
      rw [hashByValue_scannable 8 (x := .str x f) Z]
      refine Ee ?_
      have e0 : plainKind (.str x f) = false := rfl
      rw [e0]
      simp only [Ep, ↓reduceIte]
      refine Fu (i { t1 with plain := false } (SetTable.fits_plain_off M) O Z) (λr s' q => ?_) λ_ _ z => z
      obtain ⟨rfl, q⟩ := q
      exact Ee q
    · rename_i tp
      refine Ec (Ee ?_)
      simp only [↓reduceIte]
      refine Fu (i t1 M O (by simpa using tp)) (λr s' q => ?_) λ_ _ z => z
      obtain ⟨rfl, q⟩ := q
      exact Ee q
end
noncomputable def bf(w:World):Obj:={ cls:=.type "set",dict:=none,data:=.set (List.toArray []) 0 (.fresh 0 0 (!(w.params.followText "set-order"))) }
section
variable {prog:Program}{w:World}{A:Around}{E:Value->Shared->Prop}{s:Shared}
theorem Xm{h:Heap}(e:h.get? a=some (bf w)):ci prog w h a []:=
 #[_,(List.toArray []),0,_,e,#[Z,Z,Z],Z,λ_ z=>by simp at z,Lp,Ii,(by decide:(0:Nat) < scanBound),Z,Z,.inr Z]
theorem KH(a:Value){G:Value->Shared->Prop}(h:G (.ref s.heap.objs.size) { s with heap:=s.heap.push (bf w) }):
  codeAny (model prog w) A (.call (.builtin "set.__new__") #[[.type "set",a],[]]) (wants G E) s:=by
 refine codeAny_of_tree ?_
 show wpAny _ A.in1 (do checkBuiltinCall "set.__new__" _;again (.builtin "set.__new__" _)) _ _ s
 refine Ec (Iw (PySem.F.newCall_set_1 a) (Ee #[Gw PySem.F.plain_set_new _,FJ PySem.F.entry_set_new ?_]))
 rw[Fk PySem.F.plain_set_new]
 unfold Builtin.«set.__new__» Builtin.Frozenset.newClass
 have o:=sub_set_self
 obtain⟨H,g,d,t,os⟩:=s
 dsimp only
 wp_walk
 refine GZ (Ee ?_)
 dsimp only
 simp only[newObj]
 exact Ec (wpAny_alloc (Ee (Ee h)))
end
theorem StrsAre.at':∀{V:List Value} {s:List Str},StrsAre V s->∀(i:Nat) (v:Value),V[i]?=some v->∃x t,s[i]?=some x/\v= .str x t
 |_,_,.nil,i,v,h=>by simp at h
 |_,_,.cons y t r,0,v,h=>by simp at h;exact#[y,t,Z,h.symm]
 |_,_,.cons y t r,i+1,v,h=>by
  simp only[List.getElem?_cons_succ]at h
  obtain⟨x,T,e,E⟩:=StrsAre.at' r i v h
  exact#[x,T,by simpa using e,E]
theorem StrsAre.len:∀{v:List Value} {s:List Str},StrsAre v s->s.length=v.length
 |_,_,.nil=>rfl
 |_,_,.cons _ _ r=>by simp [StrsAre.len r]
theorem j6:Slot "set_iterator" "__next__" "set_iterator.__next__":=by
 refine .of (owner:="set_iterator") (n:="__next__") ?_ Lq Lq Lq ?_ ?_
 ·rw[FI,Fb];kernel_rfl
 ·first |exact .inl Lq |exact .inr Lq
 ·rw[FX];kernel_rfl
theorem qi:Slot "set_iterator" "__iter__" "set_iterator.__iter__":=by
 refine .of (owner:="set_iterator") (n:="__iter__") ?_ Lq Lq Lq ?_ ?_
 ·rw[FI,Fb];kernel_rfl
 ·first |exact .inl Lq |exact .inr Lq
 ·rw[FX];kernel_rfl
theorem Jz:entryFor table "set_iterator.__next__"=some Builtin.«set_iterator.__next__»:=Ih (by kernel_rfl)
theorem JA:entryFor table "set_iterator.__iter__"=some Builtin.«dict_keyiterator.__iter__»:=by
 refine IB (id':="dict_keyiterator.__iter__") ?_ Z Lq ?_<;>kernel_rfl
theorem JO:entryFor table "set.__iter__"=some Builtin.«frozenset.__iter__»:=by
 refine IB (id':="frozenset.__iter__") ?_ Z Lq ?_<;>kernel_rfl
theorem JP(a:Value):argsOk "set_iterator.__next__" #[[a],[]]:=by unfold argsOk;kernel_rfl
theorem JQ(a:Value):argsOk "set_iterator.__iter__" #[[a],[]]:=by unfold argsOk;kernel_rfl
noncomputable def bP(h:Heap)(I:Addr)(f:Value)(i:Nat)(S:Addr)(n e:Nat):Prop:=
 ∃o,h.get? I=some o/\o.cls= .type "set_iterator"/\o.data= .fields (List.toArray [f,.int i 0,.ref S,.int n 0,.int e 0])
theorem bP.at{H:Heap}{S:Addr}(x:bP h I f i S n E)(e:∀o,h.get? I=some o->H.get? I=some o):bP H I f i S n E:=
 let #[o,a,r]:=x;#[o,e o a,r]
theorem bP.is{s:Shared}{S:Addr}(x:bP s.heap I f i S n e):s.TypeIs (.ref I) "set_iterator":=let #[o,h,H,_]:=x;#[o,h,H]
section
variable {prog:Program}{w:World}{A:Around}{E:Value->Shared->Prop}{s:Shared}
theorem JU{c:Type}{Q:c->Shared->Prop}(d:A.handled=none)
  (h:∀H e,(∀b o,s.heap.get? b=some o->H.get? b=some o)->Shared.TypeIs { s with heap:=H } e "StopIteration"->E e { s with heap:=H }):
  wpAny (model prog w) A (do raiseNew (<- newExc (.type "StopIteration") []):Sem c) Q E s:=by
 refine Ec ?_
 simp only[newExc,newTuple]
 refine Ec (EY ?_ (by size_fits))
 refine Ec (m:=firstArgMember _ _) (Iw (a:=Value.none) ?_ ?_)
 ·first |rfl | (simp only[firstArgMember];rfl)
 refine EY ?_ (by size_fits)
 simp only[raiseNew]
 refine Ec (wpAny_handled ?_)
 rw[d]
 refine Ec (Ee (wpAny_throw (h _ _ (λb o e=>Eg _ (Eg _ e)) ?_)))
 exact#[_,El _ Z,Z]
theorem JV{S:Addr}(H:bP s.heap I f i S n c)
  (h:wpAny (model prog w) A.in1 (Builtin.«set_iterator.__next__» #[[.ref I],[]]) (λF a=>∃v,F= .done (.ret v)/\Q (some v) a) (λe a=>a.TypeIs e "StopIteration"/\Q none a) s):
  wpAny (model prog w) A (pyNext (.ref I)) Q E s:=by
 unfold pyNext
 refine Ec (He (EV (name:=Str.ofString "__next__") H.is j6 (EX j6 H.is Jz ?_ (JP _))))
 refine Fu h (λF a q=>?_) λe a q=>?_
 ·obtain⟨v,e,q⟩:=q
  exact#[v,e,Ee q]
 ·exact Ec (Gx (T:="StopIteration") (b:=true) q.1 IA (Ee q.2))
theorem Qi{I:Addr}{f:Value}{i:Nat}{S:Addr}{n a:Nat}{o:Obj}{v:Array Value}(H:s.heap.get? I=some o)(b:o.cls= .type "set_iterator")(h:o.data= .fields v)(k:Nat)(x:Value)
  (e:v.setIfInBounds k x=(List.toArray [f,.int i 0,.ref S,.int n 0,.int a 0])):bP (s.heap.update I (Obj.mapFields (·.setIfInBounds k x))) I f i S n a:=
 #[_,ET _ H (Fv (ER h _)),(Ho ..).trans b,by rw[ER h,e]]
theorem XY{I S P:Addr}{i:Nat}{O j:Obj}{e:Array (Int×Value)}{a:Nat}{t:SetTable}{k:Array Value}{c p:Nat}{hx:Int}{x:Value}{Q:Option Value->Shared->Prop}
  (h:bP s.heap I (.ref P) i S e.size a) (l:s.heap.get? S=some O) (H:O.data= .set e a t) (m:t.fits e.size=true) (n:s.heap.get? P=some j) (b:j.data= .seq k c)
  (q:k[i]?=some (.int p 0)) (r:e[p]?=some (hx,x)) (u:∀d,bP d I (.ref P) (i+1) S e.size a->Heap.SameBut I s.heap d->Q (some x) { s with heap:=d }):
  wpAny (model prog w) A (pyNext (.ref I)) Q E s:=by
 refine JV h ?_
 obtain⟨o,f,v,g⟩:=h
 show wpAny _ _ (fieldsOf (.ref I) >>= _) _ _ s
 refine Ec (Iy f g ?_)
 dsimp only
 refine Ec (Hd l H m ?_)
 simp only[Gj,Ep,↓reduceIte]
 refine Ec (Fq n b ?_)
 simp only[Fs,q]
 unfold setNextDrawn
 refine Ec (Ec (F8 l H m ?_))
 simp only[Gj,Ep,↓reduceIte,r]
 refine Ee ?_
 refine Ec (Fg f g Lp (Ee #[x,Z,u _ ?_ (Gc ..)]))
 exact Qi f v g _ _ (by simp [rawInt])
theorem Kw(q:A.handled=none){I S P:Addr}{i:Nat}{O l:Obj}{d:Array (Int×Value)}{m:Nat}{t:SetTable}{p:Array Value}{c:Nat}{Q:Option Value->Shared->Prop}
  (h:bP s.heap I (.ref P) i S d.size m) (r:s.heap.get? S=some O) (f:O.data= .set d m t) (u:t.fits d.size=true) (v:s.heap.get? P=some l) (g:l.data= .seq p c)
  (x:p[i]?=none) (y:∀H,(∀b o,b≠I->s.heap.get? b=some o->H.get? b=some o)->Q none { s with heap:=H }):
  wpAny (model prog w) A (pyNext (.ref I)) Q E s:=by
 refine JV h ?_
 obtain⟨o,j,B,a⟩:=h
 show wpAny _ _ (fieldsOf (.ref I) >>= _) _ _ s
 refine Ec (Iy j a ?_)
 dsimp only
 refine Ec (Hd r f u ?_)
 simp only[Gj,Ep,↓reduceIte]
 refine Ec (Fq v g ?_)
 simp only[Fs,x]
 refine Ec (Fg j a Lp ?_)
 refine Ec (Fg (ET _ j (Fv (ER a _))) (ER a _) Lp ?_)
 refine JU (s:={ s with heap:=_ }) (by simpa using q) λH e k T=>#[T,y H λb o n z=>k b o ?_]
 exact(Ey _ _ (ES n)).trans ((Ey _ _ (ES n)).trans z)
end
section
variable {prog:Program}{w:World}{A:Around}{E:Value->Shared->Prop}{s:Shared}
theorem Qj{I S:Addr}{i j nx:Nat}{O:Obj}{e:Array (Int×Value)}{a:Nat}{t:SetTable}{x:Value}{Q:Option Value->Shared->Prop}
  (h:bP s.heap I (.int j 0) i S e.size a) (f:s.heap.get? S=some O) (b:O.data= .set e a t) (k:t.fits e.size=true)
  (l:∀(q:Option (Value×Nat)->Shared->Prop) m,q (some (x,nx)) s->wpAny (model prog w) A.in1 (setNext S j i a) q m s)
  (n:∀c,bP c I (.int nx 0) (i+1) S e.size a->Heap.SameBut I s.heap c->Q (some x) { s with heap:=c }):
  wpAny (model prog w) A (pyNext (.ref I)) Q E s:=by
 refine JV h ?_
 obtain⟨o,d,p,H⟩:=h
 show wpAny _ _ (fieldsOf (.ref I) >>= _) _ _ s
 refine Ec (Iy d H ?_)
 dsimp only
 refine Ec (Hd f b k ?_)
 simp only[Gj,Ep,↓reduceIte]
 simp only[Fs]
 refine Ec (l _ _ ?_)
 dsimp only
 refine Ec (Fg d H Lp ?_)
 have g:=ET (Obj.mapFields (·.setIfInBounds 0 (rawInt nx))) d (Fv (ER H _))
 have D:=ER H (·.setIfInBounds 0 (rawInt nx))
 refine Ec (Fg g D Lp (Ee #[x,Z,n _ ?_ ((Gc ..).trans (Gc ..))]))
 exact Qi (s:={ s with heap:=_ }) g ((Ho ..).trans p) D _ _ (by simp [rawInt])
theorem qF(l:A.handled=none){I S:Addr}{i j:Nat}{O:Obj}{a:Array (Int×Value)}{c:Nat}{t:SetTable}{Q:Option Value->Shared->Prop}
  (h:bP s.heap I (.int j 0) i S a.size c) (m:s.heap.get? S=some O) (d:O.data= .set a c t) (n:t.fits a.size=true)
  (p:∀(q:Option (Value×Nat)->Shared->Prop) r,q none s->wpAny (model prog w) A.in1 (setNext S j i c) q r s)
  (u:∀H,(∀b o,b≠I->s.heap.get? b=some o->H.get? b=some o)->Q none { s with heap:=H }):
  wpAny (model prog w) A (pyNext (.ref I)) Q E s:=by
 refine JV h ?_
 obtain⟨o,f,y,g⟩:=h
 show wpAny _ _ (fieldsOf (.ref I) >>= _) _ _ s
 refine Ec (Iy f g ?_)
 dsimp only
 refine Ec (Hd m d n ?_)
 simp only[Gj,Ep,↓reduceIte]
 simp only[Fs]
 refine Ec (p _ _ ?_)
 dsimp only
 refine Ec (Fg f g Lp ?_)
 refine JU (s:={ s with heap:=_ }) (by simpa using l) λH e k T=>#[T,u H λb o v x=>k b o ?_]
 exact(Ey _ _ (ES v)).trans x
theorem Jn(a:w.params.followText "set-order"=true){S:Addr}(b:s.heap.get? S=some o)(H:o.data= .set c d t)
  (f:t.fits c.size=true) {Q:Option (Value×Nat)->Shared->Prop} (h:Q (((pickOrder (w.params.setOrder S d) c)[i]?).map λe=>(e.2,j)) s):
  wpAny (model prog w) A (setNext S j i d) Q E s:=by
 unfold setNext
 refine Ec (F8 b H f ?_)
 dsimp only
 unfold setsByText
 refine Ec (Ec (GZ (Ee ?_)))
 dsimp only
 rw[show(model prog w).w.params.followText "set-order"=_ from a]
 simp only[↓reduceIte,Gj,Ep]
 unfold setWalk
 refine Ec (Ec (F8 b H f ?_))
 dsimp only
 unfold setsByText
 refine Ec (Ec (GZ (Ee ?_)))
 dsimp only
 rw[show(model prog w).w.params.followText "set-order"=_ from a]
 simp only[↓reduceIte]
 exact Ec (GZ (Ee (Ee h)))
theorem JK(a:w.params.followText "set-order"=false){S:Addr}(b:s.heap.get? S=some o)(H:o.data= .set e c t)
  (d:t.fits e.size=true) (f:t.led=true) (l:e.size<=1) {Q:Option (Value×Nat)->Shared->Prop}
  (h:Q (match e[SetTable.below t.place j]?,t.place[SetTable.below t.place j]? with |some (_,x),some k=>some (x,k+1) |_,_=>none) s):
  wpAny (model prog w) A (setNext S j i c) Q E s:=by
 unfold setNext
 refine Ec (F8 b H d ?_)
 dsimp only
 unfold setsByText
 refine Ec (Ec (GZ (Ee ?_)))
 dsimp only
 rw[show(model prog w).w.params.followText "set-order"=_ from a]
 simp only[Ep,↓reduceIte]
 split
 ·rename_i z
  have g:(!t.plain&&decide (e.size > 1))=true:=z
  simp only[Fx,decide_eq_true_eq]at g
  omega
 ·refine Ec ?_
  show wpAny _ _ (if (!t.led&&!e.isEmpty)=true then _ else _) _ _ _
  rw[f]
  simp only[GV,Bool.false_and,Ep,↓reduceIte]
  exact Ee (Ee h)
end
theorem Xn{a:Type}(f:Nat->Nat):∀(n k:Nat) (l:List a) (o:Array a),l.length=n->(pickOrder.go f n k l o).toList.Perm (o.toList++l):=by
 intro n
 induction n with
 |zero=>
  intro k l o h
  rw[List.length_eq_zero_iff.mp h]
  unfold pickOrder.go
  simp
 |succ n i=>
  intro k l o h
  unfold pickOrder.go
  have H:f k % l.length < l.length:=Nat.mod_lt _ Lo
  rw[Ed H]
  dsimp only
  refine(i _ _ _ (by rw[I8 H,h];rfl)).trans ?_
  rw[Array.toList_push,List.append_assoc,List.singleton_append]
  refine List.Perm.append_left _ ?_
  rw[IH]
  refine List.perm_middle.symm.trans ?_
  rw[HQ,List.take_append_drop]
theorem kf{a:Type}(f:Nat->Nat)(x:Array a):(pickOrder f x).toList.Perm x.toList:=by
 have h:=Xn f x.size 0 x.toList (List.toArray []) (EC ..)
 simpa [pickOrder] using h
theorem Q1{a:Type}(x:Array a)(d:a):(List.range x.size).map (λp=>(x[p]?).getD d)=x.toList:=by
 refine List.ext_getElem Lp λi b h=>?_
 have H:i < x.size:=by simpa using h
 simp [H]
noncomputable def lQ(ord:List (Int×Value))(i:Nat)(v:Value):Prop:=∃e,ord[i]?=some e/\v=e.2
section
variable {prog:Program}{w:World}{A:Around}{E:Value->Shared->Prop}{s:Shared}
theorem qQ{S:Addr}(H:bP s.heap I f i S n e){Q:Value->Shared->Prop}(h:Q (.ref I) s):wpAny (model prog w) A (pyIter (.ref I)) Q E s:=by
 refine IY H.is qi (EX qi H.is JA ?_ (JQ _))
 show wpAny _ _ (ret (.ref I)) _ _ s
 exact Ee #[_,Z,"set_iterator",_,H.is,j6.lookup,h]
theorem XZ(D:A.handled=none)(I S P:Addr)(l:S≠I)(m:P≠I){O oP:Obj}{y:List Nat}{c:Nat}(f:O.data= .set d G t)
  (u:t.fits d.size=true) (g:oP.data= .seq (y.map λ(i:Nat)=>rawInt i).toArray c) (n:y.Perm (List.range d.size)):
  WalksS prog w A I [I,S,P] [I] (λa b=>b=a) d.size (lQ (y.map λp=>(d[p]?).getD (0,.none)))
   (λi s=>bP s.heap I (.ref P) i S d.size G/\s.heap.get? S=some O/\s.heap.get? P=some oP) where
 sub:=λb H=>by simp at H;simp [H]
 grefl:=λ_=>Z
 gtrans:=λ_ _ _ F J=>J.trans F
 frame:=λi s v T st _ k=>#[st.1.at λo e=>k I Lp o e,k S Lp _ st.2.1,k P Lp _ st.2.2]
 item:=λi s Q E K st j=>by
  have B:y.length=d.size:=by rw[n.length_eq,IE]
  have h:i < y.length:=by omega
  have C:y[i] < d.size:=List.mem_range.mp (n.mem_iff.mp (GQ h))
  refine XY (p:=y[i]) (hx:=(d[y[i]]).1) (x:=(d[y[i]]).2) st.1 st.2.1 f u st.2.2 g (by simp [h,rawInt]) (by simp [C]) λv q r=>?_
  refine j _ _ #[d[y[i]],by simp [h,C],Z] #[q,?_,?_] #[λb o H e=>?_,Z,Z,Z,Eh _]
  ·rw[r.2 S l];exact st.2.1
  ·rw[r.2 P m];exact st.2.2
  ·rw[r.2 b (λz=>H (by simp [z]))];exact e
 done:=λs Q E st j=>by
  have B:y.length=d.size:=by rw[n.length_eq,IE]
  refine Kw D st.1 st.2.1 f u st.2.2 g (by simp [B]) λv k=>j _ #[λb o H e=>k b o (λz=>H (by simp [z])) e,Z,Z,Z,Eh _]
 self:=λ_ _ _ _ st j=>qQ st.1 j
theorem Zl(r:A.handled=none)(m:w.params.followText "set-order"=true)(I S:Addr)(l:S≠I){O:Obj}(h:O.data= .set c d t)
  (j:t.fits c.size=true):
  WalksS prog w A I [I,S] [I] (λa b=>b=a) c.size (lQ (pickOrder (w.params.setOrder S d) c).toList)
   (λi s=>bP s.heap I (.int (0:Nat) 0) i S c.size d/\s.heap.get? S=some O) where
 sub:=λb H=>by simp at H;simp [H]
 grefl:=λ_=>Z
 gtrans:=λ_ _ _ u v=>v.trans u
 frame:=λi s n T st _ k=>#[st.1.at λo e=>k I Lp o e,k S Lp _ st.2]
 item:=λi s Q E D st f=>by
  have y:(pickOrder (w.params.setOrder S d) c).size=c.size:=by rw[<- EC,(kf _ _).length_eq,EC]
  have g:i < (pickOrder (w.params.setOrder S d) c).size:=by omega
  refine Qj (x:=(pickOrder (w.params.setOrder S d) c)[i].2) (nx:=0) st.1 st.2 h j (λB C q=>Jn m st.2 h j (by rw[Gh g];exact q)) λn q p=>?_
  refine f _ _ #[(pickOrder (w.params.setOrder S d) c)[i],by rw[Ge];exact Gh g,Z] #[q,?_] #[λb o H e=>?_,Z,Z,Z,Eh _]
  ·rw[p.2 S l];exact st.2
  ·rw[p.2 b (λz=>H (by simp [z]))];exact e
 done:=λs Q E st f=>by
  have y:(pickOrder (w.params.setOrder S d) c).size=c.size:=by rw[<- EC,(kf _ _).length_eq,EC]
  refine qF r st.1 st.2 h j (λB C q=>Jn m st.2 h j (by rw[HR Lo];exact q)) λn k=>f _ #[λb o H e=>k b o (λz=>H (by simp [z])) e,Z,Z,Z,Eh _]
 self:=λ_ _ _ _ st f=>qQ st.1 f
theorem X0(p:Nat):SetTable.below (List.toArray [p]) 0=0:=by simp [SetTable.below,SetTable.below.go]
theorem X1(p:Nat):SetTable.below (List.toArray [p]) (p+1)=1:=by simp [SetTable.below,SetTable.below.go]
theorem sR(G:A.handled=none)(u:w.params.followText "set-order"=false)(I S:Addr)(n:S≠I){O:Obj}(h:O.data= .set c L t)
  (g:t.fits c.size=true) (v:t.led=true) (y:c.size<=1):
  WalksS prog w A I [I,S] [I] (λa b=>b=a) c.size (lQ c.toList)
   (λi s=>(∃j:Nat,bP s.heap I (.int j 0) i S c.size L/\(i=0->j=0)/\(i=1->∃p,t.place=(List.toArray [p])/\j=p+1))/\s.heap.get? S=some O) where
 sub:=λb d=>by simp at d;simp [d]
 grefl:=λ_=>Z
 gtrans:=λ_ _ _ K M=>M.trans K
 frame:=λi s B W st _ k=>#[let #[j,a,r]:=st.1;#[j,a.at λo e=>k I Lp o e,r],k S Lp _ st.2]
 item:=λi s Q E X st l=>by
  obtain⟨⟨j,H,J,C⟩,f⟩:=st
  have N:i=0:=by omega
  subst N
  cases J Z
  have D:c.size=1:=by omega
  have P:t.place.size=1:=by
   simp only[SetTable.fits,Fx,beq_iff_eq]at g
   omega
  obtain⟨p,m⟩:=Array.size_eq_one_iff.mp P
  refine Qj (x:=(c[0]'Lo).2) (nx:=p+1) H f h g (λR T q=>JK u f h g v y (by rw[m,X0,Gh Lo];exact q)) λB q F=>?_
  refine l _ _ #[c[0]'Lo,by rw[Ge];exact Gh Lo,Z] #[#[_,q,λz=>by omega,λ_=>#[p,m,Z]],?_] #[λb o d e=>?_,Z,Z,Z,Eh _]
  ·rw[F.2 S n];exact f
  ·rw[F.2 b (λz=>d (by simp [z]))];exact e
 done:=λs Q E st l=>by
  obtain⟨⟨j,H,J,C⟩,f⟩:=st
  refine qF G H f h g (λR T q=>JK u f h g v y ?_) λB k=>l _ #[λb o d e=>k b o (λz=>d (by simp [z])) e,Z,Z,Z,Eh _]
  by_cases z:c.size=0
  ·rw[HR (show c.size<=_ by omega)];exact q
  ·have D:c.size=1:=by omega
   obtain⟨p,U,V⟩:=C D
   subst V
   rw[U,X1,HR (show c.size<=1 by omega)];exact q
 self:=λ_ _ _ _ st l=>let #[#[_,a,_],_]:=st;qQ a l
end
theorem qe{prog:Program}{w:World}(h:ElemsOf (PySem.strKind prog w) E)(i:Nat)(v:Value)(b:lQ E i v):∃x t,(E.map λe=>i8 e.2)[i]?=some x/\v= .str x t:=by
 obtain⟨e,H,rfl⟩:=b
 obtain⟨⟨k,c,_⟩,_⟩:=h e (EA H)
 obtain⟨t,a⟩:=Ht c
 exact#[k,t,by rw[Eo,H];show some (i8 e.2)=_;rw[a];rfl,a]
noncomputable def wV(p:Program)(w:World)(s c:Shared)(S I:Addr)(L:List Str):Prop:=
 ∃(f:List Addr) (d:List Str) (P:Nat->Value->Prop) (St:Nat->Shared->Prop),(∀b o,s.heap.get? b=some o->c.heap.get? b=some o)/\c.gens=s.gens/\c.os=s.os/\s.toks<=c.toks/\
  s.heap.objs.size<=I/\I < c.heap.objs.size/\c.TypeIs (.ref I) "set_iterator"/\(∀b∈f,b=S∨s.heap.objs.size<=b)/\(∀A:Around,A.handled=none->WalksS p w A I f [I] (λa b=>b=a) d.length P St)/\St 0 c/\
  (∀i v,P i v->∃x t,d[i]?=some x/\v= .str x t)/\d.Perm L
section
variable {prog:Program}{w:World}{A:Around}{E:Value->Shared->Prop}{s:Shared}
theorem X2{S:Addr}(V:ci prog w s.heap S L){Q:Value->Shared->Prop}(h:∀f I,wV prog w s f S I L->Q (.ref I) f):wpAny (model prog w) A (pyIter (.ref S)) Q E s:=by
 obtain⟨o,a,x,t,H,W,m,n,M,X,r,u,Y,N⟩:=V
 have P:s.TypeIs (.ref S) "set":=#[o,H,W.1]
 have v:S < s.heap.objs.size:=Ek H
 refine IY P PySem.F.slot_set_iter (EX PySem.F.slot_set_iter P JO ?_ (PySem.F.args_set_iter_1 _))
 unfold Builtin.«frozenset.__iter__»
 show wpAny _ _ (Builtin.Frozenset.sizeOf S >>= _) _ _ s
 unfold Builtin.Frozenset.sizeOf
 refine Ec (Ec (Hd H m u (Ee ?_)))
 unfold setDrawn
 refine Ec (Ec (F8 H m u ?_))
 dsimp only
 unfold setsByText
 refine Ec (Ec (GZ (Ee (Ee ?_))))
 split
 ·rename_i z
  have B:(!(w.params.followText "set-order")&&(!t.plain&&decide (a.size > 1)))=true:=z
  simp only[Fx,decide_eq_true_eq]at B
  refine Ec (Xk a.size (List.range a.size) s Lp λy d G=>?_)
  have C:y.length=a.size:=by rw[G.length_eq,IE]
  have O:((y.map λ(i:Nat)=>rawInt i).length)<=sizeLine:=by rw[Ef,C];exact HS r
  refine Ec (wpAny_newTuple (s:={ s with drawn:=d }) ?_ O)
  refine Ec ?_
  unfold setEpoch
  refine Ec (F8 (Eg _ H) m u (Ee ?_))
  refine Ec (EY (Ee #[_,Z,"set_iterator",_,#[_,El _ Z,Z],j6.lookup,h _ _ ?_]))
  generalize J:s.heap.push { cls:=.type "tuple",data:=.seq (y.map λ(i:Nat)=>rawInt i).toArray }=g
  have R:g.objs.size=s.heap.objs.size+1:=by rw[<- J,Fh]
  have gP:g.get? s.heap.objs.size=some { cls:=.type "tuple",data:=.seq (y.map λ(i:Nat)=>rawInt i).toArray }:=by rw[<- J];exact El _ Z
  have gS:g.get? S=some o:=by rw[<- J];exact Eg _ H
  refine#[[g.objs.size,S,s.heap.objs.size],(y.map λp=>(a[p]?).getD (0,.none)).map λe=>i8 e.2,lQ (y.map λp=>(a[p]?).getD (0,.none)),
   (λi f=>bP f.heap g.objs.size (.ref s.heap.objs.size) i S a.size x/\f.heap.get? S=some o/\f.heap.get? s.heap.objs.size=some { cls:=.type "tuple",data:=.seq (y.map λ(i:Nat)=>rawInt i).toArray }),λb o e=>?_,Z,Z,Eh _,?_,?_,#[_,El _ Z,Z],λb r=>?_,
   λT D=>?_,#[#[_,El _ Z,Z,Z],Eg _ gS,Eg _ gP],?_,?_]
  ·exact Eg _ (by rw[<- J];exact Eg _ e)
  ·show s.heap.objs.size<=g.objs.size
   omega
  ·show g.objs.size < (g.push _).objs.size
   rw[Fh];exact FQ _
  ·simp only[Gr,EL,Hq]at r
   rcases r with e |e |e
   ·subst e;exact .inr Lo
   ·exact .inl e
   ·rw[e];exact .inr (Eh _)
  ·have q:=XZ (prog:=prog) (w:=w) D g.objs.size S s.heap.objs.size (En (by rw[R];exact GF v)) (En (by rw[R];exact FQ _)) m u (oP:={ cls:=.type "tuple",data:=.seq (y.map λ(i:Nat)=>rawInt i).toArray }) (c:=0) Z G
   simpa [C] using q
  ·refine qe (prog:=prog) (w:=w) (n.perm ?_)
   have q:=G.map λp=>(a[p]?).getD ((0:Int),Value.none)
   rwa [Q1]at q
  ·have q:=G.map λp=>(a[p]?).getD ((0:Int),Value.none)
   rw[Q1]at q
   exact(q.map _).trans M
 ·rename_i z
  have B:¬(!(w.params.followText "set-order")&&(!t.plain&&decide (a.size > 1)))=true:=z
  refine Ec (Ee ?_)
  refine Ec ?_
  unfold setEpoch
  refine Ec (F8 H m u (Ee ?_))
  refine Ec (EY (Ee #[_,Z,"set_iterator",_,#[_,El _ Z,Z],j6.lookup,h _ _ ?_]))
  have k:∀b∈[s.heap.objs.size,S],b=S∨s.heap.objs.size<=b:=λb r=>by
   simp only[Gr,EL,Hq]at r
   rcases r with e |e
   ·subst e;exact .inr (Eh _)
   ·exact .inl e
  have l:∀U:Obj,s.heap.objs.size < (s.heap.push U).objs.size:=λU=>by rw[Fh];exact FQ _
  cases K:w.params.followText "set-order" with
  |true=>
   have pl:(pickOrder (w.params.setOrder S x) a).toList.length=a.size:=by rw[(kf _ _).length_eq,EC]
   refine#[[s.heap.objs.size,S],(pickOrder (w.params.setOrder S x) a).toList.map λe=>i8 e.2,lQ (pickOrder (w.params.setOrder S x) a).toList,
    (λi f=>bP f.heap s.heap.objs.size (.int (0:Nat) 0) i S a.size x/\f.heap.get? S=some o),λb o e=>Eg _ e,Z,Z,Eh _,Eh _,l _,#[_,El _ Z,Z],k,
    λT D=>?_,#[#[_,El _ Z,Z,Z],Eg _ H],?_,?_]
   ·have q:=Zl (prog:=prog) (w:=w) D K s.heap.objs.size S (En v) m u
    rw[Ef,pl];exact q
   ·exact qe (prog:=prog) (w:=w) (n.perm (kf _ _))
   ·exact((kf _ _).map _).trans M
  |false=>
   have hs:a.size<=1:=by
    rw[K]at B
    rcases N with e |e
    ·rw[e]at B
     simp at B
     exact B
    ·omega
   refine#[[s.heap.objs.size,S],a.toList.map λe=>i8 e.2,lQ a.toList,
    (λi f=>(∃j:Nat,bP f.heap s.heap.objs.size (.int j 0) i S a.size x/\(i=0->j=0)/\(i=1->∃p,t.place=(List.toArray [p])/\j=p+1))/\f.heap.get? S=some o),λb o e=>Eg _ e,Z,Z,Eh _,Eh _,l _,#[_,El _ Z,Z],k,
    λT D=>?_,#[#[0,#[_,El _ Z,Z,Z],λ_=>Z,λz=>by cases z],Eg _ H],?_,?_]
   ·have q:=sR (prog:=prog) (w:=w) D K s.heap.objs.size S (En v) m u (by rw[Y,K];rfl) hs
    rw[Ef,EC];exact q
   ·exact qe (prog:=prog) (w:=w) n
   ·exact M
theorem qG:∀(V:List Value) (S:List Str),V.length=S.length->(∀(i:Nat) (v:Value),V[i]?=some v->∃x t,S[i]?=some x/\v=Value.str x t)->StrsAre V S
 | [],[],_,_=>.nil
 | [],_::_,h,_=>by cases h
 |_::_,[],h,_=>by cases h
 |v::V,y::S,h,k=>by
  obtain⟨x,t,e,rfl⟩:=k 0 v Z
  cases e
  exact .cons y t (qG V S (by simpa using h) λi u H=>k (i+1) u (by simpa using H))
theorem KI{S:Addr}(hh:A.handled=none)(y:ci prog w s.heap S L){Q:List Value->Shared->Prop}
  (h:∀a V g,s.heap.objs.size<=a.heap.objs.size->(∀b o,s.heap.get? b=some o->a.heap.get? b=some o)->a.gens=s.gens->a.os=s.os->s.toks<=a.toks->StrsAre V g->g.Perm L->Q V a):wpAny (model prog w) A (collect (.ref S)) Q E s:=by
 have n:L.length < scanBound:=by
  obtain⟨o,es,ep,t,j,M,hd,h0,u,h1,k,hf,hl,h2⟩:=y
  rw[<- u.length_eq,Ef,EC];exact k
 unfold collect
 refine Ec (wpAny_runValue (FJ IV ?_))
 rw[Fk IU]
 show wpAny _ A.in1 (newList [] >>= λl=>again (.builtin "list.__iadd__" #[[l,.ref S],[]])) _ _ s
 refine Ec (EY (Ee #[Gw G8 _,FJ Li ?_]))
 rw[Fk G8]
 show wpAny _ A.in1 (Builtin.List.listExtendWith (.ref s.heap.objs.size) (.ref S) (.ref s.heap.objs.size)) _ _ _
 unfold Builtin.List.listExtendWith
 have p:S < s.heap.objs.size:=by obtain⟨o,_,_,_,j,_⟩:=y;exact Ek j
 generalize x:s.heap.push { cls:=.type "list",data:=.seq ([]:List Value).toArray }=H
 have gl:H.get? s.heap.objs.size=some { cls:=.type "list",data:=.seq ([]:List Value).toArray }:=by rw[<- x];exact El _ Z
 have R:ci prog w H S L:=y.at λo e=>by rw[<- x];exact Eg _ e
 have gk:∀b o,s.heap.get? b=some o->H.get? b=some o:=λb o e=>by rw[<- x];exact Eg _ e
 have T:Shared.TypeIs { s with heap:=H } (.ref S) "set":=by
  obtain⟨o,_,_,_,j,M,_⟩:=R
  exact#[o,j,M.1]
 refine Ec (Gf T ?_)
 have n1:Builtin.List.listSameRef (.ref s.heap.objs.size) (.ref S)=false:=by
  simp only[Builtin.List.listSameRef,beq_eq_false_iff_ne]
  exact Fi p
 have n2:(Value.type "set"==Value.type "list")=false:=by decide
 have n3:(Value.type "set"==Value.type "tuple")=false:=by decide
 simp only[n1,n2,n3,Lg,Ep,Fy]
 refine Ec (X2 (s:={ s with heap:=H }) R λr I B=>?_)
 obtain⟨fp,g,P,St,K,kg,ko,kt,C,h3,h4,D,W,st,hv,u⟩:=B
 have G:H.objs.size=s.heap.objs.size+1:=by rw[<- x,Fh]
 have f:r.TypeIs (.ref S) "set":=by
  obtain⟨o,j,hc⟩:=T
  exact#[o,K _ _ j,hc]
 refine Ec (EG ?_)
 unfold Builtin.List.listLengthHint
 refine Ec (F' f PySem.F.slot_set_len.lookup ?_)
 wp_delta
 refine Ec (Gx (b:=true) f sub_set_self ?_)
 show wpAny _ A.in1 (typeOf (Value.ref S) >>= _) _ _ _
 refine Ec (Gf f (Ee ?_))
 rw[Er Ln]
 refine Ec (Gv ?_)
 have U:=K _ _ gl
 refine Ec ?_
 show wpAny _ A.in1 (updateSeq s.heap.objs.size (·.push .none) >>= λ_=>updateSeq s.heap.objs.size (·.pop)) _ _ _
 refine Ec (Io U Z ?_)
 have X:=ET (Obj.mapSeq (·.push Value.none)) U Z
 refine Io X Z ?_
 have g3:=ET (Obj.mapSeq (·.pop)) X Z
 have N:¬s.heap.objs.size∈fp:=λm=>by
  rcases D _ m with e |e
  ·exact absurd p (by rw[<- e];exact Fn _)
  ·have e':H.objs.size<=s.heap.objs.size:=e
   omega
 have O:∀b o,b≠s.heap.objs.size->r.heap.get? b=some o->((r.heap.update s.heap.objs.size (Obj.mapSeq (·.push Value.none))).update s.heap.objs.size (Obj.mapSeq (·.pop))).get? b=some o:=
  λb o k e=>(Ey _ _ (ES k)).trans ((Ey _ _ (ES k)).trans e)
 have Y:=W A.in1 (by simpa using hh)
 have hn:g.length<=sizeLine:=by rw[u.length_eq];exact HS n
 refine Ee #[Gw I9 _,codeAny_extend_loopS Y hn _ N _ g.length 0 _ _ _ Z (Eu _) (Y.frame 0 r _ r.toks st (Eh _) λb k o e=>O b o (λz=>N (z▸k)) e) g3 (ItemsOf.nil P) λa J c m gS d=>?_]
 show wpAny _ A (load s.heap.objs.size >>= _) _ _ a
 refine Ec (wpAny_load gS (Ee (h a J.toList g (GP (Ek gS)) (λb o e=>?_) ?_ ?_ ?_ ?_ u)))
 ·have ne:b≠s.heap.objs.size:=En (Ek e)
  refine m.heap b o ?_ (O b o ne (K b o (gk b o e)))
  simp only[Gr,EL,Hq,not_or]
  refine#[ne,λz=>?_]
  have q:s.heap.objs.size+1<=I:=G▸C
  have q2:=Ek e
  rw[z]at q2
  exact absurd (Et (GF q2) q) (Fn _)
 ·exact m.gens.trans kg
 ·exact m.os.trans ko
 ·exact Es kt m.toks
 ·refine qG _ _ (by rw[EC,d.1]) λi v e=>hv i v (d.2 i v (by rwa [Ge]at e))
end
section
variable {prog:Program}{w:World}{A:Around}{E:Value->Shared->Prop}{s:Shared}
theorem QK{S:Addr}(z:A.handled=none)(B:ci prog w s.heap S L)(j:L.length < 64){Q:Value->Shared->Prop}
  (h:∀f a c v i,s.heap.objs.size<=a->(∀b o,s.heap.get? b=some o->f.heap.get? b=some o)->f.gens=s.gens->f.os=s.os->f.heap.get? a=some (seqObj "list" v c)->StrsAre v.toList i->i.Perm L->sortedS i=true->Q (.ref a) f):
  wpAny (model prog w) A (call (.builtin "sorted") [.ref S]) Q E s:=by
 refine Calls.call_function_entry kind_sorted plain_sorted entry_sorted (args_sorted1 _) ?_
 unfold Builtin.«sorted»
 refine Ec (m:=checkCount "sorted" 1 1 _) (Ee ?_)
 refine Ec (KI (by simpa using z) B λd v i K k C D P H r=>?_)
 have F:v.length < 64:=by rw[<- _L.StrsAre.len H,r.length_eq];exact j
 refine Ec (wpAny_newList ?_ (by have q:sizeLine=1000000000∨64<=sizeLine:=.inr Ln;omega))
 have g:=El d.heap (o:=seqObj "list" v.toArray 0) Z
 refine Ec (EG (EX slot_list_sort #[_,g,Z] entry_list_sort (list_sort_treeK strKind_oneLt g H.keysOf (λV t R e=>keyKind_strs (by rw[<- e];exact H)) F λl G I=>#[_,Z,?_]) (args_list_sort _)))
 obtain⟨n,u,J,M⟩:=sorted_out_str H G I
 generalize (arrOf l).map (·.2)=out at u ⊢
 obtain⟨c,N⟩:=sortedHeap_at (out:=out) g
 have O:∀b o,s.heap.get? b=some o->(sortedHeap (d.heap.push (seqObj "list" v.toArray 0)) d.heap.objs.size v out).get? b=some o:=by
  intro b o e
  have x:=k b o e
  have y:b < d.heap.objs.size:=Ek x
  have p:b < (d.heap.push (seqObj "list" v.toArray 0)).objs.size:=by rw[size_push'];exact GF y
  rw[sortedHeap_old (En y) p]
  exact Eg _ x
 exact Ee #[_,Z,h { d with heap:=sortedHeap (d.heap.push (seqObj "list" v.toArray 0)) d.heap.objs.size v out } d.heap.objs.size c out n K O C D N u (J.trans r) M]
end
theorem Jo(h:StrsAre v s):ay (s.map V.str) v:=by
 induction h with
 |nil=>exact .nil
 |cons y t _ i=>exact .cons #[t,Z] i
noncomputable def Cn(P:Program)(w:World)(a:Addr)(L:List Str):HO:=.ext λh=>ci P w h a L
section
variable {X:Cx}
theorem qf(i:X.calm=true):c8 X (.builtin "sorted") (λx H Q=>∃(p:Addr) (L:List Str),x=[.ref p]/\H p=some (Cn X.prog X.w p L)/\L.length < 64/\
  ∀l S,H l=none->S.Perm L->L.Nodup->sortedS S=true->Q (.ref l) (ah H l (.lst (S.map V.str)))):=by
 intro P s B H x U Q I r h
 obtain⟨p,L,rfl,j,d,q⟩:=h
 obtain⟨u,rfl,R⟩:=dG r
 cases R
 obtain⟨f,_,_⟩:=I.hok p _ j
 have b:L.Nodup:=by obtain⟨_,_,_,_,_,_,_,_,_,b,_⟩:=f;exact b
 refine QK (I.ok.hd i) f d λm a c v S e k K o t y g A=>?_
 have len:(S.map V.str).length<=sizeLine:=by rw[Ef,g.length_eq];exact Es (GP d) Ln
 have n:aJ X.prog X.w (ah H a (.lst (S.map V.str))) m.heap a (.lst (S.map V.str)):=#[len,v.toList,c,Jo y,t]
 refine#[.ref a,_,I.call' (ch:=[]) o (Un.laid k e (I.hok.fresh e)) (I.hok.laid k e n) (by rw[K];exact I.bare) (λ_ z=>nomatch z),Z,q _ _ (I.hok.fresh e) g b A]
theorem QL:c8 X (.builtin "sorted") (λx H Q=>∃(p:Addr) (a:List Str),x=[.ref p]/\aF X.K H p (a.map V.str)/\a.length < 64/\
  ∀l S,H l=none->S.Perm a->sortedS S=true->Q (.ref l) (ah H l (.lst (S.map V.str)))):=by
 intro P s v H x U Q I r h
 obtain⟨p,a,rfl,f,b,q⟩:=h
 obtain⟨u,rfl,R⟩:=dG r
 cases R
 obtain⟨i,g,j,y⟩:=I.list f
 have d:=qc g
 have k:i.length=a.length:=(_L.StrsAre.len d).symm
 refine sorted_strs j.isList d (by rw[k];exact b) λo S m A n=>?_
 obtain⟨c,t⟩:=sortedAll_at s.heap i o
 have len:(S.map V.str).length<=sizeLine:=by rw[Ef,A.length_eq];exact Es (GP b) Ln
 refine#[.ref (s.heap.objs.size+1),_,I.laid (t':=s.toks) (λ_ _ e=>sortedAll_old e) (Gm _) (show aJ X.prog X.w _ _ _ (.lst (S.map V.str)) from #[len,o.toList,c,Jo m,t]),Z,q _ _ (I.hok.fresh (Gm _)) A n]
end
theorem Yw:mroOf (.type "reversed")=pure [.type "reversed",.type "object"]:=by rw[mroOf_type];kernel_rfl
theorem Kx:typeLookup (.type "reversed") "__new__"=pure (some (.builtin "reversed.__new__")):=by rw[FI,Fb];kernel_rfl
theorem KJ:Slot "reversed" "__init__" "object.__init__":=by
 refine .of (owner:="object") (n:="__init__") ?_ Lq Lq Lq ?_ ?_
 ·rw[FI,Fb];kernel_rfl
 ·first |exact .inl Lq |exact .inr Lq
 ·rw[FX];kernel_rfl
theorem X3:TypeCalled "reversed" "reversed.__new__" "object.__init__":=by
 refine#[Lq,Lq,#[_,_,Yw],madeBy_type Yw Kx Lq,Lq,?_,KJ]
 rw[FX];kernel_rfl
theorem QM(a:Value):checkTypeCall "reversed" #[[a],[]]=pure ():=by kernel_rfl
theorem Xo(a:Value):checkBuiltinCall "reversed.__new__" #[[.type "reversed",a],[]]=pure ():=by kernel_rfl
theorem KK:entryFor table "reversed.__new__"=some Builtin.«reversed.__new__»:=Ih (by kernel_rfl)
theorem vH:isSubtype (.type "reversed") (.type "reversed")=pure true:=by rw[FX];kernel_rfl
theorem QN:typeLookup (.type "tuple") "__reversed__"=pure none:=by rw[FI,Fb];kernel_rfl
theorem Ky:isSubtype (.type "tuple") (.type "dict")=pure false:=by rw[FX];kernel_rfl
noncomputable def revObj(t:Addr)(n:Int):Obj:={ cls:=.type "reversed",data:=.fields (List.toArray [.ref t,.int (n - 1) 0]) }
section
variable {prog:Program}{w:World}{A:Around}{E:Value->Shared->Prop}{s:Shared}
theorem oj{Q:Value->Shared->Prop}(H:IsTup s.heap t i)(c:(i.size:Int) < 2 ^ 63)
  (h:Q (.ref s.heap.objs.size) { s with heap:=s.heap.push (revObj t i.size),toks:=s.toks+1+1 }):wpAny (model prog w) A (call (.type "reversed") [.ref t]) Q E s:=by
 refine callType_new (S:=λ_ R a=>a=s/\R (.ok (.ret (.ref s.heap.objs.size))) { s with heap:=s.heap.push (revObj t i.size),toks:=s.toks+1+1 }) X3 Ln (QM _) (Xo _) (λo=>I0 o _) KK
  (.of_wp λp W f R a d=>?_) #[Z,#[_,El _ Z,Z],h]
 obtain⟨rfl,e⟩:=d
 unfold Builtin.«reversed.__new__» Builtin.SmallTypes.newClass
 refine Ec ?_
 dsimp only
 refine Ec (Ee ?_)
 simp only[GV,Ep,Fy]
 refine Ec (Iw vH ?_)
 simp only[GV,Ep,Fy]
 refine Ee ?_
 refine Ec (m:=Builtin.SmallTypes.refuseKeywords _ _ _) (Ee ?_)
 refine Ec (m:=checkCount "reversed" 1 1 _) (Ee ?_)
 dsimp only
 refine Ec (F' H.typeIs QN ?_)
 dsimp only
 refine Ec ?_
 show wpAny _ _ (isInstance (.ref t) (.type "dict") >>= _) _ _ _
 refine Ec (Gx (b:=false) H.typeIs Ky ?_)
 simp only[Ep,Fy]
 refine Ec (F' H.typeIs PyProof.Rows.slot_tuple_getitem.lookup ?_)
 dsimp only
 rw[Er Lq]
 refine Ee ?_
 simp only[GV,Ep,Fy]
 refine Ec (len_tuple H c ?_)
 refine Ec (m:=asInt? _) (Ee ?_)
 dsimp only
 show wpAny _ _ (newObj (.type "reversed") (.fields [Value.ref t,rawInt ((i.size:Int) - 1)].toArray) >>= _) _ _ _
 exact Ec (EY (Ee #[_,Z,e]))
end
theorem zQ:Slot "reversed" "__next__" "reversed.__next__":=by
 refine .of (owner:="reversed") (n:="__next__") ?_ Lq Lq Lq ?_ ?_
 ·rw[FI,Fb];kernel_rfl
 ·first |exact .inl Lq |exact .inr Lq
 ·rw[FX];kernel_rfl
theorem qH:Slot "reversed" "__iter__" "reversed.__iter__":=by
 refine .of (owner:="reversed") (n:="__iter__") ?_ Lq Lq Lq ?_ ?_
 ·rw[FI,Fb];kernel_rfl
 ·first |exact .inl Lq |exact .inr Lq
 ·rw[FX];kernel_rfl
theorem Kz:entryFor table "reversed.__next__"=some Builtin.«reversed.__next__»:=Ih (by kernel_rfl)
theorem KA:entryFor table "reversed.__iter__"=some Builtin.«dict_keyiterator.__iter__»:=by
 refine IB (id':="dict_keyiterator.__iter__") ?_ Z Lq ?_<;>kernel_rfl
theorem KL(a:Value):argsOk "reversed.__next__" #[[a],[]]:=by unfold argsOk;kernel_rfl
theorem KM(a:Value):argsOk "reversed.__iter__" #[[a],[]]:=by unfold argsOk;kernel_rfl
noncomputable def du(h:Heap)(I t:Addr)(k:Int):Prop:=∃o,h.get? I=some o/\o.cls= .type "reversed"/\o.data= .fields (List.toArray [.ref t,.int k 0])
theorem du.at{H:Heap}(x:du h I t k)(e:∀o,h.get? I=some o->H.get? I=some o):du H I t k:=let #[o,a,r]:=x;#[o,e o a,r]
theorem du.is{s:Shared}(x:du s.heap I t k):s.TypeIs (.ref I) "reversed":=let #[o,h,H,_]:=x;#[o,h,H]
section
variable {prog:Program}{w:World}{A:Around}{E:Value->Shared->Prop}{s:Shared}
theorem Q2(H:du s.heap I t k)
  (h:wpAny (model prog w) A.in1 (Builtin.«reversed.__next__» #[[.ref I],[]]) (λf S=>∃v,f= .done (.ret v)/\Q (some v) S) (λe S=>S.TypeIs e "StopIteration"/\Q none S) s):
  wpAny (model prog w) A (pyNext (.ref I)) Q E s:=by
 unfold pyNext
 refine Ec (He (EV (name:=Str.ofString "__next__") H.is zQ (EX zQ H.is Kz ?_ (KL _))))
 refine Fu h (λf S q=>?_) λe S q=>?_
 ·obtain⟨v,e,q⟩:=q
  exact#[v,e,Ee q]
 ·exact Ec (Gx (T:="StopIteration") (b:=true) q.1 IA (Ee q.2))
theorem Be{I t:Addr}{k:Nat}{items:Array Value}{x:Value}{Q:Option Value->Shared->Prop}(H:du s.heap I t k)(c:IsTup s.heap t items)(d:items[k]?=some x)(e:(items.size:Int) < 2 ^ 63)
  (f:∀b,du b I t ((k:Int) - 1)->Heap.SameBut I s.heap b->Q (some x) { s with heap:=b,toks:=s.toks+1 }):wpAny (model prog w) A (pyNext (.ref I)) Q E s:=by
 refine Q2 H ?_
 obtain⟨o,a,g,h⟩:=H
 have i:k < items.size:=(Array.getElem?_eq_some_iff.mp d).1
 show wpAny _ _ (field (.ref I) 0 >>= _) _ _ s
 refine Ec (EJ a h (x:=.ref t) Z (Ec (EJ a h (x:=.int k 0) Z ?_)))
 dsimp only
 rw[Ew Lo]
 refine Ec (F' c.typeIs PyProof.Rows.slot_tuple_getitem.lookup ?_)
 simp only[Option.isNone_some,Ep,Fy]
 refine Ec (wpAny_mkInt (Ec (He ?_)))
 refine getItem_tuple (s:={ s with toks:=s.toks+1 }) c Lo Lo (j:=k) ?_ d ?_
 ·unfold seqIndex?
  simp
  omega
 refine Ec (EJ (s:={ s with toks:=s.toks+1 }) a h (x:=.int k 0) Z ?_)
 dsimp only
 refine Ec (Fg a h Lp (Ee #[x,Z,f _ ?_ (Gc ..)]))
 exact#[_,ET _ a (Fv (ER h _)),(Ho ..).trans g,by rw[ER h];simp [rawInt]]
theorem Zm(f:A.handled=none){Q:Option Value->Shared->Prop}(h:du s.heap I t (-1))
  (g:∀a,(∀b o,b≠I->s.heap.get? b=some o->a.get? b=some o)->Q none { s with heap:=a }):wpAny (model prog w) A (pyNext (.ref I)) Q E s:=by
 refine Q2 h ?_
 obtain⟨o,c,j,H⟩:=h
 show wpAny _ _ (field (.ref I) 0 >>= _) _ _ s
 refine Ec (EJ c H (x:=.ref t) Z (Ec (EJ c H (x:=.int (-1) 0) Z ?_)))
 dsimp only
 rw[Er Ln]
 refine Ec (Gv (Ec ?_))
 show wpAny _ _ (setField (.ref I) 1 (rawInt (-1)) >>= λ_=>setField (.ref I) 0 .none) _ _ _
 refine Ec (Fg c H Lp ?_)
 refine Fg (ET _ c (Fv (ER H _))) (ER H _) Lp ?_
 refine Ec ?_
 refine JU (s:={ s with heap:=_ }) (by simpa using f) λa e k T=>#[T,g a λb o d i=>k b o ?_]
 exact(Ey _ _ (ES d)).trans ((Ey _ _ (ES d)).trans i)
theorem wt(H:du s.heap I t k){Q:Value->Shared->Prop}(h:Q (.ref I) s):wpAny (model prog w) A (pyIter (.ref I)) Q E s:=by
 refine IY H.is qH (EX qH H.is KA ?_ (KM _))
 show wpAny _ _ (ret (.ref I)) _ _ s
 exact Ee #[_,Z,"reversed",_,H.is,zQ.lookup,h]
end
theorem JL:entryFor table "dict.update.loop"=some Builtin.«dict.update.loop»:=Ih (by kernel_rfl)
theorem zM:plainId "dict.update.loop"=true:=by decide+kernel
section
variable {X:Cx}{o lo hi:Expr}{to tl th:TE}{pos p2:Pos}
noncomputable def DT(to tl th:TE):TG:=λv d H Q=>to d H λO e=>tl d e λa f=>th d f λc h=>∃l b x y i j,O= .ref l/\v= .ref b/\a= .int i/\c= .int j/\h l=some (.lst x)/\h b=some (.lst y)/\l≠b/\0<=i/\i<=j/\j<=(x.length:Int)/\
 x.length+y.length<=sizeLine/\Q d (ah h l (.lst (x.take i.toNat++y++x.drop j.toNat)))
theorem pP(n:PE X o to)(t:PE X lo tl)(w:PE X hi th)
  (A:∀v,assign (.Subscript o (.Slice (some lo) (some hi) none p2) pos) X.env v=(do
   let O <- holding [v] (eval o X.env)
   let c <- holding [v,O] (eval (.Slice (some lo) (some hi) none p2) X.env)
   standAt pos
   holding [v,O,c] (setItem O c v)
   release [c,v,O] []):=by intro _;rfl):PG X (.Subscript o (.Slice (some lo) (some hi) none p2) pos) (DT to tl th):=by
 intro p s a H v u Q I r h
 rw[A]
 refine Ec (EG (aO (n p s a H _ I h) λO B d=>?_))
 obtain⟨x,C,D,R,E⟩:=d
 refine Ec (EG ?_)
 refine wpAny_Slice (aO (t p B a C _ D E) λV F #[y,G,J,K,L]=>aO (w p F a G _ J L) λm S f=>?_)
 obtain⟨z,M,N,P,l,b,xs,ys,i,j,T,U,W,Y,h1,h2,g,h0,k,hj,hz,q⟩:=f
 subst T U W Y
 cases (show O=Value.ref l from R)
 cases (show u=Value.ref b from r)
 refine Ee ?_
 have I4:ao X p a M { S with heap:=S.heap.push { cls:=.type "slice",data:=.fields (List.toArray [V,m,.none]) } }:=N.kept (t':=S.toks) λb o e=>Eg _ e
 refine Ec (GN (Ec (EG ?_)))
 exact Zb I4 h1 h2 g (Heap.IsSliceOf.new S.heap V m .none) K P h0 k hj hz λs5 I5=>wpAny_release #[a,_,I5,q]
end
end _L
namespace _L
open PySem PySem.Spec PyProof.Rows Builtin Builtin.Str
section
variable {prog:Program}{w:World}{A:Around}{E:Value->Shared->Prop}{s:Shared}
theorem Jq{lo:Option Int}{Q:Value->Shared->Prop}(H:IsTup s.heap t i)(d:s.heap.IsSliceOf e v j .none)(p:IsPart v lo)(P:IsPart j f)
  (g:HT.sIx i.size 0 lo=0/\HT.sIx i.size i.size f=i.size) (h:Q (.ref t) s):wpAny (model prog w) A (getItem (.ref t) (.ref e)) Q E s:=by
 obtain⟨os,a,b,k⟩:=id d
 have c:s.TypeIs (.ref e) "slice":=#[os,a,b]
 unfold getItem
 try with_reducible refine EG ?_
 first |refine Ec (Ee ?_) |skip
 refine Ec (IX H.typeIs Ln ?_)
 refine Ec (EV (name:=Str.ofString "__getitem__") H.typeIs Gs
  (EX Gs H.typeIs PyProof.Rows.entry_tuple_getitem ?_ (PyProof.Rows.args_tuple_getitem _ _)))
 show wpAny _ _ (Builtin.Tuple.tupleItemsOf (.ref t) >>= _) _ _ s
 refine Ec (PyProof.Rows.tupleItemsOf_ H ?_)
 refine Ec (Gf c ?_)
 rw[Er Ln]
 refine Ec (HT.sliceApplied_gen d p P ?_)
 show wpAny _ _ (if (((HT.sIx i.size 0 lo:Nat):Int)==0&&(1:Int)==1&&(HT.sIx i.size i.size f - HT.sIx i.size 0 lo)==i.size)=true then _ else _) _ _ s
 rw[g.1,g.2,Er Lp]
 unfold Builtin.Tuple.tupleIsExact
 refine Ec (Ec (Gf H.typeIs (Ee ?_)))
 rw[Er Ln]
 first
  |exact Gv (Ee #[_,Z,Ee h])
  |exact Ec (Gv (Ee #[_,Z,Ee h]))
  |exact Ec (Ee (Ee #[_,Z,Ee h]))
end
section
variable {X:Cx}
noncomputable def wE:R2:=λx y H Q=>∃a b c Y,x= .ref a/\y= .ref b/\H a=some (.tup c)/\H b=some (.tup Y)/\c.length+Y.length<=sizeLine/\∀r h,h r=some (.tup (c++Y))->ae H h->Q (.ref r) h
theorem ki:eJ X (binaryOp .Add) wE:=by
 intro P s G H x y v u Q I r R h
 obtain⟨a,b,m,Y,rfl,rfl,d,f,J,q⟩:=h
 have t:=ar.of (K:=X.K) d
 have w:=ar.of (K:=X.K) f
 by_cases z:m=[]
 ·subst z
  cases r
  cases R
  obtain⟨l,L,M,_⟩:=I.tuple t
  obtain⟨i,r2,N,_⟩:=I.tuple w
  have O:l=[]:=L.nil_iff.mpr Z
  subst O
  obtain⟨⟨T,U,A,V⟩,B,C,n,E⟩:=id M
  obtain⟨⟨F,D,data2,S⟩,g,j,W,k⟩:=id N
  simp only at C E j k
  subst C E j k
  exact concat_meets #[_,B,Z] #[_,g,Z] Lb seq_tuple_add HM HJ (Hw _ _)
   (tuple_addW0 a b ([]:List Value).toArray i.toArray n W U D V S Z) #[B,g,.ref b,H,I,Z,q b H f (ae.refl H)]
 ·refine uP P s G H _ _ v u Q I r R #[a,b,m,Y,Z,Z,t,w,z,J,λe=>?_,λ_ p np=>?_]
  ·subst e
   exact q a H (by rw[List.append_nil];exact d) (ae.refl H)
  ·exact q p _ jc λc o e=>by rw[jl (jo e np)];exact e
noncomputable def Bv:V->Option Int->Option Int->Hp->VK->Prop:=λx lo c H Q=>∃a b,x= .ref a/\H a=some (.tup b)/\∀r h,h r=some (.tup (aV b lo c))->ae H h->Q (.ref r) h
theorem zd:Cj X Bv:=by
 intro P s u H x v V w lo j S Q I R k l m h
 obtain⟨a,b,rfl,d,q⟩:=h
 have n:=ar.of (K:=X.K) d
 by_cases g:HT.sIx b.length 0 lo=0/\HT.sIx b.length b.length j=b.length
 ·cases R
  obtain⟨i,r,t,y⟩:=I.tuple n
  have f:i.toArray.size=b.length:=by rw[Ej];exact r.length.symm
  refine#["tuple",_,PyProof.Rows.slot_tuple_getitem.lookup,t.typeIs,?_]
  refine Jq t k l m (by rw[f];exact g) #[.ref a,H,I,Z,q a H ?_ (ae.refl H)]
  rw[d]
  unfold aV
  rw[g.1,g.2,List.drop_zero,IC,Fc]
 ·exact y6 P s u H _ v V w lo j S Q I R k l m #[a,b,Z,n,g,λp N=>q p _ jc λc o e=>by rw[jl (jo e N)];exact e]
end
end _L
namespace _L
open PySem PySem.Spec PyProof.Rows
theorem vY{G:Bool->Hp->Prop}(y:G true H)(n:b=false->G b H):G b H:=by
 cases b
 ·exact n Z
 ·exact y
theorem aT{A:Prop}(h:∀G:Prop,(A->G)->G):A:=h A λz=>z
section
variable {t u:TS}{D:bn}{σ:St}{H:Hp}
theorem eF(h:∀E:bn,(∀a b,u D a b->E.nx a b)->t E σ H):dJ t u D σ H:=h { D with nx:=u D } λ_ _ h=>h
theorem af(h:∀F:St->Hp->Prop,(∀a b,u D a b->F a b)->t { D with nx:=F } σ H):dJ t u D σ H:=h _ λ_ _ h=>h
theorem mP{c:TT}(h:∀F:Bool->Hp->Prop,(∀b a,(if b=true then t D σ a else u D σ a)->F b a)->c σ H F):g9 c t u D σ H:=h _ λ_ _ x=>x
theorem tq{c:TT}(h:∀F:Bool->Hp->Prop,(∀a,t D σ a->F true a)->(∀a,u D σ a->F false a)->c σ H F):g9 c t u D σ H:=by
 refine h _ (λa x=>?_) λa x=>?_
 ·show if true=true then _ else _
  rw[Er Z];exact x
 ·show if false=true then _ else _
  rw[Ew Ln];exact x
theorem dy(R:St->Hp->Prop)(c:∀E:bn,E.rt=D.rt->(∀a b,R a b->E.nx a b)->t E σ H)(d:∀a b,R a b->D.nx a b):BV t D σ H:=#[R,c { D with nx:=R } Z λ_ _ h=>h,d]
theorem sT{c:TT}{T:TS}(W:Nat->St->Hp->Prop)(d:Nat)(e:W d σ H)
  (f:∀m σ H,∀E:bn,E.rt=D.rt->(∀M a b,M < m->W M a b->E.nx a b)->∀F:Bool->Hp->Prop,(∀b,T E σ b->F true b)->(∀b,D.nx σ b->F false b)->∀G:Prop,(c σ H F->G)->W m σ H->G):sH c T D σ H:=by
 refine#[W,#[d,e],λm σ H w=>?_]
 refine f m σ H { D with nx:=λa b=>∃M,M < m/\W M a b,ct:=λa b=>∃M,M < m/\W M a b,bk:=D.nx } Z (λM a b l g=>#[M,l,g]) _ (λb x=>?_) (λb x=>?_) _ (λz=>z) w
 ·show if true=true then _ else _
  rw[Er Z]
  exact#[_,λ_ _ h=>h,x]
 ·show if false=true then _ else _
  rw[Ew Ln];exact x
noncomputable def nZ(J:It)(g:TG)(T:TS)(D:bn)(σ:St)(H:Hp):Prop:=∃W:Nat->Nat->St->Hp->Prop,(∃m,W 0 m σ H)/\∀i m σ H,W i m σ H->
 (J.stop i H/\D.nx σ H)∨(J.go i H/\∃N:St->Hp->Prop,(∀a h,N a h->∃M,M < m/\W (i+1) M a h)/\∀x h,J.yld i H x h->g x σ h λb c=>T { D with nx:=N,ct:=N,bk:=D.nx } b c)
theorem eO{w:TI}(h:∀F:It->Hp->Prop,(∀J a,nZ J g T D σ a->F J a)->w σ H F):Ac w g T D σ H:=h _ λ_ _ z=>z
theorem D5{g:TG}{Q:St->Hp->Prop}(h:∀F:St->Hp->Prop,(∀a b,Q a b->F a b)->g x σ H F):g x σ H Q:=h _ λ_ _ z=>z
theorem zL{lo:Int}{g:TG}{T:TS}{D:bn}{σ:St}{H:Hp}(Pv:Nat->St->Hp->Prop)(d:Pv 0 σ H)
  (e:∀E:bn,E.rt=D.rt->∀i σ H,i < n->(∀a c,Pv (i+1) a c->E.nx a c)->∀G:Prop,((g (.int (lo+i)) σ H λb f=>T E b f)->G)->Pv i σ H->G) (j:∀σ H,Pv n σ H->D.nx σ H):nZ (tI lo n) g T D σ H:=
 KZ Pv d (λi σ H k p=>e { D with nx:=Pv (i+1),ct:=Pv (i+1),bk:=D.nx } Z i σ H k (λ_ _ h=>h) _ (λz=>z) p) j
theorem Qk{K:Frag}{a:Addr}{xs:List V}{g:TG}{T:TS}{D:bn}{σ:St}{H:Hp}(Pv:Nat->St->Hp->Prop)(e:Pv 0 σ H)(f:∀i σ H,i<=xs.length->Pv i σ H->aF K H a xs)
  (j:∀E:bn,E.rt=D.rt->∀i x σ H,xs[i]?=some x->(∀b d,Pv (i+1) b d->E.nx b d)->∀G:Prop,((g x σ H λc k=>T E c k)->G)->Pv i σ H->G) (l:∀σ H,Pv xs.length σ H->D.nx σ H):nZ (vW K a) g T D σ H:=
 oH Pv e f (λi x σ H m p=>j { D with nx:=Pv (i+1),ct:=Pv (i+1),bk:=D.nx } Z i x σ H m (λ_ _ h=>h) _ (λz=>z) p) l
theorem qu{K:Frag}{a:Addr}{xs:List V}{g:TG}{T:TS}{D:bn}{σ:St}{H:Hp}(Pv:Nat->St->Hp->Prop)(e:Pv 0 σ H)(f:∀i σ H,i<=xs.length->Pv i σ H->ar K H a xs)
  (j:∀E:bn,E.rt=D.rt->∀i x σ H,xs[i]?=some x->(∀b d,Pv (i+1) b d->E.nx b d)->∀G:Prop,((g x σ H λc k=>T E c k)->G)->Pv i σ H->G) (l:∀σ H,Pv xs.length σ H->D.nx σ H):nZ (sW K a) g T D σ H:=
 ua Pv e f (λi x σ H m p=>j { D with nx:=Pv (i+1),ct:=Pv (i+1),bk:=D.nx } Z i x σ H m (λ_ _ h=>h) _ (λz=>z) p) l
end
end _L
namespace _L
open PySem PySem.Spec PyProof.Rows PySem.SeqAt
inductive Tr where
 |lf (v:V) |tp (l:Tr) |nil |cons (h t:Tr)
noncomputable def Tr.dep:Tr->Nat
 | .lf _=>0
 | .tp l=>l.dep+1
 | .nil=>0
 | .cons h t=>max h.dep t.dep
noncomputable def Tr.isL:Tr->Bool
 | .nil=>true
 | .cons _ _=>true
 |_=>false
noncomputable def C6:V->Bool
 | .byt _=>false
 | .flt _=>false
 |_=>true
noncomputable def lh(K:Frag)(H:Hp):Tr->V->List V->Prop
 | .lf v,x,_=>x=v/\C6 v=true
 | .tp l,x,_=>l.isL=true/\∃a X,x= .ref a/\ar K H a X/\lh K H l .non X
 | .nil,_,X=>X=[]
 | .cons h t,_,X=>h.isL=false/\t.isL=true/\∃y Y,X=y::Y/\lh K H h y []/\lh K H t .non Y
theorem Zn(o:C6 v=true)(r:aB v u)(R:aB v U):EqAt A s u U true:=by
 cases v with
 |int a=>
  obtain⟨t,rfl⟩:=r
  obtain⟨T,rfl⟩:=R
  have:=EqAt.int_int (A:=A) (s:=s) a t a T
  rwa [Hm]at this
 |str a=>
  obtain⟨t,rfl⟩:=r
  obtain⟨T,rfl⟩:=R
  have:=EqAt.str_str (A:=A) (s:=s) a t a T
  rwa [Hm]at this
 |byt b=>cases o
 |flt b=>cases o
 |non=>cases r;cases R;exact EqAt.same _
 |bl b=>cases r;cases R;exact EqAt.same _
 |ref b=>cases r;cases R;exact EqAt.same _
 |ty b=>cases r;cases R;exact EqAt.same _
section
variable {X:Cx}
theorem Zo:(List.range n).all (λ_=>true)=true:=by simp
theorem Yx(I:ao X p D H s){A:Around}(k:ar X.K H a d)(l:ar X.K H b Y)(m:d.length=Y.length)(n:A.units < cLine)
  (h:∀(j:Nat) (x y:V) (u v:Value),d[j]?=some x->Y[j]?=some y->aB x u->aB y v->EqAt A.in1 s u v true):RcAt A s (.ref a) (.ref b) true:=by
 obtain⟨i,r,P,_⟩:=I.tuple k
 obtain⟨f,R,o,_⟩:=I.tuple l
 have:=RcAt.tuples (A:=A) (e:=λ_=>true) (show s.heap.IsTuple a i.toArray from P) (show s.heap.IsTuple b f.toArray from o) n (λj q F=>?_)
 ·rw[Zo,Ej,Ej,<- r.length,<- R.length,m,Hm]at this
  exact this
 ·have L:=r.length
  have G:=R.length
  have g:j < d.length:=by simp at q;omega
  have c:j < Y.length:=by omega
  obtain⟨U,Q,t⟩:=r.get (Ed g)
  obtain⟨w,z,B⟩:=R.get (Ed c)
  have E:i.toArray[j]=U:=by
   obtain⟨_,e⟩:=List.getElem?_eq_some_iff.mp Q
   simpa using e
  have C:f.toArray[j]=w:=by
   obtain⟨_,e⟩:=List.getElem?_eq_some_iff.mp z
   simpa using e
  rw[E,C]
  exact h j _ _ _ _ (Ed g) (Ed c) t B
theorem BX(I:ao X p U H s):∀(t:Tr) {A:Around},A.units+t.dep < cLine->∀{x y:V} {c Y:List V},lh X.K H t x c->lh X.K H t y Y->
  (t.isL=false->∀u v,aB x u->aB y v->EqAt A s u v true)/\(t.isL=true->c.length=Y.length/\∀(j:Nat) (d f:V) (u v:Value),c[j]?=some d->Y[j]?=some f->aB d u->aB f v->EqAt A s u v true):=by
 intro t
 induction t with
 |lf w=>
  rintro A g x y c Y ⟨rfl,O⟩ ⟨rfl,_⟩
  exact#[λ_ u v r R=>Zn O r R,λh=>by cases h]
 |tp l q=>
  rintro A g x y c Y ⟨z,a,W,rfl,B,T⟩ ⟨_,b,bs,rfl,C,D⟩
  refine#[λ_ u v r R=>?_,λh=>by cases h]
  cases r
  cases R
  have E:A.units+(l.dep+1) < cLine:=g
  have i:=(q (A:=A.in1) (by show A.units+1+l.dep < cLine;omega) T D).2 z
  by_cases e:a=b
  ·rw[e];exact EqAt.same _
  ·exact EqAt.of_refs e (Yx I B C i.1 Lo i.2)
 |nil=>
  rintro A g x y c Y rfl rfl
  exact#[(λh=>by cases h),λ_=>#[Z,λj d f u v h=>by simp at h]]
 |cons h t k m=>
  rintro A g x y c Y ⟨F,G,x1,J,rfl,P,L⟩ ⟨_,_,y1,M,rfl,Q,N⟩
  have E:A.units+max h.dep t.dep < cLine:=g
  have S:=(k (A:=A) Lo P Q).1 F
  have i:=(m (A:=A) Lo L N).2 G
  refine#[(λh=>by cases h),λ_=>#[by rw[EM,EM,i.1],λj d f u v n o=>?_]]
  cases j with
  |zero=>cases n;cases o;exact S u v
  |succ j=>exact i.2 j d f u v (by simpa using n) (by simpa using o)
noncomputable def pT(K:Frag)(d:Nat)(b:Bool):R2:=λx y H Q=>∃l:Tr,l.dep < d/\lh K H (.tp l) x []/\lh K H (.tp l) y []/\Q (.bl b) H
theorem Yy{d:Nat}(i:X.A.units+d < cLine):eJ X (compareOp .Eq) (pT X.K d true):=by
 intro p s j H x y v u Q I r R h
 obtain⟨l,k,⟨e,a,m,rfl,f,t⟩,⟨_,b,B,rfl,g,T⟩,q⟩:=h
 cases r
 cases R
 have c:=(BX I l (A:=X.A.in1) (by show X.A.units+1+l.dep < cLine;omega) t T).2 e
 exact Yx I f g c.1 Lo c.2 X.prog X.w _ _ #[.bl true,H,I,Z,q]
end
end _L
namespace _L
open PySem PySem.Spec PyProof.Rows
noncomputable def CG(K:Frag)(a:Addr)(n:Nat):It:=
 #[λi H=>∃X x,ar K H a X/\X.length=n/\X.reverse[i]?=some x,λi H x h=>h=H/\∀X,ar K H a X->X.reverse[i]?=some x,λi H=>∃X,ar K H a X/\X.length=n/\i=n]
theorem sJ{P:Program}{K:Frag}(a f:Addr)(n:Nat):lS P w K tg (CG K a n) [f] f (λi h=>du h f a ((n:Int) - 1 - i)) where
 mem:=by simp
 obj:=λi h st b j=>by
  have e:b=f:=by simpa using j
  subst e
  obtain⟨o,e,c,d⟩:=st
  exact#[o,e,λv z=>by rw[d]at z;cases z]
 keep:=λi h q st k=>st.at λo e=>k f Lp o e
 item:=by
  intro X y A B O i g s Q H E I t st C
  subst y A B
  obtain⟨l,x,D,T,m⟩:=C
  obtain⟨r,R,p,hz⟩:=I.tuple D
  have hl:=R.length
  have U:=dP
  have V:i < l.length:=by
   rcases HP i l.length with z |z
   ·exact z
   ·rw[Fp (by simpa using z)]at m;cases m
  have F:l[l.length - 1 - i]?=some x:=by rw[Hl V]at m;exact m
  obtain⟨u,W,Y⟩:=R.get F
  obtain⟨G,J,f2,L,M,N⟩:=t f Lp
  have e:((n:Int) - 1 - i)=((l.length - 1 - i:Nat):Int):=by omega
  rw[e]at st
  refine Be (items:=r.toArray) st (show IsTup s.heap a r.toArray from p) (x:=u) (by simpa using W) (by simp only[Ej];omega) λq S sb=>?_
  have I1:ao X g Q H { s with heap:=q,toks:=s.toks+1 }:=I.turned (t':=s.toks+1) (λb o j e=>(sb.2 b j).trans e) G J L M N
  obtain⟨o,e',c,d⟩:=id S
  refine#[u,Z,Yh (s:={ s with heap:=q,toks:=s.toks+1 }) e' c d Ln #[x,H,I1,Y,#[Z,λys hy=>by rw[I.tuple_inj hy D];exact m],?_,λb j=>(t b j).1]]
  have e2:((n:Int) - 1 - ((i+1:Nat):Int))=((l.length - 1 - i:Nat):Int) - 1:=by omega
  show du q f a ((n:Int) - 1 - ((i+1:Nat):Int))
  rw[e2];exact S
 done:=by
  intro X y A B O i g s Q H E I t st C
  subst y A B
  obtain⟨l,D,T,m⟩:=C
  obtain⟨G,J,f2,L,M,N⟩:=t f Lp
  have e:((n:Int) - 1 - (i:Int))= -1:=by omega
  rw[e]at st
  exact Zm (I.ok.hd O) st λq eb=>#[Z,I.turned (t':=s.toks) (λb o j e=>eb b o j e) G J L M N]
 self:=λ_ _ _ _ _ st h=>wt st h
section
variable {X:Cx}{tg:Expr}
noncomputable def C0(K:Frag)(t:TE):TI:=λc H R=>t c H λx h=>∃a b,x= .ref a/\ar K h a b/\R (CG K a b.length) h
theorem Z4{e:Expr}{t:TE}{c:Str}{p P:Pos}(j:Gl X c)(k:X.mg c=none)(l:bootBuiltins c=some (.type "reversed"))(y:PE X e t)(m:c≠"__name__":=by decide)(n:(c==("__debug__":Str))=false:=by decide)
  (r:starEach [e] X.env=(false,eval e X.env)::starEach [] X.env:=by rfl) (A:(backTo P (starEach [] X.env)).any (·.1)=false:=by rfl):PI X tg (.Call (.Name c p) [e] [] P) (C0 X.K t):=by
 intro d s B H R I h
 refine Fm (zN I j k l ?_ m n)
 refine Ff ?_ r A
 rw[r]
 show wpAny _ _ (spliced ((false,eval e X.env)::backTo P (starEach [] X.env))) _ _ s
 refine Gp (aO (y d s B H _ I h) λu S z=>?_)
 obtain⟨x,C,g,D,a,v,E,F,q⟩:=z
 subst E
 cases (show u=Value.ref a from D)
 obtain⟨i,G,J,N⟩:=g.tuple F
 have f:=G.length
 have L:=dP
 refine GS (oj (show IsTup S.heap a i.toArray from J) (by simp only[Ej];omega) ?_)
 have w:du (S.heap.push (revObj a i.toArray.size)) S.heap.objs.size a ((v.length:Int) - 1 - ((0:Nat):Int)):=#[_,El _ Z,Z,by rw[Ej,<- f];simp [revObj]]
 refine wt (s:={ S with heap:=S.heap.push (revObj a i.toArray.size),toks:=S.toks+1+1 }) w ?_
 refine#[S.heap.objs.size,[S.heap.objs.size],_,_,C,Z,g.kept (t':=S.toks+1+1) λb o e=>Eg _ e,sJ a _ v.length,w,λb M=>?_,q]
 have e:b=S.heap.objs.size:=by simpa using M
 subst e
 exact g.fpOk (Eh _) (g.hok.fresh (Eh _))
end
theorem Q3{K:Frag}{xs:List V}{g:TG}{t:TS}{D:bn}(Pv:Nat->St->Hp->Prop)(k:Pv 0 b H)(l:∀i b H,i<=xs.length->Pv i b H->ar K H a xs)
  (n:∀E:bn,E.rt=D.rt->∀i x b H,xs.reverse[i]?=some x->(∀c f,Pv (i+1) c f->E.nx c f)->∀G:Prop,((g x b H λj o=>t E j o)->G)->Pv i b H->G) (r:∀b H,Pv xs.length b H->D.nx b H):nZ (CG K a xs.length) g t D b H:=by
 refine#[λi m b H=>m=xs.length - i/\i<=xs.length/\Pv i b H,#[xs.length,Lp,Eu _,k],?_]
 rintro i m b H ⟨rfl,s,p⟩
 have q:=l i b H s p
 by_cases d:i < xs.length
 ·refine .inr #[#[xs,_,q,Z,Ed (by simpa using d)],Pv (i+1),λc f P=>#[xs.length - (i+1),Lo,Z,d,P],λx f y=>?_]
  obtain⟨e,y⟩:=y
  subst e
  exact n { D with nx:=Pv (i+1),ct:=Pv (i+1),bk:=D.nx } Z i x b _ (y xs q) (λ_ _ h=>h) _ (λz=>z) p
 ·have e:i=xs.length:=by omega
  subst e
  exact .inl #[#[xs,q,Z,Z],r b H p]
theorem r9:Slot "list_reverseiterator" "__length_hint__" "list_reverseiterator.__length_hint__":=by
 refine Slot.of (owner:="list_reverseiterator") (n:="__length_hint__") (by rw[FI,Fb];kernel_rfl) Lq Lq Lq ?_ (by rw[FX];kernel_rfl)
 first |exact .inl Lq |exact .inr Lq
theorem Zp:typeLookup (.type "list_reverseiterator") "__len__"=pure none:=by rw[FI,Fb];kernel_rfl
theorem y8:isSubtype (.type "list_reverseiterator") (.type "list_reverseiterator")=pure true:=by rw[FX];kernel_rfl
section
variable {prog:Program}{w:World}{A:Around}{E:Value->Shared->Prop}{s:Shared}
theorem xC(H:s.heap.IsRevIter I t k){Q:Bool->Shared->Prop}(h:Q false s):wpAny (model prog w) A (Builtin.List.listLengthHint (.ref I)) Q E s:=by
 unfold Builtin.List.listLengthHint
 refine Ec (F' H.typeIs Zp ?_)
 show wpAny _ A (specialOf (Value.ref I) (Str.ofString "__length_hint__") >>= _) _ _ _
 refine Ec (F' H.typeIs r9.lookup ?_)
 have e:splitId "list_reverseiterator.__length_hint__"=some ("list_reverseiterator","__length_hint__"):=by decide+kernel
 dsimp only
 rw[e]
 dsimp only
 refine Ec (Gx (b:=true) H.typeIs y8 ?_)
 simp only[GV,Ep,Fy]
 rw[Er Lq,Ew Lq]
 exact Ee h
theorem nM{a:Array Value}{Q:List Value->Shared->Prop}(z:A.handled=none)(f:s.heap.IsRevIter I t ((a.size:Int) - 1))(r:s.heap.IsList t a)(B:t≠I)(C:a.size<=sizeLine)
  (D:∀S,(∀b o,b≠I->s.heap.get? b=some o->S.heap.get? b=some o)->s.heap.objs.size<=S.heap.objs.size->S.gens=s.gens->S.os=s.os->Q a.toList.reverse S):wpAny (model prog w) A (collect (.ref I)) Q E s:=by
 have j:I < s.heap.objs.size:=by obtain⟨o,k,_⟩:=f;exact Ek k
 have n:t < s.heap.objs.size:=by obtain⟨o,k,_⟩:=r;exact Ek k
 have u:I≠s.heap.objs.size:=En j
 have F:t≠s.heap.objs.size:=En n
 unfold collect
 refine Ec (wpAny_runValue (FJ IV (by
  rw[Fk IU _]
  show wpAny _ A.in1 (newList [] >>= λl=>again (.builtin "list.__iadd__" #[[l,.ref I],[]])) _ _ s
  refine Ec (EY (Ee #[Gw G8 _,FJ Li ?_]))
  rw[Fk G8 _]
  generalize v:s.heap.push { cls:=.type "list",data:=.seq ([]:List Value).toArray }=H
  have J:H.get? s.heap.objs.size=some { cls:=.type "list",data:=.seq (List.toArray []) }:=by rw[<- v];exact El _ Z
  have G:∀b o,s.heap.get? b=some o->H.get? b=some o:=λb o e=>by rw[<- v];exact Eg _ e
  have h:H.IsRevIter I t ((a.size:Int) - 1):=f.at λo e=>G I o e
  have p:H.IsList t a:=r.at λo e=>G t o e
  show wpAny _ A.in1 (Builtin.List.listExtendWith (.ref s.heap.objs.size) (.ref I) (.ref s.heap.objs.size)) _ _ { s with heap:=H }
  unfold Builtin.List.listExtendWith
  refine Ec (Gf (s:={ s with heap:=H }) h.typeIs ?_)
  have K:Builtin.List.listSameRef (.ref s.heap.objs.size) (.ref I)=false:=by
   simp only[Builtin.List.listSameRef,beq_eq_false_iff_ne]
   exact ES u
  have L:(Value.type "list_reverseiterator"==Value.type "list")=false:=by decide
  have M:(Value.type "list_reverseiterator"==Value.type "tuple")=false:=by decide
  simp only[K,L,M,Lg,Ep,Fy]
  refine Ec (wpAny_pyIter_revIter (s:={ s with heap:=H }) h (Ec (EG (xC (s:={ s with heap:=H }) h ?_))))
  have N:¬s.heap.objs.size∈[I,t]:=by simp only[Gr,EL,Hq,not_or];exact#[ES u,ES F]
  rw[Ew Lq]
  refine Ee #[Gw I9 _,?_]
  have W:=(Walks.listRev (prog:=prog) (w:=w) (A:=A.in1) (by simpa using z) I t B a).toS
  refine codeAny_extend_loopS W C _ N _ a.size 0 _ (List.toArray []) _ Z (Eu _) #[Eu _,by simpa using h,p] J (ItemsOf.nil _) λS d U m x c=>?_
  have O:d=a.toList.reverse.toArray:=by
   apply Array.ext'
   refine List.ext_getElem? λi=>?_
   by_cases y:i < a.size
   ·have g:i < d.size:=by rw[c.1];exact y
    have q:=c.2 i d[i] (by simp [g])
    rw[Ge,Gh g,<- q]
    show a[a.size - 1 - i]?=a.toList.reverse[i]?
    rw[Hl (by simpa using y)]
    simp
   ·rw[Fp (by rw[EC,c.1];omega),Fp (by simp;omega)]
  subst O
  show wpAny _ A (load s.heap.objs.size >>= _) _ _ S
  refine Ec (wpAny_load x (Ee ?_))
  have P:a.toList.reverse.toArray.toList=a.toList.reverse:=by simp
  rw[P]
  refine D S (λb o R e=>?_) ?_ m.gens m.os
  ·have T:b≠s.heap.objs.size:=En (Ek e)
   exact m.heap b o (by simp only[Gr,EL,Hq,not_or];exact#[T,R]) (G b o e)
  ·exact GP (Ek x))))
end
section
variable {prog:Program}{w:World}{A:Around}{E:Value->Shared->Prop}{s:Shared}
theorem QO{i:Array Value}{Q:Value->Shared->Prop}(f:A.handled=none)(H:s.heap.IsRevIter I t ((i.size:Int) - 1))(g:s.heap.IsList t i)(j:t≠I)(d:i.size<=sizeLine)
  (h:∀S:Shared,(∀b o,b≠I->s.heap.get? b=some o->S.heap.get? b=some o)->s.heap.objs.size<=S.heap.objs.size->S.gens=s.gens->S.os=s.os->
   Q (.ref S.heap.objs.size) { S with heap:=S.heap.push { cls:=.type "tuple",data:=.seq i.toList.reverse.toArray } }):
  codeAny (model prog w) A (.call (.builtin "tuple.__new__") #[[.type "tuple",.ref I],[]]) (wants Q E) s:=by
 refine codeAny_of_tree (show wpAny _ A.in1 (do checkBuiltinCall "tuple.__new__" #[[.type "tuple",.ref I],[]];again (.builtin "tuple.__new__" #[[.type "tuple",.ref I],[]])) _ _ s from ?_)
 refine Ec (Iw (PySem.F.newCall_tuple_1 _) (Ee #[Gw Lh _,FJ PySem.F.entry_tuple_new (by
  rw[Fk Lh _]
  have e:=sub_tuple_self
  have a:=init_tuple_lookup
  have l:=madeHere_tuple
  have c:=H.typeIs
  wp_walk using Gf c,nM (by simpa using f) H g j d
  intro S k z m n
  show wpAny _ _ (Builtin.Tuple.tupleExact i.toList.reverse.toArray >>= λv=>ret v) _ _ _
  unfold Builtin.Tuple.tupleExact
  exact Ec (EY (Ee (h S k z m n)) (by show i.toList.reverse.toArray.size<=sizeLine;simpa using d)))]))
theorem QP{items:Array Value}{Q:Value->Shared->Prop}(d:A.handled=none)(c:s.heap.IsRevIter I t ((items.size:Int) - 1))(e:s.heap.IsList t items)(f:t≠I)(g:items.size<=sizeLine)
  (h:∀a:Shared,(∀b o,b≠I->s.heap.get? b=some o->a.heap.get? b=some o)->s.heap.objs.size<=a.heap.objs.size->a.gens=s.gens->a.os=s.os->
   Q (.ref a.heap.objs.size) { a with heap:=a.heap.push { cls:=.type "tuple",data:=.seq items.toList.reverse.toArray } }):wpAny (model prog w) A (call (.type "tuple") [.ref I]) Q E s:=by
 refine callType_codes (Q₁:=λO S=>S.TypeIs O "tuple"/\Q O S) PySem.F.called_tuple (PySem.F.typeCall_tuple_1 _) PySem.F.entry_object_init (QO (by simpa using d) c e f g λa k z i j=>#[#[_,El _ Z,Z],h a k z i j]) λO S H=>?_
 exact#[H.1,I0 O _,object_init_meets PySem.F.called_tuple.init.lookup PySem.F.called_tuple.made Ln prog w A.in1 _ S #[H.1,Z,H.2]]
end
section
variable {X:Cx}{e:Expr}{te:TE}{xl xr:Str}{p p2 pos pos2:Pos}
noncomputable def vK(K:Frag)(te:TE):TE:=λc H Q=>te c H λx h=>∃a b,x= .ref a/\aF K h a b/\∀l,h l=none->Q (.ref l) (ah h l (.tup b.reverse))
theorem Zq(M:X.calm=true)(g:Gl X xl)(j:X.mg xl=none)(l:bootBuiltins xl=some (.type "tuple"))(m:Gl X xr)(n:X.mg xr=none)(r:bootBuiltins xr=some (.type "reversed"))(O:PE X e te)
  (t:xl≠"__name__":=by decide) (v:(xl==("__debug__":Str))=false:=by decide) (y:xr≠"__name__":=by decide) (A:(xr==("__debug__":Str))=false:=by decide)
  (E:starEach [.Call (.Name xr p2) [e] [] pos2] X.env=(false,eval (.Call (.Name xr p2) [e] [] pos2) X.env)::starEach [] X.env:=by rfl) (T:(backTo pos (starEach [] X.env)).any (·.1)=false:=by rfl)
  (F:starEach [e] X.env=(false,eval e X.env)::starEach [] X.env:=by rfl) (U:(backTo pos2 (starEach [] X.env)).any (·.1)=false:=by rfl):
  PE X (.Call (.Name xl p) [.Call (.Name xr p2) [e] [] pos2] [] pos) (vK X.K te):=by
 intro P s V H Q I h
 refine Fm (zN I g j l ?_ t v)
 refine Ff ?_ E T
 rw[E]
 show wpAny _ _ (spliced ((false,eval (.Call (.Name xr p2) [e] [] pos2) X.env)::backTo pos (starEach [] X.env))) _ _ s
 refine Gp ?_
 refine Fm (zN I m n r ?_ y A)
 refine Ff ?_ F U
 rw[F]
 show wpAny _ _ (spliced ((false,eval e X.env)::backTo pos2 (starEach [] X.env))) _ _ s
 refine Gp (aO (O P s V H _ I h) λu d B=>?_)
 obtain⟨x,W,f,Y,a,G,ex,hq,q⟩:=B
 subst ex
 cases (show u=Value.ref a from Y)
 obtain⟨i,R,C,hz⟩:=f.list hq
 have J:=R.length
 refine GS (call_reversed_list C.isList (GS ?_))
 have D:a < d.heap.objs.size:=by obtain⟨o,ho,_⟩:=C.isList;exact Ek ho
 refine QP (s:={ d with heap:=d.heap.push (PySem.revObj a ((i.toArray.size:Int) - 1)) }) (items:=i.toArray) (I.ok.hd M) #[_,El _ Z,Z,Z] (C.isList.at λo e=>Eg _ e) (En D)
  (by simp only[Ej];omega) λS k hl kg ko=>?_
 have c:d.heap.objs.size<=S.heap.objs.size:=Es (by show _<=(d.heap.push _).objs.size;rw[Fh];exact Gm _) hl
 have L:∀b o,d.heap.get? b=some o->(S.heap.push { cls:=.type "tuple",data:=.seq i.toArray.toList.reverse.toArray }).get? b=some o:=λb o e=>Eg _ (k b o (En (Ek e)) (Eg _ e))
 have hg:(S.heap.push { cls:=.type "tuple",data:=.seq i.toArray.toList.reverse.toArray }).get? S.heap.objs.size=some { cls:=.type "tuple",data:=.seq i.toArray.toList.reverse.toArray }:=El _ Z
 have N:aJ X.prog X.w (ah W S.heap.objs.size (.tup G.reverse)) (S.heap.push { cls:=.type "tuple",data:=.seq i.toArray.toList.reverse.toArray }) S.heap.objs.size (.tup G.reverse):=by
  refine#[by rw[List.length_reverse];exact hz,i.reverse,ay.reverse R,?_]
  have ee:i.toArray.toList.reverse.toArray=i.reverse.toArray:=by simp
  rw[<- ee]
  exact#[_,hg,Z,_,Z]
 exact#[.ref S.heap.objs.size,_,f.call' (ch:=[]) ko (Un.laid L c (f.hok.fresh c)) (f.hok.laid L c N) (by show AllBare S.gens;rw[kg];exact f.bare) (λ_ z=>nomatch z),Z,q _ (f.hok.fresh c)]
end
section
variable {prog:Program}{w:World}{A:Around}{E:Value->Shared->Prop}{s:Shared}
theorem X4{Q:Value->Shared->Prop}(a:s.heap.IsTupleIter J T i)(e:s.heap.IsTuple T I)(f:I[i]?=some x)
  (q:∀b,b.IsTupleIter J T (i+1)->Heap.SameBut J s.heap b->Q x { s with heap:=b }):wpAny (model prog w) A (Builtin.SmallTypes.nextOf (.ref J)) Q E s:=by
 obtain⟨o,H,g,h⟩:=id a
 obtain⟨O,c,_,n,d⟩:=e
 unfold Builtin.SmallTypes.nextOf
 refine Ec (EV (name:=Str.ofString "__next__") a.typeIs Gk (EX Gk a.typeIs Iv (show wpAny _ _ (field (.ref J) 0 >>= _) _ _ s from ?_) (Ir _)))
 refine Ec (EJ H h (x:=.ref T) Z (show wpAny _ _ (if (Value.ref T==Value.none)=true then _ else _) _ _ s from ?_))
 rw[Ew (show ¬((Value.ref T==Value.none)=true) from Em)]
 refine(show wpAny _ _ (field (.ref J) 1 >>= _) _ _ s from Ec (EJ H h (x:=.int i 0) Z (show wpAny _ _ (seqItems? (.ref T) >>= _) _ _ s from Ec (Fq c d ?_))))
 simp only[Fs,f]
 refine Ec (Fg H h Lp (Ee #[x,Z,Ee (q _ #[_,ET _ H (Fv (ER h _)),(Ho ..).trans g,by rw[ER h];simp [rawInt]] (Gc ..))]))
theorem Zr(g:A.handled=none)(H:s.heap.IsTupleIter J T i)(j:s.heap.IsTuple T I)(l:I[i]?=none)
  (q:∀h e,Heap.ExtBut J s.heap h->Shared.TypeIs { s with heap:=h } e "StopIteration"->E e { s with heap:=h }):wpAny (model prog w) A (Builtin.SmallTypes.nextOf (.ref J)) Q E s:=by
 obtain⟨o,a,p,c⟩:=id H
 obtain⟨O,d,_,N,f⟩:=j
 unfold Builtin.SmallTypes.nextOf
 refine Ec (EV (name:=Str.ofString "__next__") H.typeIs Gk (EX Gk H.typeIs Iv (show wpAny _ _ (field (.ref J) 0 >>= _) _ _ s from ?_) (Ir _)))
 refine Ec (EJ a c (x:=.ref T) Z (show wpAny _ _ (if (Value.ref T==Value.none)=true then _ else _) _ _ s from ?_))
 rw[Ew (show ¬((Value.ref T==Value.none)=true) from Em)]
 refine(show wpAny _ _ (field (.ref J) 1 >>= _) _ _ s from Ec (EJ a c (x:=.int i 0) Z (show wpAny _ _ (seqItems? (.ref T) >>= _) _ _ s from Ec (Fq d f ?_))))
 simp only[Fs,l]
 refine Ec (Gv (Ec (Fg a c Lp ?_)))
 refine JU (by simpa using g) λh e k t=>q h e (λb o m n=>k b o ?_) t
 exact(Ey _ _ (ES m)).trans n
end
noncomputable def fh(b:Bool)(h:Heap)(i l:Addr)(k:Nat):Prop:=match b with
 |true=>h.IsListIter i l k
 |false=>h.IsTupleIter i l k
noncomputable def gw(b:Bool)(h:Heap)(l:Addr)(x:Array Value):Prop:=match b with
 |true=>h.IsList l x
 |false=>h.IsTuple l x
noncomputable def eP:Bool->String
 |true=>"list_iterator"
 |false=>"tuple_iterator"
theorem fh.kp{b:Bool}{H:Heap}(x:fh b h i l k)(e:∀o,h.get? i=some o->H.get? i=some o):fh b H i l k:=by
 cases b
 ·exact Heap.IsTupleIter.at x e
 ·obtain⟨o,a,r⟩:=x;exact#[o,e o a,r]
theorem gw.kp{b:Bool}{H:Heap}(x:gw b h l a)(e:∀o,h.get? l=some o->H.get? l=some o):gw b H l a:=by
 cases b
 ·obtain⟨o,c,r⟩:=x;exact#[o,e o c,r]
 ·exact Heap.IsList.at x e
theorem fh.ob(x:fh b h i l k):∃o,h.get? i=some o/\o.cls= .type (eP b)/\∀v,o.data≠ .cell v:=by
 cases b
 ·obtain⟨o,H,c,d⟩:=x;exact#[o,H,c,λv z=>by rw[d]at z;cases z]
 ·obtain⟨o,H,c,d⟩:=x;exact#[o,H,c,λv z=>by rw[d]at z;cases z]
section
variable {prog:Program}{w:World}{A:Around}{E:Value->Shared->Prop}{s:Shared}
theorem qd{Q:Value->Shared->Prop}(H:fh b s.heap J T i)(a:gw b s.heap T I)(c:I[i]?=some x)
  (q:∀h,fh b h J T (i+1)->Heap.SameBut J s.heap h->Q x { s with heap:=h }):wpAny (model prog w) A (Builtin.SmallTypes.nextOf (.ref J)) Q E s:=by
 cases b
 ·exact X4 H a c q
 ·exact wpAny_nextOf_list_item H a c q
theorem Ql(H:A.handled=none)(a:fh b s.heap J T i)(c:gw b s.heap T I)(d:I[i]?=none)
  (q:∀h e,Heap.ExtBut J s.heap h->Shared.TypeIs { s with heap:=h } e "StopIteration"->E e { s with heap:=h }):wpAny (model prog w) A (Builtin.SmallTypes.nextOf (.ref J)) Q E s:=by
 cases b
 ·exact Zr H a c d q
 ·exact wpAny_nextOf_list_end H a c d λh e k #[o,f,g]=>q h (.ref e) k #[o,f,g]
theorem wu{Q:Value->Shared->Prop}(h:gw b s.heap T i)
  (q:Q (.ref s.heap.objs.size) { s with heap:=s.heap.push { cls:=.type (eP b),data:=.fields (List.toArray [.ref T,.int 0 0]) } }):wpAny (model prog w) A (pyIter (.ref T)) Q E s:=by
 cases b
 ·exact wpAny_pyIter_tuple h q
 ·exact Hn h q
structure tj(z u v c d a b:Addr):Prop where
 uz:u≠z
 vz:v≠z
 cz:c≠z
 dz:d≠z
 uv:u≠v
 uc:u≠c
 ud:u≠d
 vc:v≠c
 vd:v≠d
 cd:c≠d
 az:a≠z
 av:a≠v
 ac:a≠c
 ad:a≠d
 bz:b≠z
 bv:b≠v
 bc:b≠c
 bd:b≠d
theorem Yz{x y:Value}{Q:Option Value->Shared->Prop}(D:tj z u v c d a b)
  (H:IsZip s.heap z u v .none) (hu:IsPair s.heap u (.ref c) (.ref d)) (hv:IsPair s.heap v p q) (h1:fh B s.heap c a k) (h2:fh C s.heap d b k) (g1:gw B s.heap a xs) (g2:gw C s.heap b ys) (hx:xs[k]?=some x) (hy:ys[k]?=some y)
  (hQ:∀h,IsZip h z u v (rawInt s.heap.objs.size)->IsPair h v x y->fh B h c a (k+1)->fh C h d b (k+1)->IsPair h s.heap.objs.size x y->h.objs.size=s.heap.objs.size+1->
   (∀e o,e≠z->e≠v->e≠c->e≠d->s.heap.get? e=some o->h.get? e=some o)->Q (some (.ref s.heap.objs.size)) { s with heap:=h }):wpAny (model prog w) A (pyNext (.ref z)) Q E s:=by
 have W:s.TypeIs (.ref z) "zip":=#[_,H,Z]
 unfold pyNext
 refine Ec (He (EV (name:=Str.ofString "__next__") W FD (EX FD W Hh (show wpAny _ _ (field (.ref z) 2 >>= _) _ _ _ from ?_) (Hc _))))
 refine Ec (EJ H Z (x:=.bool false) Z (show wpAny _ _ (field (.ref z) 3 >>= _) _ _ _ from Ec (EJ H Z (x:=.ref u) Z (Ec (Fq hu Z ?_)))))
 refine(show wpAny _ _ (Builtin.SmallTypes.ownedTupleIsFree (.ref z) >>= _) _ _ _ from Ec ?_)
 unfold Builtin.SmallTypes.ownedTupleIsFree
 refine Ec (EJ H Z (x:=.none) Z (Ee ?_))
 simp only[Hf]
 refine Ec (Gv (Ec (EJ H Z (x:=.ref v) Z (Ec (GG H Lp λX F S=>?_)))))
 replace F:IsZip X z u v .ellipsis:=F
 refine Ec ?_
 simp only[List.zipIdx_cons,List.zipIdx_nil,FV,GL]
 refine Ec (Ec (wpAny_onRaise (show wpAny _ _ (Builtin.SmallTypes.nextOf (.ref c) >>= _) _ _ _ from ?_)))
 refine Ec (qd (s:={ s with heap:=X }) (h1.kp λo e=>S.extBut _ _ D.cz e) (g1.kp λo e=>S.extBut _ _ D.az e) hx λG i2 l=>Ee ?_)
 have Y:IsPair G v p q:=l.extBut _ _ D.vc (S.extBut _ _ D.vz hv)
 refine Ec (Fq (s:={ s with heap:=G }) Y Z (Ec (wpAny_updateSeq_pair (s:={ s with heap:=G }) Y λI J r=>?_)))
 replace J:IsPair I v x q:=J
 refine Ec (wpAny_letGo (Ee (Ec (Ec (wpAny_onRaise (show wpAny _ _ (Builtin.SmallTypes.nextOf (.ref d) >>= _) _ _ _ from ?_))))))
 have K:∀e o,e≠z->e≠c->e≠v->s.heap.get? e=some o->I.get? e=some o:=λe o N f g w=>r.extBut _ _ g (l.extBut _ _ f (S.extBut _ _ N w))
 refine Ec (qd (s:={ s with heap:=I }) (h2.kp λo e=>K _ _ D.dz D.cd.symm D.vd.symm e) (g2.kp λo e=>K _ _ D.bz D.bc D.bv e) hy λL i4 i=>Ee ?_)
 have v4:IsPair L v x q:=i.extBut _ _ D.vd J
 refine Ec (Fq (s:={ s with heap:=L }) v4 Z (Ec (wpAny_updateSeq_pair (s:={ s with heap:=L }) v4 λm V j=>?_)))
 replace V:IsPair m v x y:=V
 refine Ec (wpAny_letGo (Ee (Ee (Ec (Fq (s:={ s with heap:=m }) V Z (Ec (wpAny_newTuple ?_)))))))
 have e5:m.objs.size=s.heap.objs.size:=by rw[j.1,i.1,r.1,l.1,S.1]
 have k5:∀e o,e≠z->e≠v->e≠c->e≠d->s.heap.get? e=some o->m.get? e=some o:=λe o N f g O w=>j.extBut _ _ f (i.extBut _ _ O (K e o N g f w))
 have z5:IsZip m z u v .ellipsis:=j.extBut _ _ D.vz.symm (i.extBut _ _ D.dz.symm (r.extBut _ _ D.vz.symm (l.extBut _ _ D.cz.symm F)))
 have j1:fh B m c a (k+1):=i2.kp λo e=>j.extBut _ _ D.vc.symm (i.extBut _ _ D.cd (r.extBut _ _ D.vc.symm e))
 have j2:fh C m d b (k+1):=i4.kp λo e=>j.extBut _ _ D.vd.symm e
 have lz:z < m.objs.size:=Ek z5
 refine(show wpAny _ _ (Builtin.SmallTypes.ownedTupleHandOut (.ref z) (.ref m.objs.size) >>= _) _ _ _ from Ec ?_)
 unfold Builtin.SmallTypes.ownedTupleHandOut
 have z6:IsZip (m.push { cls:=.type "tuple",data:=.seq (List.toArray [x,y]) }) z u v .ellipsis:=Eg _ z5
 refine Ec (GG z6 Lp λm7 P R=>?_)
 replace P:IsZip m7 z u v (rawInt m.objs.size):=P
 refine GG P Lp λM t T=>?_
 replace t:IsZip M z u v (rawInt m.objs.size):=t
 have U:∀e o,e≠z->m.get? e=some o->M.get? e=some o:=λe o n w=>T.extBut _ _ n (R.extBut _ _ n (Eg _ w))
 have t8:IsPair M m.objs.size x y:=T.extBut _ _ (Fi lz) (R.extBut _ _ (Fi lz) (El _ Z))
 have e8:M.objs.size=m.objs.size+1:=by rw[T.1,R.1,Fh]
 rw[e5]at t t8 e8
 refine Ee #[_,Z,Ee ?_]
 show Q (some (.ref m.objs.size)) _
 rw[e5]
 exact hQ M t (U _ _ D.vz V) (j1.kp λo e=>U _ o D.cz e) (j2.kp λo e=>U _ o D.dz e) t8 e8 λe o N f g O w=>U e o N (k5 e o N f g O w)
theorem Z5{b2:Bool}{ys:Array Value}{p q:Value}{Q:Option Value->Shared->Prop}(C:A.handled=none)(D:tj z u v c d a b)
  (h:IsZip s.heap z u v .none) (F:IsPair s.heap u (.ref c) (.ref d)) (G:fh I s.heap c a k) (J:gw I s.heap a L) (K:L[k]?=none)
  (O:∀H,(∀e o,e≠z->e≠v->e≠c->e≠d->s.heap.get? e=some o->H.get? e=some o)->Q none { s with heap:=H }):wpAny (model prog w) A (pyNext (.ref z)) Q E s:=by
 have g:s.TypeIs (.ref z) "zip":=#[_,h,Z]
 unfold pyNext
 refine Ec (He (EV (name:=Str.ofString "__next__") g FD (EX FD g Hh (show wpAny _ _ (field (.ref z) 2 >>= _) _ _ _ from ?_) (Hc _))))
 refine Ec (EJ h Z (x:=.bool false) Z (show wpAny _ _ (field (.ref z) 3 >>= _) _ _ _ from Ec (EJ h Z (x:=.ref u) Z (Ec (Fq F Z ?_)))))
 refine(show wpAny _ _ (Builtin.SmallTypes.ownedTupleIsFree (.ref z) >>= _) _ _ _ from Ec ?_)
 unfold Builtin.SmallTypes.ownedTupleIsFree
 refine Ec (EJ h Z (x:=.none) Z (Ee ?_))
 simp only[Hf]
 refine Ec (Gv (Ec (EJ h Z (x:=.ref v) Z (Ec (GG h Lp λm f S=>?_)))))
 replace f:IsZip m z u v .ellipsis:=f
 refine Ec ?_
 simp only[List.zipIdx_cons,List.zipIdx_nil,FV,GL]
 refine Ec (Ec (wpAny_onRaise (show wpAny _ _ (Builtin.SmallTypes.nextOf (.ref c) >>= _) _ _ _ from ?_)))
 refine Ec (Ql (s:={ s with heap:=m }) (by simpa using C) (G.kp λo e=>S.extBut _ _ D.cz e) (J.kp λo e=>S.extBut _ _ D.az e) K λM e i j=>?_)
 have l:IsZip M z u v .ellipsis:=i _ _ D.cz.symm f
 refine GG (s:={ s with heap:=M }) l Lp λn U r=>?_
 have t:Shared.TypeIs { s with heap:=n } e "StopIteration":=by
  cases e with
  |ref x=>
   obtain⟨o,y,B⟩:=j
   have P:x≠z:=λw=>by
    subst w
    have:=y.symm.trans l
    cases this
    injection B with w
    exact absurd w Ln
   exact#[o,r.extBut _ _ P y,B]
  |_=>exact j
 exact Ec (Gx (T:="StopIteration") (b:=true) t IA (Ee (O n λe o N V R W w=>r.extBut _ _ N (i _ _ R (S.extBut _ _ N w)))))
theorem Z6{b1 b2:Bool}{xs ys:Array Value}{Q:Value->Shared->Prop}(J:gw b1 s.heap a xs)(L:gw b2 s.heap b ys)
  (h:∀H,IsZip H (s.heap.objs.size+4) (s.heap.objs.size+2) (s.heap.objs.size+3) .none->IsPair H (s.heap.objs.size+2) (.ref s.heap.objs.size) (.ref (s.heap.objs.size+1))->
   IsPair H (s.heap.objs.size+3) .none .none->fh b1 H s.heap.objs.size a 0->fh b2 H (s.heap.objs.size+1) b 0->(∀e o,s.heap.get? e=some o->H.get? e=some o)->Q (.ref (s.heap.objs.size+4)) { s with heap:=H }):
  wpAny (model prog w) A (call (.type "zip") [.ref a,.ref b]) Q E s:=by
 refine callType_new (S:=λ_ R c=>c=s/\R (.ok (.ret (.ref (s.heap.objs.size+4)))) { s with heap:=((((s.heap.push { cls:=.type (eP b1),data:=.fields (List.toArray [.ref a,.int 0 0]) }).push { cls:=.type (eP b2),data:=.fields (List.toArray [.ref b,.int 0 0]) }).push { cls:=.type "tuple",data:=.seq (List.toArray [.ref s.heap.objs.size,.ref (s.heap.objs.size+1)]) }).push { cls:=.type "tuple",data:=.seq (List.toArray [.none,.none]) }).push { cls:=.type "zip",data:=.fields (List.toArray [.none,.bool false,.bool false,.ref (s.heap.objs.size+2),.ref (s.heap.objs.size+3)]) } })
  PySem.F.called_zip Ln (PySem.F.typeCall_zip_2 _ _) (PySem.F.newCall_zip_2 _ _) (λO=>PySem.F.args_object_init_3 O _ _) PySem.F.entry_zip_new (.of_wp λp w' A' R c P=>?_) #[Z,?_]
 ·obtain⟨rfl,q⟩:=P
  obtain⟨r,g,D,t,os⟩:=c
  have u:=sub_zip
  have T:gw b1 (Shared.heap #[r,g,D,t,os]) a xs:=J
  have _L:gw b2 (Shared.heap #[r.push { cls:=.type (eP b1),data:=.fields (List.toArray [.ref a,.int 0 0]) },g,D,t,os]) b ys:=L.kp λo e=>Eg _ e
  wp_walk using wu T,wu _L
  refine#[_,Z,?_]
  simp only[Fh]at q ⊢
  exact q
 ·have z (h:Heap) (o:Obj):(h.push o).objs.size=h.objs.size+1:=Fh ..
  generalize d:s.heap.push { cls:=.type (eP b1),data:=.fields (List.toArray [.ref a,.int 0 0]) }=M
  generalize f:M.push { cls:=.type (eP b2),data:=.fields (List.toArray [.ref b,.int 0 0]) }=i
  generalize j:i.push { cls:=.type "tuple",data:=.seq (List.toArray [.ref s.heap.objs.size,.ref (s.heap.objs.size+1)]) }=k
  generalize l:k.push { cls:=.type "tuple",data:=.seq (List.toArray [.none,.none]) }=n
  generalize v:n.push { cls:=.type "zip",data:=.fields (List.toArray [.none,.bool false,.bool false,.ref (s.heap.objs.size+2),.ref (s.heap.objs.size+3)]) }=m
  have N:M.objs.size=s.heap.objs.size+1:=by rw[<- d,z]
  have x:i.objs.size=s.heap.objs.size+2:=by rw[<- f,z,N]
  have y:k.objs.size=s.heap.objs.size+3:=by rw[<- j,z,x]
  have U:n.objs.size=s.heap.objs.size+4:=by rw[<- l,z,y]
  have K:∀e o,n.get? e=some o->m.get? e=some o:=λe o w=>by rw[<- v];exact Eg _ w
  have B:∀e o,k.get? e=some o->m.get? e=some o:=λe o w=>K e o (by rw[<- l];exact Eg _ w)
  have C:∀e o,i.get? e=some o->m.get? e=some o:=λe o w=>B e o (by rw[<- j];exact Eg _ w)
  have G:∀e o,M.get? e=some o->m.get? e=some o:=λe o w=>C e o (by rw[<- f];exact Eg _ w)
  have V:∀e o,s.heap.get? e=some o->m.get? e=some o:=λe o w=>G e o (by rw[<- d];exact Eg _ w)
  have I:IsZip m (s.heap.objs.size+4) (s.heap.objs.size+2) (s.heap.objs.size+3) .none:=by rw[<- U,<- v];exact El _ Z
  have W:IsPair m (s.heap.objs.size+3) .none .none:=K _ _ (by rw[<- y,<- l];exact El _ Z)
  have X:IsPair m (s.heap.objs.size+2) (.ref s.heap.objs.size) (.ref (s.heap.objs.size+1)):=B _ _ (by rw[<- x,<- j];exact El _ Z)
  have Y:m.get? (s.heap.objs.size+1)=some { cls:=.type (eP b2),data:=.fields (List.toArray [.ref b,.int 0 0]) }:=C _ _ (by rw[<- N,<- f];exact El _ Z)
  have q1:m.get? s.heap.objs.size=some { cls:=.type (eP b1),data:=.fields (List.toArray [.ref a,.int 0 0]) }:=G _ _ (by rw[<- d];exact El _ Z)
  refine#[#[_,I,Z],h m I X W ?_ ?_ V]
  ·cases b1<;>exact#[_,q1,Z,Z]
  ·cases b2<;>exact#[_,Y,Z,Z]
end
noncomputable def nX(K:Frag)(b:Bool)(H:Hp)(a:Addr)(x:List V):Prop:=match b with
 |true=>aF K H a x
 |false=>ar K H a x
theorem ao.sqB{X:Cx}(I:ao X c d H s)(h:nX X.K b H a x):∃i:List Value,ay x i/\gw b s.heap a i.toArray:=by
 cases b
 ·obtain⟨i,r,p,_⟩:=I.tuple h;exact#[i,r,p]
 ·obtain⟨i,r,p,_⟩:=I.list h;exact#[i,r,p.isList]
theorem ao.sqB_inj{X:Cx}(I:ao X p c H s)(h:nX X.K b H a x)(g:nX X.K b H a y):x=y:=by
 cases b
 ·exact I.tuple_inj h g
 ·exact I.list_inj h g
noncomputable def CH(K : Frag)(B c : Bool)(a b : Addr) : It :=
  #[λi H => ∃ X Y x y, nX K B H a X /\ nX K c H b Y /\ X[i]? = some x /\ Y[i]? = some y,
   λi H x h => ∃ p v w, x = .ref p /\ H p = none /\ h = ah H p (.tup [v, w]) /\ (∀ X, nX K B H a X -> X[i]? = some v) /\ ∀ Y, nX K c H b Y -> Y[i]? = some w,
   λi H => ∃ X, nX K B H a X /\ X.length <= i]
theorem sL{P:Program}{K:Frag}(z u v c d a b:Addr)(D:tj z u v c d a b):
  lS P wd K (.Tuple e0 kx tp) (CH K b1 b2 a b) [z,u,v,c,d] z (λi h=>IsZip h z u v .none/\IsPair h u (.ref c) (.ref d)/\(∃p q,IsPair h v p q)/\fh b1 h c a i/\fh b2 h d b i) where
 mem:=by simp
 obj:=λi h st e he=>by
  obtain⟨t,j,⟨p,q,l⟩,A,B⟩:=st
  rcases List.mem_cons.mp he with rfl |he
  ·exact#[_,t,λv w=>by cases (show Data.fields _=Data.cell v from w)]
  rcases List.mem_cons.mp he with rfl |he
  ·exact#[_,j,λv w=>by cases (show Data.seq _ _=Data.cell v from w)]
  rcases List.mem_cons.mp he with rfl |he
  ·exact#[_,l,λv w=>by cases (show Data.seq _ _=Data.cell v from w)]
  rcases List.mem_cons.mp he with rfl |he
  ·obtain⟨o,g,_,n⟩:=A.ob;exact#[o,g,n]
  ·have q:e=d:=by simpa using he
   subst q
   obtain⟨o,g,_,n⟩:=B.ob;exact#[o,g,n]
 keep:=λi h m st k=>#[k z Lp _ st.1,k u Lp _ st.2.1,let #[p,q,l]:=st.2.2.1;#[p,q,k v Lp _ l],st.2.2.2.1.kp λo e=>k c Lp o e,st.2.2.2.2.kp λo e=>k d Lp o e]
 item:=by
  intro X N O Q hc i f s G H E I J st R
  subst N O Q
  obtain⟨t,j,⟨p,q,l⟩,A,B⟩:=st
  obtain⟨xs,ys,x,y,L,gy,T,hy⟩:=R
  obtain⟨U,V,W⟩:=I.sqB L
  obtain⟨j0,Y,g2⟩:=I.sqB gy
  obtain⟨ux,h0,rx⟩:=V.get T
  obtain⟨uy,h3,ry⟩:=Y.get hy
  have lt:∀e∈[z,u,v,c,d],e < s.heap.objs.size:=λe he=>by
   obtain⟨o,g,_⟩:∃o,s.heap.get? e=some o/\True:=by
    rcases List.mem_cons.mp he with rfl |he
    ·exact#[_,t,EE]
    rcases List.mem_cons.mp he with rfl |he
    ·exact#[_,j,EE]
    rcases List.mem_cons.mp he with rfl |he
    ·exact#[_,l,EE]
    rcases List.mem_cons.mp he with rfl |he
    ·obtain⟨o,g,_⟩:=A.ob;exact#[o,g,EE]
    ·have w:e=d:=by simpa using he
     subst w
     obtain⟨o,g,_⟩:=B.ob;exact#[o,g,EE]
   exact Ek g
  refine Yz D t j l A B W g2 (x:=ux) (y:=uy) (by simpa using h0) (by simpa using h3) λm z1 v1 i1 i2 t1 e1 M=>#[_,Z,?_]
  have hn:H s.heap.objs.size=none:=I.hok.fresh (Eh _)
  have I1:ao X f G H { s with heap:=m,toks:=s.toks }:=I.turnedN J λe o he w=>M e o (λq=>he (by simp [q])) (λq=>he (by simp [q])) (λq=>he (by simp [q])) (λq=>he (by simp [q])) w
  have r2:ay [x,y] [ux,uy]:=.cons rx (.cons ry .nil)
  have I2:ao X f G (ah H s.heap.objs.size (.tup [x,y])) { s with heap:=m,toks:=s.toks }:=
   I1.track (I.fpOk (Eh _) hn) I.sz #[by show 2<=sizeLine;decide,_,r2,_,t1,Z,_,Z]
  have C:∀e∈[z,u,v,c,d],eK X f (ah H s.heap.objs.size (.tup [x,y])) e:=λe he=>by
   obtain⟨f0,f1⟩:=J e he
   refine#[?_,f1]
   rw[jl (En (lt e he))]
   exact f0
  refine wpAny_letOwnedTupleGo_zip (s:={ s with heap:=m,toks:=s.toks }) z1 λF z2 S=>?_
  replace S:Heap.SameBut z m F:=S
  have I3:ao X f G (ah H s.heap.objs.size (.tup [x,y])) { s with heap:=F,toks:=s.toks }:=I2.turnedN C λe o he w=>(S.2 e λq=>he (by simp [q])).trans w
  have h4:IsPair m u (.ref c) (.ref d):=M _ _ D.uz D.uv D.uc D.ud j
  exact#[.ref s.heap.objs.size,_,I3,Z,#[_,x,y,Z,hn,Z,λy0 r=>by rw[I.sqB_inj r L];exact T,λy0 r=>by rw[I.sqB_inj r gy];exact hy],
   #[z2,(S.2 u D.uz).trans h4,#[ux,uy,(S.2 v D.vz).trans v1],i1.kp λo w=>(S.2 c D.cz).trans w,i2.kp λo w=>(S.2 d D.dz).trans w],λe he=>(C e he).1]
 done:=by
  intro X N O Q hc i f s G H E I J st R
  subst N O Q
  obtain⟨t,j,⟨p,q,l⟩,A,B⟩:=st
  obtain⟨xs,L,T⟩:=R
  obtain⟨U,V,W⟩:=I.sqB L
  have hl:=V.length
  refine Z5 (b2:=b2) (p:=p) (q:=q) (ys:=(List.toArray [])) (I.ok.hd hc) D t j A W (by simp;omega) λm M=>#[Z,?_]
  exact I.turnedN (t':=s.toks) J λe o he w=>M e o (λq=>he (by simp [q])) (λq=>he (by simp [q])) (λq=>he (by simp [q])) (λq=>he (by simp [q])) w
 self:=λ_ _ _ _ _ st h=>K' st.1 h
theorem YA(n a b:Nat)(h:a < n)(H:b < n):tj (n+4) (n+2) (n+3) n (n+1) a b:=by
 refine#[?_,?_,?_,?_,?_,?_,?_,?_,?_,?_,?_,?_,?_,?_,?_,?_,?_,?_]<;>(show(_:Nat)≠_;omega)
section
variable {X:Cx}{elts:List Expr}{kx:Nat}{tp:Pos}
noncomputable def C2(K:Frag)(B c:Bool)(t:TA):TI:=λd H R=>t d H λv h=>∃a b,v=[.ref a,.ref b]/\(∃x,nX K B h a x)/\(∃y,nX K c h b y)/\R (CH K B c a b) h
theorem yC{f E:Expr}{t:TA}{p P:Pos}{B l:Bool}(u:Gl X "zip")(v:X.mg "zip"=none)(x:bootBuiltins "zip"=some (.type "zip"))(y:PA X [f,E] t)(A:starEach [f,E] X.env=(false,eval f X.env)::starEach [E] X.env:=by rfl)(C:(backTo P (starEach [E] X.env)).any (·.1)=false:=by rfl):
  PI X (.Tuple elts kx tp) (.Call (.Name "zip" p) [f,E] [] P) (C2 X.K B l t):=by
 intro c s F H R I h
 refine Call_ (zN I u v x (Ff (aO (y P c s F H _ I h) λus S z=>?_) A C))
 obtain⟨vs,J,i,L,Q⟩:=z
 obtain⟨a,b,e,⟨xs,M⟩,⟨ys,N⟩,q⟩:=Q
 subst e
 cases L with
 |cons r O=>
  cases O with
  |cons T g=>
   cases g
   cases r
   cases T
   obtain⟨U,rv,G⟩:=i.sqB M
   obtain⟨V,W,m⟩:=i.sqB N
   have Y:a < S.heap.objs.size:=by cases B<;>(obtain⟨o,j,_⟩:=G;exact Ek j)
   have lb:b < S.heap.objs.size:=by cases l<;>(obtain⟨o,j,_⟩:=m;exact Ek j)
   refine Z6 G m λh' n u1 v1 i1 i2 k=>K' n ?_
   have D:=YA S.heap.objs.size a b Y lb
   refine#[S.heap.objs.size+4,[S.heap.objs.size+4,S.heap.objs.size+2,S.heap.objs.size+3,S.heap.objs.size,S.heap.objs.size+1],_,_,J,Z,i.kept (t':=S.toks) k,sL _ _ _ _ _ a b D,#[n,u1,#[_,_,v1],i1,i2],λe he=>?_,q]
   have d:S.heap.objs.size<=e:=by
    rcases List.mem_cons.mp he with rfl |he
    ·exact FG _ _
    rcases List.mem_cons.mp he with rfl |he
    ·exact FG _ _
    rcases List.mem_cons.mp he with rfl |he
    ·exact FG _ _
    rcases List.mem_cons.mp he with rfl |he
    ·exact Eh _
    ·have w:e=S.heap.objs.size+1:=by simpa using he
     subst w
     exact FG _ _
   exact i.fpOk d (i.hok.fresh d)
end
section
variable {prog:Program}{w:World}{A:Around}{E:Value->Shared->Prop}
theorem v6(h:l≠J):∀(n i:Nat) (s:Shared) (Q:List Value->Shared->Prop),s.heap.IsListIter J l i->s.heap.IsList l I->i+n<=I.size->
  (∀a,a.IsListIter J l (i+n)->Heap.SameBut J s.heap a->Q ((I.toList.drop i).take n) { s with heap:=a })->wpAny (model prog w) A (draw (.ref J) n) Q E s
 |0,i,s,Q,b,_,_,q=>show wpAny _ _ (pure []) Q E s from Ee (by simpa using q s.heap b (Heap.SameBut.refl ..))
 |n+1,i,s,Q,b,c,d,q=>by
  have H:i < I.size:=by omega
  refine(show wpAny _ _ (pyNext (.ref J) >>= _) Q E s from Ec (wpAny_pyNext_list_item b c (x:=I[i]) (by simp [H]) λm j S=>?_))
  refine Ec (EG (v6 h n (i+1) _ _ j (c.extBut S.extBut h) Lo λf g k=>Ee ?_))
  have e:=q f (by rw[show i+(n+1)=i+1+n by omega];exact g) (S.trans k)
  rwa [show I.toList.drop i=I[i]::I.toList.drop (i+1) by simp [List.drop_eq_getElem_cons,H],List.take_succ_cons]at e
theorem vL{s:Shared}{Q:List Value->Shared->Prop}(f:A.handled=none)(h:s.heap.IsList l i)(a:i.size=n)
  (q:∀c,Heap.ExtBut s.heap.objs.size s.heap c->Q i.toList { s with heap:=c }):wpAny (model prog w) A (unpackItems (.ref l) n none) Q E s:=by
 have H:l≠s.heap.objs.size:=by obtain⟨o,g,_⟩:=h;exact En (Ek g)
 unfold unpackItems
 refine Ec ?_
 unfold notIterableAtAll
 refine Ec (F' h.typeIs slot_list_iter.lookup ?_)
 refine Ee ?_
 simp only[Ep,Fy]
 refine Ec (EG (Hn h ?_))
 have I:(s.heap.push { cls:=.type "list_iterator",data:=.fields (List.toArray [.ref l,.int 0 0]) }).IsListIter s.heap.objs.size l 0:=#[_,El _ Z,Z,Z]
 refine Ec (EG (v6 H n 0 _ _ I (h.push _) Lo λj J S=>?_))
 have k:(i.toList.drop 0).take n=i.toList:=by rw[List.drop_zero,FY (by simp [a])]
 rw[k,Ew (by simp [a])]
 have L:j.IsList l i:=(h.push _).extBut S.extBut H
 refine Ec (EG (wpAny_pyNext_list_end f J L (by simp [a]) λm p=>?_))
 simp only[Option.isSome_none,Ep,Fy]
 exact Ee (q m λb o d e=>p b o d (S.extBut b o d (Eg _ e)))
end
section
variable {X:Cx}{pos:Pos}
noncomputable def DM(K:Frag)(n:Nat)(t:sZ):TG:=λv b H Q=>∃a x,v= .ref a/\aF K H a x/\x.length=n/\t x b H Q
theorem YB{E:List Expr}{k n:Nat}{t:sZ}(g:X.calm=true)(h:Al X E t)
  (i:(assignEach E X.env).length=n:=by rfl) (c:(assignEach E X.env).findIdx? (·.1)=none:=by rfl):PG X (.Tuple E k pos) (DM X.K n t):=by
 intro P s f H v u Q I r d
 obtain⟨a,x,j,l,m,d⟩:=d
 subst j
 cases r
 obtain⟨q,R,p,A⟩:=I.list l
 rw[assign_Tuple]
 refine Ec (GN ?_)
 unfold unpack
 rw[i,c]
 refine Ec (EG (vL (I.ok.hd g) p.isList (by simp [<- m,R.length]) λw y=>?_))
 have z:ao X P f H { s with heap:=w }:=I.kept (t':=s.toks) λb o e=>y b o (En (Ek e)) e
 exact h P _ f H x _ Q z (by simpa using R) d
noncomputable def wL(K:Frag)(t:TE)(i j k:Nat):TS:=λD b H=>t b H λx h=>∃a v V c,x= .ref a/\ar K h a [v,V,c]/\D.nx (((b.set k (some c)).set j (some V)).set i (some v)) h
theorem uW{t e:Expr}{T:TE}{x y z:Str}{i j k:Nat}(n:X.calm=true)(c:X.N.Nodup)(w:X.N[i]?=some x)(A:X.N[j]?=some y)(B:X.N[k]?=some z)(L:n6 X.env.scope x)(C:n6 X.env.scope y)(E:n6 X.env.scope z)(F:PE X e T)
  (G:X.fn x=true∨X.env.scope.names.lookup x=some .local:=by first |exact .inl Z |exact .inr Z) (J:X.fn y=true∨X.env.scope.names.lookup y=some .local:=by first |exact .inl Z |exact .inr Z) (M:X.fn z=true∨X.env.scope.names.lookup z=some .local:=by first |exact .inl Z |exact .inr Z)
  (O:swapsWithSole [t] e pos.line X.env=pure false:=by rfl) (P:swappedStores [t] e X.env=pure (some [x,y,z]):=by rfl):PS X (.Assign [t] e pos) (wL X.K T i j k):=by
 intro p s f H D I h
 rw[exec_Assign_arm]
 refine Ec (GN ?_)
 rw[O]
 refine Ec (Ee ?_)
 rw[Ew Ln]
 refine Ec (aO (F p s f H _ I h) λv S d=>?_)
 obtain⟨xv,g,l,R,a,v1,v2,v3,Q,V,q⟩:=d
 rw[P]
 refine Ec (Ee ?_)
 subst Q
 cases R
 obtain⟨W,r,Y,hz⟩:=l.tuple V
 cases r with
 |cons q1 r=>
  cases r with
  |cons q2 r=>
   cases r with
   |cons q3 r=>
    cases r
    rename_i u U m
    unfold assignStores
    refine Ec (Gv (Ec (wpAny_unpackItems_tuple (items:=(List.toArray [u,U,m])) (I.ok.hd n) Y λh' hx=>?_)))
    have I2:ao X p f g { S with heap:=h' }:=l.kept (t':=S.toks) λb o e=>hx b o (En (Ek e)) e
    refine Ec ?_
    show wpAny _ _ (assignInOrder [λv=>bindName X.env z v,λv=>bindName X.env y v,λv=>bindName X.env x v] [m,U,u]) _ _ _
    refine Ec (EG (wpAny_bindName (zC I2 c B E q3 (λs2 I3=>?_) M)))
    refine Ec (EG (wpAny_bindName (zC I3 c A C q2 (λs3 I4=>?_) J)))
    refine Ec (EG (wpAny_bindName (zC I4 c w L q1 (λs4 I5=>?_) G)))
    exact Ee (Ee #[_,g,I5,q])
end
theorem t6(l b:Addr)(I i:Array Value)(n N:Nat)(D:Option Addr)(S:Array (Option Value))(e:¬(!I.isEmpty&&Builtin.List.listTooLong (I.size+i.size))=true)(W:I.size<=sizeLine)(a:I.size+i.size<=sizeLine+1):
  Meets (Builtin.«list.extend» #[[.ref l,.ref b],[]]) (λ_ R s=>s.heap.get? l=some { cls:=.type "list",dict:=none,data:=.seq I n,slots:=(List.toArray []) }/\s.heap.get? b=some #[.type "tuple",D,.seq i N,S]/\R (.ok (.ret Value.none)) { s with heap:=s.heap.update l (Obj.mapSeq λx=>x++i),toks:=s.toks }):=by
 refine Meets.of_wp λp w A R s h=>?_
 obtain⟨f,g,d,t,os⟩:=s
 obtain⟨H,c,h⟩:=h
 have F:=AutoSeq1.idx_int
 have j:=AutoSeq1.sub_tuple_tuple
 have k:=AutoSeq1.sub_list_list
 have m:=AutoSeq1.sub_tuple_list
 have o:=AutoSeq1.sub_list_tuple
 have hz:(I++i).size<=sizeLine+1:=by rw[IG];exact a
 wp_walk using (Io H Z (hz:=W) (_hz':=hz)),AutoSeq1.wpAny_loadPart' H,AutoSeq1.wpAny_loadPart' c
 exact#[_,Z,h]
section
variable {X:Cx}
noncomputable def ls(K:Frag):V->List V->Hp->VK->Prop:=λx v H Q=>∃l b a z,x= .ref l/\v=[.ref b]/\H l=some (.lst a)/\ar K H b z/\a.length+z.length<=sizeLine/\Q .non (ah H l (.lst (a++z)))
theorem X5:Ce X "list.extend" (ls X.K):=by
 intro p s A H x V v U Q I g j h
 obtain⟨l,b,B,C,rfl,rfl,f,k,D,q⟩:=h
 cases g
 obtain⟨u,rfl,m⟩:=j.one
 cases m
 obtain⟨z,a,n,r,E,e⟩:=I.lstM f
 obtain⟨i,R,P,G⟩:=I.tuple k
 have o:=R.length
 have d:a.toArray.size+i.toArray.size<=sizeLine:=by rw[Ej,Ej];omega
 have c:¬(!a.toArray.isEmpty&&Builtin.List.listTooLong (a.toArray.size+i.toArray.size))=true:=by
  rw[eU d,Hs]
  exact Em
 obtain⟨⟨J,O,L,S⟩,t,w,N,y⟩:=P
 cases w
 cases y
 refine IM F.slot_list_extend #[_,e,Z] F.entry_list_extend (F.args_list_extend_2 _ _) (t6 l b a.toArray i.toArray n N O S c (by rw[Ej];omega) Lo) #[e,t,?_]
 refine#[.non,_,I.lset (its':=a++i) f e Lp (r.append R) (by rw[Ei];omega),Z,q]
end
section
variable {prog:Program}{w:World}{A:Around}{E:Value->Shared->Prop}{s:Shared}
theorem Jr{R:Result->Shared->Prop}{P:Nat->Value->Prop}{St:Nat->Shared->Prop}
  (W:WalksS prog w A.in1 I N j G n P St) (S:Addr) (H:¬S∈N) (c:List Str) (O:c.length=n) (Q:∀i v,P i v->∃x t,c[i]?=some x/\v= .str x t) (d:∀L:List Str,L.Nodup->(∀x∈L,x∈c)->L.length+1 < scanBound):
  ∀(k i:Nat) (s:Shared) (L:List Str),n - i=k->i<=n->St i s->ci prog w s.heap S L->(∀x,x∈L↔x∈c.take i)->L.length<=i->
   (∀a l,Moved (S::j) G s a->ci prog w a.heap S l->(∀x,x∈l↔x∈c)->l.length<=n->R (.ok (.ret .none)) a)->
   codeAny (model prog w) A (.builtin "set.update.loop" #[[.ref S,.ref I],[]]) R s:=by
 have f:¬S∈j:=λz=>H (W.sub _ z)
 have sub:∀b∈j,b∈S::j:=λb z=>EB _ z
 intro k
 induction k with
 |zero=>
  intro i s L T U st p q F r
  have e:i=n:=by omega
  subst e
  refine FJ Ik ?_
  rw[Fk GU]
  show wpAny _ A.in1 (pyNext (.ref I) >>= _) _ _ s
  refine Ec (W.done s _ _ st λa m=>?_)
  show wpAny _ A.in1 (ret Value.none) _ _ a
  refine Ee (r a L (m.mono sub) (p.at λo e=>m.heap S o f e) (λx=>?_) F)
  rw[q x,<- O,Fc]
 |succ k V=>
  intro i s L T U st p q F r
  have J:i < n:=by omega
  refine FJ Ik ?_
  rw[Fk GU]
  show wpAny _ A.in1 (pyNext (.ref I) >>= _) _ _ s
  refine Ec (W.item i s _ _ J st λv a X u m=>?_)
  obtain⟨x,t,B,rfl⟩:=Q i v X
  show wpAny _ A.in1 (holding [Value.str x t] (setAdd S (.str x t)) >>= _) _ _ a
  refine Ec (EG ?_)
  have h:L.Nodup:=by obtain⟨_,_,_,_,_,_,_,_,_,h,_⟩:=p;exact h
  refine Xl (p.at λo e=>m.heap S o f e) (d L h λx B=>Fe ((q x).mp B)) λb h' Y K S2 g=>?_
  refine Ee #[Gw GU _,V (i+1) _ _ Lo J (W.frame _ a _ _ u g λb d o e=>?_) S2 (λy=>?_) ?_ λC l M D q1 q2=>?_]
  ·rw[K.2 b (λz:b=S=>H (by rw[<- z];exact d))];exact e
  ·have tk:c.take (i+1)=c.take i++[x]:=by rw[GJ,B];rfl
   rw[tk,GY,Iu,<- q y]
   split
   ·rename_i hm
    exact#[.inl,λz=>z.elim id λe=>e▸hm]
   ·rw[GY,Iu]
  ·split
   ·omega
   ·rw[Ei,Gz];omega
  ·refine r C l (Moved.trans W.gtrans ((m.mono sub).then_heap g λb o d e=>?_) M) D q1 q2
   rw[K.2 b (λz:b=S=>d (by rw[z];exact Ez))];exact e
end
section
variable {prog:Program}{w:World}{A:Around}{E:Value->Shared->Prop}{s:Shared}
set_option maxHeartbeats 3200000 in
theorem JR{Q:Value->Shared->Prop}
  (hh:A.handled=none) (hl:s.heap.IsList l I) (hi:StrsAre I.toList n) (C:∀L:List Str,L.Nodup->(∀x∈L,x∈n)->L.length+1 < scanBound)
  (h:∀(a:Heap) (t:Nat) L,ci prog w a s.heap.objs.size L->(∀x,x∈L↔x∈n)->L.length<=I.size->
   (∀b o,b < s.heap.objs.size->s.heap.get? b=some o->a.get? b=some o)->s.toks<=t->Q (.ref s.heap.objs.size) { s with heap:=a,toks:=t }):
  wpAny (model prog w) A (call (.type "set") [.ref l]) Q E s:=by
 obtain⟨c,tl,m1⟩:=PySem.F.called_set.mro
 have m0:=PySem.F.called_set.made
 have sb:=PySem.F.called_set.sub
 refine wpAny_call (codeAny_of_tree ?_)
 show wpAny _ _ (callAny (.type "set") _) _ _ _
 refine Ee #[Code.quiet_builtin _ Lq,FJ PySem.F.entry_type_call ?_]
 rw[Around.under_plain (weight_type_call_type "set" [.ref l] []) Z]
 have n1:=PySem.F.called_set.notType
 have n2:=PySem.F.called_set.canCreate
 have ct:=PySem.F.typeCall_set_1 (.ref l)
 repeat (any_goals (first |assumption |wp_step))
 refine G7 (KH (.ref l) (E:=E) (G:=λv S=>v= .ref s.heap.objs.size/\S={ s with heap:=s.heap.push (bf w) }) #[Z,Z]) λr S D=>?_
 cases r with
 |error e=>exact D
 |ok fl=>
  cases fl with
  |ret o2=>
   obtain⟨rfl,rfl⟩:=D
   have J:(s.heap.push (bf w)).get? s.heap.objs.size=some (bf w):=El _ Z
   have hT:Shared.TypeIs { s with heap:=s.heap.push (bf w) } (.ref s.heap.objs.size) "set":=#[_,J,Z]
   have li:=PySem.F.called_set.init.lookup
   have bi:=PySem.F.called_set.init.bind (.ref s.heap.objs.size)
   repeat (any_goals (first |assumption |wp_step))
   refine G7 (codeAny_call_builtin (R:=wants (λr d=>r= .none/\∃a t L,d={ s with heap:=a,toks:=t }/\ci prog w a s.heap.objs.size L/\(∀x,x∈L↔x∈n)/\L.length<=I.size/\
     (∀b o,b < s.heap.objs.size->s.heap.get? b=some o->a.get? b=some o)/\s.toks<=t) E) PySem.F.called_set.init.plain PySem.F.entry_set_init (check_set_init_1 hT ?_)) λp d H=>?_
   ·obtain⟨ol,q,u,nl,y⟩:=hl
    obtain⟨o1,g,K,O⟩:=ol
    simp only at u y
    subst u
    subst y
    have f:(s.heap.push (bf w)).get? l=some { cls:=.type "list",dict:=g,data:=.seq I nl,slots:=O }:=Eg _ q
    have ns:=PySem.F.sub_list_set
    have nf:=PySem.F.sub_list_frozenset
    have ne:(Value.type "list"==Value.type "dict")=false:=by decide
    have j:(s.heap.push (bf w)).IsList l I:=#[_,f,Z,nl,Z]
    unfold bf at J hT f j ⊢
    unfold Builtin.«set.__init__» noKeywords Builtin.Frozenset.updateFrom
    generalize M:pyIter=PI
    wp_walk
    subst M
    refine Hn j ?_
    refine Ec (wpAny_runValue ?_)
    have z:l < s.heap.objs.size:=Ek q
    have h3:A.in1.in1.in1.handled=none:=by simp [hh]
    have N:l≠(s.heap.push (bf w)).objs.size:=by rw[Fh];exact En (GF z)
    have P:¬s.heap.objs.size∈[(s.heap.push (bf w)).objs.size,l]:=by
     rw[Fh]
     simp only[Gr,EL,Hq,not_or]
     exact#[En (FQ _),Fi z]
    have B:n.length=I.size:=by rw[_L.StrsAre.len hi,EC]
    refine Jr ((Walks.list h3 _ l N I).toS) s.heap.objs.size P n B (λi v hv=>StrsAre.at' hi i v (by rw[Ge];exact hv)) C (I.size - 0) 0 _ [] Lo (Eu _)
     #[#[_,El _ Z,Z,Z],j.push _] (Xm (Eg _ J)) (λx=>by simp) (Eh _) λs' L m T U V=>?_
    obtain⟨a,g',d',W,X⟩:=s'
    have eg:g'=s.gens:=m.gens
    have ed:d'=s.drawn:=m.drawn
    have eo:X=s.os:=m.os
    subst eg
    subst ed
    subst eo
    show wpAny _ _ _ _ _ _
    refine Ee ?_
    show wpAny _ _ (ret Value.none) _ _ _
    refine Ee #[Z,a,W,L,Z,T,U,V,λb o C e=>?_,m.toks]
    have b1:b≠s.heap.objs.size:=En C
    have b2:b≠(s.heap.push (bf w)).objs.size:=by rw[Fh];exact En (GF C)
    exact m.heap b o (by simp only[Gr,EL,Hq,not_or];exact#[b1,b2]) (Eg _ (Eg _ e))
   ·cases p with
    |error e=>exact H
    |ok k=>
     cases k with
     |ret r=>
      obtain⟨rfl,a,t,L,rfl,T,U,V,Y,q3⟩:=H
      repeat (any_goals (first |assumption |wp_step))
      exact h _ _ _ T U V Y q3
     |_=>exact H.elim
  |_=>exact D.elim
end
section
variable {X:Cx}
theorem qR(m:X.calm=true):c8 X (.type "set") (λg H Q=>∃(p:Addr) (S:List Str),g=[.ref p]/\aF X.K H p (S.map V.str)/\(∀L:List Str,L.Nodup->(∀x∈L,x∈S)->L.length+1 < scanBound)/\
  ∀l L,H l=none->L.Nodup->(∀x,x∈L↔x∈S)->Q (.ref l) (ah H l (Cn X.prog X.w l L))):=by
 intro P s B H g U Q I r h
 obtain⟨p,S,rfl,n,t,q⟩:=h
 obtain⟨u,rfl,R⟩:=dG r
 cases R
 obtain⟨i,v,y,C⟩:=I.list n
 have j:=qc v
 have D:i.length=S.length:=(_L.StrsAre.len j).symm
 refine JR (I.ok.hd m) y.isList (by simpa using j) t λc T L d z E k _=>?_
 have a:L.Nodup:=by obtain⟨_,_,_,_,_,_,_,_,_,a,_⟩:=d;exact a
 have A:∀b o,s.heap.get? b=some o->c.get? b=some o:=λb o e=>k b o (Ek e) e
 obtain⟨o,f⟩:∃o,c.get? s.heap.objs.size=some o:=let #[o,_,_,_,f,_]:=d;#[o,f]
 exact#[.ref s.heap.objs.size,_,I.laid A (Eh _) (show aJ X.prog X.w _ c _ (Cn X.prog X.w s.heap.objs.size L) from #[d,#[o,f],λF G x e=>ci.at x e]),Z,q _ _ (I.hok.fresh (Eh _)) a z]
end
section
variable {X:Cx}{CX:nH}{k:Nat}{f C:Addr}{fd:FuncData}{ps:List Str}{sp:Sp}{dvs:List V}{ds:List Value}{E:XK}{x m:Str}{p pos apos:Pos}{e:Expr}{es:List Expr}{t:TA}
structure wQ(K:Frag)(C:Addr)(m:Str)(f:Addr):Prop where
 rd:PySem.W.readsIn K C (.type "type")=true
 ga:specialIn K (.ref C) "__getattribute__"=some (some (.builtin "type.__getattribute__"))
 at_:PySem.W.findCls K (.ref C) (.type "type") m=some (.val (.ref f))
 kp:keepIn K (.ref f)=true
theorem uS{pl:Sem Bool}(j:Gl X x)(l:X.mg x=some (.ref C))(M:wQ X.K C m f)(F:ai X.prog X.w X.K X.mg X.base CX k f fd ps sp)(n:bE k X.A)(q:aC X.K fd ps ds)(u:ay dvs ds)(v:dj CX X E)(y:PA X (e::es) t)
  (a:(x==("__debug__":Str))=false:=by decide)
  (c:starEach (e::es) X.env=(false,eval e X.env)::starEach es X.env:=by rfl) (d:(backTo pos (starEach es X.env)).any (·.1)=false:=by rfl)
  (z:eval (.Call (.Attribute (.Name x p) m apos) (e::es) [] pos) X.env=(do
   let O <- eval (.Name x p) X.env
   standAt apos.atName
   let (f,first) <- holding [O] (getMethod O m pl)
   callWith pos f first (backTo pos (starEach (e::es) X.env)) (backToKw pos (keywordEach [] X.env))):=by rfl):
  PE X (.Call (.Attribute (.Name x p) m apos) (e::es) [] pos) (dB sp dvs E t):=by
 intro P s g H Q I h
 refine Ia (pl:=pl) (zj I j l ?_ a) z
 refine PySem.W.method_cls I.kIn M.ga (PySem.W.cls_value I.kIn M.rd M.at_ Z ?_)
 have B:ao X P g H { s with toks:=s.toks+1 }:=I.kept (h':=s.heap) λb o e=>e
 refine IZ (h₀:=X.base) I.ok.mod.kin M.kp (aO (y pos P _ g H _ B h) λU S #[G,J,i,r,D]=>#[i.kIn,?_]) c d
 exact Qu F n q u v i r D
end
noncomputable abbrev em(h:Heap)(z u v T:Addr)(f:Bool):Prop:=
 h.get? z=some { cls:=.type "zip",dict:=none,data:=.fields (List.toArray [rawInt T,.bool f,.bool false,.ref u,.ref v]),slots:=(List.toArray []) }
section
variable {prog:Program}{w:World}{A:Around}{E:Value->Shared->Prop}{s:Shared}
theorem Zs{Q:Option Obj->Shared->Prop}(h:Q (s.heap.get? a) s):wpAny M A (loadIfAlive a) Q E s:=λ_ _ _=>h
theorem AG{Q:Bool->Shared->Prop}(H:em s.heap z u v T f)(a:∃o,s.heap.get? T=some o)
  (q:∀h,em h z u v T true->Heap.ExtBut z s.heap h->h.objs.size=s.heap.objs.size->Q false { s with heap:=h }):wpAny (model prog w) A (Builtin.SmallTypes.ownedTupleIsFree (.ref z)) Q E s:=by
 unfold Builtin.SmallTypes.ownedTupleIsFree
 refine Ec (EJ H Z (x:=rawInt T) Z ?_)
 show wpAny _ _ (loadIfAlive ((T:Int).toNat) >>= _) _ _ s
 refine Ec (Zs ?_)
 obtain⟨o,c⟩:=a
 rw[Fs,c]
 simp only[Option.isNone_some,Ep,Fy]
 refine Ec (EJ H Z (x:=.bool f) Z ?_)
 cases f with
 |true=>
  simp only[Gj,Ep,Fy]
  exact Ec (Ee (Ee (q s.heap H (λb o _ e=>e) Z)))
 |false=>
  rw[Er Ln]
  refine Ec (GG H Lp λh d S=>Ee (q h d S.extBut S.1))
theorem vO{Q:Option Value->Shared->Prop}(D:tj z u v c d a b)
  (g:em s.heap z u v T f) (p:∃o,s.heap.get? T=some o) (q:IsPair s.heap u (.ref c) (.ref d)) (r:fh B s.heap c a k) (t:fh l s.heap d b k) (G:gw B s.heap a C) (F:gw l s.heap b Y) (I:C[k]?=some x) (J:Y[k]?=some y)
  (L:∀h,em h z u v T true->fh B h c a (k+1)->fh l h d b (k+1)->IsPair h s.heap.objs.size x y->h.objs.size=s.heap.objs.size+1->
   (∀e o,e≠z->e≠c->e≠d->s.heap.get? e=some o->h.get? e=some o)->Q (some (.ref s.heap.objs.size)) { s with heap:=h }):wpAny (model prog w) A (pyNext (.ref z)) Q E s:=by
 have H:s.TypeIs (.ref z) "zip":=#[_,g,Z]
 unfold pyNext
 refine Ec (He (EV (name:=Str.ofString "__next__") H FD (EX FD H Hh (show wpAny _ _ (field (.ref z) 2 >>= _) _ _ _ from ?_) (Hc _))))
 refine Ec (EJ g Z (x:=.bool false) Z (show wpAny _ _ (field (.ref z) 3 >>= _) _ _ _ from Ec (EJ g Z (x:=.ref u) Z (Ec (Fq q Z ?_)))))
 refine(show wpAny _ _ (Builtin.SmallTypes.ownedTupleIsFree (.ref z) >>= _) _ _ _ from Ec (AG g p λO P i n=>?_))
 simp only[Ep,Fy]
 refine Ec ?_
 simp only[List.forIn_toArray,FV,GL]
 refine Ec (Ec (EG (show wpAny _ _ (Builtin.SmallTypes.nextOf (.ref c) >>= _) _ _ _ from ?_)))
 refine Ec (qd (s:={ s with heap:=O }) (r.kp λo e=>i _ _ D.cz e) (G.kp λo e=>i _ _ D.az e) I λM R j=>Ee (Ee ?_))
 refine Ec (Ec (EG (show wpAny _ _ (Builtin.SmallTypes.nextOf (.ref d) >>= _) _ _ _ from ?_)))
 have K:∀e o,e≠z->e≠c->s.heap.get? e=some o->M.get? e=some o:=λe o n U w=>j.extBut _ _ U (i _ _ n w)
 refine Ec (qd (s:={ s with heap:=M }) (t.kp λo e=>K _ _ D.dz D.cd.symm e) (F.kp λo e=>K _ _ D.bz D.bc e) J λm V S=>Ee (Ee (Ee ?_)))
 show wpAny _ _ (newTuple [x,y] >>= _) _ _ _
 refine Ec (wpAny_newTuple (Ee #[_,Z,Ee ?_]))
 have N:m.objs.size=s.heap.objs.size:=by rw[S.1,j.1];exact n
 have W:em m z u v T true:=S.extBut _ _ D.dz.symm (j.extBut _ _ D.cz.symm P)
 show Q (some (.ref m.objs.size)) _
 rw[N]
 refine L _ (Eg _ W) (R.kp λo e=>Eg _ (S.extBut _ _ D.cd e)) (V.kp λo e=>Eg _ e) (by rw[<- N];exact El _ Z) (by rw[Fh,N]) λe o X a2 a3 w=>Eg _ (S.extBut _ _ a3 (K _ _ X a2 w))
theorem Ai{b2:Bool}{ys:Array Value}{Q:Option Value->Shared->Prop}(j:A.handled=none)(D:tj z u v c d a b)
  (H:em s.heap z u v T f) (l:∃o,s.heap.get? T=some o) (m:IsPair s.heap u (.ref c) (.ref d)) (p:fh B s.heap c a k) (G:gw B s.heap a q) (r:q[k]?=none)
  (t:∀i,(∀e o,e≠z->e≠c->e≠d->s.heap.get? e=some o->i.get? e=some o)->Q none { s with heap:=i }):wpAny (model prog w) A (pyNext (.ref z)) Q E s:=by
 have h:s.TypeIs (.ref z) "zip":=#[_,H,Z]
 unfold pyNext
 refine Ec (He (EV (name:=Str.ofString "__next__") h FD (EX FD h Hh (show wpAny _ _ (field (.ref z) 2 >>= _) _ _ _ from ?_) (Hc _))))
 refine Ec (EJ H Z (x:=.bool false) Z (show wpAny _ _ (field (.ref z) 3 >>= _) _ _ _ from Ec (EJ H Z (x:=.ref u) Z (Ec (Fq m Z ?_)))))
 refine(show wpAny _ _ (Builtin.SmallTypes.ownedTupleIsFree (.ref z) >>= _) _ _ _ from Ec (AG H l λM F g n=>?_))
 simp only[Ep,Fy]
 refine Ec ?_
 simp only[List.forIn_toArray,FV,GL]
 refine Ec (Ec (EG (show wpAny _ _ (Builtin.SmallTypes.nextOf (.ref c) >>= _) _ _ _ from ?_)))
 refine Ec (Ql (s:={ s with heap:=M }) (by simpa using j) (p.kp λo e=>g _ _ D.cz e) (G.kp λo e=>g _ _ D.az e) r λy e S C=>?_)
 exact Ec (Gx (T:="StopIteration") (b:=true) C IA (Ee (t y λe o n N I w=>S _ _ N (g _ _ n w))))
end
theorem JB:typeLookup (.type "zip") "__getattr__"=pure none:=by rw[FI,Fb];kernel_rfl
theorem Xp:typeLookup (.type "zip") "keys"=pure none:=by rw[FI,Fb];kernel_rfl
theorem QQ:entryFor table "zip.__getattribute__"=some Builtin.«object.__getattribute__»:=
 IB (id':="object.__getattribute__") (by kernel_rfl) Lq Lq (by kernel_rfl)
theorem KB(a:Addr)(x:Array Value)(S:Array (Option Value))(u:Tok):
  Meets (Builtin.«object.__getattribute__» #[[.ref a,.str "keys" u],[]]) (λA R s=>s.heap.get? a=some { cls:=.type "zip",dict:=none,data:=.fields x,slots:=S }/\raisesAttr (.ref a) "keys" A R s):=
 Meets.of_wp λp w A R s H=>by
  obtain⟨c,g,d,t,os⟩:=s
  obtain⟨e,H⟩:=H
  have f:(#[c,g,d,t,os]:Shared).TypeIs (.ref a) "zip":=#[_,e,Z]
  have b:=Xp
  have h:(["__module__","__name__","__qualname__","__doc__","__annotations__"]:List Str).contains "keys"=false:=by decide+kernel
  unfold Builtin.«object.__getattribute__»
  repeat (any_goals (first |assumption |wp_step))
  try simp only[h,Ep,Fy]
  repeat (any_goals (first |assumption |wp_step))
  exact wpAny_raiseAttrError H.1 H.2 (attrMsg_fits Lq (by size_fits))
section
variable {prog:Program}{w:World}{A:Around}{E:Value->Shared->Prop}{s:Shared}
theorem uo{Q:Option Value->Shared->Prop}(f:s.heap.get? a=some { cls:=.type "zip",dict:=none,data:=.fields x,slots:=j })(k:A.handled=none)
  (h:∀c T,(∀b o,s.heap.get? b=some o->c.get? b=some o)->Q none { s with heap:=c,toks:=T }):wpAny (model prog w) A (getAttr? (.ref a) "keys") Q E s:=by
 obtain⟨l,g,d,T,os⟩:=s
 have i:∀t,(#[l,g,d,t,os]:Shared).TypeIs (.ref a) "zip":=λ_=>#[_,f,Z]
 have m:=sub_AttributeError
 have n:=PySem.F.slot_zip_getattribute.lookup
 have p:=PySem.F.slot_zip_getattribute.bind (.ref a)
 have q:=JB
 unfold getAttr? getAttrBy? getAttrBy
 repeat (any_goals (first |assumption |exact i _ | ((with_reducible show wpAny _ _ (call (Value.builtin "zip.__getattribute__") _ _) _ _ _);refine IM PySem.F.slot_zip_getattribute (i _) QQ (PySem.F.args_zip_getattribute_2 _ _) (KB a x j _) #[f,by simpa using k,λc t e H=>?_]) |wp_step))
 obtain⟨r,u,v⟩:=H.there
 show wpAny _ _ (getattributeRaised _ _ _ _ _ _ _) _ _ _
 unfold getattributeRaised
 repeat (any_goals (first |assumption |wp_step))
 exact h _ _ H.keeps
noncomputable def wX(h:Heap)(z u v c d a b Dd:Addr)(x y:Array Value)(i:Nat):Prop:=
 ((IsZip h z u v .none/\∃p q,IsPair h v p q)∨∃T f o,em h z u v T f/\h.get? T=some o/\T≠z/\T≠c/\T≠d/\T≠Dd)/\IsPair h u (.ref c) (.ref d)/\fh false h c a i/\fh false h d b i/\gw false h a x/\gw false h b y
theorem vP{Dd:Addr}{Q:Option Value->Shared->Prop}(D:tj z u v c d a b)(l:Dd < s.heap.objs.size)(S:wX s.heap z u v c d a b Dd J Y k)(L:J[k]?=some x)(M:Y[k]?=some y)
  (N:∀h,wX h z u v c d a b Dd J Y (k+1)->IsPair h s.heap.objs.size x y->h.objs.size=s.heap.objs.size+1->(∀e o,e≠z->e≠v->e≠c->e≠d->s.heap.get? e=some o->h.get? e=some o)->Q (some (.ref s.heap.objs.size)) { s with heap:=h }):wpAny (model prog w) A (pyNext (.ref z)) Q E s:=by
 obtain⟨H,g,j,m,G,i⟩:=S
 obtain⟨oc,n,_⟩:=j.ob
 obtain⟨od,r,_⟩:=m.ob
 rcases H with ⟨H,p,q,U⟩ | ⟨T,f,o,H,O,t,P,R,V⟩
 ·refine Yz D H g U j m G i L M λh B v1 I C t F K=>N h #[.inr #[s.heap.objs.size,false,_,B,t,Fi (Ek H),Fi (Ek n),Fi (Ek r),Fi l],K _ _ D.uz D.uv D.uc D.ud g,I,C,G.kp λo e=>K _ _ D.az D.av D.ac D.ad e,i.kp λo e=>K _ _ D.bz D.bv D.bc D.bd e] t F K
 ·refine vO D H #[o,O] g j m G i L M λh B I C W F K=>N h #[.inr #[T,true,o,B,K _ _ t P R O,t,P,R,V],K _ _ D.uz D.uc D.ud g,I,C,G.kp λo e=>K _ _ D.az D.ac D.ad e,i.kp λo e=>K _ _ D.bz D.bc D.bd e] W F λe o X n2 n3 n4 w=>K e o X n3 n4 w
theorem Aj{Dd:Addr}{Q:Option Value->Shared->Prop}(g:A.handled=none)(D:tj z u v c d a b)(n:wX s.heap z u v c d a b Dd x ys k)(i:x[k]?=none)
  (j:∀H,(∀e o,e≠z->e≠v->e≠c->e≠d->s.heap.get? e=some o->H.get? e=some o)->Q none { s with heap:=H }):wpAny (model prog w) A (pyNext (.ref z)) Q E s:=by
 obtain⟨h,l,m,B,G,C⟩:=n
 rcases h with ⟨h,p,q,F⟩ | ⟨T,f,o,h,r,I,J,L,M⟩
 ·exact Z5 (b2:=false) (p:=p) (q:=q) (ys:=ys) g D h l m G i j
 ·exact Ai (b2:=false) (ys:=ys) g D h #[o,r] l m G i λH K=>j H λe o N O t y w=>K e o N t y w
structure CF(D z u v c d a b:Addr):Prop where
 z:D≠z
 u:D≠u
 v:D≠v
 c:D≠c
 d:D≠d
 a:D≠a
 b:D≠b
theorem wX.keep{h j:Heap}{Dd:Addr}(F:CF Dd z u v c d a b)(k:∀e o,e≠Dd->h.get? e=some o->j.get? e=some o)(st:wX h z u v c d a b Dd x y i):wX j z u v c d a b Dd x y i:=by
 obtain⟨H,l,m,n,G,r⟩:=st
 refine#[?_,k _ _ F.u.symm l,m.kp λo e=>k _ _ F.c.symm e,n.kp λo e=>k _ _ F.d.symm e,G.kp λo e=>k _ _ F.a.symm e,r.kp λo e=>k _ _ F.b.symm e]
 rcases H with ⟨H,p,q,B⟩ | ⟨T,f,o,H,g,C,D,I,t⟩
 ·exact .inl #[k _ _ F.z.symm H,p,q,k _ _ F.v.symm B]
 ·exact .inr #[T,f,o,k _ _ F.z.symm H,k _ _ t g,C,D,I,t]
theorem KC{K:Type}[DecidableEq K]{knd:KeyKind prog w K}{R:Result->Shared->Prop}{Dd:Addr}{x:Array Value}(X:A.handled=none)(D:tj z u v c d a b)(F:CF Dd z u v c d a b)(m:List (K×Value))(Y:m.length=x.size)(h0:x.size<=sizeLine)
  (hP:∀(i:Nat),i < x.size->∃f V k,x[i]?=some f/\ys[i]?=some V/\knd.is k f=true/\m[i]?=some (k,V)):
  ∀(j i:Nat) (s:Shared) (n:Int),x.size - i=j->i<=x.size->wX s.heap z u v c d a b Dd x ys i->s.heap.DictOf knd Dd (merged [] (m.take i))->
   (∀h T,(∀e o,e≠Dd->e≠z->e≠v->e≠c->e≠d->s.heap.get? e=some o->h.get? e=some o)->h.DictOf knd Dd (merged [] m)->R (.ok (.ret .none)) { s with heap:=h,toks:=T })->
   codeAny (model prog w) A (.builtin "dict.update.loop" #[[.ref Dd,.ref z,.int n 0,.none],[]]) R s:=by
 intro j
 induction j with
 |zero=>
  intro i s n hj hi st q C
  have e:i=x.size:=by omega
  subst e
  refine FJ JL ?_
  rw[Fk zM]
  show wpAny _ A.in1 (pyNext (.ref z) >>= _) _ _ s
  refine Ec (Aj (by simpa using X) D st Lp λh g=>?_)
  show wpAny _ A.in1 (Builtin.Dict.addKeywords Dd [] >>= λ_=>ret Value.none) _ _ { s with heap:=h }
  refine Ec ?_
  unfold Builtin.Dict.addKeywords
  refine Ee (Ee (C h s.toks (λe o _ N t y B w=>g e o N t y B w) ?_))
  rw[<- Y,Fc]at q
  obtain⟨o,es,ep,ho,r⟩:=q
  exact#[o,es,ep,g _ _ F.z F.v F.c F.d ho,r]
 |succ j ih=>
  intro i s n hj hi st q C
  have M:i < x.size:=by omega
  obtain⟨f,V,k,hx,hy,O,hm⟩:=hP i M
  refine FJ JL ?_
  rw[Fk zM]
  show wpAny _ A.in1 (pyNext (.ref z) >>= _) _ _ s
  obtain⟨oD,G,I,H,rD⟩:=id q
  have L:Dd < s.heap.objs.size:=Ek H
  refine Ec (vP D L st hx hy λl S P N g=>?_)
  have hb:Shared.TypeIs { s with heap:=l } (.ref s.heap.objs.size) "tuple":=#[_,P,Z]
  have J:l.DictOf knd Dd (merged [] (m.take i)):=#[oD,G,I,g _ _ F.z F.v F.c F.d H,rD]
  dsimp only
  refine Ec (EG ?_)
  refine Ec (wpAny_tryCatch ?_)
  unfold Builtin.Dict.pairItems
  refine Ec (Gf hb ?_)
  rw[Er Ln]
  refine Ec (Fq P Z (Ee ?_))
  show wpAny _ A.in1 (holding [f,V] (dictSet Dd f V)) _ _ { s with heap:=l }
  unfold dictSet
  refine EG (EG (Ec (knd.pyHash O ?_)))
  have Q:(merged ([]:List (K×Value)) (m.take i)).length<=i:=by
   have:=merged_length_le ([]:List (K×Value)) (m.take i)
   rw[ED]at this
   simp only[IS]at this
   omega
  refine wpAny_dictSetHashed_pairs (s:={ s with heap:=l,toks:=s.toks+1 }) O J (λh p sb=>?_) Lo
  rw[<- merged_take_succ [] m i (k,V) hm]at p
  have U:∀e o,e≠Dd->l.get? e=some o->h.get? e=some o:=λe o ne w=>(sb.2 e ne).trans w
  refine Ee #[Gw zM _,ih (i+1) _ (n+1) Lo M (S.keep F U) p λh2 T k2 d2=>C h2 T (λe o W N t y B w=>k2 e o W N t y B (U _ _ W (g e o N t y B w))) d2]
theorem KN{K:Type}[DecidableEq K]{knd:KeyKind prog w K}{more:List (K×Value)}{Q:Value->Shared->Prop}(N:A.handled=none)(D:tj z u v c d a b)
  (j:IsZip s.heap z u v .none) (P:IsPair s.heap u (.ref c) (.ref d)) (m:∃p q,IsPair s.heap v p q) (U:fh false s.heap c a 0) (V:fh false s.heap d b 0) (W:gw false s.heap a x) (X:gw false s.heap b ys)
  (hn:more.length=x.size) (n:x.size<=sizeLine) (hP:∀(i:Nat),i < x.size->∃Y vu k,x[i]?=some Y/\ys[i]?=some vu/\knd.is k Y=true/\more[i]?=some (k,vu))
  (h:∀l t,l.DictOf knd s.heap.objs.size (merged [] more)->(∀e o,e≠z->e≠v->e≠c->e≠d->s.heap.get? e=some o->l.get? e=some o)->Q (.ref s.heap.objs.size) { s with heap:=l,toks:=t }):
  wpAny (model prog w) A (call (.type "dict") [.ref z]) Q E s:=by
 refine callType_codes (Q₁:=λO S=>O= .ref s.heap.objs.size/\S={ s with heap:=s.heap.push { cls:=.type "dict",data:=.dict (List.toArray []) } }) PySem.F.kt_called_dict (PySem.F.kt_typeCall_dict_1 _) PySem.F.entry_dict_init (kt_code_dict_new _ #[Z,Z]) ?_
 rintro O S ⟨rfl,rfl⟩
 have f:(s.heap.push { cls:=.type "dict",data:=.dict (List.toArray []) }).DictOf knd s.heap.objs.size []:=Heap.DictOf.new s.heap
 refine#[f.typeIs,PySem.F.args_dict_init_2 _ _,?_]
 unfold Builtin.«dict.__init__»
 refine Ec ?_
 unfold Builtin.Dict.selfAndRest
 refine Ec (wpAny_notOrdered_dict f.typeIs ?_)
 show wpAny _ _ (pure (s.heap.objs.size,[Value.ref z])) _ _ _
 refine Ee ?_
 show wpAny _ _ (Builtin.Dict.updateFrom "dict.__init__" s.heap.objs.size (.ref z) [] .none) _ _ _
 unfold Builtin.Dict.updateFrom
 generalize hH:s.heap.push { cls:=.type "dict",data:=.dict (List.toArray []) }=H at f ⊢
 have G:∀b o,s.heap.get? b=some o->H.get? b=some o:=λb o e=>by rw[<- hH];exact Eg _ e
 refine Ec (Gf #[_,G _ _ j,Z] ?_)
 rw[Er Ln]
 refine Ec (uo (s:={ s with heap:=H }) (G _ _ j) (by simpa using N) λM t k1=>?_)
 simp only[Option.isNone_none,Hf]
 refine Ec (Gv ?_)
 have g:∀b o,s.heap.get? b=some o->M.get? b=some o:=λb o e=>k1 _ _ (G _ _ e)
 refine Ec (K' (s:={ s with heap:=M,toks:=t }) (g _ _ j) ?_)
 obtain⟨oD,eD,y,B,rD⟩:=f
 obtain⟨p,q,m⟩:=m
 obtain⟨oc,C,_⟩:=U.ob
 obtain⟨od,I,_⟩:=V.ob
 obtain⟨oa,J,_⟩:=id W
 obtain⟨ob,L,_⟩:=id X
 have F:CF s.heap.objs.size z u v c d a b:=#[Fi (Ek j),Fi (Ek P),Fi (Ek m),Fi (Ek C),Fi (Ek I),Fi (Ek J),Fi (Ek L)]
 refine Ee #[Gw zM _,G7 (KC (knd:=knd) (A:=A.in1) (R:=λr s'=>r= .ok (.ret .none)/\Q (.ref s.heap.objs.size) s') (by simpa using N) D F more hn n hP x.size 0 { s with heap:=M,toks:=t } 0 Z (Eu _)
  #[.inl #[g _ _ j,p,q,g _ _ m],g _ _ P,U.kp λo e=>g _ _ e,V.kp λo e=>g _ _ e,W.kp λo e=>g _ _ e,X.kp λo e=>g _ _ e] #[oD,eD,y,k1 _ _ B,rD] λl T k2 d2=>#[Z,?_]) λr s' q=>?_]
 ·exact h l T d2 λe o n1 n2 n3 n4 w=>k2 e o (En (Ek w)) n1 n2 n3 n4 (g _ _ w)
 ·obtain⟨rfl,q⟩:=q
  exact#[Z,q]
end
section
variable {X:Cx}{e1 e2:Expr}{ta:TA}{p p2 pos pos2:Pos}
noncomputable def D1(K:Frag)(ta:TA):TE:=λc H Q=>ta c H λv h=>∃(a b:Addr) (k:List bo) (y:List V),v=[.ref a,.ref b]/\ar K h a (k.map kV)/\ar K h b y/\k.length=y.length/\∀l,h l=none->Q (.ref l) (ah h l (.dK (cV [] (k.zip y))))
theorem YC{P:Program}{w:World}:∀{K:List bo} {U:List Value},ay (K.map kV) U->∀(i:Nat) (k:bo),K[i]?=some k->∃u,U[i]?=some u/\(aS P w).is k u=true
 | [],_,_,i,k,h=>by simp at h
 |k0::K,_,.cons (b:=u) h t,0,k,e=>by
  have E:k0=k:=by simpa using e
  subst E
  exact#[u,Z,KS h]
 |k0::K,_,.cons h t,i+1,k,e=>by simpa using YC (P:=P) (w:=w) t i k (by simpa using e)
theorem Z7:∀{K:List bo} {y:List V} {u:List Value},ay y u->KV (K.zip y) (K.zip u)
 | [],_,_,_=>by simp only[List.zip_nil_left];exact .nil
 |_::_,_,_,.nil=>by simp only[List.zip_nil_right];exact .nil
 |k::K,_,_,.cons h t=>.cons #[Z,h] (Z7 t)
theorem qY(m:Gl X "dict")(n:X.mg "dict"=none)(t:Gl X "zip")(v:X.mg "zip"=none)(N:X.calm=true)(O:PA X [e1,e2] ta)
  (T:starEach [e1,e2] X.env=(false,eval e1 X.env)::starEach [e2] X.env:=by rfl) (U:(backTo pos2 (starEach [e2] X.env)).any (·.1)=false:=by rfl)
  (f:starEach [Expr.Call (.Name "zip" p2) [e1,e2] [] pos2] X.env=(false,eval (.Call (.Name "zip" p2) [e1,e2] [] pos2) X.env)::starEach [] X.env:=by rfl) (x:(backTo pos (starEach [] X.env)).any (·.1)=false:=by rfl):
  PE X (.Call (.Name "dict" p) [.Call (.Name "zip" p2) [e1,e2] [] pos2] [] pos) (D1 X.K ta):=by
 intro P s V H Q I h
 refine Fm (zN I m n PyProof.Rows.boot_dict ?_)
 refine Ff ?_ f x
 rw[f]
 show wpAny _ _ (spliced ((false,eval _ X.env)::backTo pos (starEach [] X.env))) _ _ s
 refine Gp ?_
 refine Fm (zN I t v PyProof.Rows.boot_zip ?_)
 refine Ff (aO (O pos2 P s V H _ I h) λus S z=>?_) T U
 obtain⟨vs,H1,d,W,Y⟩:=z
 obtain⟨a,b,c,ys,e,gx,gy,hl,q⟩:=Y
 subst e
 cases W with
 |cons r rr=>
  cases rr with
  |cons r' y=>
   cases y
   cases r
   cases r'
   obtain⟨A,F,G,z1⟩:=d.tuple gx
   obtain⟨j,R,C,z2⟩:=d.tuple gy
   have l1:=F.length
   have l2:=R.length
   rw[Ef]at l1 z1
   have la:a < S.heap.objs.size:=by obtain⟨o,D,_⟩:=G;exact Ek D
   have lb:b < S.heap.objs.size:=by obtain⟨o,D,_⟩:=C;exact Ek D
   refine Z6 (b1:=false) (b2:=false) (xs:=A.toArray) (ys:=j.toArray) G C λE J u' v' i1 i2 k=>?_
   refine GS ?_
   have Dz:=YA S.heap.objs.size a b la lb
   refine KN (s:={ S with heap:=E }) (knd:=aS X.prog X.w) (more:=c.zip j) (d.ok.hd N) Dz J u' #[_,_,v'] i1 i2 (gw.kp (b:=false) G λo e=>k _ _ e) (gw.kp (b:=false) C λo e=>k _ _ e) (by rw[IR,Ej];omega) (by rw[Ej];omega) (λi hi=>?_) λh2 tk dd k2=>?_
   ·rw[Ej]at hi
    have L:i < c.length:=by omega
    have M:i < j.length:=by omega
    obtain⟨u,hu,ku⟩:=YC F i _ (Ed L)
    refine#[u,j[i],c[i],by simpa using hu,by simp [M],ku,?_]
    rw[J']
    exact#[Ed L,Ed M]
   ·have g:KV (cV [] (c.zip ys)) (merged [] (c.zip j)):=KV.merge (Z7 R) .nil
    have zl:(cV [] (c.zip ys)).length<=sizeLine:=by
     rw[g.length]
     have:=merged_length_le ([]:List (bo×Value)) (c.zip j)
     rw[IR]at this
     simp only[IS]at this
     omega
    have k3:∀e o,S.heap.get? e=some o->h2.get? e=some o:=λe o w=>by
     have l:=Ek w
     exact k2 e o (En (Et l (FG _ _))) (En (Et l (FG _ _))) (En l) (En (Et l (FG _ _))) (k _ _ w)
    have B:S.heap.objs.size<=E.objs.size:=GP (FR (FG _ 4) (Ek J))
    exact#[.ref E.objs.size,_,d.laid k3 B (Xx zl (beq_eq_false_iff_ne.mpr (ES (En (Et d.big B)))) g dd),Z,q _ (d.hok.fresh B)]
end
section
variable {X:Cx}{st:Stmt}{ss:List Stmt}{e:Expr}{es:List Expr}
noncomputable def D0:TS:=λ_ _ _=>False
theorem Z8:i9 X ss D0:=λ_ _ _ _ _ _ h=>False.elim h
end
end _L
namespace _L
open PySem PySem.Spec PyProof.Rows PySem.SeqAt
noncomputable def C9(K:Frag):R2:=λx y H Q=>∃a b X Y,x= .ref a/\y= .ref b/\ar K H a X/\ar K H b Y/\
 ((X.all cn=true/\Y.all cn=true/\Q (.bl (ip X Y)) H)∨∃(w:Str) (c:Addr) (z:List V) (u:Str) (i:Int),X=[.str w,.ref c]/\ar K H c z/\Y=[.str u,.int i]/\Q (.bl false) H)
theorem Z9{X:Cx}(d:X.A.units+1 < cLine):eJ X (compareOp .Eq) (C9 X.K):=by
 intro p s m H x y v U Q I f g h
 obtain⟨a,b,n,Y,rfl,rfl,k,l,h | ⟨w,c,M,u,i,rfl,o,rfl,q⟩⟩:=h
 ·exact yp (Hu d) p s m H _ _ v U Q I f g #[a,b,n,Y,Z,Z,k,l,h]
 cases f
 cases g
 obtain⟨N,r,P,_⟩:=I.tuple k
 obtain⟨O,R,t,_⟩:=I.tuple l
 obtain⟨S,V,z,_⟩:=I.tuple o
 cases r with
 |cons B r=>
  cases r with
  |cons C r=>
   cases r
   cases R with
   |cons D R=>
    cases R with
    |cons E R=>
     cases R
     obtain⟨T,rfl⟩:=B
     cases C
     obtain⟨F,rfl⟩:=D
     obtain⟨G,rfl⟩:=E
     refine eq_tupleAt (e:=λj=>if j=0 then w==u else false) (show s.heap.IsTuple a _ from P) (show s.heap.IsTuple b _ from t) (Hu d) (λj J L=>?_) ?_
     ·match j,J,L with
      |0,_,_=>exact EqAt.str_str w T u F
      |1,_,_=>exact EqAt.tuple_int i G (show s.heap.IsTuple c _ from z) (by simpa [Around.in1,Around.units] using d)
     ·have e:((List.range (min 2 2)).all (λj=>if j=0 then w==u else false)&&(2:Nat)==2)=false:=by
       show((if 0=0 then w==u else false)&&((if 1=0 then w==u else false)&&true)&&true)=false
       simp
      exact#[.bl false,H,I,FE Value.bool e,q]
end _L
namespace _L
open PySem PySem.Spec PyProof.Rows
theorem YD:∀{n:List String} {u:List Value},ay (n.map V.ty) u->u=n.map Value.type
 | [],_,h=>by rw[List.map_nil]at h;cases h;rfl
 |c::r,_,h=>by
  rw[FF]at h
  cases h with
  |cons H a=>rw[show _=Value.type c from H,YD a];rfl
theorem KO{X:Cx}:c8 X (.builtin "isinstance") (λx H Q=>∃(a t:Addr) (c:List V) (N:List String) (b:Bool),x=[.ref a,.ref t]/\H a=some (.tup c)/\H t=some (.tup (N.map V.ty))/\kitAny X.K (.type "tuple") (N.map Value.type)=some b/\Q (.bl b) H):=by
 intro p s A H x U Q I r h
 obtain⟨a,t,c,N,b,rfl,d,f,e,q⟩:=h
 obtain⟨u,w,rfl,R,g⟩:=sQ r
 cases (show u=Value.ref a from R)
 cases (show w=Value.ref t from g)
 obtain⟨_,j,k,i⟩:=I.hok t _ f
 rw[YD k]at i
 obtain⟨_,B,_,o,l,m,_⟩:=I.hok a _ d
 obtain⟨⟨C,F,D,S⟩,E,v,n,y⟩:=i
 cases (show C=_ from v)
 cases (show D=_ from y)
 exact PySem.W.kia_tup PySem.W.kitx_tuple I.kIn #[o,l,m] E e (λz=>nomatch z) λT=>#[.bl b,H,I.tok T,Z,q]
noncomputable abbrev DS(K:Frag)(i j:Nat):TG:=oK K 2 (dw (a8 i) (dw (a8 j) oJ))
theorem A9{t:St}(h:t.length=2):∃a b,t=[a,b]:=by
 cases t with
 |nil=>cases h
 |cons a r=>
  cases r with
  |nil=>cases h
  |cons b R=>
   cases R with
   |nil=>exact#[a,b,Z]
   |cons _ _=>cases h
theorem Zt{K:Frag}{xs ys:List V}{t:TE}{Q:List V->Hp->Prop}(C:xs.length<=sizeLine)(d:xs.length=ys.length)(Pv:Nat->List V->Hp->Prop)(l:Pv 0 [] H)
  (n:∀i z h,Pv i z h->nX K false h a xs/\nX K false h b ys/\z.length<=i) (o:∀i x y z h p,xs[i]?=some x->ys[i]?=some y->Pv i z h->h p=none->t (some x::some y::f) (ah h p (.tup [x,y])) λv g=>Pv (i+1) (z++[v]) g) (s:∀z h,Pv xs.length z h->Q z h):
  dM (CH K false false a b) 2 f (DS K 0 1) i6 t Q H:=by
 refine#[λi m z h=>m=xs.length - i/\i<=xs.length/\Pv i z h,#[xs.length,Lp,Eu _,l],?_]
 rintro i m z h ⟨rfl,D,p⟩
 obtain⟨q,k,E⟩:=n i z h p
 by_cases c:i < xs.length
 ·refine .inr #[#[xs,ys,xs[i],ys[i]'(d▸c),q,k,Ed c,Ed (d▸c)],Lo,Pv (i+1),λu g P=>#[xs.length - (i+1),Lo,Z,c,P],λv g T j y=>?_]
  obtain⟨r,v,w,rfl,A,rfl,W,B⟩:=y
  obtain⟨F,G,rfl⟩:=A9 j
  exact#[r,_,Z,ar.of jc,Z,_,_,Z,_,_,Z,Z,#[[some _,some _],Z,Z],o i v w z h r (W xs q) (B ys k) p A]
 ·have e:i=xs.length:=by omega
  subst e
  exact .inl #[#[xs,q,Eh _],s z h p]
section
open PySem.W
theorem Zu{K:Frag}(X:K.In h)(a:h.get? x=some o)(b:o.cls= .ref C)(H:clsIn K B≠none)(tB:typeIn K (.ref B)=some (.type "type"))(m:mroIn K B (.type "BaseException")=some true)(c:mroIn K C (.ref B)=some false):
  Looks M h (excMatches (.ref x) (.ref B)) false:=by
 have L:Looks M h (typeOf (.ref x)) (.ref C):=b▸(Looks.ld a).andThen .now
 have l:=looks_typeIn (M:=M) X tB
 have _L:Looks M h (isInstance (.ref B) (.type "tuple")) false:=l.andThen (Looks.of_pure tc_notTuple)
 have d:Looks M h (isType (.ref B)) true:=by
  unfold clsIn at H
  split at H
  ·rename_i e
   intro A Q E s k q
   unfold isType loadHead
   exact Ec (Ix (k _ _ (X _ _ e)) (Ee q))
  ·exact absurd Z H
 have f:Looks M h (isExcClass (.ref B)) true:=by
  unfold isExcClass
  exact d.andThen (by rw[Er Z];exact IJ X m)
 have g:=IJ (M:=M) X c
 intro A Q E s k q
 unfold excMatches
 refine Ec (_L A _ E s k ?_)
 rw[Ew Ln]
 refine Ec (Ee ?_)
 dsimp only
 refine Ec ?_
 rw[FV]
 refine Ec (Ec (f A _ E s k ?_))
 simp only[GV,Ep,Fy]
 refine Ee ?_
 dsimp only
 rw[GL]
 refine Ee ?_
 refine Ec (L A _ E s k ?_)
 refine Ec ?_
 rw[FV]
 refine Ec (Ec (g A _ E s k ?_))
 simp only[Ep,Fy]
 refine Ee ?_
 dsimp only
 rw[GL]
 refine Ee ?_
 exact Ee q
end
noncomputable def wM(K:Frag)(A B:Addr)(t:CN)(b c:TS):TS:=λD a H=>t D (λx C d _ h=>(mroIn K C (.ref A)=some true/\∀T,h T=none->b D a (ah (ah h T (eM T)) x (fQ C d T x)))∨(mroIn K C (.ref A)=some false/\mroIn K C (.ref B)=some true/\∀T,h T=none->c D a (ah (ah h T (eM T)) x (fQ C d T x)))) a H
section
variable {X:Cx}{st a₀ b₀:Stmt}{as bs:List Stmt}{tb:CN}{ta tc:TS}{ca cb:Str}{np np' hp hp' pos:Pos}{A B:Addr}
theorem uX(b:X.stack=X.env::X.outer)(M:X.env.frame=some X.env.locals)(hb:DH X st tb)(hg:Gl X ca)(hm:X.mg ca=some (.ref A))(hA:clsIn X.K A≠none)(tA:typeIn X.K (.ref A)=some (.type "type"))(mA:mroIn X.K A (.type "BaseException")=some true)
  (N:Gl X cb) (O:X.mg cb=some (.ref B)) (hB:clsIn X.K B≠none) (tB:typeIn X.K (.ref B)=some (.type "type")) (mB:mroIn X.K B (.type "BaseException")=some true)
  (hs:∀e,i9 (X.mark e λ_ _=>False) (a₀::as) ta) (P:∀e,i9 (X.mark e λ_ _=>False) (b₀::bs) tc) (l:(ca==("__debug__":Str))=false:=by decide) (R:(cb==("__debug__":Str))=false:=by decide):
  PS X (.Try [st] [.ExceptHandler (some (.Name ca np)) none (a₀::as) hp,.ExceptHandler (some (.Name cb np')) none (b₀::bs) hp'] [] [] pos) (wM X.K A B tb ta tc):=by
 intro p s U H D I h
 refine wpAny_Try_except (La (Fu (hb p s U H D _ I h) (λf g q=>?_) λe g q=>?_))
 ·cases f with
  |next=>exact Hj (Hj q)
  |ret v=>exact q
  |brk=>exact q
  |cont=>exact q
 obtain⟨x,C,d,T,V,rfl,m,hx,hT,o,q⟩:=q
 obtain⟨⟨ox,vs,h1,h2,h3,h4,W,h6⟩,_⟩:=m.hok x _ hx
 obtain⟨⟨oT,J,t1,t2,t3⟩,_⟩:=m.hok T _ hT
 have u:=(Array.getElem?_eq_some_iff.mp h6).1
 have Y:X.A.frames=some (X.env::X.outer):=by rw[<- b];exact m.ok.frames
 have f0:g.heap.FunFrames X.base (X.env::X.outer):=by rw[<- b];exact m.stack
 refine Qg (base:=X.base) Y f0 M h1 W h6 o t1 t2 t3 λg2 Nd=>?_
 have E:(dO T g.heap).get? x=some ox:=(Ey _ _ o).trans h1
 refine xM (s:={ g with heap:=g2 }) Nd E W u λg3 N0=>?_
 obtain⟨t,hn,F,i⟩:=(m.cleared hT t1 t2 t3).noted (C:=C) (d:=d) (t':=g.toks) hx E h2 h4 W u (by unfold hZ;rw[b];exact N0)
 have i:ao X p U (ah (ah V t (eM t)) x (fQ C d t x)) { g with heap:=g3 }:=i
 obtain⟨⟨o1,v1,L,k2,k3,k4,k5,k6⟩,_⟩:=i.hok x _ jc
 have G:ah (ah V t (eM t)) x (fQ C d t x) t=some (eM t):=by rw[jl F,jc]
 obtain⟨⟨o2,t0,u1,u2,u3⟩,_⟩:=i.hok t _ G
 have S:∀{E':Value->Shared->Prop} {c:Stmt} {cs:List Stmt} {J:TS} {hp:Pos},(∀e,i9 (X.mark e λ_ _=>False) (c::cs) J)->J D U (ah (ah V t (eM t)) x (fQ C d t x))->codeAny (model X.prog X.w) (X.A.mark (some (.ref x))) (Code.handlers (.ref x) [.ExceptHandler none none (c::cs) hp] X.env) (λr a=>match r with | .ok f=>SP X p D f a | .error y=>cameBackBy (model X.prog X.w) X.A X.env E' y a) { g with heap:=g3 }:=by
  intro E' c cs J hp hz qz
  refine codeAny_handlers_suite ?_
  unfold setFlight
  refine Ec (EJ L k5 k6 ?_)
  rw[Er (show(Value.ref t != Value.none)=true from by simp)]
  refine Fg u1 u2 (Array.getElem?_eq_some_iff.mp u3).1 ?_
  have I4:=i.cleared G u1 u2 u3
  refine Fu (hz (.ref x) p _ _ _ D (I4.mark (.ref x) λ_ _=>False) qz) (λf s6 Q=>?_) λ_ _ z=>z.elim
  cases f with
  |next=>obtain⟨j,H6,k,n⟩:=Q;exact#[_,_,k.unmark I.ok,n]
  |brk=>obtain⟨j,H6,k,n⟩:=Q;exact#[_,_,k.unmark I.ok,n]
  |cont=>obtain⟨j,H6,k,n⟩:=Q;exact#[_,_,k.unmark I.ok,n]
  |ret v=>obtain⟨y,j,H6,k,rv,n⟩:=Q;exact#[y,_,_,k.unmark I.ok,rv,n]
 rcases q with ⟨mC,q⟩ | ⟨mC,m0,q⟩
 ·refine II (Ip ?_) (by intro z;cases z)
  refine zj (i.mark (.ref x) λ_ _=>False) hg hm ?_ l
  refine qE i.kIn L k2 hA tA mA mC _ _ _ _ (λ_ _ e=>e) ?_
  exact S hs (q t hn)
 ·refine II (Ip ?_) (by intro z;cases z)
  refine zj (i.mark (.ref x) λ_ _=>False) hg hm ?_ l
  refine Zu i.kIn L k2 hA tA mA mC _ _ _ _ (λ_ _ e=>e) ?_
  refine II (Ip ?_) (by intro z;cases z)
  refine zj (i.mark (.ref x) λ_ _=>False) N O ?_ R
  refine qE i.kIn L k2 hB tB mB m0 _ _ _ _ (λ_ _ e=>e) ?_
  exact S P (q t hn)
end
end _L
namespace _L
open PySem PySem.Spec PyProof.Rows
theorem bE.m(r:bE k A)(h:j<=k:=by omega):bE j A:=r.mono h
theorem bJ{N P:List Str}{s:Scope}(a:s.kind=.function:=by rfl)(b:s.isCoroutine=false:=by rfl)(c:s.isGenerator=false:=by rfl)(d:N.Nodup:=by decide +kernel)(e:N.take P.length=P:=by rfl)(f:∀x∈P,s.names.lookup x=some .local ∨ s.names.lookup x=some .cell:=by decide +kernel)(g:∀y∈s.names,y.2≠.free:=by decide +kernel):am N P s:=#[a,b,c,d,e,f,g]
theorem mO{N:List Str}{s t:Scope}{M:List Str}{i:List Nat}(a:∀y∈t.names,y.2≠.cell:=by decide +kernel)(b:t.kind=.function:=by rfl)(c:∀y∈t.names,y.2=.local->t.names.lookup y.1=some .local:=by decide +kernel)(d:∀y∈t.names,y.2=.free->s.names.lookup y.1=some .cell:=by decide +kernel)(e:M.drop n=i.map (λi=>N.getD i Str.empty):=by decide +kernel)(f:M.length=n+i.length:=by rfl)(g:∀j∈i,t.names.lookup (N.getD j Str.empty)=some .free:=by decide +kernel):aZ N s t M n i:=#[a,b,c,d,e,f,g]
end _L
local macro_rules|`(tactic|obtain $p:rcasesPat:=$t)=>`(tactic|(refine _L.aT λG k=>?_;rcases $t:term with $p:rcasesPat<;>(refine k ?_;clear k)))
namespace _K
open PySem PySem.Spec PyProof.Rows _L
variable {P:Program}{w:World}{K:Frag}{mg:Str->Option Value}{base:Heap}
noncomputable def bL(i:Nat):Stmt:=PySem.Challenge.pw_againbook_k22_chains_by_hand.main.body.getD i (.Pass #[0,0,0,0])
noncomputable abbrev yM:Stmt:=bL 47
noncomputable abbrev rC:Stmt:=bL 48
noncomputable abbrev gG:Stmt:=bL 50
noncomputable def ax(p:Addr)(H h:Hp):Prop:=∀b o,b≠p->H b=some o->h b=some o
theorem ax.refl:ax p H H:=λ_ _ _ h=>h
theorem ax.trans(a:ax p H d)(b:ax p d e):ax p H e:=λc o n h=>b c o n (a c o n h)
theorem ax.of_eq{H a:Hp}(h:∀b,b≠p->a b=H b):ax p H a:=λb o n e=>by rw[h b n];exact e
theorem ax.upd_new{o:HO}(a:ax p H h)(n:h r=none):ax p H (ah h r o):=λb u N e=>by
 have q:=a b u N e
 rw[jl (jo q n)];exact q
theorem ax.upd_own(a:ax p H h)(n:H r=none):ax p H (ah h r o):=λb u N e=>by
 rw[jl (jo e n)];exact a b u N e
structure ap(H:Hp)(p:Addr):Prop where
 ob:∃a b:Int,0<=a/\1<=b/\b<=2147483646/\H p=some (.lst [.int a,.int b])
theorem ap.eq{c:Hp}(B:ap H p)(e:c p=H p):ap c p:=by
 obtain⟨a,b,d,f,g,h⟩:=B.ob
 exact#[a,b,d,f,g,by rw[e];exact h]
theorem ap.upd_new{o:HO}(B:ap H p)(n:H r=none):ap (ah H r o) p:=by
 obtain⟨a,b,c,d,e,h⟩:=B.ob
 exact B.eq (by rw[jl (jo h n)])
theorem ap.ne(B:ap H p)(n:H r=none):r≠p:=by
 obtain⟨a,b,c,d,e,h⟩:=B.ob
 exact ES (jo h n)
noncomputable def aX:Sp:=λv H Q _=>∃(p:Addr) (w:Int),v=[.ref p,.int w]/\ap H p/\0 < w/\w<=1000000000000000000/\
 ∀(d:Int) (h:Hp),0<=d->d < w->ap h p->(∀b,b≠p->h b=H b)->Q (.int d) h
noncomputable def se(K:Frag):Sp:=λv H Q _=>∃(a:Addr) (n:List Int) (k:Int),v=[.ref a,.int k]/\aF K H a (n.map V.int)/\0<=k/\k < 1000/\
 ∀(r:Addr) (h:Hp),H r=none->ap h r->(∀b,b≠r->h b=H b)->Q (.ref r) h
theorem gW:(10:Int) ^ (18:Int).toNat=1000000000000000000:=by decide
theorem oR{ns:List Int}{k:Int}(H:0<=k)(a:k < (ns.length:Int)):∃v:Int,dC (ns.map V.int) k=some (.int v):=by
 have h:k.toNat < ns.length:=by omega
 have e:k=((k.toNat:Nat):Int):=by omega
 have q:dC (ns.map V.int) ((k.toNat:Nat):Int)=some (.int ns[k.toNat]):=ju (by rw[Eo,Ed h];rfl)
 rw[<- e]at q
 exact#[_,q]
structure Cl(P:Program)(w:World)(K:Frag)(mg:Str->Option Value)(base:Heap)(L:Nat)(f:Addr)(fd:FuncData)(ps:List Str)(sp:Sp)(py:Str):Prop where
 g:ai P w K mg base aD L f fd ps sp
 b:aC K fd ps []
 k:keepIn K (.ref f)=true
 m:mg py=some (.ref f)
theorem Cl.e{X:Cx}{e:Expr}(c:Cl X.prog X.w X.K X.mg X.base L f o q s a)(i:bE L X.A)(j:PA X (e::E) t)(l:Gl X a:=by rfl)(h:(a==("__debug__":Str))=false:=by decide)(n:starEach (e::E) X.env=(false,eval e X.env)::starEach E X.env:=by rfl)(H:(backTo d (starEach E X.env)).any (·.1)=false:=by rfl):PE X (.Call (.Name a p) (e::E) [] d) (dB s [] E0 t):=kH c.g i l c.m c.k c.b .nil bq j h n H
theorem jw{X:Cx}(h:PE X a t):PE X (.Subscript a (.Constant (.int i) j p) b) (dF (eu X.K) t (tC (.int i))):=js jJ h jf λ_ _=>Z
theorem jB{X:Cx}{p:Pos}(i:Nat)(h:X.N.Nodup)(H:PE X e t)(b:X.N[i]?=some x:=by rfl)(c:n6 X.env.scope x:=by exact Or.inl Z)(d:swapsWith e (some (.Name x a)) p.line X.env=pure false:=by rfl)(f:X.fn x=true∨X.env.scope.names.lookup x=some .local:=by first |exact .inl Z |exact .inr Z |assumption):PS X (.Assign [.Name x a] e p) (dA t (a8 i)):=kr h b c H d f
theorem jq{K:Frag}{H:Hp}{Q:VK}(h:H p=some (.tup x))(a:dC x n=some v)(q:Q v H)(e:b[i]?=some (some (.ref p)):=by rfl):dF (eu K) (aW i) (tC (.int n)) b H Q:=#[_,e,p,x,n,v,Z,Z,ar.of h,a,q]
theorem jV{X:Cx}(h:PE X a t):PT X (.Compare a [.Eq] [.Constant (.str x) j p] b) (im (dF yG t (tC (.str x)))):=jE zw h jk Z
theorem ze{X:Cx}(h:PE X a t):PT X (.Compare a [.Eq] [.Constant (.int x) j p] b) (im (dF yG t (tC (.int x)))):=jE zw h jf Z
theorem gJ:am ["_law_box_here","_law_wide","_law_digit","_law_one","_law_mixed"] ["_law_box_here","_law_wide"] (aa rC):=bJ
theorem uL(F:aN K "_law_take" "_law_take" rC f x):ai P w K mg base aD 1 f x ["_law_box_here","_law_wide"] aX:=by
 refine F.ok gJ ?_ λC A O s H V Q E z h=>?_
 ·rintro _ _ _ _ ⟨p,w,rfl,_⟩
  rfl
 obtain⟨p,W,rfl,B,d,g,q⟩:=h
 obtain⟨a,b,l,i,j,e⟩:=B.ob
 refine#[_,jd (jx (jE JC (js jr (pv 0) jf (λ_ _=>Z)) jf (aA _))
   (jd (jB 2 gJ.nd (jv kX (js jr (pv 0) jf (λ_ _=>Z)) (pv 1)))
   (jd (za (jv Jg (js jr (pv 0) jf (λ_ _=>Z)) (pv 1)) (qI (pv 0) jf zE))
   (jg (jm (pv 2))))) jp)
  (jd (jB 3 gJ.nd (jv kX (jv zh (js jr (pv 0) jf (λ_ _=>Z)) jf) jf))
  (jd (za (jv jW (jv kX (jv jW (jv zh (pv 3) jf) jf) jf) jf) (qI (pv 0) jf zE))
  (jd (jB 4 gJ.nd (jv Jg (jv jW (jv zh (pv 3) jf) (js jr (pv 0) jf (λ_ _=>Z))) jf))
  (jd (jx (jE JC (pv 1) (jv qJ jf jf) (aA _)) (jg (jB 4 gJ.nd (jv zh (pv 4) (pv 4)))) jp)
  (jg (jm (jv kX (pv 4) (pv 1)))))))),?_]
 refine#[_,Z,p,_,_,_,Z,Z,aF.of e,Z,_,_,Z,Z,_,Z,?_]
 refine bH (λc=>?_) (λc=>?_)
 ·have D:(0:Int) < a:=Fz c
  refine#[_,Z,p,_,_,_,Z,Z,aF.of e,Z,_,Z,_,_,Z,Z,d,?_]
  refine#[_,Z,p,_,_,_,Z,Z,aF.of e,Z,_,Z,_,_,Z,Z,#[d,g],_,Z,p,_,_,0,Z,Z,e,Z,_,Z,?_]
  refine q (a % W) _ (Fj _ Lo) (EW _ d) #[a / W,b,Int.ediv_nonneg l Lo,i,j,jc] λb n=>jl n
 ·have I:0<=b*69621 % 2147483647:=Fj _ Ln
  have J:b*69621 % 2147483647 < 2147483647:=EW _ Ln
  refine#[_,Z,p,_,_,_,Z,Z,aF.of e,Z,_,_,Z,Z,.inr #[Ln,Ln],_,_,Z,Z,(by show(0:Int) < 2147483647;decide),?_]
  refine#[_,Z,_,_,Z,Z,.inr #[Ln,Ln],_,_,Z,Z,_,_,Z,Z,(by show(0:Int) < 2147483646;decide),_,_,Z,Z,_,Z,p,_,_,1,Z,Z,e,Z,?_]
  generalize m:b*69621 % 2147483647=o at*
  have N:0<=(o*48271+30103) % 2147483646:=Fj _ Ln
  have L:(o*48271+30103) % 2147483646 < 2147483646:=EW _ Ln
  generalize r:(o*48271+30103) % 2147483646=t at*
  refine#[_,Z,_,_,Z,Z,.inr #[Ln,Ln],_,Z,p,_,_,_,Z,Z,aF.of jc,Z,_,_,Z,Z,_,_,Z,Z,#[Ln,Ln],?_]
  have X:0<=(o*2147483647+(t+1)) / 8191:=by omega
  have R:(o*2147483647+(t+1)) / 8191 < 18446744073709551616:=by omega
  generalize u:(o*2147483647+(t+1)) / 8191=M at*
  refine#[_,Z,_,_,Z,Z,#[Ln,Ln,Ln],_,_,Z,Z,_,Z,?_]
  have v:ap (ah H p (.lst [.int a,.int (t+1)])) p:=#[a,t+1,l,Lo,Lo,jc]
  refine bH (λy=>?_) (λy=>?_)
  ·refine#[_,Z,_,Z,_,_,Z,Z,.inl #[Lo,Lo],?_]
   refine#[_,Z,_,Z,_,_,Z,Z,d,?_]
   exact q _ _ (Fj _ Lo) (EW _ d) v λb n=>jl n
  ·refine#[_,Z,_,Z,_,_,Z,Z,d,?_]
   exact q _ _ (Fj _ Lo) (EW _ d) v λb n=>jl n
theorem lv:am ["_law_script","_law_k","_law_cell","_law_seed"] ["_law_script","_law_k"] (aa yM):=bJ
theorem x6(F:aN K "_law_box" "_law_box" yM f I)(m:mg "len"=none)(M:mg "int"=none):ai P w K mg base aD 1 f I ["_law_script","_law_k"] (se K):=by
 refine F.ok lv ?_ λJ A o s H W Q E X h=>?_
 ·rintro _ _ _ _ ⟨a,ns,k,rfl,_⟩
  rfl
 obtain⟨a,ns,k,rfl,d,i,L,q⟩:=h
 refine#[_,jd (jB 2 lv.nd (jv jW (jv zh jf (pv 1)) jf))
  (jd (jx (jE J4 (pv 1) (jF jH Z m Fd (ja (pv 0) jb)) (aA _))
   (jg (jB 2 lv.nd (js jr (pv 0) (pv 1) (λ_ _=>Z))))
   (jg (jx (jE JC (jF jH Z m Fd (ja (pv 0) jb)) jf (aA _))
    (jg (jB 2 lv.nd (jv jW (pv 2) (jv zh (jv kX (js jr (pv 0) (jv kX (pv 1) (jF jH Z m Fd (ja (pv 0) jb))) (λ_ _=>Z)) jf) jf)))) jp)))
  (jd (jB 3 lv.nd (jv jW (jv kX (jv jW (jv zh (jv kX (pv 2) jf) jf) (jv zh jf (pv 1))) jf) jf))
  (jg (jm (jL (ja (jv zh (pv 2) (jC kQ Z M HL (ja (j4 ZN (pv 2) (jv qJ jf jf) (aA _)) jb))) (ja (pv 3) jb))))))),?_]
 have e:(ns.map V.int).length=ns.length:=Ef _
 have T:∀c:Int,∃v:V,∃x:Int,v= .int x/\1<=x/\x<=2147483646/\v= .int ((c % 2147483629*48271+40692*k) % 2147483646+1):=λc=>by
  have N:0<=(c % 2147483629*48271+40692*k) % 2147483646:=Fj _ Ln
  have O:(c % 2147483629*48271+40692*k) % 2147483646 < 2147483646:=EW _ Ln
  exact#[_,_,Z,Lo,Lo,Z]
 have j:∀(c:Int) (r:Addr),H r=none->Q (.ref r) (ah H r (.lst [.int (c*(if decide ((10:Int) ^ (18:Int).toNat<=c)=true then 1 else 0)),.int ((c % 2147483629*48271+40692*k) % 2147483646+1)])):=λc r R=>by
  refine q r _ R #[_,_,?_,?_,?_,jc] λb n=>jl n
  ·rw[gW]
   by_cases h:(1000000000000000000:Int)<=c
   ·rw[EN h,Er Z];omega
   ·rw[EH h,Ew Em];omega
  ·have N:0<=(c % 2147483629*48271+40692*k) % 2147483646:=Fj _ Ln
   omega
  ·have O:(c % 2147483629*48271+40692*k) % 2147483646 < 2147483646:=EW _ Ln
   omega
 have B:∀c:Int,tE c (if decide ((10:Int) ^ (18:Int).toNat<=c)=true then 1 else 0):=λc=>.inr (by split<;>decide)
 refine af λF0 u=>#[_,Z,_,_,Z,Z,.inl #[Ln,Ln],_,_,Z,Z,u _ _ ?_]
 clear u
 refine af λS y=>?_
 have l:∀c:Int,S [some (.ref a),some (.int k),some (.int c),none] H:=λc=>y _ _ (af λF2 U=>#[_,Z,_,_,Z,Z,(by show(0:Int) < 2147483629;decide),_,_,Z,Z,.inr #[Ln,Ln],_,Z,_,_,Z,Z,.inl #[Ln,Ln],_,_,Z,Z,_,_,Z,Z,(by show(0:Int) < 2147483646;decide),_,_,Z,Z,U _ _ (#[_,Z,_,Z,_,_,Z,Z,#[Ln,Ln,Ln],_,_,Z,Z,.inr #[_,Z,_,_,Z,Z,B c,_,Z,bj,j c]])])
 clear y
 refine mP λG g=>#[_,Z,_,Z,a,_,Z,.inl d,_,_,Z,Z,_,Z,g _ _ ?_]
 clear g
 refine bH (λc=>?_) (λc=>?_)
 ·have C:k < (((ns.map V.int).length:Nat):Int):=Fz c
  rw[e]at C
  obtain⟨v,p⟩:=oR (ns:=ns) i C
  exact#[_,Z,_,Z,a,_,_,_,Z,Z,d,p,l v]
 ·have C:¬k < (((ns.map V.int).length:Nat):Int):=Hr (Bool.eq_false_iff.mpr c)
  rw[e]at C
  refine mP λG g=>#[_,Z,a,_,Z,.inl d,_,_,Z,Z,_,Z,g _ _ ?_]
  clear g
  refine bH (λz=>?_) (λz=>?_)
  ·have D:(0:Int) < (((ns.map V.int).length:Nat):Int):=Fz z
   obtain⟨v,p⟩:=oR (ns:=ns) (k:=k % (((ns.map V.int).length:Nat):Int)) (Fj _ Lo) (by have:=EW k D;rw[e]at this;rw[e];exact this)
   exact#[_,Z,_,Z,_,Z,_,Z,a,_,Z,.inl d,_,_,Z,Z,D,a,_,_,_,Z,Z,d,p,_,_,Z,Z,(by show(0:Int) < 2147483629;decide),_,_,Z,Z,.inr #[Ln,Ln],_,_,Z,Z,l _]
  ·exact l _
theorem mw(i j:Str):(i++j).length=i.length+j.length:=by
 show(i.cps++j.cps).size=i.cps.size+j.cps.size
 exact IG
theorem zf:1000000<=sizeLine:=by rw[Iz];decide
theorem aq{H:Hp}{o:HO}(h:H b=some u)(n:H r=none):ah H r o b=some u:=by rw[jl (jo h n)];exact h
theorem sw{z:Str}{k:Int}(H:0<=k)(a:k < (z.length:Int)):∃c:Nat,dC z.cps.toList k=some c:=by
 have b:z.cps.toList.length=z.length:=EC
 have h:k.toNat < z.cps.toList.length:=by omega
 have e:k=((k.toNat:Nat):Int):=by omega
 have q:dC z.cps.toList ((k.toNat:Nat):Int)=some z.cps.toList[k.toNat]:=ju (Ed h)
 rw[<- e]at q
 exact#[_,q]
theorem Ke{ys:List Str}{k:Int}(H:0<=k)(a:k < (ys.length:Int)):∃y∈ys,dC (ys.map V.str) k=some (.str y):=by
 have h:k.toNat < ys.length:=by omega
 have e:k=((k.toNat:Nat):Int):=by omega
 have q:dC (ys.map V.str) ((k.toNat:Nat):Int)=some (.str ys[k.toNat]):=ju (by rw[Eo,Ed h];rfl)
 rw[<- e]at q
 exact#[_,GQ h,q]
noncomputable def ba(s:List Str)(lo h:Option Int):List Str:=(s.drop (HT.sIx s.length 0 lo)).take (HT.sIx s.length s.length h - HT.sIx s.length 0 lo)
theorem zF(s:List Str)(lo h:Option Int):aV (s.map V.str) lo h=(ba s lo h).map V.str:=by
 unfold aV ba
 rw[Ef,Hy,List.map_drop]
theorem zS{lo:Option Int}(h:y∈ba s lo H):y∈s:=List.mem_of_mem_drop (Fe h)
theorem qv(s:List Str)(lo h:Option Int):(ba s lo h).length<=s.length:=by
 unfold ba
 rw[ED,Ga]
 omega
theorem qZ:∀{ys:List Str},(∀y∈ys,y.length<=1)->(ys.map (·.length)).sum<=ys.length
 | [],_=>Eh _
 |y::r,h=>by
  have a:=h y Ez
  have b:=qZ (ys:=r) λz H=>h z (EB _ H)
  rw[FF,List.sum_cons,EM]
  omega
theorem q8{z:Str}{ys:List Str}(H:z.length=0)(h:∀y∈ys,y.length<=1):(Txt.join z ys).length<=ys.length:=by
 show(Builtin.Str.glued z ys).length<=_
 rw[size_glued,H,Nat.mul_zero,Nat.add_zero]
 exact qZ h
noncomputable def df:Str:="abcdefghijklmnopqrstuvwxyz"
theorem JM:df.length=26:=by decide+kernel
noncomputable def nP(d:Int)(k:Nat):Nat:=97+((d+5*(0+(k:Int))) % 26).toNat
theorem uh(H:i < 20)(a:j < 20)(h:nP d i=nP d j):i=j:=by
 unfold nP at h
 omega
theorem xN(H:0<=k)(a:k < 26)(h:dC df.cps.toList k=some c):c=97+k.toNat:=by
 have q:∀m:Fin 26,dC df.cps.toList (m.val:Int)=some (97+m.val):=by decide+kernel
 have e:=q #[k.toNat,Lo]
 have E:((k.toNat:Nat):Int)=k:=by omega
 dsimp only at e
 rw[E,h]at e
 injection e
noncomputable def Sh(A S:Str)(d:Int)(c:Nat)(w:Str):Prop:=if d=2 then ∃R:Str,w=R++#[(List.toArray [c])] else w=A++#[(List.toArray [c])]++S∨w=A++#[(List.toArray [c])]++S++"z"∨w="qqqqqqq"++#[(List.toArray [c])]
theorem kK(a b:Str):(a++b).cps.toList=a.cps.toList++b.cps.toList:=by
 show(a.cps++b.cps).toList=_
 exact Array.toList_append
theorem Q4{R:Str}(h:R++(#[(List.toArray [c])]:Str)=r++#[(List.toArray [C])]):c=C:=by
 have e:=FE (Array.toList ∘ Str.cps) h
 have e:(R++(#[(List.toArray [c])]:Str)).cps.toList=(r++(#[(List.toArray [C])]:Str)).cps.toList:=e
 rw[kK,kK]at e
 have:=List.append_inj_right' e Z
 injection this
theorem ui{S:Str}(h:A++(#[(List.toArray [c])]:Str)++S=A++#[(List.toArray [C])]++S):c=C:=by
 have e:=FE (Array.toList ∘ Str.cps) h
 have e:(A++(#[(List.toArray [c])]:Str)++S).cps.toList=(A++(#[(List.toArray [C])]:Str)++S).cps.toList:=e
 rw[kK,kK,kK,kK]at e
 have:=Ll (Hz e)
 injection this
theorem BF{A S : Str}{d : Int}{c C : Nat}{w : Str}(i : A.length + S.length <= 5)(h : Sh A S d c w)(H : Sh A S d C w) : c = C := by
  unfold Sh at h H
  have l : ∀ c : Nat, (#[(List.toArray [c])] : Str).length = 1 :=λ_ => Z
  have L : (Str.ofString "z").length = 1 := by decide +kernel
  have f : (Str.ofString "qqqqqqq").length = 7 := by decide +kernel
  split at h
  · rename_i a
    rw [Er a] at H
    obtain ⟨R, rfl⟩ := h
    obtain ⟨r, e⟩ := H
    exact Q4 e
  · rename_i a
    rw [Ew a] at H
    rcases h with rfl | rfl | rfl <;> rcases H with e | e | e
    · exact ui e
    all_goals first
      | exact Q4 e
      | (have g := FE Str.length e
         simp only [mw, l, L, f] at g
         omega)
      | skip
    have E := FE (Array.toList ∘ Str.cps) e
    have E : (A ++ (#[(List.toArray [c])] : Str) ++ S ++ ("z" : Str)).cps.toList = (A ++ (#[(List.toArray [C])] : Str) ++ S ++ ("z" : Str)).cps.toList := E
    rw [kK, kK (A ++ _ ++ S)] at E
    have b := Hz E
    rw [kK, kK, kK, kK] at b
    have := Ll (Hz b)
    injection this
theorem Q5{y:List Str}:y.Nodup↔∀i j:Nat,i < j->j < y.length->y[i]?≠y[j]?:=by
 unfold List.Nodup
 rw[List.pairwise_iff_getElem]
 refine#[λh i j H a e=>?_,λh i j b a H e=>h i j H a ?_]
 ·rw[Ed (by omega:i < y.length),Ed a]at e
  injection e with e
  exact h i j Lo a H e
 ·rw[Ed b,Ed a,e]
theorem rY{A S:Str}{d D:Int}{Y:List Str}(b:A.length+S.length<=5)(g:Y.length<=20)(h:∀j y,Y[j]?=some y->Sh A S D (nP d j) y):Y.Nodup:=by
 rw[Q5]
 intro i j c H e
 have a:=h i _ (Ed (by omega:i < Y.length))
 have f:=h j _ (Ed H)
 rw[Ed (by omega:i < Y.length),Ed H]at e
 injection e with e
 rw[e]at a
 have:=uh Lo Lo (BF b a f)
 omega
theorem Zv{y:List Str}(h:y.Nodup)(b:a∉y):(y.set n a).Nodup:=by
 rw[Q5]at h ⊢
 intro i j H c e
 rw[HW]at c
 by_cases d:n=i
 ·rw[d,Hi Lo,Go Lo]at e
  exact b (EA e.symm)
 ·by_cases f:n=j
  ·rw[f,Hi Lo,Go Lo]at e
   exact b (EA e)
  ·rw[Go d,Go f]at e
   exact h i j H c e
theorem ut{y:List Str}(h:mQ (.str a) (y.map V.str)=false):a∉y:=λm=>by
 unfold mQ at h
 rw[List.any_eq_false]at h
 exact h (.str a) (List.mem_map.mpr #[a,m,Z]) (by simp [lN])
theorem tV{ss:List Str}{d1 d2:Int}(h:ss.length=(1+d1).toNat)(a:0<=d2)(b:d2 < 1+d1):(ba ss none (some d2)).length+(ba ss (some (d2+1)) none).length<=d1.toNat:=by
 obtain⟨k,rfl⟩:∃k:Nat,d2=k:=#[d2.toNat,(Int.toNat_of_nonneg a).symm]
 obtain⟨n,rfl⟩:∃n:Nat,d1=n:=#[d1.toNat,(Int.toNat_of_nonneg Lo).symm]
 have H:k<=n:=by omega
 have h:ss.length=n+1:=by rw[h];omega
 clear a b
 unfold ba
 rw[show((k:Int)+1)=((k+1:Nat):Int) from Z,HT.sIx_nat,HT.sIx_nat,ED,ED,Ga,h,GX (FP H),GX (Nat.le_succ_of_le H)]
 refine Es (Nat.add_le_add (IN _ _) (IN _ _)) ?_
 show k - 0+(n+1 - (k+1))<=n
 rw[IC,Nat.add_sub_add_right,Nat.add_sub_cancel' H]
 exact Eh _
theorem Dl{S:Str}:Sh A S d c ("qqqqqqq"++#[(List.toArray [c])]):=by
 unfold Sh
 split
 ·exact#[_,Z]
 ·exact .inr (.inr Z)
theorem Dm{A S:Str}{d:Int}{c:Nat}{w:Str}(h:if d=2 then ∃R:Str,w=R++#[(List.toArray [c])] else w=A++#[(List.toArray [c])]++S∨w=A++#[(List.toArray [c])]++S++"z"):Sh A S d c w:=by
 unfold Sh
 split at h
 ·rename_i e;rw[Er e];exact h
 ·rename_i e;rw[Ew e];exact h.elim .inl λz=>.inr (.inl z)
noncomputable def pre(s:List Str)(d:Int):Str:=Txt.join "" (ba s none (some d))
noncomputable def eG(s:List Str)(d:Int):Str:=Txt.join "" (ba s (some (d+1)) none)
noncomputable def gp:Sp:=λv H Q _=>∃(p:Addr) (n:Int),v=[.ref p,.int n]/\ap H p/\1<=n/\n<=20/\
 ∀(r:Addr) (Y:List Str) (h:Hp),H r=none->h r=some (.lst (Y.map V.str))->(Y.length:Int)=n->(∀y∈Y,y.length<=20)/\Y.Nodup->ap h p->ax p H h->Q (.ref r) h
theorem aY:am ["_law_box_here","_law_total","_law_letters","_law_wide","_law_spot_here","_law_signs","_law_first","_law_form","_law_found","_law_k","_law_one","_law_word","_law_some","_law_odd"] ["_law_box_here","_law_total"] (aa gG):=bJ
noncomputable def KP:Scope:=#[.function,[(".0",.local),("_law_k",.local),("_law_take",.globalImplicit),("_law_box_here",.free),("_law_letters",.free)],false,false,[]]
theorem X6:(["_law_k","_law_box_here","_law_letters"]:List Str).Nodup:=by decide+kernel
theorem X7:aZ ["_law_box_here","_law_total","_law_letters","_law_wide","_law_spot_here","_law_signs","_law_first","_law_form","_law_found","_law_k","_law_one","_law_word","_law_some","_law_odd"] (aa gG) KP ["_law_k","_law_box_here","_law_letters"] 1 [0,2]:=mO
noncomputable def KQ:Scope:=#[.function,[(".0",.local),("_law_j",.local),("_law_take",.globalImplicit),("_law_box_here",.free),("_law_letters",.free)],false,false,[]]
theorem X8:(["_law_j","_law_box_here","_law_letters"]:List Str).Nodup:=by decide+kernel
theorem X9:aZ ["_law_box_here","_law_total","_law_letters","_law_wide","_law_spot_here","_law_signs","_law_first","_law_form","_law_found","_law_k","_law_one","_law_word","_law_some","_law_odd"] (aa gG) KQ ["_law_j","_law_box_here","_law_letters"] 1 [0,2]:=mO
theorem Jp{p:Addr}{Q:List V->Hp->Prop}(o:n<=20)(B:ap f p)
  (q:∀(S:List Str) (H:Hp),S.length=n->(∀s∈S,s.length<=1)->ap H p->(∀b,b≠p->H b=f b)->Q (S.map V.str) H):
  dM (tI 0 n) 1 [some (.ref p),some (.str df)] (a8 0) i6 (dF yH (aW 2) (dB aX [] E0 (al (aW 1) (al (tC (.int 26)) aL)))) Q f:=by
 refine Xh (λi y H=>∃S:List Str,y=S.map V.str/\S.length=i/\(∀s∈S,s.length<=1)/\ap H p/\∀b,b≠p->H b=f b)
  #[[],Z,Z,(λ_ h=>nomatch h),B,λ_ _=>Z] (Es o Ln) (λi y H #[S,e,l,_]=>by rw[e,Ef,l];exact Eh _) ?_ ?_
 ·intro i y H x a
  obtain⟨S,rfl,g,j,m,E⟩:=a
  refine#[_,Z,_,Z,p,26,Z,m,Ln,Ln,λd A D r t u=>?_]
  obtain⟨c,v⟩:=sw (z:=df) D (by rw[JM];exact r)
  refine#[_,_,c,Z,Z,Ln,v,S++[#[(List.toArray [c])]],by rw[EK];rfl,by rw[Ei,g];rfl,λs hs=>?_,t,λb N=>(u b N).trans (E b N)]
  rcases List.mem_append.mp hs with hs |hs
  ·exact j s hs
  ·rw[List.mem_singleton.mp hs];exact Eh 1
 ·intro y H a
  obtain⟨S,rfl,g,j,m,E⟩:=a
  exact q S H g j m E
noncomputable def Rw(p g r:Addr)(n d D b e:Int)(i c:Nat)(s y:List Str)(H:Hp)(L:Nat)(Z:Str->Prop):_L.St->Hp->Prop:=λa h=>∃W:Str,(W.length<=L/\Z W)/\
 a=[some (.ref p),some (.int n),some (.str df),some (.int (1+d)),some (.int D),some (.ref g),some (.int b),some (.int e),some (.ref r),some (.int (0+(i:Int))),some (.str #[(List.toArray [c])]),some (.str W),none,none]/\
 h g=some (.lst (s.map V.str))/\h r=some (.lst (y.map V.str))/\ap h p/\ax p H h
noncomputable def Rf(p r:Addr)(n:Int)(H:Hp):_L.St->Hp->Prop:=λa h=>a[8]?=some (some (.ref r))/\∃Y:List Str,h r=some (.lst (Y.map V.str))/\(Y.length:Int)=n/\((∀y∈Y,y.length<=20)/\Y.Nodup)/\ap h p/\ax p H h
theorem Qm(Y:List Str):(Y.map V.str).all cn=true:=by
 rw[List.all_eq_true]
 intro v h
 obtain⟨y,_,rfl⟩:=List.mem_map.mp h
 rfl
theorem rV(Y:List Str)(j:Nat)(y:Str):(Y.map V.str).set j (V.str y)=(Y.set j y).map V.str:=(List.map_set ..).symm
inductive NI(p g r:Addr)(n d1 d2 d4 d5:Int)(ss:List Str)(H:Hp)(i:Nat)(σ:_L.St)(H':Hp):Prop
 |mk (ok oo ow:Option V) (ys:List Str) (e0:σ=[some (.ref p),some (.int n),some (.str df),some (.int (1+d1)),some (.int d2),some (.ref g),some (.int d4),some (.int d5),some (.ref r),ok,oo,ow,none,none]) (e1:H' g=some (.lst (ss.map V.str))) (e2:H' r=some (.lst (ys.map V.str))) (e3:ys.length=i) (e4:(∀y∈ys,y.length<=20)/\∀j y,ys[j]?=some y->Sh (pre ss d2) (eG ss d2) d5 (nP d4 j) y) (e5:ap H' p) (e6:ax p H H'):NI p g r n d1 d2 d4 d5 ss H i σ H'
theorem pF(F:aN K "_law_names" "_law_names" gG f fd)(GT:ai P w K mg base aD 1 fT f4 ["_law_box_here","_law_wide"] aX)(x:aC K f4 ["_law_box_here","_law_wide"] [])(C:keepIn K (.ref fT)=true)
  (M:mg "_law_take"=some (.ref fT)) (mr:mg "range"=none):ai P w K mg base aD 2 f fd ["_law_box_here","_law_total"] gp:=by
 refine F.ok aY ?_ λc1 A o1 s H vs Q E D h=>?_
 ·rintro _ _ _ _ ⟨p,n,rfl,_⟩
  rfl
 obtain⟨p,n,rfl,B,a4,a',q⟩:=h
 refine#[_,(@jd _ _ _ _ _ (@kr _ _ (2) _ _ _ _ aY.nd Z (Or.inr Z) (@jk _ _ _ _) Ls (.inl Z)) (@jd _ _ _ _ _ (@kr _ _ (3) _ _ _ _ aY.nd Z (Or.inl Z) (@jv _ _ _ _ _ _ _ _ jW (@jf _ _ _ _) (@kH _ _ _ _ _ _ _ _ _ _ _ _ _ _ _ _ GT D Z M C x .nil bq (@ja _ _ _ _ _ (@pv _ 0 _ _ Ls (.inr (.inl Z)) Ln Ln) (@ja _ _ _ _ _ (@jf _ _ _ _) (@jb _) Ls) Ls) Ln Ls Ls)) Ls (.inl Z)) (@jd _ _ _ _ _ (@kr _ _ (4) _ _ _ _ aY.nd Z (Or.inl Z) (@kH _ _ _ _ _ _ _ _ _ _ _ _ _ _ _ _ GT D Z M C x .nil bq (@ja _ _ _ _ _ (@pv _ 0 _ _ Ls (.inr (.inl Z)) Ln Ln) (@ja _ _ _ _ _ (@pv _ 3 _ _ Ls (.inl Z) Ln Ln) (@jb _) Ls) Ls) Ln Ls Ls) Ls (.inl Z)) (@jd _ _ _ _ _ (@Yu _ _ _ _ _ _ _ _ _ _ (5) (["_law_k","_law_box_here","_law_letters"]) (1) ([0,2]) _ _ _ _ aY.nd Z (Or.inl Z) Z (@kP _ _ _ _ _ _ Z mr (@ja _ _ _ _ _ (@pv _ 3 _ _ Ls (by first |exact Or.inl Z |exact Or.inr (Or.inl Z) |exact Or.inr (Or.inr Z)) Ln Ln) (@jb _) Ls) Ls) X7 (λ_ _ _ _ _=>(@jy _ _ (0) _ X6 Z (Or.inl Z) (by first |exact .inl Z |exact .inr Z))) (λ_ _ _ _ _=>(@zi _)) (λ_ _ _ _ _=>(@js _ _ _ _ _ _ _ Kc (@pv _ 2 _ _ Ls (by first |exact Or.inl Z |exact Or.inr (Or.inl Z) |exact Or.inr (Or.inr Z)) Ln Ln) (@kH _ _ _ _ _ _ _ _ _ _ _ _ _ _ _ _ GT D Z M C x .nil bq (@ja _ _ _ _ _ (@pv _ 1 _ _ Ls (by first |exact Or.inl Z |exact Or.inr (Or.inl Z) |exact Or.inr (Or.inr Z)) Ln Ln) (@ja _ _ _ _ _ (@jf _ _ _ _) (@jb _) Ls) Ls) Ln Ls Ls) (λ_ _=>Z))) Ls (by first |exact .inl Z |exact .inr Z) (by intro _;rfl)) (@jd _ _ _ _ _ (@kr _ _ (6) _ _ _ _ aY.nd Z (Or.inl Z) (@kH _ _ _ _ _ _ _ _ _ _ _ _ _ _ _ _ GT D Z M C x .nil bq (@ja _ _ _ _ _ (@pv _ 0 _ _ Ls (.inr (.inl Z)) Ln Ln) (@ja _ _ _ _ _ (@jf _ _ _ _) (@jb _) Ls) Ls) Ln Ls Ls) Ls (.inl Z)) (@jd _ _ _ _ _ (@kr _ _ (7) _ _ _ _ aY.nd Z (Or.inl Z) (@kH _ _ _ _ _ _ _ _ _ _ _ _ _ _ _ _ GT D Z M C x .nil bq (@ja _ _ _ _ _ (@pv _ 0 _ _ Ls (.inr (.inl Z)) Ln Ln) (@ja _ _ _ _ _ (@jf _ _ _ _) (@jb _) Ls) Ls) Ln Ls Ls) Ls (.inl Z)) (@jd _ _ _ _ _ (@kr _ _ (8) _ _ _ _ aY.nd Z (Or.inl Z) (@jL _ _ _ _ (@jb _)) Ls (.inl Z)) (@jd _ _ _ _ _ (@kO _ _ _ _ _ _ _ _ EZ Z (@kP _ _ _ _ _ _ Z mr (@ja _ _ _ _ _ (@pv _ 1 _ _ Ls (.inl Z) Ln Ln) (@jb _) Ls) Ls) (@jy _ _ (9) _ aY.nd Z (Or.inl Z) (.inl Z)) (@jd _ _ _ _ _ (@kr _ _ (10) _ _ _ _ aY.nd Z (Or.inl Z) (@js _ _ _ _ _ _ _ Kc (@pv _ 2 _ _ Ls (.inr (.inl Z)) Ln Ln) (@jv _ _ _ _ _ _ _ _ kX (@jv _ _ _ _ _ _ _ _ jW (@pv _ 6 _ _ Ls (.inl Z) Ln Ln) (@jv _ _ _ _ _ _ _ _ zh (@jf _ _ _ _) (@pv _ 9 _ _ Ls (.inl Z) Ln Ln))) (@jf _ _ _ _)) (λ_ _=>Z)) Ls (.inl Z)) (@jd _ _ _ _ _ (@j3 _ _ _ (@kr _ _ (11) _ _ _ _ aY.nd Z (Or.inl Z) (@jv _ _ _ _ _ _ _ _ zK (@jv _ _ _ _ _ _ _ _ zK (@kU _ _ _ _ _ _ _ _ _ _ _ _ Hg Ic Ib QC (@jk _ _ _ _) (@ja _ _ _ _ _ (@jO _ _ _ _ _ _ _ _ _ _ kI (@pv _ 5 _ _ Ls (.inl Z) Ln Ln) (@j5 _) (@jK _ _ _ (@pv _ 4 _ _ Ls (.inl Z) Ln Ln))) (@jb _) Ls) Ls Ls Ls Ls Ls) (@pv _ 10 _ _ Ls (.inl Z) Ln Ln)) (@kU _ _ _ _ _ _ _ _ _ _ _ _ Hg Ic Ib QC (@jk _ _ _ _) (@ja _ _ _ _ _ (@jO _ _ _ _ _ _ _ _ _ _ kI (@pv _ 5 _ _ Ls (.inl Z) Ln Ln) (@jK _ _ _ (@jv _ _ _ _ _ _ _ _ jW (@pv _ 4 _ _ Ls (.inl Z) Ln Ln) (@jf _ _ _ _))) (@j5 _)) (@jb _) Ls) Ls Ls Ls Ls Ls)) Ls (.inl Z))) (@jd _ _ _ _ _ (@j3 _ _ _ (@jx _ _ _ _ _ _ _ _ (@PW.pt _ _ _ (@Qt _ _ _ _ _ _ _ (ze (@pv _ 7 _ _ Ls (.inl Z) Ln Ln)) (@JS _ _ _ _ (ze (@jv _ _ _ _ _ _ _ _ kX (@pv _ 9 _ _ Ls (.inl Z) Ln Ln) (@jf _ _ _ _)))))) (@jg _ _ _ (@kr _ _ (11) _ _ _ _ aY.nd Z (Or.inl Z) (@jv _ _ _ _ _ _ _ _ zK (@pv _ 11 _ _ Ls (.inl Z) Ln Ln) (@jk _ _ _ _)) Ls (.inl Z))) (@jp _))) (@jd _ _ _ _ _ (@j3 _ _ _ (@jx _ _ _ _ _ _ _ _ (ze (@pv _ 7 _ _ Ls (.inl Z) Ln Ln)) (@jg _ _ _ (@kr _ _ (11) _ _ _ _ aY.nd Z (Or.inl Z) (@jv _ _ _ _ _ _ _ _ zK (@kU _ _ _ _ _ _ _ _ _ _ _ _ Hg Ic Ib QC (@jk _ _ _ _) (@ja _ _ _ _ _ (@kJ _ _ _ _ _ _ _ (["_law_j","_law_box_here","_law_letters"]) (1) ([0,2]) _ _ _ _ Z (@kP _ _ _ _ _ _ Z mr (@ja _ _ _ _ _ (@kH _ _ _ _ _ _ _ _ _ _ _ _ _ _ _ _ GT D Z M C x .nil bq (@ja _ _ _ _ _ (@pv _ 0 _ _ Ls (by first |exact Or.inl Z |exact Or.inr (Or.inl Z) |exact Or.inr (Or.inr Z)) Ln Ln) (@ja _ _ _ _ _ (@jf _ _ _ _) (@jb _) Ls) Ls) Ln Ls Ls) (@jb _) Ls) Ls) X9 (λ_ _ _ _ _=>(@jy _ _ (0) _ X8 Z (Or.inl Z) (by first |exact .inl Z |exact .inr Z))) (λ_ _ _ _ _=>(@zi _)) (λ_ _ _ _ _=>(@js _ _ _ _ _ _ _ Kc (@pv _ 2 _ _ Ls (by first |exact Or.inl Z |exact Or.inr (Or.inl Z) |exact Or.inr (Or.inr Z)) Ln Ln) (@kH _ _ _ _ _ _ _ _ _ _ _ _ _ _ _ _ GT D Z M C x .nil bq (@ja _ _ _ _ _ (@pv _ 1 _ _ Ls (by first |exact Or.inl Z |exact Or.inr (Or.inl Z) |exact Or.inr (Or.inr Z)) Ln Ln) (@ja _ _ _ _ _ (@jf _ _ _ _) (@jb _) Ls) Ls) Ln Ls Ls) (λ_ _=>Z))) (by intro _;rfl)) (@jb _) Ls) Ls Ls Ls Ls Ls) (@pv _ 10 _ _ Ls (.inl Z) Ln Ln)) Ls (.inl Z))) (@jp _))) (@jd _ _ _ _ _ (@j3 _ _ _ (@jx _ _ _ _ _ _ _ _ (@jE _ _ _ _ _ _ _ _ zr (@pv _ 11 _ _ Ls (.inl Z) Ln Ln) (@ji _ _ _ _ _ (@QD _ _ Ls)) Z) (@jg _ _ _ (@kr _ _ (11) _ _ _ _ aY.nd Z (Or.inl Z) (@jv _ _ _ _ _ _ _ _ zK (@jk _ _ _ _) (@pv _ 10 _ _ Ls (.inl Z) Ln Ln)) Ls (.inl Z))) (@jp _))) (@jg _ _ _ (@jX _ _ _ _ (@kU _ _ _ _ _ _ _ _ _ _ _ _ EF EQ EO jT (@pv _ 8 _ _ Ls (.inl Z) Ln Ln) (@ja _ _ _ _ _ (@pv _ 11 _ _ Ls (.inl Z) Ln Ln) (@jb _) Ls) Ls Ls Ls Ls Ls) Ls))))))) (by intro _;rfl)) (@jd _ _ _ _ _ (@j3 _ _ _ (@jx _ _ _ _ _ _ _ _ (@jE _ _ _ _ _ _ _ _ zw (@kH _ _ _ _ _ _ _ _ _ _ _ _ _ _ _ _ GT D Z M C x .nil bq (@ja _ _ _ _ _ (@pv _ 0 _ _ Ls (.inr (.inl Z)) Ln Ln) (@ja _ _ _ _ _ (@jf _ _ _ _) (@jb _) Ls) Ls) Ln Ls Ls) (@jf _ _ _ _) (aA _)) (@jd _ _ _ _ _ (@kr _ _ (12) _ _ _ _ aY.nd Z (Or.inl Z) (@jL _ _ _ _ (@QD _ _ Ls)) Ls (.inl Z)) (@jd _ _ _ _ _ (@kr _ _ (13) _ _ _ _ aY.nd Z (Or.inl Z) (@js _ _ _ _ _ _ _ jr (@pv _ 12 _ _ Ls (.inl Z) Ln Ln) (@kH _ _ _ _ _ _ _ _ _ _ _ _ _ _ _ _ GT D Z M C x .nil bq (@ja _ _ _ _ _ (@pv _ 0 _ _ Ls (.inr (.inl Z)) Ln Ln) (@ja _ _ _ _ _ (@jf _ _ _ _) (@jb _) Ls) Ls) Ln Ls Ls) (λ_ _=>Z)) Ls (.inl Z)) (@jg _ _ _ (@jx _ _ _ _ _ _ _ _ (@jE _ _ _ _ _ _ _ _ Jk (@pv _ 13 _ _ Ls (.inl Z) Ln Ln) (@pv _ 8 _ _ Ls (.inl Z) Ln Ln) Z) (@jg _ _ _ (@za _ _ _ _ _ _ (@pv _ 13 _ _ Ls (.inl Z) Ln Ln) (@qI _ _ _ _ _ _ _ (@pv _ 8 _ _ Ls (.inl Z) Ln Ln) (@kH _ _ _ _ _ _ _ _ _ _ _ _ _ _ _ _ GT D Z M C x .nil bq (@ja _ _ _ _ _ (@pv _ 0 _ _ Ls (.inr (.inl Z)) Ln Ln) (@ja _ _ _ _ _ (@pv _ 1 _ _ Ls (.inl Z) Ln Ln) (@jb _) Ls) Ls) Ln Ls Ls) zE (by intro _;rfl)) Ls Ls Ls)) (@jp _))))) (@jp _))) (@jg _ _ _ (@jm _ _ _ _ (@pv _ 8 _ _ Ls (.inl Z) Ln Ln)))))))))))),?_]
 refine eF λE0 f0=>f0 _ _ ?_
 refine eF λG a=>#[_,Z,p,6,Z,B,Ln,Ln,λd1 H1 b0 b1 U e1=>#[_,_,Z,Z,a _ _ ?_]]
 refine eF λE2 f2=>#[_,Z,_,Z,p,_,Z,U,Lo,Lo,λd2 H2 b2 b3 B2 e2=>f2 _ _ ?_]
 clear f0 a f2
 refine eF λG a=>#[_,Z,_,Z,Lo,Lo,?_]
 refine Jp (p:=p) Lo B2 λss H3 a3 e B3 e3 g hg=>a _ _ ?_
 clear a
 have k3:ax p H H3:=(ax.of_eq e1).trans ((ax.of_eq e2).trans (ax.of_eq e3))
 have v:g≠p:=B3.ne hg
 refine eF λG a=>#[_,Z,p,26,Z,B3.upd_new hg,Ln,Ln,λW H4 b4 b5 B4 e4=>a _ _ ?_]
 refine eF λE2 f2=>#[_,Z,p,3,Z,B4,Ln,Ln,λI H5 b6 b7 B5 e5=>f2 _ _ ?_]
 clear a f2
 have h2:H5 g=some (.lst (ss.map V.str)):=by rw[e5 g v,e4 g v];exact jc
 have k5:ax p H H5:=(k3.upd_new hg).trans ((ax.of_eq e4).trans (ax.of_eq e5))
 refine eF λG a=>#[Ln,λr u=>a _ _ ?_]
 clear a
 have m:r≠p:=B5.ne u
 have h4:g≠r:=jo h2 u
 have n3:H g=none:=by
  cases z:H g with
  |none=>rfl
  |some o=>have:=k3 g o v z;rw[hg]at this;cases this
 have X:H r=none:=by
  cases z:H r with
  |none=>rfl
  |some o=>have:=k5 r o m z;rw[u]at this;cases this
 have b9:=zf
 refine eF λG a=>eO λJ j=>#[_,Z,_,Z,Lo,Lo,j _ _ ?_]
 clear j
 refine zL (lo:=0) (NI p g r n d1 d2 W I ss H) #[none,none,none,[],Z,aq h2 u,jc,Z,#[(λ_ h=>nomatch h),(λ_ _ h=>nomatch h)],B5.upd_new u,k5.upd_new u] ?_ ?_
 ·intro E0 _ i σ H' hi fE Gq T b
  obtain⟨ok,oo,ow,ys,rfl,L,Y,h0,d,B',k'⟩:=b
  clear a
  obtain⟨c,hc⟩:=sw (z:=df) (k:=(W+5*(0+(i:Int))) % 26) (Fj _ Ln) (by rw[JM];exact EW _ Ln)
  refine T ?_
  clear T
  show dJ (dA _ _) _ E0 _ _
  refine eF λG a=>#[_,Z,_,Z,_,Z,_,_,Z,Z,.inl #[Ln,Ln],_,_,Z,Z,_,_,Z,Z,(by show(0:Int) < 26;decide),_,_,c,Z,Z,Ln,hc,a _ _ ?_]
  clear a
  have b':(#[(List.toArray [c])]:Str).length=1:=rfl
  have h5:c=nP W i:=xN (Fj _ Ln) (EW _ Ln) hc
  refine eF λG a=>dy (Rw p g r n d1 d2 W I i c ss ys H 13 (·=pre ss d2++#[(List.toArray [c])]++eG ss d2)) (λE2 _ t=>?_) λO H1 b=>?_
  ·clear a fE
   refine#[Z,_,Z,_,Z,_,Z,g,_,Z,aF.of L,λs1 n1=>?_]
   have z1:=qZ (ys:=ba ss none (some d2)) λy d=>e y (zS d)
   have z2:=qv ss none (some d2)
   refine#[_,s1,ba ss none (some d2),Z,Z,aF.of (by rw[jc,zF]),Ln,Lo,?_]
   have j1:=q8 (z:="") (ys:=ba ss none (some d2)) Lq λy d=>e y (zS d)
   refine#[_,Z,_,_,Z,Z,Lo,?_]
   refine#[Z,_,Z,_,Z,_,_,Z,Z,_,Z,g,_,Z,aF.of (aq L n1),λs2 n2=>?_]
   have z3:=qZ (ys:=ba ss (some (d2+1)) none) λy d=>e y (zS d)
   have z4:=qv ss (some (d2+1)) none
   refine#[_,s2,ba ss (some (d2+1)) none,Z,Z,aF.of (by rw[jc,zF]),Ln,Lo,?_]
   have j2:=q8 (z:="") (ys:=ba ss (some (d2+1)) none) Lq λy d=>e y (zS d)
   refine#[_,_,Z,Z,by rw[mw];omega,?_]
   exact t _ _ #[_,#[by show(Txt.join ("":Str) (ba ss none (some d2))++(#[(List.toArray [c])]:Str)++Txt.join ("":Str) (ba ss (some (d2+1)) none)).length<=13;rw[mw,mw];omega,Z],Z,aq (aq L n1) n2,aq (aq Y n1) n2,(B'.upd_new n1).upd_new n2,(k'.upd_new n1).upd_new n2]
  obtain⟨w1,⟨c2,z1⟩,rfl,g1,r1,U,k1⟩:=b
  refine a _ _ ?_
  clear a
  refine eF λG a=>dy (Rw p g r n d1 d2 W I i c ss ys H 14 (λw=>w=pre ss d2++#[(List.toArray [c])]++eG ss d2∨w=pre ss d2++#[(List.toArray [c])]++eG ss d2++"z")) (λE2 _ t=>?_) λO H2 b=>?_
  ·clear a fE
   refine#[_,Z,Z,_,Z,?_]
   refine bH (λS=>?_) (λS=>?_)
   ·refine#[_,Z,_,_,Z,Z,(by show(0:Int) < 2;decide),Z,_,Z,?_]
    refine bH (λcb=>?_) (λcb=>?_)
    ·have hz:(Str.ofString "z").length=1:=by decide+kernel
     refine#[_,Z,_,_,Z,Z,by rw[hz];omega,?_]
     exact t _ _ #[_,#[by rw[mw,hz];omega,.inr (by rw[z1])],Z,g1,r1,U,k1]
    ·exact t _ _ #[w1,#[Lo,.inl z1],Z,g1,r1,U,k1]
   ·exact eQ (t _ _ #[w1,#[Lo,.inl z1],Z,g1,r1,U,k1])
  obtain⟨w2,⟨c3,z2⟩,rfl,g2,r2,B2,k2⟩:=b
  refine a _ _ ?_
  clear a
  refine eF λG a=>dy (Rw p g r n d1 d2 W I i c ss ys H 14 (λw=>if I=2 then ∃R:Str,w=R++#[(List.toArray [c])] else w=pre ss d2++#[(List.toArray [c])]++eG ss d2∨w=pre ss d2++#[(List.toArray [c])]++eG ss d2++"z")) (λE2 _ t=>?_) λO H3 b=>?_
  ·clear a fE
   refine#[_,Z,Z,_,Z,?_]
   refine bH (λS=>?_) (λS=>?_)
   ·refine#[Z,_,Z,p,8,Z,B2,Ln,Ln,λd6 H6 d0 d3 B6 e6=>?_]
    refine#[_,Z,Lo,Lo,?_]
    refine Jp (p:=p) Lo B6 λtt H7 c4 h3 B7 e7 g7 n7=>?_
    have jt:=q8 (z:="") (ys:=tt) Lq h3
    have zt:=qZ h3
    refine#[_,g7,tt,Z,Z,aF.of jc,Ln,Lo,?_]
    refine#[_,Z,_,_,Z,Z,Lo,?_]
    have g8:H7 g=some (.lst (ss.map V.str)):=by rw[e7 g v,e6 g v];exact g2
    have r8:H7 r=some (.lst (ys.map V.str)):=by rw[e7 r m,e6 r m];exact r2
    have e5:I=2:=by injection Fz S
    exact t _ _ #[_,#[by rw[mw];omega,(Er e5).mpr #[_,Z]],Z,aq g8 n7,aq r8 n7,B7.upd_new n7,(k2.trans ((ax.of_eq e6).trans (ax.of_eq e7))).upd_new n7]
   ·have e5:I≠2:=λz=>S (by rw[z];exact EN Z)
    exact t _ _ #[w2,#[Lo,(Ew e5).mpr z2],Z,g2,r2,B2,k2]
  obtain⟨w3,⟨c5,z3⟩,rfl,g3,r3,B3,k3⟩:=b
  refine a _ _ ?_
  clear a
  refine eF λG a=>dy (Rw p g r n d1 d2 W I i c ss ys H 14 (Sh (pre ss d2) (eG ss d2) I c)) (λE2 _ t=>?_) λO H4 b=>?_
  ·clear a fE
   refine#[_,Z,Ln,λt0 N=>?_]
   refine#[t0,_,Z,.inr (ar.of jc),Z,Zg Ls,_,Z,?_]
   refine bH (λS=>?_) (λS=>?_)
   ·have hq:(Str.ofString "qqqqqqq").length=7:=by decide+kernel
    refine#[_,Z,_,_,Z,Z,by rw[hq];omega,?_]
    exact t _ _ #[_,#[by rw[mw,hq];omega,Dl],Z,aq g3 N,aq r3 N,B3.upd_new N,k3.upd_new N]
   ·exact t _ _ #[w3,#[Lo,Dm z3],Z,aq g3 N,aq r3 N,B3.upd_new N,k3.upd_new N]
  obtain⟨w4,⟨c6,z4⟩,rfl,g4,r4,B4,k4⟩:=b
  refine a _ _ ?_
  clear a
  refine#[_,Z,.inl #[Z,_,aF.of r4],_,Z,r,_,_,Z,Z,r4,by rw[Ef];omega,?_]
  refine fE _ _ #[_,_,_,ys++[w4],Z,by rw[jl h4];exact g4,by rw[jc,EK];rfl,by rw[Ei,h0];rfl,#[λy hm=>?_,λj y hj=>?_],B4.eq (jl (ES m)),k4.upd_own X]
  ·rcases List.mem_append.mp hm with hm |hm
   ·exact d.1 y hm
   ·rw[List.mem_singleton.mp hm];omega
  ·by_cases h6:j < ys.length
   ·rw[Gg h6]at hj
    exact d.2 j y hj
   ·have lj:=(List.getElem?_eq_some_iff.mp hj).1
    rw[Ei,Gz]at lj
    have ej:j=ys.length:=by omega
    rw[ej,Gb (Eh _),HN]at hj
    injection hj with hj
    rw[<- hj,ej,h0,<- h5]
    exact z4
 ·intro σ H' b
  obtain⟨ok,oo,ow,ys,rfl,L,Y,h0,d,B',k'⟩:=b
  have h1:(ys.length:Int)=n:=by omega
  have f5:=tV (ss:=ss) (d1:=d1) (d2:=d2) Lo Lo Lo
  have j1:(pre ss d2).length<=_:=q8 (z:="") (ys:=ba ss none (some d2)) Lq λy d=>e y (zS d)
  have j2:(eG ss d2).length<=_:=q8 (z:="") (ys:=ba ss (some (d2+1)) none) Lq λy d=>e y (zS d)
  have nd:=rY Lo Lo d.2
  have d:=d.1
  refine a _ _ ?_
  clear a
  refine af λF1 a=>dy (Rf p r n H) (λE2 _ t=>?_) λO H1 b=>?_
  ·clear a
   refine mP λG' g'=>#[_,Z,p,6,Z,B',Ln,Ln,λd6 H6 d0 d3 B6 e6=>#[Z,_,Z,g' _ _ ?_]]
   clear g'
   have r6:H6 r=some (.lst (ys.map V.str)):=by rw[e6 r m];exact Y
   have k6:ax p H H6:=k'.trans (ax.of_eq e6)
   refine bH (λS=>?_) (λS=>?_)
   ·refine eF λE3 f3=>#[Ln,λt0 N=>f3 _ _ ?_]
    clear f3
    have t1:t0≠p:=B6.ne N
    refine eF λE4 f3=>#[_,Z,_,Z,p,13,Z,B6.upd_new N,Ln,Ln,λd7 H7 d' a0 B7 e7=>?_]
    have t7:H7 t0=some (.lst ((["num","var","op","go","ask","back","chain","sets","iff","ends","calls","reads","gives"]:List Str).map V.str)):=((e7 t0 t1).trans jc).trans (FE (λl=>some (HO.lst l)) Lq)
    have r7:H7 r=some (.lst (ys.map V.str)):=by rw[e7 r m];exact aq r6 N
    have k7:ax p H H7:=(k6.upd_new N).trans (ax.of_eq e7)
    obtain⟨od,h7,h8⟩:=Ke (ys:=(["num","var","op","go","ask","back","chain","sets","iff","ends","calls","reads","gives"]:List Str)) d' (by simpa using a0)
    refine#[t0,_,_,_,Z,Z,aF.of t7,h8,f3 _ _ ?_]
    clear f3
    have h':od.length<=20:=by
     have:∀y∈(["num","var","op","go","ask","back","chain","sets","iff","ends","calls","reads","gives"]:List Str),y.length<=20:=by decide+kernel
     exact this od h7
    refine mP λG' g'=>#[_,Z,_,Z,r,_,Z,.inl (aF.of r7),Z,Qm _,_,Z,g' _ _ ?_]
    clear g'
    refine bH (λcb=>?_) (λcb=>?_)
    ·refine#[_,Z,_,Z,_,Z,_,Z,p,n,Z,B7,Lo,Lo,λd8 H8 a1 c9 B8 e8=>?_]
     have r8:H8 r=some (.lst (ys.map V.str)):=by rw[e8 r m];exact r7
     have k8:ax p H H8:=k7.trans (ax.of_eq e8)
     refine#[r,_,d8,d8.toNat,Z,Z,r8,?_,?_]
     ·unfold lY
      rw[Er a1,Ef,Er Lo]
     refine t _ _ #[Z,ys.set d8.toNat od,by rw[jc,rV],by rw[HW];exact h1,#[λy hm=>?_,Zv nd (ut (by have c0:(!mQ (.str od) (ys.map V.str))=true:=cb;rw[Bool.not_eq_true']at c0;exact c0))],B8.eq (jl (ES m)),k8.upd_own X]
     rcases List.mem_or_eq_of_mem_set hm with hm |hm
     ·exact d y hm
     ·rw[hm];exact h'
    ·exact t _ _ #[Z,ys,r7,h1,#[d,nd],B7,k7]
   ·exact t _ _ #[Z,ys,r6,h1,#[d,nd],B6,k6]
  obtain⟨a2,y0,r1,l1,y1,U,k1⟩:=b
  refine a _ _ ?_
  exact#[_,a2,q r y0 H1 X r1 l1 y1 U k1]
noncomputable def aj(H h:Hp):Prop:=∀b x,H b=some (.tup x)->h b=some (.tup x)
theorem ae.tm(a:ae H c):aj H c:=λb x h=>a b _ h
theorem je{H:Hp}{o:HO}(n:H p=none):ae H (ah H p o):=λb u e=>aq e n
theorem cj{b:Bool}{A B:Prop}(h:b=true)(x:A):if b=true then A else B:=by rw[Er h];exact x
theorem aG{b:Bool}{A B:Prop}(h:b=false)(x:B):if b=true then A else B:=by rw[h,Ew Em];exact x
theorem aH:sizeLine=16777216:=by rw[Iz]
theorem ap.same(B:ap H p)(s:ae H c):ap c p:=by
 obtain⟨a,b,d,e,f,h⟩:=B.ob
 exact#[a,b,d,e,f,s _ _ h]
theorem ax.of_same(s:ae H h):ax p H h:=λb o _ e=>s _ _ e
theorem ax.tm(k:ax p H h)(B:ap H p):aj H h:=λb x e=>by
 obtain⟨a,c,_,_,_,f⟩:=B.ob
 exact k b _ (jQ e f (by intro w;cases w)) e
theorem ax.none(k:ax p H h)(B:ap h p)(n:h r=none):H r=none:=by
 cases z:H r with
 |none=>rfl
 |some o=>have:=k _ _ (B.ne n) z;rw[n]at this;cases this
theorem Zw{K:Frag}{a:Addr}{xs:List V}{t:TE}{Q:List V->Hp->Prop}(u:xs.length<=sizeLine)(Pv:Nat->List V->Hp->Prop)(l:Pv 0 [] H)
  (n:∀i Y h,Pv i Y h->aF K h a xs/\Y.length<=i) (o:∀i x Y h,xs[i]?=some x->Pv i Y h->t (some x::d) h λy c=>Pv (i+1) (Y++[y]) c) (q:∀Y h,Pv xs.length Y h->Q Y h):
  dM (vW K a) 1 d (a8 0) i6 t Q H:=by
 refine#[λi m Y h=>m=xs.length - i/\i<=xs.length/\Pv i Y h,#[xs.length,Lp,Eu _,l],?_]
 intro i m Y h f
 obtain⟨rfl,z,p⟩:=f
 obtain⟨g,A⟩:=n i Y h p
 by_cases b:i < xs.length
 ·refine .inr #[#[xs,xs[i],g,Ed b],Lo,Pv (i+1),λr c s=>#[xs.length - (i+1),Lo,Z,b,s],λv c T j y=>?_]
  obtain⟨e,y⟩:=y
  subst e
  obtain⟨w,rfl⟩:=oW j
  exact#[#[[some _],Z,Z],o i v Y c (y xs g) p]
 ·have e:i=xs.length:=by omega
  subst e
  exact .inl #[#[xs,g,Eh _],q Y h p]
theorem zu{K:Frag}{xs:List V}{t:TE}{Q:List V->Hp->Prop}(u:xs.length<=sizeLine)(Pv:Nat->List V->Hp->Prop)(l:Pv 0 [] H)
  (n:∀i Y h,Pv i Y h->ar K h a xs/\Y.length<=i) (o:∀i x Y h,xs[i]?=some x->Pv i Y h->t (some x::d) h λy c=>Pv (i+1) (Y++[y]) c) (q:∀Y h,Pv xs.length Y h->Q Y h):
  dM (sW K a) 1 d (a8 0) i6 t Q H:=by
 refine#[λi m Y h=>m=xs.length - i/\i<=xs.length/\Pv i Y h,#[xs.length,Lp,Eu _,l],?_]
 intro i m Y h f
 obtain⟨rfl,z,p⟩:=f
 obtain⟨g,A⟩:=n i Y h p
 by_cases b:i < xs.length
 ·refine .inr #[#[xs,xs[i],g,Ed b],Lo,Pv (i+1),λr c s=>#[xs.length - (i+1),Lo,Z,b,s],λv c T j y=>?_]
  obtain⟨e,y⟩:=y
  subst e
  obtain⟨w,rfl⟩:=oW j
  exact#[#[[some _],Z,Z],o i v Y c (y xs g) p]
 ·have e:i=xs.length:=by omega
  subst e
  exact .inl #[#[xs,g,Eh _],q Y h p]
noncomputable abbrev iH:Stmt:=bL 49
noncomputable abbrev ni:Stmt:=bL 51
inductive Tm where
 |num (n:Int) |var (x:Str) |op (i:Nat) (a b:Tm)
noncomputable def Tm.depth:Tm->Nat
 | .num _=>0
 | .var _=>0
 | .op _ a b=>max a.depth b.depth+1
noncomputable def iP:Str:="+-*/<="
theorem rW:iP.length=6:=by decide+kernel
noncomputable def Dk(i:Nat):Str:=#[(List.toArray [iP.cps.toList.getD i 0])]
theorem y4(H:0<=d)(a:d < 6):dC iP.cps.toList d=some (iP.cps.toList.getD d.toNat 0):=by
 have b:iP.cps.toList.length=6:=by decide+kernel
 have h:d.toNat < iP.cps.toList.length:=by omega
 have e:d=((d.toNat:Nat):Int):=by omega
 have q:dC iP.cps.toList ((d.toNat:Nat):Int)=some (iP.cps.toList.getD d.toNat 0):=ju (by rw[GK,Ed h];rfl)
 rw[<- e]at q
 exact q
noncomputable def Tm.Good(y:List Str):Tm->Prop
 | .num n=>0<=n/\n < 1000000000000000000
 | .var x=>x∈y
 | .op i a b=>i < 6/\a.Good y/\b.Good y
noncomputable def a9(H:Hp):Tm->Addr->Prop
 | .num n,p=>H p=some (.tup [.str "num",.int n])
 | .var x,p=>H p=some (.tup [.str "var",.str x])
 | .op i a b,p=>∃q r,H p=some (.tup [.str "op",.str (Dk i),.ref q,.ref r])/\a9 H a q/\a9 H b r
theorem a9.mono{H a:Hp}(h:∀b x,H b=some (.tup x)->a b=some (.tup x)):∀{t:Tm} {p:Addr},a9 H t p->a9 a t p
 | .num _,_,e=>h _ _ e
 | .var _,_,e=>h _ _ e
 | .op _ _ _,_,z=>by obtain⟨q,r,e,E,c⟩:=z;exact #[q,r,h _ _ e,a9.mono h E,a9.mono h c]
theorem a9.same(h:ae H a)(e:a9 H t p):a9 a t p:=e.mono λb x z=>h b _ z
theorem a9.but(B:ap H p)(k:ax p H h)(e:a9 H t a):a9 h t a:=e.mono λb X z=>by
 obtain⟨x,y,_,_,_,d⟩:=B.ob
 exact k b _ (jQ z d (by intro q;cases q)) z
theorem a9.new{H:Hp}{o:HO}(n:H r=none)(e:a9 H t a):a9 (ah H r o) t a:=e.mono λb x z=>aq z n
noncomputable def gQ:Sp:=λv H Q _=>∃p:Addr,v=[.ref p]/\ap H p/\∀(d:Int) (h:Hp),0<=d->d < 1000000000000000000->ap h p->(∀b,b≠p->h b=H b)->Q (.int d) h
noncomputable def cX(n:Nat):Sp:=λv H Q _=>∃(p g:Addr) (d:Int) (y:List Str),v=[.ref p,.ref g,.int d]/\ap H p/\H g=some (.lst (y.map V.str))/\1<=y.length/\y.length<=20/\0<=d/\d < (n:Int)/\
 ∀(r:Addr) (T:Tm) (h:Hp),a9 h T r->(T.depth:Int)<=d->T.Good y->ap h p->ax p H h->Q (.ref r) h
theorem qp{Y:List Str}(B:ap H p)(h:H g=some (.lst (Y.map V.str))):g≠p:=by
 obtain⟨x,y,_,_,_,b⟩:=B.ob
 refine jQ h b λz=>?_
 injection z with z
 match Y,z with
 |a::r,z=>injection z with c _;cases c
theorem rM:am ["_law_box_here"] ["_law_box_here"] (aa iH):=bJ
theorem Zx(F:aN K "_law_number" "_law_number" iH f t)(C:Cl P w K mg base 1 I u ["_law_box_here","_law_wide"] aX "_law_take"):ai P w K mg base aD 2 f t ["_law_box_here"] gQ:=by
 refine F.ok rM (λv H Q E h=>?_) (λx A o s H v Q E a h=>?_)
 ·obtain⟨p,rfl,_⟩:=h
  rfl
 obtain⟨p,rfl,B,q⟩:=h
 refine#[_,(jd (jx (ze (C.e a (ja (pv 0) (ja jf jb)))) (jg (jm (C.e a (ja (pv 0) (ja (jv qJ jf jf) jb))))) jp) (jg (jm (C.e a (ja (pv 0) (ja jf jb)))))),?_]
 refine#[_,Z,p,4,Z,B,Ln,Ln,λL M y G m r=>#[Z,_,Z,?_]]
 refine bH (λc=>?_) (λc=>?_)
 ·refine#[_,Z,_,_,Z,Z,#[Ln,Ln,Ln],p,_,Z,m,Ln,Ln,λD g d i j k=>?_]
  have z:=gW
  exact q D g d Lo j λb n=>(k b n).trans (r b n)
 ·refine#[_,Z,p,9,Z,m,Ln,Ln,λD g d i j k=>?_]
  exact q D g d Lo j λb n=>(k b n).trans (r b n)
theorem ms:am ["_law_box_here","_law_names_here","_law_deep","_law_kind","_law_one"] ["_law_box_here","_law_names_here","_law_deep"] (aa ni):=bJ
theorem uM(F:aN K "_law_term" "_law_term" ni f fd)(cF:Cl P w K mg base (n+2) f fd ["_law_box_here","_law_names_here","_law_deep"] (cX n) "_law_term")(S:Cl P w K mg base 1 fT f0 ["_law_box_here","_law_wide"] aX "_law_take")(cN:Cl P w K mg base 2 fN f2 ["_law_box_here"] gQ "_law_number")(ml:mg "len"=none):ai P w K mg base aD (n+3) f fd ["_law_box_here","_law_names_here","_law_deep"] (cX (n+1)):=by
 refine F.ok ms ?_ λc0 A T s H vs Q E u h=>?_
 ·rintro _ _ _ _ ⟨p,g,d,ys,rfl,_⟩
  rfl
 obtain⟨p,g,d,ys,rfl,B,hg,v,x,h1,h2,q⟩:=h
 refine#[_,(jd (jB 3 ms.nd (S.e u.m (ja (pv 0) (ja jf jb)))) (jd (j3 (jx (PW.pt (qj (jE J4 (pv 3) jf (aA _)) (ql (PW.pt (Qt (jE JC (pv 3) jf (aA _)) (JS (ze (pv 2)))))))) (jg (jm (ji (ja jk (ja (cN.e u.m (ja (pv 0) jb)) jb))))) jp)) (jd (jx (jE J4 (pv 3) jf (aA _)) (jg (jm (ji (ja jk (ja (js jr (pv 1) (S.e u.m (ja (pv 0) (ja (jF jH Z ml Fd (ja (pv 1) jb)) jb))) (λ_ _=>Z)) jb))))) jp) (jd (jB 4 ms.nd (cF.e u (ja (pv 0) (ja (pv 1) (ja (jv ky (pv 2) jf) jb))))) (jg (jm (ji (ja jk (ja (js Kc jk (S.e u.m (ja (pv 0) (ja jf jb))) (λ_ _=>Z)) (ja (pv 4) (ja (cF.e u (ja (pv 0) (ja (pv 1) (ja (jv ky (pv 2) jf) jb)))) jb))))))))))),?_]
 have b0:=zf
 have j:g≠p:=qp B hg
 refine af λF1 l=>#[_,Z,p,6,Z,B,Ln,Ln,λM O k0 k1 R e1=>l _ _ ?_]
 clear l
 have k:O g=some (.lst (ys.map V.str)):=by rw[e1 g j];exact hg
 have U:ax p H O:=ax.of_eq e1
 have num:∀(D:Int) (a:Hp) (r:Addr),0<=D->D < 1000000000000000000->ap a p->(∀b,b≠p->a b=O b)->a r=none->Q (.ref r) (ah a r (.tup [.str "num",.int D])):=λD a r C I i o N=>
  q r (.num D) _ jc (by show((0:Nat):Int)<=d;omega) #[C,I] (i.upd_new N) ((U.trans (ax.of_eq o)).upd_new N)
 refine af λF1 l=>dy (λJ H'=>J=[some (.ref p),some (.ref g),some (.int d),some (.int M),none]/\H'=O/\(M<=3∨d≠0)) (λE2 eR fm=>?_) λJ H' W=>?_
 ·clear l
  refine mP λG' G=>#[_,Z,_,_,Z,Z,_,Z,?_]
  refine bH (λc=>?_) (λc=>?_)
  ·refine G _ _ (eS ?_)
   show gV _ E2 _ _
   unfold gV
   rw[eR]
   exact#[_,Z,p,Z,R,λD a C I i o=>#[bj,λr N=>num D a r C I i o N]]
  refine#[_,Z,_,_,Z,Z,_,Z,?_]
  refine bH (λc2=>?_) (λc2=>?_)
  ·refine#[_,Z,Z,_,Z,G _ _ ?_]
   refine bH (λc3=>?_) (λc3=>?_)
   ·show gV _ E2 _ _
    unfold gV
    rw[eR]
    exact#[_,Z,p,Z,R,λD a C I i o=>#[bj,λr N=>num D a r C I i o N]]
   ·exact fm _ _ #[Z,Z,.inr λz=>c3 (by rw[z];rfl)]
  ·have c1:¬(3:Int) < M:=Hr (Bool.eq_false_iff.mpr c2)
   exact G _ _ (eQ (fm _ _ #[Z,Z,.inl Lo]))
 obtain⟨rfl,eH,hk⟩:=W
 rw[eH]
 refine l _ _ ?_
 clear l
 refine af λF1 l=>mP λG' G=>#[_,Z,_,_,Z,Z,_,Z,G _ _ ?_]
 clear G
 refine bH (λc=>?_) (λc=>l _ _ ?_)
 ·-- a variable
  refine#[_,Z,_,Z,_,Z,g,_,Z,.inl (aF.of k),p,_,Z,R,by rw[Ef];omega,by rw[Ef];omega,λD a X L i o=>?_]
  rw[Ef]at L
  obtain⟨y,hy,Y⟩:=Ke (ys:=ys) X L
  have t:a g=some (.lst (ys.map V.str)):=by rw[o g j];exact k
  refine#[g,_,_,_,Z,Z,aF.of t,Y,bj,λr N=>?_]
  exact q r (.var y) _ jc (by show((0:Nat):Int)<=d;omega) hy (i.upd_new N) ((U.trans (ax.of_eq o)).upd_new N)
 ·have c':¬M < (4:Int):=Hr (Bool.eq_false_iff.mpr c)
  have hd:d≠0:=hk.resolve_left Lo
  refine#[_,Z,_,Z,_,Z,_,_,Z,Z,p,g,d - 1,ys,Z,R,k,v,x,Lo,Lo,λr1 T1 a t1 d3 g0 i k2=>?_]
  have t:a g=some (.lst (ys.map V.str)):=k2 g _ j k
  refine#[_,Z,p,6,Z,i,Ln,Ln,λs3 H3 s0 s1 B3 e3=>?_]
  have h0:H3 g=some (.lst (ys.map V.str)):=by rw[e3 g j];exact t
  have k3:ax p a H3:=ax.of_eq e3
  refine#[iP,_,_,Z,Z,(by rw[rW];omega),y4 s0 s1,?_]
  refine#[_,Z,_,Z,_,Z,_,Z,_,_,Z,Z,p,g,d - 1,ys,Z,B3,h0,v,x,Lo,Lo,λr2 T2 H4 t2 d4 g1 B4 k4=>?_]
  refine#[sD,λr N=>?_]
  have t0:a9 H4 T1 r1:=(t1.but i k3).but B3 k4
  refine q r (.op s3.toNat T1 T2) _ #[r1,r2,jc,t0.new N,t2.new N] ?_ #[Lo,g0,g1] (B4.upd_new N) (((U.trans k2).trans (k3.trans k4)).upd_new N)
  show((max T1.depth T2.depth+1:Nat):Int)<=d
  omega
theorem ur:ai P w K mg base aD 2 f e ["_law_box_here","_law_names_here","_law_deep"] (cX 0):=by
 have n:∀v H Q E,¬cX 0 v H Q E:=λv H Q E h=>by
  obtain⟨p,g,d,y,_,_,_,_,_,i,b,_⟩:=h
  have c:d < ((0:Nat):Int):=b
  omega
 exact#[λv H Q E h=>absurd h (n v H Q E),λA o s H a u v Q E _ _ _ _ h=>absurd h (n v H Q E)]
theorem wN(F:aN K "_law_term" "_law_term" ni f a)(b:aC K a ["_law_box_here","_law_names_here","_law_deep"] [])(m:mg "_law_term"=some (.ref f))(c:Cl P w K mg base 1 g d ["_law_box_here","_law_wide"] aX "_law_take")(C:Cl P w K mg base 2 h e ["_law_box_here"] gQ "_law_number")(M:mg "len"=none):
  ∀n:Nat,ai P w K mg base aD (n+2) f a ["_law_box_here","_law_names_here","_law_deep"] (cX n)
 |0=>ur
 |n+1=>uM F #[(wN F b m c C M n),b,F.kp,m] c C M
end _K
namespace _K
open PySem PySem.Spec PyProof.Rows _L
variable {P:Program}{w:World}{K:Frag}{mg:Str->Option Value}{base:Heap}
noncomputable def Tm.vars:Tm->List Str
 | .num _=>[]
 | .var x=>[x]
 | .op _ a b=>a.vars++b.vars
theorem kj:∀{t:Tm},t.Good y->∀x∈t.vars,x∈y
 | .num _,_,_,h=>nomatch h
 | .var _,g,_,h=>by rw[List.mem_singleton.mp h];exact g
 | .op _ _ _,g,_,h=>(List.mem_append.mp h).elim (kj g.2.1 _) (kj g.2.2 _)
theorem j7:∀{l m:List Str},l.Nodup->(∀x∈l,x∈m)->l.length<=m.length
 | [],_,_,_=>Eu _
 |x::l,m,n,h=>by
  rw[IQ]at n
  have H:=h x Ez
  have q:=j7 (l:=l) (m:=m.erase x) n.2 λy a=>(List.mem_erase_of_ne (λe=>n.1 (by rw[<- e];exact a))).mpr (h y (EB _ a))
  rw[List.length_erase_of_mem H]at q
  have:0 < m.length:=List.length_pos_of_mem H
  rw[EM]
  omega
theorem Ks:∀{l m:List Str},l.Nodup->m.Nodup->(∀x,x∈l↔x∈m)->l.Perm m
 | [],[],_,_,_=>.nil
 | [],y::m,_,_,h=>absurd ((h y).mpr Ez) Lp
 |x::l,m,n,N,h=>by
  rw[IQ]at n
  have a:x∈m:=(h x).mp Ez
  refine(List.Perm.cons x (Ks n.2 (N.erase x) λy=>?_)).trans (List.perm_cons_erase a).symm
  rw[N.mem_erase_iff]
  constructor
  ·intro H
   exact#[λe=>n.1 (by rw[<- e];exact H),(h y).mp (EB _ H)]
  ·rintro ⟨b,H⟩
   exact(List.mem_cons.mp ((h y).mpr H)).resolve_left b
theorem Qn:∀{p:Str} {l:List Str},risingS p l=true->(p::l).Pairwise λa b=>a.cps.toList<=b.cps.toList
 |p,[],_=>by simp
 |p,x::r,h=>by
  have H:(!ltCps x.cps.toList p.cps.toList&&risingS x r)=true:=h
  rw[Fx]at H
  have i:=Qn H.2
  have c:p.cps.toList<=x.cps.toList:=by
   have z:=H.1
   rw[ltCps_eq]at z
   simpa using z
  rw[List.pairwise_cons]at i ⊢
  refine#[λy hy=>?_,List.pairwise_cons.mpr i]
  rcases List.mem_cons.mp hy with rfl |hy
  ·exact c
  ·exact List.le_trans c (i.1 y hy)
theorem Qo(h:sortedS l=true):l.Pairwise λa b=>a.cps.toList<=b.cps.toList:=by
 cases l with
 |nil=>exact .nil
 |cons x r=>exact Qn h
theorem Xq{l:List Str}(p:l.Perm m)(h:sortedS l=true)(H:sortedS m=true):l=m:=by
 refine List.Perm.eq_of_pairwise (λa b _ _ x y=>?_) (Qo h) (Qo H) p
 have e:=List.le_antisymm x y
 cases a
 cases b
 exact FE Str.mk (Array.toList_inj.mp e)
inductive Lf where
 |rd (x:Str) (t:Addr) (T:Tm)
 |st (x:Str) (t:Addr) (T:Tm)
 |wr (t u:Addr) (T U:Tm)
 |cl (x f:Str) (q:Addr) (ts:List (Addr×Tm))
 |gv (t:Addr) (T:Tm)
noncomputable def tJ(H:Hp):Lf->List V->Prop
 | .rd x t T,v=>v=[.str "read",.str x,.ref t]/\a9 H T t
 | .st x t T,v=>v=[.str "set",.str x,.ref t]/\a9 H T t
 | .wr t u T U,v=>v=[.str "write",.ref t,.ref u]/\a9 H T t/\a9 H U u
 | .cl x f q a,v=>v=[.str "call",.str x,.str f,.ref q]/\H q=some (.tup (a.map λc=>V.ref c.1))/\∀c∈a,a9 H c.2 c.1
 | .gv t T,v=>v=[.str "give",.ref t]/\a9 H T t
theorem tJ.mono(k:aj H a)(h:tJ H l v):tJ a l v:=by
 cases l with
 |rd x t T |st x t T |gv t T=>exact#[h.1,h.2.mono k]
 |wr t u T U=>exact#[h.1,h.2.1.mono k,h.2.2.mono k]
 |cl x f q d=>exact#[h.1,k _ _ h.2.1,λc b=>(h.2.2 c b).mono k]
inductive Bd where
 |nil
 |lf (p:Addr) (l:Lf) (r:Bd)
 |ite (p t:Addr) (T:Tm) (a b r:Bd)
 |loop (p t:Addr) (T:Tm) (a r:Bd)
noncomputable def Bd.app:Bd->Bd->Bd
 | .nil,s=>s
 | .lf p l r,s=>.lf p l (r.app s)
 | .ite p t T a b r,s=>.ite p t T a b (r.app s)
 | .loop p t T a r,s=>.loop p t T a (r.app s)
noncomputable def Bd.size:Bd->Nat
 | .nil=>0
 | .lf _ _ r=>r.size+1
 | .ite _ _ _ a b r=>a.size+b.size+r.size+1
 | .loop _ _ _ a r=>a.size+r.size+1
noncomputable def Bd.dep:Bd->Nat
 | .nil=>0
 | .lf _ _ r=>r.dep
 | .ite _ _ _ a b r=>max (max a.dep b.dep+1) r.dep
 | .loop _ _ _ a r=>max (a.dep+1) r.dep
noncomputable def cQ(y:List Str)(T:Tm):Prop:=T.Good y/\T.depth < 6
noncomputable def Lf.Ok(y:List Str):Lf->Prop
 | .rd x _ T=>x∈y/\cQ y T
 | .st x _ T=>x∈y/\cQ y T
 | .wr _ _ T U=>cQ y T/\cQ y U
 | .cl x _ _ t=>x∈y/\t.length<=6/\∀c∈t,cQ y c.2
 | .gv _ T=>cQ y T
noncomputable def Bd.Ok(y:List Str):Bd->Prop
 | .nil=>True
 | .lf _ l r=>l.Ok y/\r.Ok y
 | .ite _ _ T a b r=>cQ y T/\a.Ok y/\b.Ok y/\r.Ok y
 | .loop _ _ T a r=>cQ y T/\a.Ok y/\r.Ok y
noncomputable abbrev gA:=List (Str×Nat)
noncomputable def Lf.Cs(F:gA):Lf->Prop
 | .cl _ f _ t=>(f,t.length)∈F
 |_=>True
noncomputable def Bd.Cs(F:gA):Bd->Prop
 | .nil=>True
 | .lf _ l r=>l.Cs F/\r.Cs F
 | .ite _ _ _ a b r=>a.Cs F/\b.Cs F/\r.Cs F
 | .loop _ _ _ a r=>a.Cs F/\r.Cs F
theorem Kf{F:gA}:∀{a b:Bd},a.Cs F->b.Cs F->(a.app b).Cs F
 | .nil,_,_,h=>h
 | .lf _ _ _,_,h,k=>#[h.1,Kf h.2 k]
 | .ite _ _ _ _ _ _,_,h,k=>#[h.1,h.2.1,Kf h.2.2 k]
 | .loop _ _ _ _ _,_,h,k=>#[h.1,Kf h.2 k]
theorem km{F:gA}(k:∀f∈F,f∈G):∀{a:Bd},a.Cs F->a.Cs G
 | .nil,_=>trivial
 | .lf _ l _,h=>#[by cases l<;>first |exact k _ h.1 |trivial,km k h.2]
 | .ite _ _ _ _ _ _,h=>#[km k h.1,km k h.2.1,km k h.2.2]
 | .loop _ _ _ _ _,h=>#[km k h.1,km k h.2]
noncomputable def Lf.calls:Lf->gA
 | .cl _ f _ t=>[(f,t.length)]
 |_=>[]
noncomputable def Bd.calls:Bd->gA
 | .nil=>[]
 | .lf _ l r=>l.calls++r.calls
 | .ite _ _ _ a b r=>a.calls++(b.calls++r.calls)
 | .loop _ _ _ a r=>a.calls++r.calls
theorem zG:∀b:Bd,b.Cs b.calls
 | .nil=>trivial
 | .lf _ l r=>#[by cases l<;>first |exact List.mem_append_left _ List.mem_cons_self |trivial,km (λ_ h=>List.mem_append_right _ h) (zG r)]
 | .ite _ _ _ a b r=>#[km (λ_ h=>List.mem_append_left _ h) (zG a),km (λ_ h=>List.mem_append_right _ (List.mem_append_left _ h)) (zG b),km (λ_ h=>List.mem_append_right _ (List.mem_append_right _ h)) (zG r)]
 | .loop _ _ _ a r=>#[km (λ_ h=>List.mem_append_left _ h) (zG a),km (λ_ h=>List.mem_append_right _ h) (zG r)]
theorem zH{F:gA}:∀{b:Bd},b.Cs F->∀f∈b.calls,f∈F
 | .nil,_,_,h=>nomatch h
 | .lf _ l r,k,f,h=>(List.mem_append.mp h).elim (λh=>by cases l<;>first | (rw[List.mem_singleton.mp h];exact k.1) |exact nomatch h) (zH k.2 f)
 | .ite _ _ _ a b r,k,f,h=>(List.mem_append.mp h).elim (zH k.1 f) λh=>(List.mem_append.mp h).elim (zH k.2.1 f) (zH k.2.2 f)
 | .loop _ _ _ a r,k,f,h=>(List.mem_append.mp h).elim (zH k.1 f) (zH k.2 f)
theorem jY:∀(a b:Bd),(a.app b).size=a.size+b.size
 | .nil,b=>by show b.size=0+b.size;omega
 | .lf _ _ r,b=>by have:=jY r b;show(r.app b).size+1=r.size+1+b.size;omega
 | .ite _ _ _ x y r,b=>by have:=jY r b;show x.size+y.size+(r.app b).size+1=x.size+y.size+r.size+1+b.size;omega
 | .loop _ _ _ x r,b=>by have:=jY r b;show x.size+(r.app b).size+1=x.size+r.size+1+b.size;omega
theorem zn:∀(a b:Bd),(a.app b).dep=max a.dep b.dep
 | .nil,b=>(Nat.zero_max b.dep).symm
 | .lf _ _ r,b=>zn r b
 | .ite _ _ _ x y r,b=>by show max _ (r.app b).dep=max (max _ r.dep) b.dep;rw[zn r b,Nat.max_assoc]
 | .loop _ _ _ x r,b=>by show max _ (r.app b).dep=max (max _ r.dep) b.dep;rw[zn r b,Nat.max_assoc]
theorem Kg:∀{a b:Bd},a.Ok y->b.Ok y->(a.app b).Ok y
 | .nil,_,_,h=>h
 | .lf _ _ _,_,g,h=>#[g.1,Kg g.2 h]
 | .ite _ _ _ _ _ _,_,g,h=>#[g.1,g.2.1,g.2.2.1,Kg g.2.2.2 h]
 | .loop _ _ _ _ _,_,g,h=>#[g.1,g.2.1,Kg g.2.2 h]
noncomputable def dt(H:Hp):Bd->List V->Prop
 | .nil,x=>x=[]
 | .lf p l r,x=>∃v y,x= .ref p::y/\H p=some (.tup v)/\tJ H l v/\dt H r y
 | .ite p t T a b r,x=>∃q Q A B y,x= .ref p::y/\H p=some (.tup [.str "if",.ref t,.ref q,.ref Q])/\a9 H T t/\H q=some (.tup A)/\H Q=some (.tup B)/\dt H a A/\dt H b B/\dt H r y
 | .loop p t T a r,x=>∃q A y,x= .ref p::y/\H p=some (.tup [.str "while",.ref t,.ref q])/\a9 H T t/\H q=some (.tup A)/\dt H a A/\dt H r y
theorem dt.mono(k:aj H m):∀{x:List V},dt H a x->dt m a x:=by
 induction a with
 |nil=>exactλh=>h
 |lf p l r n=>rintro x ⟨v,y,e,c,d,f⟩;exact#[v,y,e,k _ _ c,d.mono k,n f]
 |ite p t T a b r i o I=>rintro x ⟨q,Q,A,B,y,e,c,g,d,f,j,s,u⟩;exact#[q,Q,A,B,y,e,k _ _ c,g.mono k,k _ _ d,k _ _ f,i j,o s,I u]
 |loop p t T a r i I=>rintro x ⟨q,A,y,e,c,g,d,f,j⟩;exact#[q,A,y,e,k _ _ c,g.mono k,k _ _ d,i f,I j]
theorem dt.app(k:dt H b y):∀{x:List V},dt H a x->dt H (a.app b) (x++y):=by
 induction a with
 |nil=>intro x h;have e:x=[]:=h;rw[e];exact k
 |lf p l r I=>rintro x ⟨v,z,e,c,d,f⟩;exact#[v,z++y,by rw[e];rfl,c,d,I f]
 |ite p t T a b r _ _ i=>rintro x ⟨q,Q,A,B,z,e,c,g,d,f,j,m,n⟩;exact#[q,Q,A,B,z++y,by rw[e];rfl,c,g,d,f,j,m,i n]
 |loop p t T a r _ i=>rintro x ⟨q,A,z,e,c,g,d,f,j⟩;exact#[q,A,z++y,by rw[e];rfl,c,g,d,f,i j]
theorem dt.len:∀{x:List V},dt H a x->x.length<=a.size:=by
 induction a with
 |nil=>intro x h;have e:x=[]:=h;rw[e];exact Eh 0
 |lf p l r I=>rintro x ⟨v,y,e,d,f,c⟩;rw[e];exact FP (I c)
 |ite p t T a b r _ _ i=>rintro x ⟨q,Q,A,B,y,e,d,j,f,c,g,m,k⟩;rw[e];exact FP (Es (i k) (Nat.le_add_left _ _))
 |loop p t T a r _ i=>rintro x ⟨q,A,y,e,d,j,f,c,g⟩;rw[e];exact FP (Es (i g) (Nat.le_add_left _ _))
inductive gi(H:Hp):V->Bd->Prop
 |lf (p:Addr) (l:Lf) (vs:List V) (h1:H p=some (.tup vs)) (h2:tJ H l vs):gi H (.ref p) (.lf p l .nil)
 |ite (p t:Addr) (T:Tm) (a b:Bd) (qa qb:Addr) (as bs:List V) (h1:H p=some (.tup [.str "if",.ref t,.ref qa,.ref qb])) (h0:a9 H T t) (h2:H qa=some (.tup as)) (h3:H qb=some (.tup bs)) (h4:dt H a as) (h5:dt H b bs):gi H (.ref p) (.ite p t T a b .nil)
 |loop (p t:Addr) (T:Tm) (a:Bd) (qa:Addr) (as:List V) (h1:H p=some (.tup [.str "while",.ref t,.ref qa])) (h0:a9 H T t) (h2:H qa=some (.tup as)) (h3:dt H a as):gi H (.ref p) (.loop p t T a .nil)
theorem gi.bd(h:gi H v s):dt H s [v]:=by
 cases h with
 |lf p l V c d=>exact#[V,[],Z,c,d,Z]
 |ite p t T a b q Q A B c e d f g i=>exact#[q,Q,A,B,[],Z,c,e,d,f,g,i,Z]
 |loop p t T a q A c e d f=>exact#[q,A,[],Z,c,e,d,f,Z]
theorem gi.mono(k:aj H g)(h:gi H v s):gi g v s:=by
 cases h with
 |lf p l V c d=>exact .lf p l V (k _ _ c) (d.mono k)
 |ite p t T a b q Q A B c e d f i j=>exact .ite p t T a b q Q A B (k _ _ c) (e.mono k) (k _ _ d) (k _ _ f) (i.mono k) (j.mono k)
 |loop p t T a q A c e d f=>exact .loop p t T a q A (k _ _ c) (e.mono k) (k _ _ d) (f.mono k)
theorem dt.last:∀{x:List V},dt H a x->x=[]/\a= .nil∨∃z v b s,x=z++[v]/\a=b.app s/\dt H b z/\gi H v s:=by
 induction a with
 |nil=>exactλh=>.inl #[h,Z]
 |lf p l r i=>
  rintro x ⟨u,y,e,f,g,n⟩
  rcases i n with ⟨E,d⟩ | ⟨z,v,b,s,E,d,j,k⟩
  ·exact .inr #[[],.ref p,.nil,.lf p l .nil,by rw[e,E];rfl,by rw[d];rfl,Z,.lf p l u f g]
  ·exact .inr #[.ref p::z,v,.lf p l b,s,by rw[e,E];rfl,by rw[d];rfl,#[u,z,Z,f,g,j],k]
 |ite p t T a b r _ _ i=>
  rintro x ⟨q,Q,A,B,y,e,f,m,g,n,G,C,o⟩
  rcases i o with ⟨E,d⟩ | ⟨z,v,c,s,E,d,j,k⟩
  ·exact .inr #[[],.ref p,.nil,.ite p t T a b .nil,by rw[e,E];rfl,by rw[d];rfl,Z,.ite p t T a b q Q A B f m g n G C]
  ·exact .inr #[.ref p::z,v,.ite p t T a b c,s,by rw[e,E];rfl,by rw[d];rfl,#[q,Q,A,B,z,Z,f,m,g,n,G,C,j],k]
 |loop p t T a r _ i=>
  rintro x ⟨q,A,y,e,f,m,g,G,o⟩
  rcases i o with ⟨E,d⟩ | ⟨z,v,c,s,E,d,j,k⟩
  ·exact .inr #[[],.ref p,.nil,.loop p t T a .nil,by rw[e,E];rfl,by rw[d];rfl,Z,.loop p t T a q A f m g G]
  ·exact .inr #[.ref p::z,v,.loop p t T a c,s,by rw[e,E];rfl,by rw[d];rfl,#[q,A,z,Z,f,m,g,G,j],k]
theorem zP:∀{a b:Bd},(a.app b).Ok y->a.Ok y/\b.Ok y
 | .nil,_,h=>#[EE,h]
 | .lf _ _ _,_,h=>#[#[h.1,(zP h.2).1],(zP h.2).2]
 | .ite _ _ _ _ _ _,_,h=>#[#[h.1,h.2.1,h.2.2.1,(zP h.2.2.2).1],(zP h.2.2.2).2]
 | .loop _ _ _ _ _,_,h=>#[#[h.1,h.2.1,(zP h.2.2).1],(zP h.2.2).2]
structure Nm(ss:List Str)(M:Str->Prop):Prop where
 nd:ss.Nodup
 so:sortedS ss=true
 mem:∀x,x∈ss↔M x
theorem Nm.uniq(h:Nm a M)(g:Nm s M):a=s:=Xq (Ks h.nd g.nd λx=>(h.mem x).trans (g.mem x).symm) h.so g.so
open Classical in
noncomputable def canon(M:Str->Prop):List Str:=if h:∃s,Nm s M then Classical.choose h else []
theorem Nm.canon(h:Nm s M):s=canon M:=by
 have e:∃s,Nm s M:=#[s,h]
 unfold _K.canon
 rw[dif_pos e]
 exact h.uniq (Classical.choose_spec e)
theorem Nm.len{s y:List Str}{M:Str->Prop}(h:Nm s M)(H:∀x,M x->x∈y):s.length<=y.length:=j7 h.nd λx a=>H x ((h.mem x).mp a)
noncomputable def Lf.use(M:Str->Prop):Lf->Str->Prop
 | .rd x _ T,y=>(M y/\y≠x)∨y∈T.vars
 | .st x _ T,y=>(M y/\y≠x)∨y∈T.vars
 | .wr _ _ T U,y=>M y∨y∈T.vars∨y∈U.vars
 | .cl x _ _ t,y=>(M y/\y≠x)∨∃c∈t,y∈c.2.vars
 | .gv _ T,y=>y∈T.vars
noncomputable def Bd.use:Bd->(Str->Prop)->Str->Prop
 | .nil,M=>M
 | .lf _ l r,M=>l.use (r.use M)
 | .ite _ _ T a b r,M=>λy=>(a.use (r.use M) y∨b.use (r.use M) y)∨y∈T.vars
 | .loop _ _ T a r,M=>λy=>(a.use (λ_=>False) y∨r.use M y)∨y∈T.vars
theorem JW:∀(a b:Bd) (M:Str->Prop),(a.app b).use M=a.use (b.use M)
 | .nil,_,_=>rfl
 | .lf _ l r,b,M=>by show l.use ((r.app b).use M)=l.use (r.use (b.use M));rw[JW r b M]
 | .ite _ _ T x y r,b,M=>by show(λz=>(x.use ((r.app b).use M) z∨y.use ((r.app b).use M) z)∨z∈T.vars)=λz=>(x.use (r.use (b.use M)) z∨y.use (r.use (b.use M)) z)∨z∈T.vars;rw[JW r b M]
 | .loop _ _ T x r,b,M=>by show(λz=>(x.use (λ_=>False) z∨(r.app b).use M z)∨z∈T.vars)=λz=>(x.use (λ_=>False) z∨r.use (b.use M) z)∨z∈T.vars;rw[JW r b M]
theorem Lf.use_in{M:Str->Prop}{l:Lf}(h:l.Ok Y)(a:∀x,M x->x∈Y):∀y,l.use M y->y∈Y:=by
 intro y H
 cases l with
 |rd x t T |st x t T=>exact H.elim (λz=>a y z.1) (kj h.2.1 y)
 |wr t u T U=>exact H.elim (a y) λz=>z.elim (kj h.1.1 y) (kj h.2.1 y)
 |cl x f q d=>exact H.elim (λz=>a y z.1) λ#[c,b,z]=>kj (h.2.2 c b).1 y z
 |gv t T=>exact kj h.1 y H
theorem Bd.use_in:∀{b:Bd} {M:Str->Prop},b.Ok Y->(∀x,M x->x∈Y)->∀y,b.use M y->y∈Y
 | .nil,_,_,H,y,c=>H y c
 | .lf _ l r,_,h,H,y,c=>Lf.use_in h.1 (Bd.use_in h.2 H) y c
 | .ite _ _ T a b r,_,h,H,y,c=>c.elim (λz=>z.elim (Bd.use_in h.2.1 (Bd.use_in h.2.2.2 H) y) (Bd.use_in h.2.2.1 (Bd.use_in h.2.2.2 H) y)) (kj h.1.1 y)
 | .loop _ _ T a r,_,h,H,y,c=>c.elim (λz=>z.elim (Bd.use_in h.2.1 (λ_ w=>w.elim) y) (Bd.use_in h.2.2 H y)) (kj h.1.1 y)
end _K
namespace _K
open PySem PySem.Spec PyProof.Rows _L
variable {P:Program}{w:World}{K:Frag}{mg:Str->Option Value}{base:Heap}
noncomputable abbrev dR:Stmt:=bL 4
noncomputable abbrev yQ:Stmt:=bL 31
noncomputable abbrev rE:Stmt:=bL 32
noncomputable abbrev vo:Stmt:=bL 33
noncomputable abbrev vm:Stmt:=bL 34
noncomputable def dq(n:Nat):Sp:=λv H Q _=>∃(a:Addr) (T:Tm) (y:List Str),v=[.ref a]/\a9 H T a/\T.depth < n/\T.Good y/\y.length<=21/\
 ∀(r:Addr) (s:List Str) (h:Hp),H r=none->h r=some (.lst (s.map V.str))->s.Nodup->(∀x,x∈s↔x∈T.vars)->sortedS s=true->ae H h->Q (.ref r) h
theorem rL:am ["term"] ["term"] (aa dR):=bJ
theorem uG{f:Addr}{o:FuncData}(F:aN K "names_in" "names_in" dR f o){n:Nat}(C:Cl P w K mg base (n+1) f o ["term"] (dq n) "names_in")(M:mg "set"=none)(p:mg "sorted"=none):ai P w K mg base aD (n+2) f o ["term"] (dq (n+1)):=by
 refine F.ok rL (λvs H Q E h=>?_) (λc0 A O s H vs Q E v h=>?_)
 ·obtain⟨a,T,Y,rfl,_⟩:=h
  rfl
 obtain⟨a,T,Y,rfl,t,dp,g,j,q⟩:=h
 refine#[_,(jd (jx (jV (jw (pv 0))) (jg (jm (jL jb))) jp) (jd (jx (jV (jw (pv 0))) (jg (jm (jL (ja (jw (pv 0)) jb)))) jp) (jg (jm (jF (qf Z) Z p boot_sorted (ja (jC (qR Z) Z M boot_set (ja (jv qL (C.e v (ja (jw (pv 0)) jb)) (C.e v (ja (jw (pv 0)) jb))) jb)) jb)))))),?_]
 cases T with
 |num m=>
  have b:H a=some (.tup [.str "num",.int m]):=t
  refine(jq b Z #[Z,_,Z,cj Lq ?_])
  exact#[Ln,λr N=>q r [] _ N jc Ii (λx=>IW) Z (je N)]
 |var x=>
  have b:H a=some (.tup [.str "var",.str x]):=t
  refine(jq b Z #[Z,_,Z,aG Lq ?_])
  refine(jq b Z #[Z,_,Z,cj Lq ?_])
  exact(jq b Z #[mM,λr N=>q r [x] _ N jc Lp (λy=>IW) Z (je N)])
 |op i B D=>
  obtain⟨p1,p2,b,h1,h2⟩:=t
  have d0:max B.depth D.depth+1 < n+1:=dp
  refine(jq b Z #[Z,_,Z,aG Lq ?_])
  refine(jq b Z #[Z,_,Z,aG Lq ?_])
  refine(jq b Z #[p1,B,Y,Z,h1,Lo,g.2.1,j,λr1 S H1 n1 e1 d1 G o1 u=>?_])
  refine(jq (u _ _ b) Z #[p2,D,Y,Z,h2.same u,Lo,g.2.2,j,λr2 k H2 n2 e2 d2 I o2 J=>?_])
  have l1:S.length<=21:=Es (j7 d1 λx d=>kj g.2.1 x ((G x).mp d)) j
  have l2:k.length<=21:=Es (j7 d2 λx d=>kj g.2.2 x ((I x).mp d)) j
  have b0:=zf
  refine#[r1,r2,_,_,Z,Z,J _ _ e1,e2,(by rw[Ef,Ef];omega),λc nc=>?_]
  refine#[c,S++k,Z,aF.of (by rw[jc,EK]),(λL nd hs=>FR (FP (j7 nd hs)) (by rw[Ei];show S.length+k.length+1 < 4096;omega)),λl L nl dL R=>?_]
  have lL:=j7 dL λx d=>(R x).mp d
  rw[Ei]at lL
  refine#[l,L,Z,jc,Lo,λz ss U W dz oz=>?_]
  have X:ae H (ah (ah H2 c (.lst (S.map V.str++k.map V.str))) l (Cn P w l L)):=(u.trans J).trans ((je nc).trans (je nl))
  refine q z ss _ (X.free U) jc (W.nodup_iff.mpr dz) (λx=>?_) oz (X.trans (je U))
  rw[W.mem_iff,R x,GY,G x,I x]
  exact List.mem_append.symm
theorem uq:ai P w K mg base aD 1 f d ["term"] (dq 0):=by
 have n:∀v H Q E,¬dq 0 v H Q E:=λv H Q E h=>by
  obtain⟨a,T,y,_,_,c,_⟩:=h
  exact absurd c (Gy _)
 exact#[λv H Q E h=>absurd h (n v H Q E),λA o s H b u v Q E _ _ _ _ h=>absurd h (n v H Q E)]
theorem wA(F:aN K "names_in" "names_in" dR f a)(b:aC K a ["term"] [])(c:mg "names_in"=some (.ref f))(m:mg "set"=none)(M:mg "sorted"=none):
  ∀n:Nat,ai P w K mg base aD (n+1) f a ["term"] (dq n)
 |0=>uq
 |n+1=>uG F #[(wA F b c m M n),b,F.kp,c] m M
noncomputable def Lf.own:Lf->List (Addr×Tm)
 | .rd _ t T=>[(t,T)]
 | .st _ t T=>[(t,T)]
 | .wr t u T U=>[(t,T),(u,U)]
 | .cl _ _ _ a=>a
 | .gv t T=>[(t,T)]
noncomputable def Bd.own:Bd->List (Addr×Tm)
 | .nil=>[]
 | .lf _ l _=>l.own
 | .ite _ t T _ _ _=>[(t,T)]
 | .loop _ t T _ _=>[(t,T)]
noncomputable def rT(c:Addr×Tm):V:=.ref c.1
noncomputable def nF:Sp:=λa H Q _=>∃(v:V) (s:Bd),a=[v]/\gi H v s/\∀(r:Addr) (h:Hp),h r=some (.tup (s.own.map rT))->ae H h->Q (.ref r) h
theorem YE:aV (a::b::r) (some 1) (some 2)=[b]:=by
 unfold aV
 have e:(1:Int)=((1:Nat):Int):=rfl
 have E:(2:Int)=((2:Nat):Int):=rfl
 rw[E,e,HT.sIx_nat,HT.sIx_nat,EM,EM]
 have c:min 1 (r.length+1+1)=1:=by omega
 have d:min 2 (r.length+1+1) - 1=1:=by omega
 rw[c,d]
 rfl
theorem wH:am ["statement","word"] ["statement"] (aa yQ):=bJ
theorem yh{f:Addr}{j:FuncData}(F:aN K "own_terms" "own_terms" yQ f j):ai P w K mg base aD 1 f j ["statement"] nF:=by
 refine F.ok wH ?_ λC A o s H V Q E d h=>?_
 ·rintro _ _ _ _ ⟨v,s,rfl,_⟩
  rfl
 obtain⟨v,st,rfl,m,q⟩:=h
 refine#[_,(jd (jB 1 wH.nd (jw (pv 0))) (jd (jx (jE zr (pv 1) (ji (ja jk (ja jk jb))) Z) (jg (jm (jO zd (pv 0) (jK jf) j5))) jp) (jd (jx (jV (pv 1)) (jg (jm (jO zd (pv 0) (jK jf) j5))) jp) (jd (jx (jV (pv 1)) (jg (jm (jw (pv 0)))) jp) (jg (jm (jO zd (pv 0) (jK jf) (jK jf)))))))),?_]
 cases m with
 |lf p l V c g=>
  cases l with
  |rd x t T |st x t T=>
   obtain⟨rfl,i⟩:=g
   refine(jq c Z #[_,Z,bj,λl n=>#[l,_,Z,.inr (ar.of jc),Z,Z,_,Z,cj Lq ?_]])
   exact#[_,Z,_,Z,p,_,Z,aq c n,λr e d s=>q r e d ((je n).trans s)]
  |wr t u T U=>
   obtain⟨rfl,i,L⟩:=g
   refine(jq c Z #[_,Z,bj,λl n=>#[l,_,Z,.inr (ar.of jc),Z,Z,_,Z,aG Lq ?_]])
   refine#[_,Z,Z,_,Z,cj Lq ?_]
   exact#[_,Z,_,Z,p,_,Z,aq c n,λr e d s=>q r e d ((je n).trans s)]
  |cl x M y N=>
   obtain⟨rfl,z,i⟩:=g
   refine(jq c Z #[_,Z,bj,λl n=>#[l,_,Z,.inr (ar.of jc),Z,Z,_,Z,aG Lq ?_]])
   refine#[_,Z,Z,_,Z,aG Lq ?_]
   refine#[_,Z,Z,_,Z,cj Lq ?_]
   exact(jq (aq c n) Z (q y _ (aq z n) (je n)))
  |gv t T=>
   obtain⟨rfl,i⟩:=g
   refine(jq c Z #[_,Z,bj,λl n=>#[l,_,Z,.inr (ar.of jc),Z,Z,_,Z,aG Lq ?_]])
   refine#[_,Z,Z,_,Z,aG Lq ?_]
   refine#[_,Z,Z,_,Z,aG Lq ?_]
   exact#[_,Z,_,Z,_,Z,p,_,Z,aq c n,λr e d s=>q r e (by rw[YE]at d;exact d) ((je n).trans s)]
 |ite p t T a b B O D R c G g I S W |loop p t T a B D c G g I=>
  refine(jq c Z #[_,Z,bj,λl n=>#[l,_,Z,.inr (ar.of jc),Z,Z,_,Z,aG Lq ?_]])
  refine#[_,Z,Z,_,Z,aG Lq ?_]
  refine#[_,Z,Z,_,Z,aG Lq ?_]
  exact#[_,Z,_,Z,_,Z,p,_,Z,aq c n,λr e d s=>q r e (by rw[YE]at d;exact d) ((je n).trans s)]
theorem Ku{K:Frag}{a:Addr}{Y:List Str}{t:TT}{T:TE}{q:List V->Hp->Prop}{b:_L.St}{H:Hp}(f:Str->Bool)(L:Y.length<=1000)(A:H a=some (.lst (Y.map V.str)))
  (B:∀y g (Q:Bool->Hp->Prop),y∈Y->ae H g->(∀j,ae g j->Q (f y) j)->t (some (.str y)::b) g Q)
  (C:∀y g (Q:VK),y∈Y->Q (.str y) g->T (some (.str y)::b) g Q) (D:∀c,ae H c->q ((Y.filter f).map V.str) c):dM (vW K a) 1 b (a8 0) t T q H:=by
 have F:=zf
 refine#[λi m n c=>m=Y.length - i/\i<=Y.length/\n=((Y.take i).filter f).map V.str/\ae H c,#[Y.length,Lp,Eu _,Lp,ae.refl H],?_]
 rintro i m n c ⟨rfl,M,rfl,k⟩
 have d:aF K c a (Y.map V.str):=aF.of (k _ _ A)
 by_cases h:i < Y.length
 ·have o:(Y.map V.str)[i]?=some (.str Y[i]):=by rw[Eo,Ed h];rfl
  refine .inr #[#[_,_,d,o],?_,λz j=>z=((Y.take (i+1)).filter f).map V.str/\ae H j,λz j #[G,I]=>#[Y.length - (i+1),Lo,Z,h,G,I],λv j N l y=>?_]
  ·rw[Ef]
   have:=Ig f (Y.take i)
   rw[ED]at this
   omega
  obtain⟨e,y⟩:=y
  subst e
  have p:=y _ d
  rw[o]at p
  cases p
  obtain⟨w,rfl⟩:=oW l
  have r:Y[i]∈Y:=GQ h
  have s:Y.take (i+1)=Y.take i++[Y[i]]:=by rw[FK,Ed h];rfl
  refine#[#[[some _],Z,Z],B Y[i] _ _ r k λJ u=>?_]
  cases x:f Y[i] with
  |true=>
   refine cj Z (C Y[i] J _ r #[?_,k.trans u])
   rw[s,List.filter_append,EK]
   have E:[Y[i]].filter f=[Y[i]]:=by simp [x]
   rw[E]
   rfl
  |false=>
   refine aG Z #[?_,k.trans u]
   rw[s,List.filter_append,EK]
   have E:[Y[i]].filter f=[]:=by simp [x]
   rw[E]
   simp
 ·have e:i=Y.length:=by omega
  subst e
  refine .inl #[#[_,d,Lp],?_]
  rw[FY (Eh _)]
  exact D c k
noncomputable def Lf.bt(M:Str->Prop):Lf->Str->Prop
 | .rd x _ _,y=>M y/\y≠x
 | .st x _ _,y=>M y/\y≠x
 | .wr _ _ _ _,y=>M y
 | .cl x _ _ _,y=>M y/\y≠x
 | .gv _ _,_=>False
noncomputable def Bd.bt(M:Str->Prop):Bd->Str->Prop
 | .nil,y=>M y
 | .lf _ l _,y=>l.bt M y
 | .ite _ _ _ a b _,y=>a.use M y∨b.use M y
 | .loop _ _ _ a _,y=>a.use (λ_=>False) y∨M y
theorem sN(h:gi H v s)(M:Str->Prop)(y:Str):s.use M y↔s.bt M y∨∃c∈s.own,y∈c.2.vars:=by
 cases h with
 |lf p l V _ _=>
  cases l with
  |rd x t T |st x t T=>exact#[λz=>z.elim .inl λw=>.inr #[_,List.mem_singleton.mpr Z,w],λz=>z.elim .inl λ#[c,hc,w]=>.inr (by rw[List.mem_singleton.mp hc]at w;exact w)]
  |wr t u T U=>
   refine#[λz=>z.elim .inl λw=>.inr (w.elim (λw=>#[_,Ez ..,w]) λw=>#[_,EB _ (List.mem_singleton.mpr Z),w]),λz=>z.elim .inl λ#[c,hc,w]=>.inr ?_]
   rcases List.mem_cons.mp hc with e |hc
   ·rw[e]at w;exact .inl w
   ·rw[List.mem_singleton.mp hc]at w;exact .inr w
  |cl x f q d=>exact IW
  |gv t T=>exact#[λw=>.inr #[_,List.mem_singleton.mpr Z,w],λz=>z.elim False.elim λ#[c,hc,w]=>by rw[List.mem_singleton.mp hc]at w;exact w]
 |ite p t T a b Q g A B _ _ _ _ _ _ |loop p t T a Q A _ _ _ _=>exact#[λz=>z.elim .inl λw=>.inr #[_,List.mem_singleton.mpr Z,w],λz=>z.elim .inl λ#[c,hc,w]=>.inr (by rw[List.mem_singleton.mp hc]at w;exact w)]
structure NL(H:Hp)(g:Addr)(ss:List Str)(M:Str->Prop)(ys:List Str):Prop where
 at':H g=some (.lst (ss.map V.str))
 nm:Nm ss M
 sub:∀x,M x->x∈ys
 y20:ys.length<=21
theorem NL.len{H:Hp}{g:Addr}{s:List Str}{M:Str->Prop}{y:List Str}(h:NL H g s M y):s.length<=21:=Es (h.nm.len h.sub) h.y20
theorem NL.same(h:NL H g a M y)(s:ae H b):NL b g a M y:=#[s _ _ h.at',h.nm,h.sub,h.y20]
structure NU(H:Hp)(g:Addr)(ss:List Str)(M:Str->Prop)(ys:List Str):Prop where
 at':H g=some (.lst (ss.map V.str))
 nd:ss.Nodup
 mem:∀x,x∈ss↔M x
 sub:∀x,M x->x∈ys
 y20:ys.length<=21
theorem NL.nu(h:NL H g s M y):NU H g s M y:=#[h.at',h.nm.nd,h.nm.mem,h.sub,h.y20]
noncomputable def wK(n:Nat):Sp:=λa H Q _=>∃(v:V) (g:Addr) (s:Bd) (S:List Str) (M:Str->Prop) (Y:List Str),a=[v,.ref g]/\gi H v s/\NL H g S M Y/\s.Ok Y/\s.dep < n+1/\s.size<=10000000/\
 ∀(r:Addr) (z:List Str) (h:Hp),h r=some (.lst (z.map V.str))->(∀y,y∈z↔s.bt M y)->z.length<=50->ae H h->Q (.ref r) h
noncomputable def f8(n:Nat):Sp:=λa H Q _=>∃(v:V) (g:Addr) (s:Bd) (S:List Str) (M:Str->Prop) (y:List Str),a=[v,.ref g]/\gi H v s/\NL H g S M y/\s.Ok y/\s.dep < n+1/\s.size<=10000000/\
 ∀(r:Addr) (z:List Str) (h:Hp),H r=none->NL h r z (s.use M) y->ae H h->Q (.ref r) h
noncomputable def ik(n:Nat):Sp:=λv H Q _=>∃(a g:Addr) (b:Bd) (x:List V) (s:List Str) (M:Str->Prop) (y:List Str),v=[.ref a,.ref g]/\H a=some (.tup x)/\dt H b x/\NU H g s M y/\b.Ok y/\b.dep < n/\b.size<=10000000/\
 ∀(r:Addr) (z:List Str) (h:Hp),H r=none->NL h r z (b.use M) y->ae H h->Q (.ref r) h
theorem Nm.empty:Nm [] (λ_=>False):=#[Ii,Z,λx=>#[λh=>absurd h EL,False.elim]]
theorem wJ:am ["statement","behind","word"] ["statement","behind"] (aa rE):=bJ
noncomputable def rS:Scope:=#[.function,[(".0",.local),("name",.local),("statement",.free)],false,false,[]]
theorem Bc:(["name","statement"]:List Str).Nodup:=by decide+kernel
theorem AM:aZ ["statement","behind","word"] (aa rE) rS ["name","statement"] 1 [0]:=mO
theorem pJ{L n:Nat}(F:aN K "used_behind_terms" "used_behind_terms" rE f fd)(J:Cl P w K mg base L fA f0 ["body","behind"] (ik n) "used_ahead"):ai P w K mg base aD (L+1) f fd ["statement","behind"] (wK n):=by
 refine F.ok wJ ?_ λc0 A O s H vs Q E R h=>?_
 ·rintro _ _ _ _ ⟨v,g,s,G,M,Y,rfl,_⟩
  rfl
 obtain⟨v,g,st,G,M,Y,rfl,hs,c,W,hd,hz,q⟩:=h
 refine#[_,(jd (jB 2 wJ.nd (jw (pv 0))) (jd (jx (jE zr (pv 2) (ji (ja jk (ja jk (ja jk jb)))) Z) (jg (jm (@kJ _ _ _ _ _ _ _ (["name","statement"]) (1) ([0]) _ _ _ _ Z (qW (pv 1)) AM (λ_ _ _ _ _=>(jy (i:=0) Bc Z (Or.inl Z))) (λ_ _ _ _ _=>(@Z1 _ _ _ (jE qS (pv 0) (js (r:=eu K) jJ (pv 1) jf (λ_ _=>Z)) (aA _)))) (λ_ _ _ _ _=>(pv 0)) (by intro _;rfl)))) jp) (jd (jx (jV (pv 2)) (jg (jm (jv qL (J.e R.m (ja (jw (pv 0)) (ja (pv 1) jb))) (J.e R.m (ja (jw (pv 0)) (ja (pv 1) jb)))))) jp) (jd (jx (jV (pv 2)) (jg (jm (jv qL (J.e R.m (ja (jw (pv 0)) (ja (jL jb) jb))) (pv 1)))) jp) (jd (jx (jV (pv 2)) (jg (jm (jL jb))) jp) (jg (jm (pv 1)))))))),?_]
 have g0:=c.len
 cases hs with
 |lf p l vs d B=>
  cases l with
  |rd x t T |st x t T=>
   obtain⟨rfl,X⟩:=B
   refine(jq d Z #[_,Z,dY,λl N=>#[l,_,Z,.inr (ar.of jc),Z,Z,_,Z,cj Lq ?_]])
   have S:ae H (ah H l (.tup [.str "set",.str "read",.str "call"])):=je N
   refine#[_,Z,g,Z,#[_,aF.of (S _ _ c.at')],Ku (λy=>!decide (V.str y=V.str x)) Lo (S _ _ c.at') (λy I Q' hy k C=>?_) (λy I Q' hy C=>#[_,Z,C]) λH' k r j=>?_]
   ·exact#[_,Z,jq (k _ _ (S _ _ d)) Z #[Z,_,Z,C _ (ae.refl _)]]
   ·refine q r _ _ jc (λy=>?_) (Es (Ig ..) Lo) ((S.trans k).trans (je j))
    rw[List.mem_filter,c.nm.mem y]
    exact and_congr_right λ_=>by simp
  |wr t u T U=>
   obtain⟨rfl,X,hU⟩:=B
   refine(jq d Z #[_,Z,dY,λl N=>#[l,_,Z,.inr (ar.of jc),Z,Z,_,Z,aG Lq ?_]])
   refine#[_,Z,Z,_,Z,aG Lq ?_]
   refine#[_,Z,Z,_,Z,aG Lq ?_]
   refine#[_,Z,Z,_,Z,aG Lq ?_]
   exact#[_,Z,q g G _ (aq c.at' N) c.nm.mem Lo (je N)]
  |cl x f' q' ts=>
   obtain⟨rfl,h8,X⟩:=B
   refine(jq d Z #[_,Z,dY,λl N=>#[l,_,Z,.inr (ar.of jc),Z,Z,_,Z,cj Lq ?_]])
   have S:ae H (ah H l (.tup [.str "set",.str "read",.str "call"])):=je N
   refine#[_,Z,g,Z,#[_,aF.of (S _ _ c.at')],Ku (λy=>!decide (V.str y=V.str x)) Lo (S _ _ c.at') (λy I Q' hy k C=>?_) (λy I Q' hy C=>#[_,Z,C]) λH' k r j=>?_]
   ·exact#[_,Z,jq (k _ _ (S _ _ d)) Z #[Z,_,Z,C _ (ae.refl _)]]
   ·refine q r _ _ jc (λy=>?_) (Es (Ig ..) Lo) ((S.trans k).trans (je j))
    rw[List.mem_filter,c.nm.mem y]
    exact and_congr_right λ_=>by simp
  |gv t T=>
   obtain⟨rfl,X⟩:=B
   refine(jq d Z #[_,Z,dY,λl N=>#[l,_,Z,.inr (ar.of jc),Z,Z,_,Z,aG Lq ?_]])
   refine#[_,Z,Z,_,Z,aG Lq ?_]
   refine#[_,Z,Z,_,Z,aG Lq ?_]
   refine#[_,Z,Z,_,Z,cj Lq ?_]
   exact#[nV,λr j=>q r [] _ jc (λy=>#[λh=>absurd h EL,λh=>(show False from h).elim]) (Eu _) ((je N).trans (je j))]
 |ite p t T a b qa qb as bs d h0 B h3 h4 h5=>
  refine(jq d Z #[_,Z,dY,λl N=>#[l,_,Z,.inr (ar.of jc),Z,Z,_,Z,aG Lq ?_]])
  refine#[_,Z,Z,_,Z,cj Lq ?_]
  have S:ae H (ah H l (.tup [.str "set",.str "read",.str "call"])):=je N
  have h6:max (max a.dep b.dep+1) 0 < n+1:=hd
  have h7:a.size+b.size+0+1<=10000000:=hz
  refine(jq (S _ _ d) Z #[_,Z,qa,g,a,as,G,M,Y,Z,S _ _ B,h4.mono (ae.tm S),(c.same S).nu,W.2.1,Lo,Lo,λr1 z1 I _ D k1=>?_])
  have z:=S.trans k1
  refine(jq (z _ _ d) Z #[_,Z,qb,g,b,bs,G,M,Y,Z,z _ _ h3,h5.mono (ae.tm z),(c.same z).nu,W.2.2.1,Lo,Lo,λr2 z2 H2 _ n2 k2=>?_])
  have l1:=D.len
  have l2:=n2.len
  have b0:=zf
  refine#[r1,r2,_,_,Z,Z,k2 _ _ D.at',n2.at',by rw[Ef,Ef];omega,λr j=>q r (z1++z2) _ (by rw[jc,EK]) (λy=>?_) (by rw[Ei];omega) ((z.trans k2).trans (je j))]
  rw[GY,D.nm.mem y,n2.nm.mem y]
  exact IW
 |loop p t T a qa as d h0 B h3=>
  refine(jq d Z #[_,Z,dY,λl N=>#[l,_,Z,.inr (ar.of jc),Z,Z,_,Z,aG Lq ?_]])
  refine#[_,Z,Z,_,Z,aG Lq ?_]
  refine#[_,Z,Z,_,Z,cj Lq ?_]
  have S:ae H (ah H l (.tup [.str "set",.str "read",.str "call"])):=je N
  have h6:max (a.dep+1) 0 < n+1:=hd
  have h7:a.size+0+1<=10000000:=hz
  refine(jq (S _ _ d) Z #[nV,λe ne=>?_])
  have z:=S.trans (je (o:=.lst []) ne)
  refine#[qa,e,a,as,[],λ_=>False,Y,Z,z _ _ B,h3.mono (ae.tm z),(NL.nu #[jc,Nm.empty,λ_ w=>w.elim,c.y20]),W.2.1,Lo,Lo,λr1 z1 I _ D k1=>?_]
  have l1:=D.len
  have s3:=z.trans k1
  have b0:=zf
  refine#[_,Z,r1,g,_,_,Z,Z,D.at',s3 _ _ c.at',by rw[Ef,Ef];omega,λr j=>q r (z1++G) _ (by rw[jc,EK]) (λy=>?_) (by rw[Ei];omega) (s3.trans (je j))]
  rw[GY,D.nm.mem y,c.nm.mem y]
  exact IW
theorem yr(h:gi H v s):∀c∈s.own,a9 H c.2 c.1:=by
 cases h with
 |lf p l V _ d=>
  cases l with
  |rd x t T |st x t T |gv t T=>intro c hc;rw[List.mem_singleton.mp hc];exact d.2
  |wr t u T U=>
   intro c hc
   rcases List.mem_cons.mp hc with e |hc
   ·rw[e];exact d.2.1
   ·rw[List.mem_singleton.mp hc];exact d.2.2
  |cl x f q i=>exact d.2.2
 |ite p t T a b Q j A B _ g _ _ _ _ |loop p t T a Q A _ g _ _=>intro c hc;rw[List.mem_singleton.mp hc];exact g
theorem yt(h:gi H v s)(o:s.Ok y):s.own.length<=100/\∀c∈s.own,cQ y c.2:=by
 have O:∀(t:Addr) (T:Tm),cQ y T->[(t,T)].length<=100/\∀c∈[(t,T)],cQ y c.2:=λt T h=>#[by show 1<=100;omega,λc hc=>by rw[List.mem_singleton.mp hc];exact h]
 cases h with
 |lf p l V _ g=>
  cases l with
  |rd x t T |st x t T=>exact O t T o.1.2
  |wr t u T U=>
   refine#[by show 2<=100;omega,λc hc=>?_]
   rcases List.mem_cons.mp hc with e |hc
   ·rw[e];exact o.1.1
   ·rw[List.mem_singleton.mp hc];exact o.1.2
  |cl x f q i=>exact#[Es o.1.2.1 Ln,o.1.2.2]
  |gv t T=>exact O t T o.1
 |ite p t T a b Q j A B _ d _ _ _ _ |loop p t T a Q A _ d _ _=>exact O t T o.1
theorem zV:∀(a b c:Bd),(a.app b).app c=a.app (b.app c)
 | .nil,_,_=>rfl
 | .lf p l r,b,c=>by show Bd.lf p l ((r.app b).app c)=_;rw[zV r b c];rfl
 | .ite p t T x y r,b,c=>by show Bd.ite p t T x y ((r.app b).app c)=_;rw[zV r b c];rfl
 | .loop p t T x r,b,c=>by show Bd.loop p t T x ((r.app b).app c)=_;rw[zV r b c];rfl
theorem q9:∀(a:Bd),a.app .nil=a
 | .nil=>rfl
 | .lf p l r=>by show Bd.lf p l (r.app .nil)=_;rw[q9 r]
 | .ite p t T x y r=>by show Bd.ite p t T x y (r.app .nil)=_;rw[q9 r]
 | .loop p t T x r=>by show Bd.loop p t T x (r.app .nil)=_;rw[q9 r]
inductive OI(v:V)(g r nl:Addr)(s:Bd)(M:Str->Prop)(H1:Hp)(i:Nat)(σ:_L.St)(H':Hp):Prop
 |mk (o3:Option V) (zs:List Str) (e0:σ=[some v,some (.ref g),some (.ref nl),o3]) (e1:H' nl=some (.lst (zs.map V.str))) (e2:∀y,y∈zs↔s.bt M y∨∃c∈s.own.take i,y∈c.2.vars) (e3:zs.length<=50+21*i) (e4:ax nl H1 H'):OI v g r nl s M H1 i σ H'
theorem rP:am ["statement","behind","names","term"] ["statement","behind"] (aa vo):=bJ
theorem pK{L:Nat}(F:aN K "used_ahead_of" "used_ahead_of" vo f fd)(cB:Cl P w K mg base (L+9) fB f0 ["statement","behind"] (wK n) "used_behind_terms")(cO:Cl P w K mg base 1 fO f2 ["statement"] nF "own_terms")(cN:Cl P w K mg base 7 fN f3 ["term"] (dq 6) "names_in")(m0:mg "list"=none)(m2:mg "set"=none)(m3:mg "sorted"=none):ai P w K mg base aD (L+10) f fd ["statement","behind"] (f8 n):=by
 refine F.ok rP ?_ λc0 A o1 s H vs Q E t h=>?_
 ·rintro _ _ _ _ ⟨v,g,s,ss,M,Y,rfl,_⟩
  rfl
 obtain⟨v,g,st,ss,M,Y,rfl,j,u,U,hd,hz,q⟩:=h
 refine#[_,(jd (jB 2 rP.nd (jC Jl Z m0 boot_list (ja (cB.e t.m (ja (pv 0) (ja (pv 1) jb))) jb))) (jd (kO EZ Z (zb (cO.e t.m (ja (pv 0) jb))) (jy (i:=3) rP.nd Z (Or.inl Z)) (jg (jX (kU EF Ld Lc Y9 (pv 2) (ja (cN.e t.m (ja (pv 3) jb)) jb))))) (jg (jm (jF (qf Z) Z m3 boot_sorted (ja (jC (qR Z) Z m2 boot_set (ja (pv 2) jb)) jb)))))),?_]
 refine af λF1 C=>#[_,Z,_,Z,v,g,st,ss,M,Y,Z,j,u,U,hd,hz,λr1 G H1 e1 m1 l1 k1=>#[r1,_,Z,.inl (aF.of e1),λN I=>C _ _ ?_]]
 clear C
 have s2:ae H (ah H1 N (.lst (G.map V.str))):=k1.trans (je I)
 have J:=j.mono (ae.tm s2)
 obtain⟨o2,O⟩:=yt j U
 have a:ah H1 N (.lst (G.map V.str)) N=some (.lst (G.map V.str)):=jc
 have h0:H N=none:=k1.free I
 generalize ah H1 N (.lst (G.map V.str))=H2 at s2 J a
 refine af λF1 C=>?_
 refine eO λF kF=>#[_,Z,v,st,Z,J,λr H3 t W=>#[r,Z,#[_,ar.of t],kF _ _ ?_]]
 clear kF
 have r0:r≠N:=jQ t (W _ _ a) (by intro z;cases z)
 have s3:=s2.trans W
 have b0:=zf
 refine qu (K:=K) (xs:=st.own.map rT) (OI v g r N st M H3) #[_,G,Z,W _ _ a,λy=>?_,Lo,ax.refl] (λi σ H' hi h=>?_) ?_ (λσ H' h=>C _ _ ?_)
 ·rw[m1 y]
  exact#[.inl,λz=>z.elim (λw=>w) λ#[c,p,_]=>absurd p EL]
 ·obtain⟨_,_,_,_,_,_,k⟩:=h
  exact ar.of (k _ _ r0 t)
 ·clear C
  intro E _ i x σ H4 B fE Gq D h
  obtain⟨o3,X,rfl,h1,R,h3,k4⟩:=h
  rw[Eo]at B
  cases p:st.own[i]? with
  |none=>rw[p]at B;cases B
  |some c=>
   rw[p]at B
   cases B
   refine D ?_
   clear D
   have cm:=EA p
   have hi:i < st.own.length:=by
    rcases HP i st.own.length with z |z
    ·exact z
    ·rw[Fp z]at p;cases p
   have tm:aj H3 H4:=λb xs e=>k4 b _ (jQ e (W _ _ a) (by intro z;cases z)) e
   show nG _ E [some v,some (.ref g),some (.ref N),some (.ref c.1)] H4
   refine#[_,Z,.inl #[Z,_,aF.of h1],_,Z,c.1,c.2,Y,Z,((yr j c cm).mono (ae.tm s3)).mono tm,(O c cm).2,(O c cm).1,u.y20,λr5 s5 H5 n5 e5 d5 m5 o5 k5=>?_]
   have l5:s5.length<=21:=Es (j7 d5 λx B=>kj (O c cm).1 x ((m5 x).mp B)) u.y20
   refine#[N,r5,_,_,Z,Z,k5 _ _ h1,e5,by rw[Ef,Ef];omega,fE _ _ #[_,X++s5,Z,by rw[jc,EK],λy=>?_,by rw[Ei];omega,λb o nb e=>?_]]
   ·rw[GY,R y,m5 y,FK,p]
    refine#[λz=>z.elim (λz=>z.elim .inl λ#[d,hd,w]=>.inr #[d,FH _ hd,w]) λw=>.inr #[c,Ex _ (List.mem_singleton.mpr Z),w],λz=>z.elim (λw=>.inl (.inl w)) λ#[d,hd,w]=>?_]
    rcases List.mem_append.mp hd with hd |hd
    ·exact .inl (.inr #[d,hd,w])
    ·have ed:d=c:=List.mem_singleton.mp hd
     rw[ed]at w
     exact .inr w
   ·rw[jl nb]
    exact k5 _ _ (k4 b o nb e)
 ·obtain⟨o3,X,rfl,h1,R,h3,k4⟩:=h
  clear C
  rw[Ef]at R h3
  have s4:ae H H':=λb o e=>k4 b o (jo e h0) (s3 _ _ e)
  refine#[_,Z,N,X,Z,aF.of h1,(λL nd j=>FR (FP (j7 nd j)) (by show X.length+1 < 4096;omega)),λl L S h4 hm=>?_]
  have sub:∀y∈L,y∈Y:=λy hy=>Bd.use_in U u.sub y ((sN j M y).mpr (by have:=(R y).mp ((hm y).mp hy);rwa [Fc]at this))
  have lL:=Es (j7 h4 sub) u.y20
  refine#[l,L,Z,jc,Lo,λr' s0 T pm nd so=>?_]
  refine q r' s0 _ ((s4.trans (je S)).free T) #[jc,#[pm.nodup_iff.mpr nd,so,λy=>?_],Bd.use_in U u.sub,u.y20] ((s4.trans (je S)).trans (je T))
  rw[pm.mem_iff,hm y,R y,sN j M y,Fc]
theorem none_of(s:ae H h)(n:h r=none):H r=none:=by
 cases z:H r with
 |none=>rfl
 |some o=>have:=s _ _ z;rw[n]at this;cases this
inductive UI(a g:Addr)(b:Bd)(xs:List V)(M:Str->Prop)(ys:List Str)(H:Hp)(i:Nat)(σ:_L.St)(H':Hp):Prop
 |mk (g':Addr) (o3:Option V) (pre eG:Bd) (zs:List Str) (e0:σ=[some (.ref a),some (.ref g),some (.ref g'),o3]) (e1:b=pre.app eG) (e2:dt H pre (xs.take (xs.length - i))) (e3:NL H' g' zs (eG.use M) ys) (e4:ae H H') (e5:H g'=none):UI a g b xs M ys H i σ H'
theorem ny:am ["body","behind","names","statement"] ["body","behind"] (aa vm):=bJ
theorem yl{L:Nat}(F:aN K "used_ahead" "used_ahead" vm f fd)(cU:Cl P w K mg base (L+10) fU f0 ["statement","behind"] (f8 n) "used_ahead_of")(J:mg "sorted"=none)(N:mg "reversed"=none):ai P w K mg base aD (L+11) f fd ["body","behind"] (ik (n+1)):=by
 refine F.ok ny ?_ λc0 A O s H vs Q E hr h=>?_
 ·rintro _ _ _ _ ⟨a,g,b,xs,R,M,Y,rfl,_⟩
  rfl
 obtain⟨a,g,b,xs,R,M,Y,rfl,ha,hb,d,ho,hd,hz,q⟩:=h
 refine#[_,(jd (jB 2 ny.nd (jF QL Z J boot_sorted (ja (pv 1) jb))) (jd (kO EZ Z (@Z4 _ _ _ _ _ _ _ Z N boot_reversed (pv 0) Ln Ln Ls Ls) (jy (i:=3) ny.nd Z (Or.inl Z)) (jg (jB 2 ny.nd (cU.e hr.m (ja (pv 3) (ja (pv 2) jb)))))) (jg (jm (pv 2))))),?_]
 have g0:R.length<=21:=Es (j7 d.nd λx o=>d.sub x ((d.mem x).mp o)) d.y20
 have b0:=aH
 refine af λF1 t=>#[_,Z,g,R,Z,aF.of d.at',Lo,λl c nl pm so=>t _ _ ?_]
 clear t
 have T:Nm c M:=#[pm.nodup_iff.mpr d.nd,so,λx=>pm.mem_iff.trans (d.mem x)]
 have U:ae H (ah H l (.lst (c.map V.str))):=je nl
 have u:NL (ah H l (.lst (c.map V.str))) l c M Y:=#[jc,T,d.sub,d.y20]
 generalize ah H l (.lst (c.map V.str))=H1 at U u
 have xl:=hb.len
 refine af λF1 t=>?_
 refine eO λF kF=>#[_,Z,a,xs,Z,ar.of (U _ _ ha),kF _ _ ?_]
 clear kF
 refine Q3 (K:=K) (xs:=xs) (UI a g b xs M Y H) #[l,_,b,.nil,c,Z,(q9 b).symm,by rw[IC,Fc];exact hb,u,U,nl] (λi σ H' hi h=>?_) ?_ (λσ H' h=>t _ _ ?_)
 ·obtain⟨_,_,_,_,_,_,_,_,_,k,_⟩:=h
  exact ar.of (k _ _ ha)
 ·clear t
  intro E _ i x σ H2 o fE Gq p h
  obtain⟨I,o3,pre,eG,W,rfl,j,y,X,B,n2⟩:=h
  have hi:i < xs.length:=by
   rcases HP i xs.length with z |z
   ·exact z
   ·rw[Fp (by simpa using z)]at o;cases o
  rw[Hl hi]at o
  have et:xs.take (xs.length - i)=xs.take (xs.length - (i+1))++[x]:=by
   have C:xs.length - i=(xs.length - 1 - i)+1:=by omega
   have e2:xs.length - (i+1)=xs.length - 1 - i:=by omega
   rw[C,e2,FK,o]
   rfl
  rw[et]at y
  rcases y.last with ⟨e,_⟩ | ⟨ws,v,D,S,C,e2,h4,h5⟩
  ·exact absurd e Lp
  obtain⟨ew,ev⟩:=List.append_inj' C Z
  cases ev
  subst e2
  have h0:=zP (j▸ho)
  have G:=zP h0.1
  have a1:b.dep=max (D.app S).dep eG.dep:=by rw[j,zn]
  have a2:(D.app S).dep=max D.dep S.dep:=zn ..
  have h6:S.dep<=b.dep:=by rw[a1,a2];exact Es (IL ..) (IP ..)
  clear a1 a2
  have h7:S.size<=b.size:=by rw[j,jY,jY];omega
  refine p ?_
  clear p
  show dA _ _ E [some (.ref a),some (.ref g),some (.ref I),some x] H2
  refine#[_,Z,_,Z,x,I,S,W,eG.use M,Y,Z,h5.mono (ae.tm B),X,G.2,Lo,Lo,λr z H3 nr n3 k3=>fE _ _ #[r,_,D,S.app eG,z,Z,by rw[j,zV],?_,by rw[JW];exact n3,B.trans k3,none_of B nr]]
  rw[ew]
  exact h4
 ·obtain⟨I,o3,pre,eG,W,rfl,j,y,X,B,n2⟩:=h
  rw[HN]at y
  have ep:pre= .nil:=by
   rcases y.last with ⟨_,e⟩ | ⟨ws,v,D,S,C,_⟩
   ·exact e
   ·exact absurd C Lp
  rw[ep]at j
  refine#[_,Z,q I W H' n2 ?_ B]
  rw[j]
  exact X
theorem xT:ai P w K mg base aD k f e ["body","behind"] (ik 0):=by
 have n:∀v H Q E,¬ik 0 v H Q E:=λv H Q E h=>by
  obtain⟨a,g,b,x,S,M,y,_,_,_,_,_,d,_⟩:=h
  exact absurd d (Gy _)
 exact#[λv H Q E h=>absurd h (n v H Q E),λA o s H c u v Q E _ _ _ _ h=>absurd h (n v H Q E)]
theorem BY(F:aN K "used_ahead" "used_ahead" vm f e)(FB:aN K "used_behind_terms" "used_behind_terms" rE r g)(d:aN K "used_ahead_of" "used_ahead_of" vo o b)
  (B:aC K e ["body","behind"] []) (i:mg "used_ahead"=some (.ref f)) (j:aC K g ["statement","behind"] []) (k:mg "used_behind_terms"=some (.ref r)) (p:aC K b ["statement","behind"] []) (q:mg "used_ahead_of"=some (.ref o)) (C:Cl P w K mg base 1 u s ["statement"] nF "own_terms") (l:Cl P w K mg base 7 v t ["term"] (dq 6) "names_in") (M:mg "list"=none) (a:mg "set"=none) (m:mg "sorted"=none) (c:mg "reversed"=none):
  ∀n:Nat,ai P w K mg base aD (3*n+8) f e ["body","behind"] (ik n)/\ai P w K mg base aD (3*n+10) o b ["statement","behind"] (f8 n)
 |0=>by
  have h:ai P w K mg base aD 8 f e ["body","behind"] (ik 0):=xT
  have H:=pJ (L:=8) (n:=0) FB #[h,B,F.kp,i]
  exact#[h,pK (L:=0) d #[H,j,FB.kp,k] C l M a m]
 |n+1=>by
  have I:=(BY F FB d B i j k p q C l M a m c n).2
  have h:=yl (L:=3*n) F #[I,p,d.kp,q] m c
  have E:3*n+11=3*(n+1)+8:=by omega
  rw[E]at h
  have H:=pJ (L:=3*(n+1)+8) (n:=n+1) FB #[h,B,F.kp,i]
  exact#[h,pK (L:=3*(n+1)) d #[H,j,FB.kp,k] C l M a m]
noncomputable abbrev yL:Stmt:=bL 36
noncomputable abbrev rg:Stmt:=bL 39
noncomputable abbrev p8:Stmt:=bL 40
noncomputable abbrev iK:Stmt:=bL 41
noncomputable abbrev rj:Stmt:=bL 42
noncomputable def Lf.cut:Lf->Nat
 | .st _ _ _=>0
 | .gv _ _=>0
 |_=>1
noncomputable def Bd.cuts:Bd->Nat
 | .nil=>0
 | .lf _ l r=>l.cut+r.cuts
 | .ite _ _ _ a b r=>1+a.cuts+b.cuts+r.cuts
 | .loop _ _ _ a r=>1+a.cuts+r.cuts
noncomputable def Bd.inn:Bd->Bd
 | .ite _ _ _ a b _=>a.app b
 | .loop _ _ _ a _=>a
 |_=>.nil
theorem zT:∀(a b:Bd),(a.app b).cuts=a.cuts+b.cuts
 | .nil,b=>by show b.cuts=0+b.cuts;omega
 | .lf _ l r,b=>by have:=zT r b;show l.cut+(r.app b).cuts=l.cut+r.cuts+b.cuts;omega
 | .ite _ _ _ x y r,b=>by have:=zT r b;show 1+x.cuts+y.cuts+(r.app b).cuts=1+x.cuts+y.cuts+r.cuts+b.cuts;omega
 | .loop _ _ _ x r,b=>by have:=zT r b;show 1+x.cuts+(r.app b).cuts=1+x.cuts+r.cuts+b.cuts;omega
noncomputable def nB:Sp:=λa H Q _=>∃(v:V) (s:Bd),a=[v]/\gi H v s/\s.size<=10000000/\∀(r:Addr) (x:List V) (h:Hp),h r=some (.tup x)->dt h s.inn x->ae H h->Q (.ref r) h
noncomputable def gO:Sp:=λv H Q _=>∃(a:Addr) (b:Bd) (x:List V),v=[.ref a]/\H a=some (.tup x)/\dt H b x/\b.size<=10000000/\∀h,ae H h->Q (.int (b.cuts:Int)) h
theorem Bx:am ["statement"] ["statement"] (aa yL):=bJ
theorem xZ(F:aN K "bodies_in" "bodies_in" yL f y):ai P w K mg base aD 1 f y ["statement"] nB:=by
 refine F.ok Bx ?_ λC A o s H V Q E j h=>?_
 ·rintro _ _ _ _ ⟨v,s,rfl,_⟩
  rfl
 obtain⟨v,st,rfl,z,B,q⟩:=h
 refine#[_,(jd (jx (jV (jw (pv 0))) (jg (jm (jv ki (jw (pv 0)) (jw (pv 0))))) jp) (jd (jx (jV (jw (pv 0))) (jg (jm (jw (pv 0)))) jp) (jg (jm (ji jb))))),?_]
 have D:=aH
 cases z with
 |lf p l V c d=>
  cases l with
  |rd x t T |st x t T |wr t u T U |cl x f R S |gv t T=>
   obtain⟨rfl,_⟩:=d
   refine(jq c Z #[Z,_,Z,aG Lq ?_])
   refine(jq c Z #[Z,_,Z,aG Lq ?_])
   exact#[nV,λr N=>q r [] _ jc Z (je N)]
 |ite p t T a b e G g I c J d i m n=>
  refine(jq c Z #[Z,_,Z,cj Lq ?_])
  have L:a.size+b.size+0+1<=10000000:=B
  have W:=m.len
  have X:=n.len
  exact(jq c Z (jq c Z #[e,G,g,I,Z,Z,d,i,Lo,λr M j s=>q r _ M j ((n.mono (ae.tm s)).app (m.mono (ae.tm s))) s]))
 |loop p t T a e g c J d i=>
  refine(jq c Z #[Z,_,Z,aG Lq ?_])
  refine(jq c Z #[Z,_,Z,cj Lq ?_])
  exact(jq c Z (q e g H d i (ae.refl H)))
theorem vF(h:gi H v s):s.inn.size < s.size/\∃(p:Addr) (w:Str) (r:List V),v= .ref p/\H p=some (.tup (.str w::r))/\s.cuts=(if mQ (.str w) [.str "set",.str "give"]=true then 0 else 1)+s.inn.cuts:=by
 cases h with
 |lf p l i c d=>
  refine#[Nat.zero_lt_succ _,?_]
  cases l with
  |rd x t T |wr t u T U |cl x f Q j=>obtain⟨rfl,_⟩:=d;exact#[p,_,_,Z,c,by rw[Ew Lq];rfl]
  |st x t T |gv t T=>obtain⟨rfl,_⟩:=d;exact#[p,_,_,Z,c,by rw[Er Lq];rfl]
 |ite p t T a b q k A B c e d g m n=>
  refine#[by show(a.app b).size < a.size+b.size+0+1;rw[jY];omega,p,_,_,Z,c,?_]
  rw[Ew Lq]
  show 1+a.cuts+b.cuts+0=1+(a.app b).cuts
  rw[zT]
  omega
 |loop p t T a q A c e d g=>
  refine#[by show a.size < a.size+0+1;omega,p,_,_,Z,c,?_]
  rw[Ew Lq]
  show 1+a.cuts+0=1+a.cuts
  omega
theorem c7:dC (v::y) 0=some v:=ju (j:=0) Z
inductive MI(a td:Addr)(b:Bd)(H:Hp)(m:Nat)(σ:_L.St)(H':Hp):Prop
 |mk (o3:Option V) (W:Bd) (zs:List V) (k:Nat) (e0:m=W.size) (e1:σ=[some (.ref a),some (.int (k:Int)),some (.ref td),o3]) (e2:H' td=some (.lst zs)) (e3:dt H' W zs) (e4:k+W.cuts=b.cuts) (e5:W.size<=10000000) (e6:ax td H H'):MI a td b H m σ H'
theorem gI:am ["body","many","todo","statement"] ["body"] (aa rg):=bJ
theorem uF(F:aN K "many_cuts" "many_cuts" rg f fd)(cB:Cl P w K mg base 1 fB f0 ["statement"] nB "bodies_in")(m0:mg "list"=none):ai P w K mg base aD 2 f fd ["body"] gO:=by
 refine F.ok gI ?_ λc0 A o1 s H vs Q E hr h=>?_
 ·rintro _ _ _ _ ⟨a,b,xs,rfl,_⟩
  rfl
 obtain⟨a,b,xs,rfl,ha,hb,hz,q⟩:=h
 refine#[_,(jd (jB 1 gI.nd jf) (jd (jB 2 gI.nd (jC Jl Z m0 boot_list (ja (pv 0) jb))) (jd (QV EZ (@pS _ _ _ (pv 2) (λ_=>Z)) (jd (jB 3 gI.nd (yy EF PySem.F.slot_list_pop PySem.F.type_list_pop xP (pv 2))) (jd (j3 (jx (jE Jk (jw (pv 3)) (ji (ja jk (ja jk jb))) Z) (jg (yD (i:=1) gI.nd Z (Or.inl Z) jf xF)) jp)) (jg (jX (kU EF Ld Lc X5 (pv 2) (ja (cB.e hr.m (ja (pv 3) jb)) jb))))))) (jg (jm (pv 1)))))),?_]
 have b0:=aH
 refine af λU d=>d _ _ ?_
 clear d
 refine af λU d=>#[_,Z,a,_,Z,.inr (ar.of ha),λt C=>d _ _ ?_]
 clear d
 have s0:ae H (ah H t (.lst xs)):=je C
 refine af λU d=>?_
 refine sT (MI a t b H) b.size #[_,b,xs,0,Z,Z,jc,hb.mono (ae.tm s0),Lo,hz,λc o N e=>s0 _ _ e] ?_
 intro m σ D E _ fE F X Y Gq y h
 obtain⟨o3,W,zs,k,rfl,rfl,x,h2,h3,h4,h5⟩:=h
 refine y #[_,Z,!zs.isEmpty,.inl #[zs,aF.of x,Z],?_]
 clear y
 rcases h2.last with ⟨e1,e2⟩ | ⟨g,v,B,n,e1,e2,g1,g2⟩
 ·rw[e1]
  refine Y _ (d _ _ #[_,Z,?_])
  rw[e2]at h3
  have e3:k=b.cuts:=by have:k+0=b.cuts:=h3;omega
  rw[e3]
  exact q _ λc o e=>h5 c o (jo e C) e
 ·rw[e1]
  have ne:(!(g++[v]).isEmpty)=true:=by cases g<;>rfl
  rw[ne]
  refine X _ ?_
  clear Y X d
  have h6:W.size=B.size+n.size:=by rw[e2,jY]
  have h7:W.cuts=B.cuts+n.cuts:=by rw[e2,zT]
  obtain⟨h8,p,w',r,rfl,hp,hc⟩:=vF g2
  rw[e1]at x
  refine af λU d=>#[_,Z,.inl #[Z,_,aF.of x],t,_,.ref p,Z,Z,x,Lp,d _ _ ?_]
  clear d
  rw[List.dropLast_concat]
  have T:aj D (ah D t (.lst g)):=λc ys e=>by rw[jl (jQ e x (by intro z;cases z))];exact e
  have t2:ah D t (.lst g) t=some (.lst g):=jc
  have u:=g1.mono T
  have I:=g2.mono T
  have J:=T _ _ hp
  have k2:ax t H (ah D t (.lst g)):=λc o N e=>by rw[jl N];exact h5 c o N e
  generalize ah D t (.lst g)=H2 at t2 u I J k2
  clear T x h2 h5 g1 g2 hp
  have R:∀(j:Nat) (H3:Hp),ae H2 H3->j+B.cuts+n.inn.cuts=b.cuts->nG (Dp K "list" (ls K) (aW 2) (al (dB nB [] E0 (al (aW 3) aL)) aL)) E [some (.ref a),some (.int (j:Int)),some (.ref t),some (.ref p)] H3:=λj H3 L hk=>by
   have g0:=I.mono (ae.tm L)
   refine#[_,Z,.inl #[Z,_,aF.of (L _ _ t2)],_,Z,.ref p,n,Z,g0,Lo,λr' ys H4 h0 hy s4=>?_]
   have S:=L.trans s4
   have l1:=u.len
   have l2:=hy.len
   refine#[t,r',g,ys,Z,Z,S _ _ t2,ar.of h0,Lo,fE (B.app n.inn).size _ _ (by rw[jY];omega) #[_,B.app n.inn,g++ys,j,Z,Z,jc,?_,by rw[zT];omega,by rw[jY];omega,λc o N e=>?_]]
   ·have M:aj H4 (ah H4 t (.lst (g++ys))):=λc z0 e=>by rw[jl (jQ e (S _ _ t2) (by intro z;cases z))];exact e
    exact(hy.mono M).app ((u.mono (ae.tm S)).mono M)
   ·rw[jl N]
    exact S _ _ (k2 c o N e)
  refine af λU d=>dy (λO H'=>∃j:Nat,O=[some (.ref a),some (.int (j:Int)),some (.ref t),some (.ref p)]/\ae H2 H'/\j+B.cuts+n.inn.cuts=b.cuts) (λE2 _ fm=>?_) λO H' h=>?_
  ·clear d fE
   refine tq λG X Y=>(jq J c7 #[bj,λl nl=>#[l,_,Z,.inr (ar.of jc),Z,Z,_,Z,?_]])
   cases hv:mQ (.str w') [.str "set",.str "give"] with
   |true=>
    rw[hv,Er Z]at hc
    exact Y _ (fm _ _ #[k,Z,je nl,Lo])
   |false=>
    rw[hv,Ew Em]at hc
    refine X _ #[_,Z,_,_,Z,Z,fm _ _ #[k+1,?_,je nl,Lo]]
    show [_,some (V.int ((k:Int)+1)),_,_]=[_,some (V.int ((k+1:Nat):Int)),_,_]
    rfl
  ·obtain⟨j,rfl,L,hk⟩:=h
   exact d _ _ (R j H' L hk)
end _K
namespace _K
open PySem PySem.Spec PyProof.Rows _L
variable {P:Program}{w:World}{K:Frag}{mg:Str->Option Value}{base:Heap}
inductive Cb where
 |go (n:Int) |give (t:Addr)
structure Wy where
 sets:List (Str×Addr)
 goal:Cb
inductive Dd where
 |st (p:Addr) |ask (t:Addr)
structure Ct where
 M:Str->Prop
 d:Dd
 ws:List Wy
structure Pc where
 M:Str->Prop
 w:Wy
noncomputable def aP(H:Hp):Tr->V->List V->Prop
 | .lf v,x,_=>x=v/\C6 v=true
 | .tp l,x,_=>l.isL=true/\∃a X,x= .ref a/\H a=some (.tup X)/\aP H l .non X
 | .nil,_,X=>X=[]
 | .cons h t,_,X=>h.isL=false/\t.isL=true/\∃y Y,X=y::Y/\aP H h y []/\aP H t .non Y
theorem aP.at{K:Frag}:∀{t:Tr} {x:V} {xs:List V},aP H t x xs->lh K H t x xs:=by
 intro t
 induction t with
 |lf v |nil=>exactλh=>h
 |tp l d=>rintro x xs ⟨h,a,Y,e,b,c⟩;exact#[h,a,Y,e,ar.of b,d c]
 |cons h t i I=>rintro x xs ⟨E,f,y,Y,e,b,c⟩;exact#[E,f,y,Y,e,i b,I c]
theorem aP.mono(k:aj H d):∀{t:Tr} {x:V} {X:List V},aP H t x X->aP d t x X:=by
 intro t
 induction t with
 |lf v |nil=>exactλh=>h
 |tp l f=>rintro x X ⟨h,a,Y,e,b,c⟩;exact#[h,a,Y,e,k _ _ b,f c]
 |cons h t i I=>rintro x X ⟨E,g,y,Y,e,b,c⟩;exact#[E,g,y,Y,e,i b,I c]
noncomputable def aE:List Tr->Tr
 | []=>.nil
 |t::T=>.cons t (aE T)
theorem Qp:∀t:List Tr,(aE t).isL=true
 | []=>rfl
 |_::_=>rfl
noncomputable def aK(t:List Tr):Tr:=.tp (aE t)
noncomputable def a7(x:Str):Tr:=.lf (.str x)
noncomputable def nR(a:Addr):Tr:=.lf (.ref a)
noncomputable def aI(n:Int):Tr:=.lf (.int n)
section
variable {H:Hp}
theorem jz:aP H (aE []) .non []:=rfl
theorem jh{t:Tr}(h:t.isL=false)(a:aP H t y [])(b:aP H (aE T) .non Y):aP H (aE (t::T)) .non (y::Y):=#[h,Qp T,y,Y,Z,a,b]
theorem jA(h:H a=some (.tup x))(b:aP H (aE t) .non x):aP H (aK t) (.ref a) []:=#[Qp t,a,x,Z,h,b]
theorem jG:aP H (a7 x) (.str x) []:=#[Z,Z]
theorem Jt:aP H (nR a) (.ref a) []:=#[Z,Z]
theorem jN:aP H (aI n) (.int n) []:=#[Z,Z]
theorem JX(a:aP H (aE s) .non Y):∀{T:List Tr} {x:List V},aP H (aE T) .non x->aP H (aE (T++s)) .non (x++Y)
 | [],x,h=>by have e:x=[]:=h;rw[e];exact a
 |t::T,x,h=>by obtain⟨E,_,y,z,e,b,c⟩:=h;rw[e];exact jh E b (JX a c)
theorem kL:∀{T:List Tr} {x:List V},aP H (aE T) .non x->x.length=T.length
 | [],x,h=>by have e:x=[]:=h;rw[e];rfl
 |t::T,x,h=>by obtain⟨_,_,y,z,e,_,a⟩:=h;rw[e,EM,EM,kL a]
theorem Q6:∀(S:List Str),aP H (aE (S.map a7)) .non (S.map V.str)
 | []=>rfl
 |s::S=>jh Z jG (Q6 S)
theorem YF:∀{T:List Tr} {x:List V},aP H (aE T) .non x->aP H (aE T.reverse) .non x.reverse
 | [],x,h=>by have e:x=[]:=h;rw[e];rfl
 |t::T,x,h=>by
  obtain⟨E,_,y,z,e,a,b⟩:=h
  rw[e,Hv,Hv]
  exact JX (jh E a jz) (YF b)
theorem qr:∀{T:List Tr} {X:List V},aP H (aE T) .non X->∀(i:Nat) (x:V),X[i]?=some x->∃t,T[i]?=some t/\aP H t x []
 | [],X,h,i,x,a=>by have e:X=[]:=h;rw[e]at a;simp at a
 |t::T,X,h,0,x,a=>by obtain⟨_,_,y,z,e,b,c⟩:=h;rw[e]at a;cases a;exact#[t,Z,b]
 |t::T,X,h,i+1,x,a=>by obtain⟨_,_,y,z,e,b,c⟩:=h;rw[e]at a;simpa using qr c i x (by simpa using a)
end
noncomputable def BD(s:Str×Addr):Tr:=aK [a7 s.1,nR s.2]
noncomputable def uf:Cb->Tr
 | .go n=>aK [a7 "go",aI n]
 | .give t=>aK [a7 "give",nR t]
noncomputable def ff(w:Wy):Tr:=aK [aK (w.sets.map BD),uf w.goal]
noncomputable def Cr:Dd->Tr
 | .st p=>nR p
 | .ask t=>aK [a7 "ask",nR t]
noncomputable def AN(c:Ct):Tr:=aK [aK ((canon c.M).map a7),Cr c.d,aK (c.ws.map ff)]
theorem xB(g:Cb):(uf g).isL=false:=by cases g<;>rfl
theorem AR(d:Dd):(Cr d).isL=false:=by cases d<;>rfl
noncomputable def lM(H:Hp)(p:Pc)(v:V)(g:Addr)(y:List Str):Prop:=∃(r:Addr) (s:List Str) (W:V),v= .ref r/\H r=some (.tup [.ref g,W])/\NL H g s p.M y/\aP H (ff p.w) W []
theorem lM.same(h:lM H p v g y)(s:ae H a):lM a p v g y:=by
 obtain⟨r,S,W,e,b,c,d⟩:=h
 exact#[r,S,W,e,s _ _ b,c.same s,d.mono (ae.tm s)]
theorem lM.but(h:lM H p v g y)(k:ax f H c)(d:H f=some (.lst C))(n:g≠f):lM c p v g y:=by
 obtain⟨r,s,W,e,i,a,j⟩:=h
 have t:aj H c:=λb x e=>k b _ (jQ e d (by intro z;cases z)) e
 exact#[r,s,W,e,t _ _ i,#[k _ _ n a.at',a.nm,a.sub,a.y20],j.mono t]
noncomputable def Lf.isCut:Lf->Bool
 | .st _ _ _=>false
 | .gv _ _=>false
 |_=>true
noncomputable def Bd.deed:Bd->Dd
 | .lf p _ _=>.st p
 | .ite _ t _ _ _ _=>.ask t
 | .loop _ t _ _ _=>.ask t
 | .nil=>.st 0
noncomputable def iS:Sp:=λa H Q _=>∃(v:V) (s:Bd),a=[v]/\gi H v s/\∀(d:V) (h:Hp),aP h (Cr s.deed) d []->ae H h->Q d h
noncomputable def gr:Sp:=λa H Q _=>∃(t:Addr) (T:Tm) (y:List Str),a=[.ref t]/\a9 H T t/\cQ y T/\y.length<=21/\∀(v:V) (g:Addr) (h:Hp),lM h #[λx=>x∈T.vars,#[[],.give t]] v g y->H g=none->ae H h->Q v h
noncomputable def sh(K:Frag):Sp:=λv H Q _=>∃a:Addr,v=[.ref a]/\ar K H a [.str "num",.int 0]/\∀(r:Addr),H r=none->Q (.ref r) (ah H r (.lst []))
noncomputable def sj(K:Frag):Sp:=λa H Q _=>∃(t:Addr) (y:List Str),a=[.ref t]/\ar K H t [.str "num",.int 0]/\y.length<=21/\∀(v:V) (g:Addr) (h:Hp),lM h #[λx=>x∈(Tm.num 0).vars,#[[],.give t]] v g y->H g=none->ae H h->Q v h
open Classical in
noncomputable def gM(x:Str)(t:Addr)(p:Pc):Wy:=if p.M x then #[(x,t)::p.w.sets,p.w.goal] else p.w
noncomputable def iX:Sp:=λd H Q _=>∃(v b:V) (p t:Addr) (x:Str) (T:Tm) (a:Pc) (g:Addr) (y:List Str),d=[v,b]/\gi H v (.lf p (.st x t T) .nil)/\lM H a b g y/\x∈y/\cQ y T/\a.w.sets.length<=10000000/\
 ∀(c:V) (G:Addr) (h:Hp),lM h #[(Lf.st x t T).use a.M,gM x t a] c G y->H G=none->ae H h->Q c h
theorem yU:am ["statement"] ["statement"] (aa p8):=bJ
theorem uC(F:aN K "deed_of" "deed_of" p8 f e):ai P w K mg base aD 1 f e ["statement"] iS:=by
 refine F.ok yU ?_ λC A o s H V Q E z h=>?_
 ·rintro _ _ _ _ ⟨v,s,rfl,_⟩
  rfl
 obtain⟨v,st,rfl,g,q⟩:=h
 refine#[_,(jd (jx (jE zr (jw (pv 0)) (ji (ja jk (ja jk jb))) Z) (jg (jm (ji (ja jk (ja (jw (pv 0)) jb))))) jp) (jg (jm (pv 0)))),?_]
 cases g with
 |lf p l V c d=>
  cases l with
  |rd x t T |st x t T |wr t u T U |cl x f B D |gv t T=>
   obtain⟨rfl,_⟩:=d
   refine(jq c Z #[bj,λl n=>#[l,_,Z,.inr (ar.of jc),Z,Z,_,Z,aG Lq ?_]])
   exact#[_,Z,q _ _ Jt (je n)]
 |ite p t T a b i I j J c m d y L M |loop p t T a i j c m d y=>
  refine(jq c Z #[bj,λl n=>#[l,_,Z,.inr (ar.of jc),Z,Z,_,Z,cj Lq ?_]])
  refine(jq (aq c n) Z #[bj,λr N=>?_])
  exact q _ _ (jA jc (jh Z jG (jh Z Jt jz))) ((je n).trans (je N))
theorem yf{fN:Addr}{fdN:FuncData}(F:aN K "names_in" "names_in" dR f b)(c:Cl P w K mg base (n+1) f b ["term"] (dq n) "names_in")(m:mg "set"=none)(M:mg "sorted"=none):ai P w K mg base aD (n+2) f b ["term"] (sh K):=by
 refine F.ok rL (λv H Q E h=>?_) (λC A o s H v Q E d h=>?_)
 ·obtain⟨a,rfl,_⟩:=h
  rfl
 obtain⟨a,rfl,g,q⟩:=h
 refine#[_,(jd (jx (jV (jw (pv 0))) (jg (jm (jL jb))) jp) (jd (jx (jV (jw (pv 0))) (jg (jm (jL (ja (jw (pv 0)) jb)))) jp) (jg (jm (jF (qf Z) Z M boot_sorted (ja (jC (qR Z) Z m boot_set (ja (jv qL (c.e d (ja (jw (pv 0)) jb)) (c.e d (ja (jw (pv 0)) jb))) jb)) jb)))))),?_]
 refine#[_,Z,a,_,_,_,Z,Z,g,Z,Z,_,Z,cj Lq ?_]
 exact#[nV,λr N=>q r N]
theorem nq:am ["term"] ["term"] (aa iK):=bJ
theorem pG(F:aN K "place_of_give" "place_of_give" iK f d)(C:Cl P w K mg base 7 U i ["term"] (dq 6) "names_in"):ai P w K mg base aD 8 f d ["term"] gr:=by
 refine F.ok nq ?_ λj A o s H V Q E l h=>?_
 ·rintro _ _ _ _ ⟨t,T,y,rfl,_⟩
  rfl
 obtain⟨t,T,y,rfl,p,O,b,q⟩:=h
 refine#[_,(jg (jm (ji (ja (C.e l.m (ja (pv 0) jb)) (ja (ji (ja (ji jb) (ja (ji (ja jk (ja (pv 0) jb))) jb))) jb))))),?_]
 refine#[_,Z,t,T,y,Z,p,O.2,O.1,b,λg v a z B D M G I=>?_]
 have J:NL a g v (λx=>x∈T.vars) y:=#[B,#[D,G,M],kj O.1,b]
 refine#[nV,λe L=>#[_,Z,bj,λu c=>#[bj,λx N=>#[bj,λr n=>?_]]]]
 have S:ae a (ah (ah (ah (ah a e (.tup [])) u (.tup [.str "give",.ref t])) x (.tup [.ref e,.ref u])) r (.tup [.ref g,.ref x])):=(((je L).trans (je c)).trans (je N)).trans (je n)
 refine q _ g _ #[r,_,.ref x,Z,jc,J.same S,?_] z (I.trans S)
 exact jA (aq jc n) (jh Z (jA (aq (aq (aq jc c) N) n) jz) (jh Z (jA (aq (aq jc N) n) (jh Z jG (jh Z Jt jz))) jz))
theorem yi(F:aN K "place_of_give" "place_of_give" iK f j)(C:Cl P w K mg base 7 G l ["term"] (sh K) "names_in"):ai P w K mg base aD 8 f j ["term"] (sj K):=by
 refine F.ok nq ?_ λp A o s H V Q E v h=>?_
 ·rintro _ _ _ _ ⟨t,y,rfl,_⟩
  rfl
 obtain⟨t,y,rfl,z,B,q⟩:=h
 refine#[_,(jg (jm (ji (ja (C.e v.m (ja (pv 0) jb)) (ja (ji (ja (ji jb) (ja (ji (ja jk (ja (pv 0) jb))) jb))) jb))))),?_]
 refine#[_,Z,t,Z,z,λg a=>?_]
 have b:ae H (ah H g (.lst [])):=je a
 have c:NL (ah H g (.lst [])) g [] (λx=>x∈(Tm.num 0).vars) y:=#[jc,#[Ii,Z,λx=>IW],λx h=>absurd h EL,B]
 generalize ah H g (.lst [])=d at b c
 refine#[nV,λe D=>#[_,Z,bj,λu i=>#[bj,λx N=>#[bj,λr n=>?_]]]]
 have S:ae d (ah (ah (ah (ah d e (.tup [])) u (.tup [.str "give",.ref t])) x (.tup [.ref e,.ref u])) r (.tup [.ref g,.ref x])):=(((je D).trans (je i)).trans (je N)).trans (je n)
 refine q _ g _ #[r,_,.ref x,Z,jc,c.same S,?_] a (b.trans S)
 exact jA (aq jc n) (jh Z (jA (aq (aq (aq jc i) N) n) jz) (jh Z (jA (aq (aq jc N) n) (jh Z jG (jh Z Jt jz))) jz))
end _K
namespace _K
open PySem PySem.Spec PyProof.Rows _L
variable {P:Program}{w:World}{K:Frag}{mg:Str->Option Value}{base:Heap}
theorem ug{Y:List Str}:mQ (.str x) (Y.map V.str)=decide (x∈Y):=by
 by_cases h:x∈Y
 ·rw[EN h]
  unfold mQ
  rw[List.any_eq_true]
  exact#[.str x,List.mem_map.mpr #[x,h,Z],by simp [lN]]
 ·rw[EH h]
  unfold mQ
  rw[Bool.eq_false_iff]
  intro z
  rw[List.any_eq_true]at z
  obtain⟨v,a,e⟩:=z
  obtain⟨y,H,rfl⟩:=List.mem_map.mp a
  have E:x=y∨y=x:=by
   first
    |exact .inl (by simpa [lN] using e)
    |exact .inr (by simpa [lN] using e)
  rcases E with rfl |rfl
  ·exact h H
  ·exact h H
theorem Ah{H:Hp}{w:Wy}{v:V}(h:aP H (ff w) v []):∃(W s:Addr) (S:List V) (y:V),v= .ref W/\H W=some (.tup [.ref s,y])/\H s=some (.tup S)/\aP H (aE (w.sets.map BD)) .non S/\aP H (uf w.goal) y []:=by
 obtain⟨_,W,x,rfl,a,_,_,l,b,e,⟨_,s,S,c,d,f⟩,_,_,g,Y,E,i,j⟩:=h
 have k:Y=[]:=j
 rw[k]at E
 rw[E]at e
 rw[e,c]at a
 exact#[W,s,S,g,Z,a,d,f,i]
theorem mq:am ["statement","behind","way"] ["statement","behind"] (aa rj):=bJ
theorem uJ(F:aN K "place_of_set" "place_of_set" rj f fd)(cU:Cl P w K mg base 10 fU f0 ["statement","behind"] (f8 0) "used_ahead_of"):ai P w K mg base aD 11 f fd ["statement","behind"] iX:=by
 refine F.ok mq ?_ λc0 A O s H vs Q E hr h=>?_
 ·rintro _ _ _ _ ⟨v,bv,p,t,x,T,C,g,Y,rfl,_⟩
  rfl
 obtain⟨v,bv,p,t,x,T,C,g,Y,rfl,X,hp,hx,ok,hl,q⟩:=h
 refine#[_,(jd (jB 2 mq.nd (jw (pv 1))) (jd (j3 (jx (jE zr (jw (pv 0)) (jw (pv 1)) Z) (jg (jB 2 mq.nd (ji (ja (jv ki (ji (ja (jO zd (pv 0) (jK jf) j5) jb)) (jw (pv 2))) (ja (jw (pv 2)) jb))))) jp)) (jg (jm (ji (ja (cU.e hr.m (ja (pv 0) (ja (jw (pv 1)) jb))) (ja (pv 2) jb))))))),?_]
 have b0:=aH
 obtain⟨r,ss,wv,rfl,b,B,hW⟩:=hp
 have h0:=X
 cases X with
 |lf _ _ vs h1 h2=>
  obtain⟨rfl,hT⟩:=h2
  obtain⟨wa,sa,sx,y,rfl,i,D,j,hy⟩:=Ah hW
  refine af λF1 d=>(jq b Z (d _ _ ?_))
  clear d
  have sl:=kL j
  rw[Ef]at sl
  refine af λF1 d=>dy (λl I=>∃W:V,l=[some (.ref p),some (.ref r),some W]/\aP I (ff (gM x t C)) W []/\ae H I) (λE2 _ fm=>?_) λl I h=>?_
  ·clear d
   refine tq λG kT kF=>(jq h1 Z (jq b Z #[g,_,Z,.inl (aF.of B.at'),Z,Qm _,_,Z,?_]))
   rw[ug]
   by_cases a:x∈ss
   ·rw[EN a]
    refine kT _ #[_,Z,_,Z,p,_,Z,h1,λs1 H1 J k1=>#[mM,λu nu=>?_]]
    have L:=k1.trans (je (o:=.tup [.ref s1]) nu)
    refine(jq (L _ _ i) Z #[u,sa,_,_,Z,Z,jc,L _ _ D,by show 1+sx.length<=_;omega,λc H2 hc z=>?_])
    have R:=L.trans z
    refine(jq (R _ _ i) Z #[bj,λnw n=>fm _ _ #[.ref nw,Z,?_,R.trans (je n)]])
    have tm:=ae.tm (R.trans (je (o:=.tup [.ref c,y]) n))
    unfold gM
    rw[Er ((B.nm.mem x).mp a)]
    refine jA jc (jh Z (jA (aq hc n) (jh Z ?_ (j.mono tm))) (jh (xB _) (hy.mono tm) jz))
    exact jA (aq (z _ _ (aq J nu)) n) (jh Z jG (jh Z Jt jz))
   ·rw[EH a]
    refine kF _ (fm _ _ #[_,Z,?_,ae.refl _])
    unfold gM
    rw[Ew λw=>a ((B.nm.mem x).mpr w)]
    exact hW
  ·obtain⟨W,rfl,S,k⟩:=h
   refine d _ _ ?_
   clear d
   refine#[_,Z,jq (k _ _ b) Z #[.ref p,g,.lf p (.st x t T) .nil,ss,C.M,Y,Z,h0.mono (ae.tm k),B.same k,#[#[hx,ok],EE],(by show 0 < 1;decide),(by show 0+1<=10000000;decide),λg' zs H3 n3 N3 z=>?_]]
   refine#[_,Z,bj,λr' N=>q _ g' _ #[r',zs,W,Z,jc,N3.same (je N),S.mono (ae.tm (z.trans (je N)))] (k.free n3) ((k.trans z).trans (je N))]
noncomputable abbrev vf:Stmt:=bY (bL 43) 1
noncomputable abbrev vk:Stmt:=bY (bL 43) 2
noncomputable abbrev vg:Stmt:=bY (bL 43) 3
noncomputable abbrev vp:Stmt:=bY (bL 43) 4
noncomputable abbrev re:Stmt:=bY (bL 43) 0
noncomputable def pL(m:Int)(p:Addr)(l:Lf)(q:Pc×List Ct):Pc×List Ct:=match l with
 | .gv t T=>(#[λx=>x∈T.vars,#[[],.give t]],q.2)
 | .st x t T=>(#[(Lf.st x t T).use q.1.M,gM x t q.1],q.2)
 | .rd x t T=>(#[(Lf.rd x t T).use q.1.M,#[[],.go (m - (q.2.length:Int) - 1)]],q.2++[#[(Lf.rd x t T).use q.1.M,.st p,[q.1.w]]])
 | .wr t u T U=>(#[(Lf.wr t u T U).use q.1.M,#[[],.go (m - (q.2.length:Int) - 1)]],q.2++[#[(Lf.wr t u T U).use q.1.M,.st p,[q.1.w]]])
 | .cl x f a b=>(#[(Lf.cl x f a b).use q.1.M,#[[],.go (m - (q.2.length:Int) - 1)]],q.2++[#[(Lf.cl x f a b).use q.1.M,.st p,[q.1.w]]])
noncomputable def pB(m:Int):Bd->Pc->List Ct->Pc×List Ct
 | .nil,c,f=>(c,f)
 | .lf p l r,c,f=>pL m p l (pB m r c f)
 | .ite p t T a b r,c,f=>
  let q:=pB m r c f
  let o:=pB m b q.1 q.2
  let s:=pB m a q.1 o.2
  (#[(Bd.ite p t T a b .nil).use q.1.M,#[[],.go (m - (q.2.length:Int) - ((Bd.ite p t T a b .nil).cuts:Int))]],s.2++[#[(Bd.ite p t T a b .nil).use q.1.M,.ask t,[s.1.w,o.1.w]]])
 | .loop p t T a r,c,f=>
  let q:=pB m r c f
  let d:Pc:=#[(Bd.loop p t T a .nil).use q.1.M,#[[],.go (m - (q.2.length:Int) - ((Bd.loop p t T a .nil).cuts:Int))]]
  let s:=pB m a d q.2
  (d,s.2++[#[(Bd.loop p t T a .nil).use q.1.M,.ask t,[s.1.w,q.1.w]]])
theorem Kh(m:Int):∀(a b:Bd) (c:Pc) (f:List Ct),pB m (a.app b) c f=pB m a (pB m b c f).1 (pB m b c f).2
 | .nil,_,_,_=>rfl
 | .lf p l r,b,c,f=>by show pL m p l (pB m (r.app b) c f)=pL m p l (pB m r _ _);rw[Kh m r b c f]
 | .ite p t T x y r,b,c,f=>by
  have e:=Kh m r b c f
  show pB m (.ite p t T x y (r.app b)) c f=_
  unfold pB
  rw[e]
 | .loop p t T x r,b,c,f=>by
  have e:=Kh m r b c f
  show pB m (.loop p t T x (r.app b)) c f=_
  unfold pB
  rw[e]
theorem j8(m:Int):∀(b:Bd) (c:Pc) (F:List Ct),(pB m b c F).2.length=F.length+b.cuts
 | .nil,_,_=>rfl
 | .lf p l r,c,F=>by
  have e:=j8 m r c F
  show(pL m p l (pB m r c F)).2.length=F.length+(l.cut+r.cuts)
  cases l with
  |rd x t T |wr t u T U |cl x f a d=>show((pB m r c F).2++[_]).length=F.length+(1+r.cuts);rw[Ei,e];show _+1=_;omega
  |st x t T |gv t T=>show(pB m r c F).2.length=F.length+(0+r.cuts);omega
 | .ite p t T x y r,c,F=>by
  have e:=j8 m r c F
  show((pB m x _ (pB m y _ _).2).2++[_]).length=_
  rw[Ei,j8 m x,j8 m y,e]
  show _+1=F.length+(1+x.cuts+y.cuts+r.cuts)
  omega
 | .loop p t T x r,c,F=>by
  have e:=j8 m r c F
  show((pB m x _ _).2++[_]).length=_
  rw[Ei,j8 m x,e]
  show _+1=F.length+(1+x.cuts+r.cuts)
  omega
theorem Q7(x:Str)(t:Addr)(p:Pc):(gM x t p).sets.length<=p.w.sets.length+1:=by
 unfold gM
 split
 ·exact Eh _
 ·exact Gm _
theorem YG(m:Int):∀(b:Bd) (a:Pc) (f:List Ct),(pB m b a f).1.w.sets.length<=a.w.sets.length+b.size
 | .nil,_,_=>Eh _
 | .lf p l r,a,f=>by
  have e:=YG m r a f
  show(pL m p l (pB m r a f)).1.w.sets.length<=a.w.sets.length+(r.size+1)
  cases l with
  |st x t T=>have:=Q7 x t (pB m r a f).1;show(gM x t (pB m r a f).1).sets.length<=_;omega
  |_=>exact Eu _
 | .ite p t T x y r,a,f=>Eu _
 | .loop p t T x r,a,f=>Eu _
theorem kM:∀b:Bd,b.cuts<=b.size
 | .nil=>Eh _
 | .lf _ l r=>by
  have:=kM r
  have h:l.cut<=1:=by cases l<;>first |exact Eh _ |exact Eu _
  show l.cut+r.cuts<=r.size+1
  omega
 | .ite _ _ _ a b r=>by have:=kM a;have:=kM b;have:=kM r;show 1+a.cuts+b.cuts+r.cuts<=a.size+b.size+r.size+1;omega
 | .loop _ _ _ a r=>by have:=kM a;have:=kM r;show 1+a.cuts+r.cuts<=a.size+r.size+1;omega
structure CK(K:Frag)(C:Addr):Prop where
 cl:nK K C
 nm:bu K C "many"
 nf:bu K C "found"
structure Cg(H:Hp)(C ia dx fa:Addr)(m:Int)(cts:List Ct)(cs:List V):Prop where
 ins:H ia=some (.ins C dx [("many",.int m),("found",.ref fa)])
 fd:H fa=some (.lst cs)
 tr:aP H (aE (cts.map AN)) .non cs
theorem Cg.same(h:Cg H C i d f m c a)(s:ae H b):Cg b C i d f m c a:=#[s _ _ h.ins,s _ _ h.fd,h.tr.mono (ae.tm s)]
theorem Cg.len(h:Cg H C i d f m c a):a.length=c.length:=by rw[kL h.tr,Ef]
theorem Cg.tm(h:Cg H C i d f m c g)(k:ax f H a):aj H a:=λb x e=>k b _ (jQ e h.fd (by intro z;cases z)) e
structure tH(H:Hp)(C ia dx fa:Addr)(m:Int)(cts:List Ct)(cs:List V)(pc:Pc)(bv:V)(g:Addr)(ys:List Str)(b:Bd):Prop where
 c:Cg H C ia dx fa m cts cs
 p:lM H pc bv g ys
 ng:g≠fa
 ok:b.Ok ys
 sz:cts.length+pc.w.sets.length+b.size<=10000000
noncomputable def n8(H:Hp)(C i d f:Addr)(m:Int)(y:List Str)(q:Pc×List Ct)(Q:VK):Prop:=∀(v:V) (g:Addr) (c:List V) (h:Hp),lM h q.1 v g y->g≠f->Cg h C i d f m q.2 c->ax f H h->Q v h
noncomputable def mH(C:Addr)(n:Nat):Sp:=λv H Q _=>∃(i d f a g:Addr) (m:Int) (c:List Ct) (e x:List V) (p:Pc) (B:V) (y:List Str) (b:Bd),v=[.ref i,.ref a,B]/\tH H C i d f m c e p B g y b/\H a=some (.tup x)/\dt H b x/\b.dep < n/\n8 H C i d f m y (pB m b p c) Q
noncomputable def BG(C:Addr)(n:Nat):Sp:=λa H Q _=>∃(i d f g:Addr) (m:Int) (c:List Ct) (e:List V) (p:Pc) (v b:V) (y:List Str) (s:Bd),a=[.ref i,v,b]/\tH H C i d f m c e p b g y s/\gi H v s/\s.dep < n+1/\n8 H C i d f m y (pB m s p c) Q
noncomputable def Bd.isCut:Bd->Bool
 | .lf _ l _=>l.isCut
 | .nil=>false
 |_=>true
noncomputable def y7(C:Addr)(n:Nat):Sp:=λa H Q _=>∃(i d f g:Addr) (m:Int) (c:List Ct) (e:List V) (p:Pc) (v b:V) (y:List Str) (s:Bd),a=[.ref i,v,b]/\tH H C i d f m c e p b g y s/\gi H v s/\s.dep < n+1/\s.isCut=true/\n8 H C i d f m y (pB m s p c) Q
noncomputable def fq(m:Int)(c:Pc)(p:Pc)(f:List Ct):Bd->List Wy×List Ct
 | .ite _ _ _ a b _=>([(pB m a p (pB m b p f).2).1.w,(pB m b p f).1.w],(pB m a p (pB m b p f).2).2)
 | .loop _ _ _ a _=>([(pB m a c f).1.w,p.w],(pB m a c f).2)
 |_=>([p.w],f)
noncomputable def BJ(C:Addr)(n:Nat):Sp:=λe H Q _=>∃(i d f g G:Addr) (m:Int) (c:List Ct) (j:List V) (a p:Pc) (v B pv:V) (y:List Str) (s:Bd),e=[.ref i,v,pv,B]/\tH H C i d f m c j a B g y s/\lM H p pv G y/\G≠f/\p.w.sets=[]/\gi H v s/\s.dep < n+1/\
 ∀(W:V) (b:List V) (h:Hp),aP h (aK ((fq m p a c s).1.map ff)) W []->Cg h C i d f m (fq m p a c s).2 b->ax f H h->Q W h
theorem Xy(h:gi H v s)(g:s.isCut=true)(m:Int)(c:Pc)(F:List Ct):
  pB m s c F=(#[s.use c.M,#[[],.go (m - (F.length:Int) - (s.cuts:Int))]],(fq m #[s.use c.M,#[[],.go (m - (F.length:Int) - (s.cuts:Int))]] c F s).2++[#[s.use c.M,s.deed,(fq m #[s.use c.M,#[[],.go (m - (F.length:Int) - (s.cuts:Int))]] c F s).1]]):=by
 cases h with
 |lf p l V d e=>
  cases l with
  |rd x t T |wr t u T U |cl x f a k=>rfl
  |st x t T |gv t T=>cases g
 |ite p t T a b q Q A B d i e j n o |loop p t T a q A d i e j=>rfl
theorem sS(h:lM H p v g y):∃(r:Addr) (W:V),v= .ref r/\H r=some (.tup [.ref g,W])/\aP H (ff p.w) W []:=by
 obtain⟨r,s,W,e,a,c,b⟩:=h
 exact#[r,W,e,a,b]
theorem Bz:am ["self","statement","place","behind","other"] ["self","statement","place","behind"] (aa vp):=bJ
theorem Bm(F:aN K "ways_of" "Cutting.ways_of" vp f fd)(X:CK K C)(GB:ai P w K mg base aD (4*n+31) fB f0 ["self","body","behind"] (mH C n))(bB:aC K f0 ["self","body","behind"] [])(hB:bV K C "place_of_body" fB):ai P w K mg base aD (4*n+32) f fd ["self","statement","place","behind"] (BJ C n):=by
 refine F.ok Bz ?_ λc3 A o1 s H vs Q E hr h=>?_
 ·rintro _ _ _ _ ⟨i,D,R,g,g2,m,d,S,y,pl,v,bv,pv,Y,s,rfl,_⟩
  rfl
 obtain⟨i,D,R,g,g2,m,d,S,y,pl,v,bv,G,Y,st,rfl,I,h6,n0,h7,hs,hd,q⟩:=h
 refine#[_,(jd (jx (jV (jw (pv 1))) (jd (jB 4 Bz.nd (kY (pv 0) X.cl hB GB hr.m bB .nil bq (ja (jw (pv 1)) (ja (pv 3) jb)))) (jg (jm (ji (ja (js jJ (kY (pv 0) X.cl hB GB hr.m bB .nil bq (ja (jw (pv 1)) (ja (pv 3) jb))) jf (λ_ _=>Z)) (ja (jw (pv 4)) jb)))))) jp) (jd (jx (jV (jw (pv 1))) (jg (jm (ji (ja (js jJ (kY (pv 0) X.cl hB GB hr.m bB .nil bq (ja (jw (pv 1)) (ja (pv 2) jb))) jf (λ_ _=>Z)) (ja (jw (pv 3)) jb))))) jp) (jg (jm (ji (ja (jw (pv 3)) jb)))))),?_]
 have b0:=aH
 obtain⟨br,bw,rfl,J,L⟩:=sS I.p
 cases hs with
 |lf p l vs e M=>
  have f2:gV (bN (al (dF (eu K) (aW 3) (tC (V.int 1))) aL)) { nx:=λx H'=>Q V.non H',rt:=Q } [some (.ref i),some (.ref p),some G,some (.ref br),none] H:=by
   refine(jq J Z #[mM,λr N=>q (.ref r) S _ (jA jc (jh Z (L.mono (ae.tm (je N))) jz)) (I.c.same (je N)) (ax.of_same (je N))])
  cases l with
  |rd x t T |st x t T |wr t u T U |cl x f q2 ts |gv t T=>
   obtain⟨rfl,_⟩:=M
   refine(jq e Z #[Z,_,Z,aG Lq ?_])
   refine(jq e Z #[Z,_,Z,aG Lq ?_])
   exact f2
 |ite p t T a b qa qb as bs e h0 M h3 h4 h5=>
  refine(jq e Z #[Z,_,Z,cj Lq ?_])
  have h8:max (max a.dep b.dep+1) 0 < n+1:=hd
  have hz:d.length+y.w.sets.length+(a.size+b.size+0+1)<=10000000:=I.sz
  have W:=I.ok
  refine af λF1 f1=>#[_,Z,i,D,_,Z,I.c.ins,Z,jq e Z #[_,Z,i,D,R,qb,g,m,d,S,bs,y,.ref br,Y,b,Z,#[I.c,I.p,I.ng,W.2.2.1,Lo],h3,h5,Lo,λv1 g1 j H1 p1 n1 O z=>f1 _ _ ?_]]
  clear f1
  have B:=I.c.tm z
  have lc:=j8 m b y d
  have cb:=kM b
  refine#[_,Z,i,D,_,Z,O.ins,Z,jq (B _ _ e) Z #[_,Z,i,D,R,qa,g,m,_,j,as,y,.ref br,Y,a,Z,#[O,I.p.but z I.c.fd I.ng,I.ng,W.2.1,Lo],B _ _ M,h4.mono B,Lo,λv2 g2 c0 H2 p2 n2 c2 k2=>?_]]
  obtain⟨r2,w2,rfl,h',a0⟩:=sS p2
  obtain⟨r1,w1,rfl,k,o⟩:=sS (p1.but k2 O.fd n1)
  refine#[r2,_,_,_,Z,Z,ar.of h',Z,jq k Z #[bj,λr N=>q (.ref r) c0 _ (jA jc (jh Z (a0.mono (ae.tm (je N))) (jh Z (o.mono (ae.tm (je N))) jz))) (c2.same (je N)) ((z.trans k2).trans (ax.of_same (je N)))]]
 |loop p t T a qa as e h0 M h3=>
  refine(jq e Z #[Z,_,Z,aG Lq ?_])
  refine(jq e Z #[Z,_,Z,cj Lq ?_])
  have h8:max (a.dep+1) 0 < n+1:=hd
  have hz:d.length+y.w.sets.length+(a.size+0+1)<=10000000:=I.sz
  have W:=I.ok
  refine#[_,Z,i,D,_,Z,I.c.ins,Z,jq e Z #[_,Z,i,D,R,qa,g2,m,d,S,as,pl,G,Y,a,Z,#[I.c,h6,n0,W.2.1,by rw[h7];show d.length+0+a.size<=_;omega],M,h3,Lo,λv1 g1 j H1 p1 n1 O z=>?_]]
  obtain⟨r1,w1,rfl,k,o⟩:=sS p1
  have B:=I.c.tm z
  refine#[r1,_,_,_,Z,Z,ar.of k,Z,jq (B _ _ J) Z #[bj,λr N=>q (.ref r) j _ (jA jc (jh Z (o.mono (ae.tm (je N))) (jh Z ((L.mono B).mono (ae.tm (je N))) jz))) (O.same (je N)) (z.trans (ax.of_same (je N)))]]
theorem rG:am ["self","statement","behind","n","names","place","ways"] ["self","statement","behind"] (aa vg):=bJ
theorem Bi(F:aN K "place_of_cut" "Cutting.place_of_cut" vg f fd)(y:CK K C)(h7:n<=7)(GW:ai P w K mg base aD (4*n+32) fW f0 ["self","statement","place","behind"] (BJ C n))(bW:aC K f0 ["self","statement","place","behind"] [])(hW:bV K C "ways_of" fW)(cM:Cl P w K mg base 2 fM f2 ["body"] gO "many_cuts")(cU:Cl P w K mg base 31 fU f3 ["statement","behind"] (f8 7) "used_ahead_of")(cD:Cl P w K mg base 1 fD f4 ["statement"] iS "deed_of")(ml:mg "len"=none)(m0:mg "tuple"=none):ai P w K mg base aD (4*n+33) f fd ["self","statement","behind"] (y7 C n):=by
 refine F.ok rG ?_ λc0 A o1 s H vs Q E Y h=>?_
 ·rintro _ _ _ _ ⟨z,L,l,g,m,a,cs,j,v,bv,ys,s,rfl,_⟩
  rfl
 obtain⟨z,L,l,g,m,a,cs,j,v,bv,ys,st,rfl,I,B,hd,hc,q⟩:=h
 refine#[_,(jd (jB 3 rG.nd (jv ky (jv ky (zA (pv 0) Z) (jF jH Z ml Fd (ja (zA (pv 0) Z) jb))) (cM.e Y.m (ja (ji (ja (pv 1) jb)) jb)))) (jd (jB 4 rG.nd (cU.e Y.m (ja (pv 1) (ja (jw (pv 2)) jb)))) (jd (jB 5 rG.nd (ji (ja (pv 4) (ja (ji (ja (ji jb) (ja (ji (ja jk (ja (pv 3) jb))) jb))) jb)))) (jd (jB 6 rG.nd (kY (pv 0) y.cl hW GW Y.m bW .nil bq (ja (pv 1) (ja (pv 5) (ja (pv 2) jb))))) (jd (jX (kU EF EQ EO jT (zA (pv 0) Z) (ja (ji (ja (jC jI Z m0 Ft (ja (pv 4) jb)) (ja (cD.e Y.m (ja (pv 1) jb)) (ja (pv 6) jb)))) jb))) (jg (jm (pv 5)))))))),?_]
 have b0:=aH
 obtain⟨br,ss,bw,rfl,h0,hN,h1⟩:=id I.p
 have hz:=I.sz
 have lc:=I.c.len
 refine af λF1 i=>#[_,Z,z,C,L,_,_,Z,I.c.ins,y.cl,y.nm,Z,_,Z,z,C,L,_,_,Z,I.c.ins,y.cl,y.nf,Z,l,_,Z,.inl (aF.of I.c.fd),_,_,Z,Z,_,Z,mM,λu nu=>?_]
 have s1:ae H (ah H u (.tup [v])):=je nu
 refine#[u,st,_,Z,jc,(B.mono (ae.tm s1)).bd,Lo,λH1 k1=>#[_,_,Z,Z,i _ _ ?_]]
 clear i
 have S:=s1.trans k1
 rw[lc]
 refine af λF1 i=>#[_,Z,jq (S _ _ h0) Z #[v,g,st,ss,j.M,ys,Z,B.mono (ae.tm S),hN.same S,I.ok,Lo,Lo,λG zs H2 n2 N2 k2=>i _ _ ?_]]
 clear i
 have s3:=S.trans k2
 have N:G≠l:=λe=>by rw[e,S _ _ I.c.fd]at n2;cases n2
 refine af λF1 i=>#[_,Z,nV,λe ne=>#[_,Z,bj,λU O=>#[bj,λx nx=>#[bj,λr nr=>i _ _ ?_]]]]
 clear i
 have s4:ae H2 (ah (ah (ah (ah H2 e (.tup [])) U (.tup [.str "go",.int (m - (a.length:Int) - (st.cuts:Int))])) x (.tup [.ref e,.ref U])) r (.tup [.ref G,.ref x])):=(((je ne).trans (je O)).trans (je nx)).trans (je nr)
 have P4:lM (ah (ah (ah (ah H2 e (.tup [])) U (.tup [.str "go",.int (m - (a.length:Int) - (st.cuts:Int))])) x (.tup [.ref e,.ref U])) r (.tup [.ref G,.ref x])) #[st.use j.M,#[[],.go (m - (a.length:Int) - (st.cuts:Int))]] (.ref r) G ys:=
  #[r,zs,.ref x,Z,jc,N2.same s4,jA (aq jc nr) (jh Z (jA (aq (aq (aq jc O) nx) nr) jz) (jh Z (jA (aq (aq jc nx) nr) (jh Z jG (jh Z jN jz))) jz))]
 generalize ah (ah (ah (ah H2 e (.tup [])) U (.tup [.str "go",.int (m - (a.length:Int) - (st.cuts:Int))])) x (.tup [.ref e,.ref U])) r (.tup [.ref G,.ref x])=H4 at s4 P4
 have R:=s3.trans s4
 have c5:=I.c.same R
 refine af λF1 i=>#[_,Z,z,L,_,Z,c5.ins,Z,_,Z,_,Z,_,Z,z,L,l,g,G,m,a,cs,j,_,v,.ref br,.ref r,ys,st,Z,#[c5,I.p.same R,I.ng,I.ok,I.sz],P4,N,Z,B.mono (ae.tm R),hd,λwv D H6 w6 c6 k6=>i _ _ ?_]
 clear i
 have t0:=c5.tm k6
 have p6:=P4.but k6 c5.fd N
 have z6:H6 G=some (.lst (zs.map V.str)):=k6 _ _ N (s4 _ _ N2.at')
 have ez:=N2.nm.canon
 have l6:=c6.len
 have lw:(fq m #[st.use j.M,#[[],.go (m - (a.length:Int) - (st.cuts:Int))]] j a st).2.length+1=a.length+st.cuts:=by
  have:=j8 m st j a
  rw[Xy B hc m j a,Ei]at this
  exact this
 have cl:=kM st
 refine af λF1 i=>#[_,Z,z,C,L,_,_,Z,c6.ins,y.cl,y.nf,Z,.inl #[Z,_,aF.of c6.fd],_,Z,G,_,Z,.inl #[aF.of z6,λnt n0=>?_]]
 have s7:ae H6 (ah H6 nt (.tup (zs.map V.str))):=je n0
 refine#[_,Z,v,st,Z,((B.mono (ae.tm R)).mono t0).mono (ae.tm s7),λd H8 d8 k8=>#[_,Z,dY,λW J=>?_]]
 have X:=(s7.trans k8).trans (je (o:=.tup [.ref nt,d,wv]) J)
 have t:=c6.same X
 refine#[l,D,_,Z,Z,t.fd,Lo,i _ _ ?_]
 clear i
 have T9:aP (ah H8 W (.tup [.ref nt,d,wv])) (AN #[st.use j.M,st.deed,(fq m #[st.use j.M,#[[],.go (m - (a.length:Int) - (st.cuts:Int))]] j a st).1]) (.ref W) []:=by
  refine jA jc (jh Z (jA (aq (k8 _ _ jc) J) ?_) (jh (AR _) (d8.mono (ae.tm (je J))) (jh Z (w6.mono (ae.tm X)) jz)))
  rw[<- ez]
  exact Q6 zs
 have p9:=p6.same X
 generalize ah H8 W (.tup [.ref nt,d,wv])=H9 at X t T9 p9
 have k:ax l H9 (ah H9 l (.lst (D++[.ref W]))):=λb o nb e=>by rw[jl nb];exact e
 have T:=t.tm k
 have n1:z≠l:=λe=>by have:=t.ins;rw[e,t.fd]at this;cases this
 refine#[_,Z,q (.ref r) G (D++[.ref W]) _ ?_ N ?_ (λb o nb e=>k b o nb (X _ _ (k6 b o nb (R _ _ e))))]
 ·rw[Xy B hc m j a]
  exact p9.but k t.fd N
 ·rw[Xy B hc m j a]
  refine#[k _ _ n1 t.ins,jc,?_]
  rw[EK]
  exact JX (jh Z (T9.mono T) jz) (t.tr.mono T)
inductive BI(C ia dx fa a:Addr)(m:Int)(cts:List Ct)(pc:Pc)(bv:V)(ys:List Str)(b:Bd)(xs:List V)(H:Hp)(i:Nat)(σ:_L.St)(H':Hp):Prop
 |mk (pre eG:Bd) (v:V) (g:Addr) (cs:List V) (o4:Option V) (e0:σ=[some (.ref ia),some (.ref a),some bv,some v,o4]) (e1:b=pre.app eG) (e2:dt H pre (xs.take (xs.length - i))) (e3:lM H' (pB m eG pc cts).1 v g ys) (e4:g≠fa) (e5:Cg H' C ia dx fa m (pB m eG pc cts).2 cs) (e6:ax fa H H'):BI C ia dx fa a m cts pc bv ys b xs H i σ H'
theorem JY(m:Int):∀(b:Bd) (c:Pc) (F:List Ct),(pB m b c F).2.length+(pB m b c F).1.w.sets.length<=F.length+c.w.sets.length+b.size
 | .nil,_,_=>Eh _
 | .lf p l r,c,F=>by
  have e:=JY m r c F
  show(pL m p l (pB m r c F)).2.length+(pL m p l (pB m r c F)).1.w.sets.length<=F.length+c.w.sets.length+(r.size+1)
  cases l with
  |st x t T=>have:=Q7 x t (pB m r c F).1;show(pB m r c F).2.length+(gM x t (pB m r c F).1).sets.length<=_;omega
  |gv t T=>show(pB m r c F).2.length+0<=_;omega
  |rd x t T |wr t u T U |cl x f a d=>show((pB m r c F).2++[_]).length+0<=_;rw[Ei];show _+1+0<=_;omega
 | .ite p t T x y r,c,F=>by
  have e:=JY m r c F
  have h:=kM x
  have H:=kM y
  show((pB m x _ (pB m y _ _).2).2++[_]).length+0<=F.length+c.w.sets.length+(x.size+y.size+r.size+1)
  rw[Ei,j8 m x,j8 m y]
  show _+1+0<=_
  omega
 | .loop p t T x r,c,F=>by
  have e:=JY m r c F
  have h:=kM x
  show((pB m x _ _).2++[_]).length+0<=F.length+c.w.sets.length+(x.size+r.size+1)
  rw[Ei,j8 m x]
  show _+1+0<=_
  omega
theorem Dj:am ["self","statement","behind"] ["self","statement","behind"] (aa vk):=bJ
theorem Bl(F:aN K "place_of" "Cutting.place_of" vk f fd)(ck:CK K C)(GC:ai P w K mg base aD (4*n+33) fC D ["self","statement","behind"] (y7 C n))(bC:aC K D ["self","statement","behind"] [])(hC:bV K C "place_of_cut" fC)(cG:Cl P w K mg base 8 fG f0 ["term"] gr "place_of_give")(cS:Cl P w K mg base 11 fS f1 ["statement","behind"] iX "place_of_set"):ai P w K mg base aD (4*n+34) f fd ["self","statement","behind"] (BG C n):=by
 refine F.ok Dj ?_ λc0 A O s H vs Q E G h=>?_
 ·rintro _ _ _ _ ⟨r,J,fa,g,m,j,z,L,v,B,y,s,rfl,_⟩
  rfl
 obtain⟨r,J,fa,g,m,j,z,L,v,B,y,st,rfl,I,M,hd,q⟩:=h
 refine#[_,(jd (jx (jV (jw (pv 1))) (jg (jm (cG.e G.m (ja (jw (pv 1)) jb)))) jp) (jd (jx (jV (jw (pv 1))) (jg (jm (cS.e G.m (ja (pv 1) (ja (pv 2) jb))))) jp) (jg (jm (kY (pv 0) ck.cl hC GC G.m bC .nil bq (ja (pv 1) (ja (pv 2) jb))))))),?_]
 have hz:=I.sz
 have R:=M
 have i:st.isCut=true->gV (sF C "place_of_cut" (y7 C n) [] E0 (aW 0) (al (aW 1) (al (aW 2) aL))) { nx:=λx k=>Q V.non k,rt:=Q } [some (.ref r),some v,some B] H:=λhc=>
  #[_,Z,r,J,_,Z,I.c.ins,Z,_,Z,_,Z,r,J,fa,g,m,j,z,L,v,B,y,st,Z,I,M,hd,hc,q]
 cases M with
 |lf p l vs d o=>
  cases l with
  |rd x t T |wr t u T U |cl x f q2 ts=>
   obtain⟨rfl,_⟩:=o
   refine(jq d Z #[Z,_,Z,aG Lq ?_])
   refine(jq d Z #[Z,_,Z,aG Lq ?_])
   exact i Z
  |gv t T=>
   obtain⟨rfl,hT⟩:=o
   refine(jq d Z #[Z,_,Z,cj Lq ?_])
   clear i
   have Y:y.length<=21:=by obtain⟨_,_,_,_,_,hN,_⟩:=I.p;exact hN.y20
   exact(jq d Z #[t,T,y,Z,hT,I.ok.1,Y,λW X k p' N S=>q W X z k p' (λe=>by rw[e,I.c.fd]at N;cases N) (I.c.same S) (ax.of_same S)])
  |st x t T=>
   obtain⟨rfl,hT⟩:=o
   refine(jq d Z #[Z,_,Z,aG Lq ?_])
   refine(jq d Z #[Z,_,Z,cj Lq ?_])
   clear i
   exact#[_,Z,_,Z,.ref p,B,p,t,x,T,L,g,y,Z,R,I.p,I.ok.1.1,I.ok.1.2,Lo,λW X k p' N S=>q W X z k p' (λe=>by rw[e,I.c.fd]at N;cases N) (I.c.same S) (ax.of_same S)]
 |ite p t T a b qa qb as bs d h0 o h3 h4 h5 |loop p t T a qa as d h0 o h3=>
  refine(jq d Z #[Z,_,Z,aG Lq ?_])
  refine(jq d Z #[Z,_,Z,aG Lq ?_])
  exact i Z
theorem vt:am ["self","body","behind","place","statement"] ["self","body","behind"] (aa vf):=bJ
theorem Bh(F:aN K "place_of_body" "Cutting.place_of_body" vf f fd)(ck:CK K C)(GO:ai P w K mg base aD (4*n+34) fO T ["self","statement","behind"] (BG C n))(bO:aC K T ["self","statement","behind"] [])(hO:bV K C "place_of" fO)(R:mg "reversed"=none):ai P w K mg base aD (4*n+35) f fd ["self","body","behind"] (mH C (n+1)):=by
 refine F.ok vt ?_ λc1 A U s H vs Q E hr h=>?_
 ·rintro _ _ _ _ ⟨r,J,V,a,g,m,d,cs,xs,l,L,Y,b,rfl,_⟩
  rfl
 obtain⟨r,J,V,a,g,m,d,cs,xs,l,L,Y,b,rfl,I,ha,hb,hd,q⟩:=h
 refine#[_,(jd (jB 3 vt.nd (pv 2)) (jd (kO EZ Z (@Z4 _ _ _ _ _ _ _ Z R boot_reversed (pv 1) Ln Ln Ls Ls) (jy (i:=4) vt.nd Z (Or.inl Z)) (jg (jB 3 vt.nd (kY (pv 0) ck.cl hO GO hr.m bO .nil bq (ja (pv 4) (ja (pv 3) jb)))))) (jg (jm (pv 3))))),?_]
 have b0:=aH
 have hz:=I.sz
 have xl:=hb.len
 refine af λF1 u=>#[_,Z,u _ _ ?_]
 clear u
 refine af λF1 u=>?_
 refine eO λF kF=>#[_,Z,a,xs,Z,ar.of ha,kF _ _ ?_]
 clear kF
 refine Q3 (K:=K) (xs:=xs) (BI C r J V a m d l L Y b xs H) #[b,.nil,L,g,cs,_,Z,(q9 b).symm,by rw[IC,Fc];exact hb,I.p,I.ng,I.c,ax.refl] (λi σ H' hi h=>?_) ?_ (λσ H' h=>u _ _ ?_)
 ·obtain⟨_,_,_,_,_,_,_,_,_,_,_,_,k⟩:=h
  exact ar.of (I.c.tm k _ _ ha)
 ·clear u
  intro E _ i x σ H2 M fE Gq t h
  obtain⟨pre,eG,v,W,o,o4,rfl,j,y,X,h4,N,O⟩:=h
  have hi:i < xs.length:=by
   rcases HP i xs.length with z |z
   ·exact z
   ·rw[Fp (by simpa using z)]at M;cases M
  rw[Hl hi]at M
  have et:xs.take (xs.length - i)=xs.take (xs.length - (i+1))++[x]:=by
   have D:xs.length - i=(xs.length - 1 - i)+1:=by omega
   have e2:xs.length - (i+1)=xs.length - 1 - i:=by omega
   rw[D,e2,FK,M]
   rfl
  rw[et]at y
  rcases y.last with ⟨e,_⟩ | ⟨ws,v',B,S,D,e2,h6,h7⟩
  ·exact absurd e Lp
  obtain⟨ew,ev⟩:=List.append_inj' D Z
  cases ev
  subst e2
  have h0:=zP (j▸I.ok)
  have G:=zP h0.1
  have a1:b.dep=max (B.app S).dep eG.dep:=by rw[j,zn]
  have a2:(B.app S).dep=max B.dep S.dep:=zn ..
  have h8:S.dep<=b.dep:=by rw[a1,a2];exact Es (IL ..) (IP ..)
  clear a1 a2
  have h':b.size=B.size+S.size+eG.size:=by rw[j,jY,jY]
  have hl:=j8 m eG l d
  have a0:=kM eG
  have a3:=YG m eG l d
  have a4:(pB m eG l d).1.w.sets.length+(pB m eG l d).2.length+S.size<=10000000:=by have:=JY m eG l d;omega
  refine t ?_
  clear t
  have tm:=I.c.tm O
  show dA _ _ E [some (.ref r),some (.ref a),some L,some v,some x] H2
  refine#[_,Z,r,J,_,Z,N.ins,Z,_,Z,_,Z,r,J,V,W,m,_,o,_,x,v,Y,S,Z,#[N,X,h4,G.2,Lo],h7.mono tm,Lo,λv3 g3 c0 H3 p3 n3 c3 k3=>fE _ _ #[B,S.app eG,v3,g3,c0,_,Z,by rw[j,zV],?_,by rw[Kh];exact p3,n3,by rw[Kh];exact c3,O.trans k3]]
  rw[ew]
  exact h6
 ·obtain⟨pre,eG,v,W,o,o4,rfl,j,y,X,h4,N,O⟩:=h
  rw[HN]at y
  have ep:pre= .nil:=by
   rcases y.last with ⟨_,e⟩ | ⟨ws,v,B,S,D,_⟩
   ·exact e
   ·exact absurd D Lp
  rw[ep]at j
  refine#[_,Z,q v W o H' ?_ h4 ?_ O]
  ·rw[j];exact X
  ·rw[j];exact N
theorem Bg:ai P w K mg base aD k f i ["self","body","behind"] (mH C 0):=by
 have n:∀v H Q E,¬mH C 0 v H Q E:=λv H Q E h=>by
  obtain⟨I,D,F,a,g,m,d,j,x,p,B,y,b,_,_,_,_,e,_⟩:=h
  exact absurd e (Gy _)
 exact#[λv H Q E h=>absurd h (n v H Q E),λA o s H c u v Q E _ _ _ _ h=>absurd h (n v H Q E)]
theorem DN(c:CK K C)(FB:aN K "place_of_body" "Cutting.place_of_body" vf g f)(F:aN K "place_of" "Cutting.place_of" vk A a)(i:aN K "place_of_cut" "Cutting.place_of_cut" vg D b)(j:aN K "ways_of" "Cutting.ways_of" vp E d)
  (B:aC K f ["self","body","behind"] []) (H:bV K C "place_of_body" g) (k:aC K a ["self","statement","behind"] []) (l:bV K C "place_of" A) (o:aC K b ["self","statement","behind"] []) (p:bV K C "place_of_cut" D) (q:aC K d ["self","statement","place","behind"] []) (r:bV K C "ways_of" E)
  (s:Cl P w K mg base 2 T G ["body"] gO "many_cuts") (t:Cl P w K mg base 31 U I ["statement","behind"] (f8 7) "used_ahead_of") (u:Cl P w K mg base 1 Y J ["statement"] iS "deed_of") (v:Cl P w K mg base 8 fG L ["term"] gr "place_of_give") (x:Cl P w K mg base 11 fS N ["statement","behind"] iX "place_of_set") (y:mg "len"=none) (m:mg "tuple"=none) (M:mg "reversed"=none):
  ∀n:Nat,n<=8->ai P w K mg base aD (4*n+31) g f ["self","body","behind"] (mH C n)
 |0,_=>Bg
 |n+1,h=>by
  have O:=DN c FB F i j B H k l o p q r s t u v x y m M n Lo
  have Q:=Bm j c O B H
  have R:=Bi i c Lo Q q r s t u y m
  have S:=Bl F c R o p v x
  have z:=Bh FB c S k l M
  have e:4*n+35=4*(n+1)+31:=by omega
  rw[e]at z
  exact z
theorem YH{X:Cx}{K:Frag}{n:Nat}(a:X.K=K)(b:X.calm=true)(h:Al X e t)
  (c:(assignEach e X.env).length=n) (H:(assignEach e X.env).findIdx? (·.1)=none):PG X (.Tuple e k p) (oK K n t):=by
 subst a
 exact zO b h c H
noncomputable abbrev g3(K:Frag)(i j k:Nat):TG:=oK K 3 (dw (a8 i) (dw (a8 j) (dw (a8 k) oJ)))
theorem C4{t:_L.St}(h:t.length=3):∃a b c,t=[a,b,c]:=by
 cases t with
 |nil=>cases h
 |cons a r=>
  cases r with
  |nil=>cases h
  |cons b R=>
   cases R with
   |nil=>cases h
   |cons c d=>
    cases d with
    |nil=>exact#[a,b,c,Z]
    |cons _ _=>cases h
noncomputable abbrev rh:Stmt:=bL 44
noncomputable abbrev mZ:Stmt:=bL 45
structure Df where
 f:Str
 p:Addr
 pa:Addr
 pb:Addr
 b:Bd
noncomputable def vS(H:Hp)(d:Df)(v:V):Prop:=∃B,v= .ref d.p/\H d.p=some (.tup [.str d.f,.ref d.pa,.ref d.pb])/\H d.pb=some (.tup B)/\dt H d.b B
noncomputable def cf(H:Hp):List Df->List V->Prop
 | [],a=>a=[]
 |d::D,a=>∃v r,a=v::r/\vS H d v/\cf H D r
theorem vS.mono(k:aj H a)(h:vS H d v):vS a d v:=by
 obtain⟨b,e,c,f,g⟩:=h
 exact#[b,e,k _ _ c,k _ _ f,g.mono k]
theorem cf.mono(k:aj H b):∀{a:List V},cf H D a->cf b D a:=by
 induction D with
 |nil=>exactλh=>h
 |cons d D i=>rintro a ⟨v,r,e,c,f⟩;exact#[v,r,e,c.mono k,i f]
theorem cf.snoc{d:Df}(a:vS H d v):∀{D:List Df} {b:List V},cf H D b->cf H (D++[d]) (b++[v])
 | [],_,h=>by have e:_=[]:=h;rw[e];exact#[v,[],Z,a,Z]
 |_::_,_,z=>by obtain⟨u,r,e,c,f⟩:=z;exact #[u,r++[v],by rw[e];rfl,c,cf.snoc a f]
theorem cf.len:∀{d:List Df} {v:List V},cf H d v->v.length=d.length
 | [],_,h=>by have e:_=[]:=h;rw[e];rfl
 |_::_,_,z=>by obtain⟨u,r,e,b,a⟩:=z;rw[e,EM,EM,cf.len a]
theorem cf.at:∀{D:List Df} {b:List V},cf H D b->∀(i:Nat) (v:V),b[i]?=some v->∃d,D[i]?=some d/\vS H d v
 | [],_,h,i,v,a=>by have e:_=[]:=h;rw[e]at a;simp at a
 |d::_,_,q,0,v,a=>by obtain⟨u,r,e,c,f⟩:=q;rw[e]at a;cases a;exact#[d,Z,c]
 |_::D,_,q,i+1,v,a=>by obtain⟨u,r,e,c,f⟩:=q;rw[e]at a;simpa using cf.at f i v (by simpa using a)
noncomputable def lO(d:Df):Prop:=(∃y:List Str,y.length<=20/\d.b.Ok y)/\d.b.dep < 8/\d.b.size<=3000
noncomputable def C7(n:Addr):Pc:=#[λx=>x∈(Tm.num 0).vars,#[[],.give n]]
noncomputable def fV(n:Addr)(d:Df):Pc×List Ct:=pB (d.b.cuts:Int) d.b (C7 n) []
noncomputable def eh(n:Addr)(d:Df):Tr:=aK [a7 d.f,nR d.pa,ff (fV n d).1.w,aK ((fV n d).2.reverse.map AN)]
noncomputable def io(K:Frag)(n:Addr):Prop:=∀H:Hp,ar K H n [.str "num",.int 0]
noncomputable def sg(C:Addr):Sp:=λv H Q _=>∃(i d a:Addr) (b:Bd) (x:List V),v=[.ref i,.ref a]/\H i=some (.ins C d [])/\H a=some (.tup x)/\dt H b x/\b.size<=10000000/\
 ∀(f:Addr) (h:Hp),H f=none->Cg h C i d f (b.cuts:Int) [] []->ax i H h->Q .non h
noncomputable def mJ(K:Frag)(n:Addr):Sp:=λa H Q _=>∃(d:Df) (B:List V),a=[.str d.f,.ref d.pa,.ref d.pb]/\H d.pb=some (.tup B)/\dt H d.b B/\lO d/\∀(v:V) (h:Hp),aP h (eh n d) v []->ae H h->Q v h
noncomputable def mE(K:Frag)(n:Addr):Sp:=λb H Q _=>∃(a:Addr) (D:List Df) (x:List V),b=[.ref a]/\H a=some (.tup x)/\cf H D x/\D.length<=1000/\(∀d∈D,lO d)/\∀(v:V) (h:Hp),aP h (aK (D.map (eh n))) v []->ae H h->Q v h
theorem Zy{K:Frag}{t:TE}{Q:List V->Hp->Prop}{H:Hp}(x:H a=some (.tup g))(u:cf H D g)(R:D.length<=1000)
  (Pv:Nat->List V->Hp->Prop) (z:Pv 0 [] H) (A:∀i Y h,Pv i Y h->ae H h/\Y.length<=i)
  (C:∀i d B Y h,D[i]?=some d->h d.pb=some (.tup B)->dt h d.b B->Pv i Y h->t (some (.str d.f)::some (.ref d.pa)::some (.ref d.pb)::l) h λy j=>Pv (i+1) (Y++[y]) j)
  (E:∀Y h,Pv D.length Y h->Q Y h):dM (sW K a) 3 l (g3 K 0 1 2) i6 t Q H:=by
 have F:=aH
 have S:=u.len
 refine#[λi m Y h=>m=D.length - i/\i<=D.length/\Pv i Y h,#[D.length,Lp,Eu _,z],?_]
 intro i m Y h c
 obtain⟨rfl,T,p⟩:=c
 obtain⟨s,U⟩:=A i Y h p
 have c:ar K h a g:=ar.of (s _ _ x)
 by_cases n:i < D.length
 ·have I:i < g.length:=by omega
  refine .inr #[#[g,g[i],c,Ed I],Lo,Pv (i+1),λJ j L=>#[D.length - (i+1),Lo,Z,n,L],λv j W o y=>?_]
  obtain⟨e,y⟩:=y
  subst e
  have q:=y g c
  obtain⟨d,r,B,rfl,M,N,O⟩:=(u.mono (ae.tm s)).at i v q
  obtain⟨X,t2,t3,rfl⟩:=C4 o
  refine#[d.p,_,Z,ar.of M,Z,_,_,Z,_,_,Z,_,_,Z,Z,#[[some _,some _,some _],Z,Z],?_]
  exact C i d B Y j r N O p
 ·have e:i=D.length:=by omega
  subst e
  exact .inl #[#[g,c,Lo],E Y h p]
theorem By:am ["self","body"] ["self","body"] (aa re):=bJ
theorem yc(F:aN K "__init__" "Cutting.__init__" re f t)(d:CK K C)(u:Cl P w K mg base 2 M v ["body"] gO "many_cuts"):ai P w K mg base aD 3 f t ["self","body"] (sg C):=by
 refine F.ok By ?_ λy A O s H V Q E B h=>?_
 ·rintro _ _ _ _ ⟨i,D,a,b,x,rfl,_⟩
  rfl
 obtain⟨i,D,a,b,x,rfl,G,I,J,L,q⟩:=h
 refine#[_,(jd (@qK _ _ _ _ _ _ _ _ (pv 0) (u.e B.m (ja (pv 1) jb)) Z) (jg (@qK _ _ _ _ _ _ _ _ (pv 0) (jL jb) Z))),?_]
 refine af λS l=>#[_,Z,a,b,x,Z,I,J,L,λT k=>#[_,Z,i,C,D,_,Z,k _ _ G,d.cl,d.nm,Ln,l _ _ ?_]]
 clear l
 refine#[nV,λg n=>#[_,Z,i,C,D,_,Z,aq jc n,d.cl,d.nf,(by show 1 < 1000;decide),?_]]
 have N:g≠i:=λe=>by rw[e,jc]at n;cases n
 have p:H g=none:=by
  cases e:H g with
  |none=>rfl
  |some o=>rw[jl N,k _ _ e]at n;cases n
 refine q g _ p #[jc,by rw[jl N,jc],Z] λc o r e=>?_
 rw[jl r,jl (λz=>by rw[z,p]at e;cases e),jl r]
 exact k _ _ e
theorem mn:am ["name","params","body","cutting","first"] ["name","params","body"] (aa rh):=bJ
theorem uH(F:aN K "part_made" "part_made" rh f fd)(t:CK K C)(mk:Mk K C fI)(GI:ai P w K mg base aD 3 fI u ["self","body"] (sg C))(bI:aC K u ["self","body"] [])(mC:mg "Cutting"=some (.ref C))(M:mg "NOUGHT"=some (.ref n))(no:io K n)(GB:ai P w K mg base aD 63 fB x ["self","body","behind"] (mH C 8))(bB:aC K x ["self","body","behind"] [])(hB:bV K C "place_of_body" fB)(cG:Cl P w K mg base 8 fG f0 ["term"] (sj K) "place_of_give")(y:mg "tuple"=none)(z:mg "reversed"=none):ai P w K mg base aD 64 f fd ["name","params","body"] (mJ K n):=by
 refine F.ok mn ?_ λc0 A O s H vs Q E B h=>?_
 ·rintro _ _ _ _ ⟨d,G,rfl,_⟩
  rfl
 obtain⟨d,G,rfl,hb,a,I,q⟩:=h
 refine#[_,(jd (jB 3 mn.nd (Yr mk GI B.m Z mC bI .nil bq (ja (pv 2) jb))) (jd (jB 4 mn.nd (kY (pv 3) t.cl hB GB B.m bB .nil bq (ja (pv 2) (ja (cG.e B.m (ja (qV (v:=.ref n) Z M Z) jb)) jb)))) (jg (jm (ji (ja (pv 0) (ja (pv 1) (ja (jw (pv 4)) (ja (@Zq _ _ _ _ _ _ _ _ _ Z Z y Ft Z z boot_reversed (zA (pv 3) Z) Ln Ln Ln Ln Ls Ls Ls Ls) jb))))))))),?_]
 have b0:=aH
 obtain⟨⟨ys,y0,ok⟩,J,hz⟩:=I
 refine af λF1 j=>#[_,Z,λi D N L n0=>?_]
 have S:ae H (ah (ah H D (.own i)) i (.ins C D [])):=λc o e=>by rw[jl (jo e N),jl (jo e L)];exact e
 refine#[i,D,d.pb,d.b,G,Z,jc,S _ _ hb,a.mono (ae.tm S),Lo,λp H1 nf R k1=>#[Z,j _ _ ?_]]
 clear j
 have s1:ae H H1:=λc o e=>k1 c o (jo e N) (S _ _ e)
 have T:H p=none:=S.free nf
 refine af λF1 j=>#[_,Z,i,D,_,Z,R.ins,Z,_,Z,n,ys,Z,no _,Lo,λv g H2 p2 n2 k2=>?_]
 have ng:g≠p:=λe=>by rw[e,R.fd]at n2;cases n2
 have U:=s1.trans k2
 refine#[i,D,p,d.pb,g,_,[],[],G,C7 n,v,ys,d.b,Z,#[R.same k2,p2,ng,ok,by show 0+0+d.b.size<=_;omega],U _ _ hb,a.mono (ae.tm U),J,λv3 g3 k V p3 n3 W k3=>j _ _ ?_]
 clear j
 obtain⟨r3,w3,rfl,X,Y⟩:=sS p3
 have s3:ae H V:=λc o e=>k3 c o (jo e T) (U _ _ e)
 refine#[_,Z,_,Z,jq X Z #[_,Z,i,C,D,_,_,Z,W.ins,t.cl,t.nf,Z,p,k,Z,aF.of W.fd,λl nl=>#[sD,λr nr=>?_]]]
 have s5:ae V (ah (ah V l (.tup k.reverse)) r (.tup [.str d.f,.ref d.pa,w3,.ref l])):=(je nl).trans (je nr)
 refine q (.ref r) _ ?_ (s3.trans s5)
 refine jA jc (jh Z jG (jh Z Jt (jh Z (Y.mono (ae.tm s5)) (jh Z (jA (aq jc nr) ?_) jz))))
 have e:=YF (W.tr.mono (ae.tm s5))
 rw[<- List.map_reverse]at e
 exact e
theorem yW:am ["program"] ["program"] (aa mZ):=bJ
noncomputable def rR:Scope:=#[.function,[(".0",.local),("name",.local),("params",.local),("body",.local),("part_made",.globalImplicit)],false,false,[]]
theorem ZP:(["name","params","body"]:List Str).Nodup:=by decide+kernel
theorem AH:aZ ["program"] (aa mZ) rR ["name","params","body"] 3 []:=mO
theorem uE(F:aN K "made" "made" mZ f p)(C:Cl P w K mg base 64 U t ["name","params","body"] (mJ K N) "part_made")(M:mg "tuple"=none):ai P w K mg base aD 65 f p ["program"] (mE K N):=by
 refine F.ok yW ?_ λu A o s H V Q E x h=>?_
 ·rintro _ _ _ _ ⟨a,D,X,rfl,_⟩
  rfl
 obtain⟨a,D,X,rfl,g,y,B,O,q⟩:=h
 refine#[_,(jg (jm (jC jI Z M Ft (ja (@kJ _ _ _ _ _ _ _ (["name","params","body"]) (3) ([]) _ _ _ _ Z (zb (pv 0)) AH (λ_ _ _ _ _=>(YH (K:=K) (n:=3) Z Z (jD (jy (i:=0) ZP Z (Or.inl Z)) (jD (jy (i:=1) ZP Z (Or.inl Z)) (jD (jy (i:=2) ZP Z (Or.inl Z)) kh))) Z Z)) (λ_ _ _ _ _=>(@zi _)) (λ_ _ _ _ _=>(C.e x.m (ja (pv 0) (ja (pv 1) (ja (pv 2) jb))))) (by intro _;rfl)) jb)))),?_]
 refine#[_,Z,a,Z,#[_,ar.of g],?_]
 refine Zy g y B (λi V b=>aP b (aE ((D.take i).map (eh N))) .non V/\ae H b/\i<=D.length) #[Z,ae.refl _,Eu _] (λi V b h=>#[h.2.1,?_]) (λi d G V b c I J h=>?_) (λV b h l L=>?_)
 ·rw[kL h.1,Ef,ED]
  exact IN ..
 ·have R:i < D.length:=by
   rcases HP i D.length with z |z
   ·exact z
   ·rw[Fp z]at c;cases c
  refine#[_,Z,_,Z,_,Z,d,G,Z,I,J,O d (EA c),λv Y T j=>#[?_,h.2.1.trans j,R]]
  rw[FK,c,EK]
  exact JX (jh Z T jz) (h.1.mono (ae.tm j))
 ·refine#[l,V,Z,.inl #[aF.of jc,λr S=>?_]]
  have s:ae b (ah (ah b l (.lst V)) r (.tup V)):=(je L).trans (je S)
  refine q (.ref r) _ (jA jc ?_) (h.2.1.trans s)
  have e:=h.1
  rw[Fc]at e
  exact e.mono (ae.tm s)
noncomputable abbrev rn:Stmt:=bL 52
noncomputable abbrev rq:Stmt:=bL 53
noncomputable abbrev mX:Stmt:=bL 54
noncomputable def aU(p q:Addr)(H h:Hp):Prop:=∀b o,b≠p->b≠q->H b=some o->h b=some o
theorem aU.refl:aU p q H H:=λ_ _ _ _ h=>h
theorem aU.trans(a:aU p q H d)(b:aU p q d e):aU p q H e:=λc o n m h=>b c o n m (a c o n m h)
theorem ax.two(a:ax p H b):aU p q H b:=λc o n _ h=>a c o n h
theorem aU.of_same(a:ae H b):aU p q H b:=λc o _ _ h=>a c o h
theorem aU.at:aU p q H (ah H q o):=λb u _ m e=>by rw[jl m];exact e
noncomputable def dm(H:Hp)(q:Addr):Prop:=∃k:Int,H q=some (.lst [.int k])
theorem dm.new{o:HO}(h:dm H q)(n:H r=none):dm (ah H r o) q:=let #[k,e]:=h;#[k,aq e n]
theorem dm.ne(h:dm H q)(B:ap H p):q≠p:=by
 obtain⟨k,e⟩:=h
 obtain⟨a,b,_,_,_,d⟩:=B.ob
 exact jQ e d (by intro z;cases z)
theorem dm.but(h:dm H q)(B:ap H p)(k:ax p H a):dm a q:=by
 have n:=h.ne B
 obtain⟨z,e⟩:=h
 exact#[z,k _ _ n e]
theorem aU.tm(k:aU p q H h)(B:ap H p)(s:dm H q):aj H h:=λb x e=>by
 obtain⟨a,c,_,_,_,f⟩:=B.ob
 obtain⟨z,g⟩:=s
 exact k b _ (jQ e f (by intro w;cases w)) (jQ e g (by intro w;cases w)) e
noncomputable def fo(H:Hp)(q:Addr):Int:=match H q with
 |some (.lst [.int k])=>k
 |_=>0
theorem Ju{H:Hp}(e:H q=some (.lst [.int k])):fo H q=k:=by unfold fo;rw[e]
theorem Xz{h:Hp}(s:dm H q)(k:∀o,H q=some o->h q=some o):fo h q=fo H q:=by
 obtain⟨z,e⟩:=s
 rw[Ju e,Ju (k _ e)]
theorem kn(B:ap H p)(s:dm H q)(k:ax p H h):fo h q=fo H q:=Xz s λo e=>k _ _ (s.ne B) e
theorem ke(s:dm H q)(k:ae H h):fo h q=fo H q:=Xz s λo e=>k _ _ e
noncomputable def Cc(H:Hp)(c:Str×List Str)(v:V):Prop:=∃p t,v= .ref p/\H p=some (.tup [.str c.1,.ref t])/\H t=some (.tup (c.2.map V.str))
noncomputable def dD(H:Hp):List (Str×List Str)->List V->Prop
 | [],a=>a=[]
 |c::C,a=>∃v r,a=v::r/\Cc H c v/\dD H C r
theorem dD.mono(k:aj H b):∀{c:List (Str×List Str)} {a:List V},dD H c a->dD b c a
 | [],_,h=>h
 |_::_,_,z=>by obtain⟨v,r,e,⟨p,t,E,d,f⟩,g⟩:=z;exact #[v,r,e,#[p,t,E,k _ _ d,k _ _ f],dD.mono k g]
theorem dD.snoc(a:Cc H c v):∀{C:List (Str×List Str)} {b:List V},dD H C b->dD H (C++[c]) (b++[v])
 | [],_,h=>by have e:_=[]:=h;rw[e];exact#[v,[],Z,a,Z]
 |_::_,_,z=>by obtain⟨u,r,e,d,f⟩:=z;exact #[u,r++[v],by rw[e];rfl,d,dD.snoc a f]
theorem dD.len:∀{c:List (Str×List Str)} {v:List V},dD H c v->v.length=c.length
 | [],_,h=>by have e:_=[]:=h;rw[e];rfl
 |_::_,_,z=>by obtain⟨u,r,e,b,a⟩:=z;rw[e,EM,EM,dD.len a]
theorem dD.at:∀{C:List (Str×List Str)} {b:List V},dD H C b->∀(i:Nat) (v:V),b[i]?=some v->∃c,C[i]?=some c/\Cc H c v
 | [],_,h,i,v,a=>by have e:_=[]:=h;rw[e]at a;simp at a
 |c::_,_,q,0,v,a=>by obtain⟨u,r,e,d,f⟩:=q;rw[e]at a;cases a;exact#[c,Z,d]
 |_::C,_,q,i+1,v,a=>by obtain⟨u,r,e,d,f⟩:=q;rw[e]at a;simpa using dD.at f i v (by simpa using a)
theorem yJ(h:dD H C a)(i:0<=k)(j:k < (a.length:Int)):∃v c,dC a k=some v/\c∈C/\Cc H c v:=by
 have b:k.toNat < a.length:=by omega
 have d:k=((k.toNat:Nat):Int):=by omega
 have E:a[k.toNat]?=some a[k.toNat]:=Ed b
 have e:dC a ((k.toNat:Nat):Int)=some a[k.toNat]:=ju E
 rw[<- d]at e
 obtain⟨c,f,g⟩:=h.at _ _ E
 exact#[_,c,e,EA f,g]
noncomputable def Bd.fit(h:List (Str×List Str))(y:List Str)(d:Nat)(b:Bd):Prop:=(b.Ok y/\b.Cs (h.map λc=>(c.1,c.2.length)))/\b.dep<=d
theorem YI:Bd.fit h y d .nil:=#[#[EE,EE],Eu _]
theorem xz{H:List (Str×List Str)}{l:Lf}(h:l.Ok y)(k:l.Cs (H.map λc=>(c.1,c.2.length))):Bd.fit H y d (.lf p l .nil):=#[#[#[h,EE],k,EE],Eu _]
theorem YJ{a b:Bd}(h:a.fit H y d)(k:b.fit H y d):(a.app b).fit H y d:=#[#[Kg h.1.1 k.1.1,Kf h.1.2 k.1.2],by rw[zn];have:=h.2;have:=k.2;omega]
theorem t9{a b:Bd}(c:cQ y T)(h:a.fit H y d)(k:b.fit H y d):Bd.fit H y (d+1) (.ite p t T a b .nil):=#[#[#[c,h.1.1,k.1.1,EE],h.1.2,k.1.2,EE],by show max (max a.dep b.dep+1) 0<=d+1;have:=h.2;have:=k.2;omega]
theorem oG{a:Bd}(H:cQ y T)(h:a.fit b y d):Bd.fit b y (d+1) (.loop p t T a .nil):=#[#[#[H,h.1.1,EE],h.1.2,EE],by show max (a.dep+1) 0<=d+1;have:=h.2;omega]
noncomputable def DO:Nat->Nat
 |0=>1
 |d+1=>1+2*(5*DO d)
noncomputable def iZ:Sp:=λv H Q _=>∃(p g:Addr) (y:List Str),v=[.ref p,.ref g]/\ap H p/\H g=some (.lst (y.map V.str))/\1<=y.length/\y.length<=20/\∀(r:Addr) (T:Tm) (h:Hp),a9 h T r->cQ y T->ap h p->ax p H h->Q (.ref r) h
structure lK(H:Hp)(p g h sp:Addr)(ys:List Str)(hs:List (Str×List Str)):Prop where
 B:ap H p
 g:H g=some (.lst (ys.map V.str))
 y1:1<=ys.length
 y2:ys.length<=20
 h:∃hv,H h=some (.lst hv)/\dD H hs hv
 h1:1<=hs.length
 h2:hs.length<=20
 h3:∀c∈hs,c.2.length<=6
 s:dm H sp
theorem lK.gsp{H:Hp}{p g h S:Addr}{y:List Str}{b:List (Str×List Str)}(G:lK H p g h S y b):g≠S:=by
 obtain⟨k,e⟩:=G.s
 refine jQ G.g e λz=>?_
 injection z with z
 have c:=G.y1
 match y,c,z with
 |a::r,_,z=>injection z with d _;cases d
theorem lK.hsp{H:Hp}{p g h S:Addr}{y:List Str}{f:List (Str×List Str)}(G:lK H p g h S y f):h≠S/\h≠p:=by
 obtain⟨k,e⟩:=G.s
 obtain⟨j,E,l⟩:=G.h
 obtain⟨a,b,_,_,_,m⟩:=G.B.ob
 have n:=G.h1
 have:∃q r,j= .ref q::r:=by
  match f,n,l with
  |c::C,_,#[v,r,e,#[q,t,o,_],_]=>exact#[q,r,by rw[e,o]]
 obtain⟨q,r,rfl⟩:=this
 refine#[jQ E e λz=>?_,jQ E m λz=>?_]
 ·injection z with z
  injection z with d _
  cases d
 ·injection z with z
  injection z with d _
  cases d
theorem lK.but2{H a:Hp}{p g h S:Addr}{y:List Str}{b:List (Str×List Str)}(G:lK H p g h S y b)(B:ap a p)(s:dm a S)(k:aU p S H a):lK a p g h S y b:=by
 obtain⟨c,e,E⟩:=G.h
 exact#[B,k _ _ (qp G.B G.g) G.gsp G.g,G.y1,G.y2,#[c,k _ _ G.hsp.2 G.hsp.1 e,E.mono (k.tm G.B G.s)],G.h1,G.h2,G.h3,s]
theorem lK.but{H a:Hp}{p g h S:Addr}{y:List Str}{b:List (Str×List Str)}(G:lK H p g h S y b)(B:ap a p)(k:ax p H a):lK a p g h S y b:=G.but2 B (G.s.but G.B k) k.two
noncomputable def lH(n:Nat):Sp:=λv H Q _=>∃(p g h s:Addr) (d:Nat) (y:List Str) (c:List (Str×List Str)),v=[.ref p,.ref g,.ref h,.ref s,.int (d:Int)]/\lK H p g h s y c/\d < n/\0 < fo H s/\
 ∀(r:Addr) (b:Bd) (a:Hp),dt a b [.ref r]->(b.size:Int)+fo a s<=fo H s->0<=fo a s->b.fit c y d->ap a p->dm a s->aU p s H a->Q (.ref r) a
noncomputable def gN(n:Nat):Sp:=λv H Q _=>∃(p g h s:Addr) (d:Nat) (y:List Str) (c:List (Str×List Str)),v=[.ref p,.ref g,.ref h,.ref s,.int (d:Int)]/\lK H p g h s y c/\d < n/\0<=fo H s/\
 ∀(r:Addr) (b:Bd) (B:List V) (a:Hp),a r=some (.tup B)->dt a b B->(b.size:Int)+fo a s<=fo H s->0<=fo a s->b.fit c y d->ap a p->dm a s->aU p s H a->Q (.ref r) a
theorem rO:am ["_law_box_here","_law_names_here","_law_kind"] ["_law_box_here","_law_names_here"] (aa rn):=bJ
theorem uK(F:aN K "_law_spot" "_law_spot" rn f M)(C:Cl P w K mg base 1 Y N ["_law_box_here","_law_wide"] aX "_law_take")(O:Cl P w K mg base 6 fM R ["_law_box_here","_law_names_here","_law_deep"] (cX 4) "_law_term"):ai P w K mg base aD 7 f M ["_law_box_here","_law_names_here"] iZ:=by
 refine F.ok rO ?_ λS A o s H vs Q E a h=>?_
 ·rintro _ _ _ _ ⟨p,g,y,rfl,_⟩
  rfl
 obtain⟨p,g,y,rfl,B,I,i,j,q⟩:=h
 refine#[_,(jd (jB 2 rO.nd (C.e a.m (ja (pv 0) (ja jf jb)))) (jd (jx (jE J4 (pv 2) jf (aA _)) (jg (jm (O.e a (ja (pv 0) (ja (pv 1) (ja jf jb)))))) jp) (jd (jx (ze (pv 2)) (jg (jm (ji (ja jk (ja (jv ky (jv ky (jv qJ jf jf) jf) (C.e a.m (ja (pv 0) (ja jf jb)))) jb))))) jp) (jg (jm (ji (ja jk (ja (C.e a.m (ja (pv 0) (ja jf jb))) jb)))))))),?_]
 have k:g≠p:=qp B I
 refine#[_,Z,p,8,Z,B,Ln,Ln,λkd J k0 k1 l L=>?_]
 have t:J g=some (.lst (y.map V.str)):=by rw[L g k];exact I
 have u:ax p H J:=ax.of_eq L
 refine#[_,Z,_,_,Z,Z,_,Z,?_]
 refine bH (λc=>?_) (λc=>?_)
 ·exact#[_,Z,_,Z,p,g,1,y,Z,l,t,i,j,Ln,Ln,λr T v U dT W b X=>q r T v U #[W,Lo] b (u.trans X)]
 refine#[_,Z,Z,_,Z,?_]
 refine bH (λc=>?_) (λc=>?_)
 ·refine#[_,_,Z,Z,#[Ln,Ln,Ln],_,_,Z,Z,_,Z,p,4,Z,l,Ln,Ln,λD v d x b z=>#[_,_,Z,Z,bj,λr n=>?_]]
  exact q r (.num (1000000000000000000 - 1 - D)) _ jc #[#[Lo,Lo],(by show 0 < 6;decide)] (b.upd_new n) ((u.trans (ax.of_eq z)).upd_new n)
 ·refine#[_,Z,p,12,Z,l,Ln,Ln,λD v d x b z=>#[bj,λr n=>?_]]
  exact q r (.num D) _ jc #[#[d,Lo],(by show 0 < 6;decide)] (b.upd_new n) ((u.trans (ax.of_eq z)).upd_new n)
theorem ie:am ["_law_box_here","_law_names_here","_law_heads","_law_spare","_law_deep","_law_kind","_law_x","_law_f","_law_params","_law_body_here"] ["_law_box_here","_law_names_here","_law_heads","_law_spare","_law_deep"] (aa rq):=bJ
noncomputable def Zz:Scope:=#[.function,[(".0",.local),("_law_one",.local),("_law_term",.globalImplicit),("_law_box_here",.free),("_law_names_here",.free)],false,false,[]]
theorem xQ:(["_law_one","_law_box_here","_law_names_here"]:List Str).Nodup:=by decide+kernel
theorem xk:aZ ["_law_box_here","_law_names_here","_law_heads","_law_spare","_law_deep","_law_kind","_law_x","_law_f","_law_params","_law_body_here"] (aa rq) Zz ["_law_one","_law_box_here","_law_names_here"] 1 [0,1]:=mO
noncomputable def RH(p g h s:Addr)(d:Nat)(k:Int)(y:Str)(H:Hp)(a:_L.St)(b:Hp):Prop:=a=[some (.ref p),some (.ref g),some (.ref h),some (.ref s),some (.int (d:Int)),some (.int k),some (.str y),none,none,none]/\b=H
theorem yk(F:aN K "_law_statement" "_law_statement" rq f fd)(cT:Cl P w K mg base 1 fT f0 ["_law_box_here","_law_wide"] aX "_law_take")(cM:Cl P w K mg base 6 fM f3 ["_law_box_here","_law_names_here","_law_deep"] (cX 4) "_law_term")(cP:Cl P w K mg base 7 fP f4 ["_law_box_here","_law_names_here"] iZ "_law_spot"){L:Nat}(cB:Cl P w K mg base (L+9) fB f5 ["_law_box_here","_law_names_here","_law_heads","_law_spare","_law_deep"] (gN n) "_law_body")(ml:mg "len"=none)(m0:mg "tuple"=none):ai P w K mg base aD (L+10) f fd ["_law_box_here","_law_names_here","_law_heads","_law_spare","_law_deep"] (lH (n+1)):=by
 refine F.ok ie ?_ λc3 A o2 s H vs Q E U h=>?_
 ·rintro _ _ _ _ ⟨p,g,h,S,d,ys,hs,rfl,_⟩
  rfl
 obtain⟨p,g,h,S,d,ys,hs,rfl,G0,hd,b6,q⟩:=h
 refine#[_,(jd (jB 5 ie.nd (cT.e U.m (ja (pv 0) (ja jf jb)))) (jd (jB 6 ie.nd (js jr (pv 1) (cT.e U.m (ja (pv 0) (ja (jF jH Z ml Fd (ja (pv 1) jb)) jb))) (λ_ _=>Z))) (jd (za (jv ky (js jr (pv 3) jf (λ_ _=>Z)) jf) (qI (pv 3) jf zE)) (jd (jx (jE J4 (pv 5) jf (aA _)) (jg (jm (ji (ja jk (ja (pv 6) (ja (cP.e U.m (ja (pv 0) (ja (pv 1) jb))) jb)))))) jp) (jd (jx (PW.pt (qj (ze (pv 5)) (ql (ze (pv 5))))) (jg (jm (ji (ja jk (ja (cP.e U.m (ja (pv 0) (ja (pv 1) jb))) (ja (cM.e U.m (ja (pv 0) (ja (pv 1) (ja jf jb)))) jb)))))) jp) (jd (jx (PW.pt (qj (ze (pv 5)) (ql (ze (pv 5))))) (jd (za (js jr (pv 2) (cT.e U.m (ja (pv 0) (ja (jF jH Z ml Fd (ja (pv 2) jb)) jb))) (λ_ _=>Z)) (zO (n:=2) Z (jD (jy (i:=7) ie.nd Z (Or.inl Z)) (jD (jy (i:=8) ie.nd Z (Or.inl Z)) kh)))) (jg (jm (ji (ja jk (ja (pv 6) (ja (pv 7) (ja (jC jI Z m0 Ft (ja (@kJ _ _ _ _ _ _ _ (["_law_one","_law_box_here","_law_names_here"]) (1) ([0,1]) _ _ _ _ Z (zb (pv 8)) xk (λ_ _ _ _ _=>(jy (i:=0) xQ Z (Or.inl Z))) (λ_ _ _ _ _=>(@zi _)) (λ_ _ _ _ _=>(cM.e U.m (ja (pv 1) (ja (pv 2) (ja jf jb))))) (by intro _;rfl)) jb)) jb)))))))) jp) (jd (j3 (jx (PW.pt (Qt (ze (pv 5)) (JS (jE JC (pv 4) jf (aA _))))) (jd (jB 9 ie.nd (cB.e U (ja (pv 0) (ja (pv 1) (ja (pv 2) (ja (pv 3) (ja (jv ky (pv 4) jf) jb))))))) (jg (jm (ji (ja jk (ja (cM.e U.m (ja (pv 0) (ja (pv 1) (ja jf jb)))) (ja (pv 9) (ja (cB.e U (ja (pv 0) (ja (pv 1) (ja (pv 2) (ja (pv 3) (ja (jv ky (pv 4) jf) jb)))))) jb)))))))) jp)) (jd (j3 (jx (PW.pt (Qt (ze (pv 5)) (JS (jE JC (pv 4) jf (aA _))))) (jg (jm (ji (ja jk (ja (cM.e U.m (ja (pv 0) (ja (pv 1) (ja jf jb)))) (ja (cB.e U (ja (pv 0) (ja (pv 1) (ja (pv 2) (ja (pv 3) (ja (jv ky (pv 4) jf) jb)))))) jb)))))) jp)) (jd (jx (ze (pv 5)) (jg (jm (ji (ja jk (ja (cM.e U.m (ja (pv 0) (ja (pv 1) (ja jf jb)))) jb))))) jp) (jg (jm (ji (ja jk (ja (pv 6) (ja (cM.e U.m (ja (pv 0) (ja (pv 1) (ja jf jb)))) jb))))))))))))))),?_]
 have b7:=aH
 have B:=G0.B
 have b9:g≠p:=qp B G0.g
 refine af λF1 u=>#[_,Z,p,10,Z,B,Ln,Ln,λkd H1 k0 k1 B1 e1=>u _ _ ?_]
 clear u
 have G1:=G0.but B1 (ax.of_eq e1)
 have y1:=G0.y1
 have y2:=G0.y2
 refine af λF1 u=>#[_,Z,_,Z,_,Z,g,_,Z,.inl (aF.of G1.g),p,_,Z,B1,by rw[Ef];omega,by rw[Ef];omega,λd2 H2 d1 d0 B2 e2=>?_]
 rw[Ef]at d0
 have G2:=G1.but B2 (ax.of_eq e2)
 obtain⟨y,hy,a2⟩:=Ke (ys:=ys) d1 d0
 refine#[g,_,_,_,Z,Z,aF.of G2.g,a2,u _ _ ?_]
 clear u
 obtain⟨k,hk⟩:=G2.s
 have ek:fo H S=k:=((kn B1 G1.s (ax.of_eq e2)).trans (kn B G0.s (ax.of_eq e1))).symm.trans (Ju hk)
 refine af λF1 u=>#[_,Z,S,_,_,_,Z,Z,aF.of hk,Z,_,_,Z,Z,_,Z,S,_,_,0,Z,Z,hk,Z,u _ _ ?_]
 clear u
 have s0:=G2.s.ne B2
 have B3:ap (ah H2 S (.lst ([.int k].set 0 (.int (k - 1))))) p:=B2.eq (jl (ES s0))
 have s3:dm (ah H2 S (.lst ([.int k].set 0 (.int (k - 1))))) S:=#[k - 1,jc]
 have K3:aU p S H (ah H2 S (.lst ([.int k].set 0 (.int (k - 1))))):=((ax.of_eq e1).trans (ax.of_eq e2)).two.trans aU.at
 have G:=G0.but2 B3 s3 K3
 have e3:fo (ah H2 S (.lst ([.int k].set 0 (.int (k - 1))))) S=k - 1:=Ju jc
 generalize ah H2 S (.lst ([.int k].set 0 (.int (k - 1))))=H3 at B3 s3 K3 G e3
 have l0:∀(l:Lf) (M:List V) (j:Hp) (r:Addr),tJ j l M->l.Ok ys->l.Cs (hs.map λc=>(c.1,c.2.length))->lK j p g h S ys hs->aU p S H j->fo j S=k - 1->j r=none->Q (.ref r) (ah j r (.tup M)):=λl M j r hl ok cs C K4 e4 nr=>
  q r (.lf r l .nil) _ #[M,[],Z,jc,hl.mono (ae.tm (je nr)),Z] (by rw[ke C.s (je nr)];show((0+1:Nat):Int)+_<=_;omega) (by rw[ke C.s (je nr)];omega) (xz ok cs) (C.B.upd_new nr) (C.s.new nr) (K4.trans (aU.of_same (je nr)))
 refine af λF1 u=>mP λG' D=>#[_,Z,_,_,Z,Z,_,Z,D _ _ ?_]
 clear D
 refine bH (λc=>?_) (λc=>u _ _ ?_)
 ·refine#[_,Z,_,Z,_,Z,p,g,ys,Z,G.B,G.g,y1,y2,λr T j W oT B4 J=>#[dY,λt N=>?_]]
  exact l0 (.rd y r T) _ j t #[Z,W] #[hy,oT] EE (G.but B4 J) (K3.trans J.two) ((kn G.B G.s J).trans e3) N
 have wr:∀(r:Addr) (T0:Tm) (j:Hp),a9 j T0 r->cQ ys T0->ap j p->ax p H3 j->dB (cX 4) [] E0 (al (aW 0) (al (aW 1) (al (tC (.int 2)) aL))) [some (.ref p),some (.ref g),some (.ref h),some (.ref S),some (.int (d:Int)),some (.int kd),some (.str y),none,none,none] j (λv o=>3<=sizeLine/\∀t,o t=none->Q (.ref t) (ah o t (.tup [.str "write",.ref r,v]))):=λr T0 j h4 o1 B4 J=>by
  refine#[_,Z,_,Z,p,g,2,ys,Z,B4,(G.but B4 J).g,y1,y2,Ln,Ln,λX T o W dT gT R a=>#[Ln,λt N=>?_]]
  exact l0 (.wr r X T0 T) _ o t #[Z,h4.but B4 a,W] #[o1,gT,Lo] EE (G.but R (J.trans a)) (K3.trans (J.trans a).two) ((kn G.B G.s (J.trans a)).trans e3) N
 refine af λF1 u=>mP λG' D=>?_
 have Y:G' true H3:=D _ _ (eS #[_,Z,_,Z,p,g,ys,Z,G.B,G.g,y1,y2,λr T0 j h4 o1 B4 J=>wr r T0 j h4 o1 B4 J])
 refine#[_,Z,Z,_,Z,bH (λc=>Y) (λc=>#[_,Z,Z,_,Z,vY Y λc2=>D _ _ (aG c2 (u _ _ ?_))])]
 clear Y D u
 obtain⟨hv,hh,hH⟩:=G.h
 have hl:=hH.len
 have h1:=G0.h1
 have h2:=G0.h2
 have c1:∀(f':Str) (ps:List Str) (h':(f',ps.length)∈hs.map λc=>(c.1,c.2.length)) (t:Addr) (j:Hp),lK j p g h S ys hs->aU p S H j->fo j S=k - 1->j t=some (.tup (ps.map V.str))->ps.length<=6->
   dM (sW K t) 1 [some (.ref p),some (.ref g)] (a8 0) i6 (dB (cX 4) [] E0 (al (aW 1) (al (aW 2) (al (tC (.int 1)) aL)))) (λM o=>∀l,o l=none->∃p' y0,[V.ref l]=[.ref p']/\((aF K (ah o l (.lst M)) p' y0/\∀l2,ah o l (.lst M) l2=none->4<=sizeLine/\∀r,ah (ah o l (.lst M)) l2 (.tup y0) r=none->Q (.ref r) (ah (ah (ah o l (.lst M)) l2 (.tup y0)) r (.tup [.str "call",.str y,.str f',.ref l2])))∨(ar K (ah o l (.lst M)) p' y0/\4<=sizeLine/\∀r,ah o l (.lst M) r=none->Q (.ref r) (ah (ah o l (.lst M)) r (.tup [.str "call",.str y,.str f',.ref p']))))) j:=λf' ps h' t j C K4 e4 ht c4=>by
  refine zu (K:=K) (xs:=ps.map V.str) (by rw[Ef];omega) (λi M o=>∃ts:List (Addr×Tm),M=ts.map (λc=>V.ref c.1)/\ts.length=i/\(∀c∈ts,a9 o c.2 c.1/\cQ ys c.2)/\ap o p/\ax p j o) #[[],Z,Z,(λ_ h=>absurd h EL),C.B,ax.refl] (λi M o h5=>?_) ?_ ?_
  ·obtain⟨ts,rfl,e5,_,_,a⟩:=h5
   exact#[ar.of (a.tm C.B _ _ ht),by rw[Ef,e5];exact Eh _]
  ·intro i x M o hx a3
   obtain⟨ts,rfl,e5,h5,R,a⟩:=a3
   refine#[_,Z,_,Z,p,g,1,ys,Z,R,(C.but R a).g,y1,y2,Ln,Ln,λX T H6 W dT gT B6 k6=>#[ts++[(X,T)],by rw[EK];rfl,by rw[Ei,e5];rfl,λc hc=>?_,B6,a.trans k6]]
   rcases List.mem_append.mp hc with hc |hc
   ·exact#[(h5 c hc).1.but R k6,(h5 c hc).2]
   ·rw[List.mem_singleton.mp hc]
    exact#[W,gT,(by show T.depth < 6;omega)]
  ·rintro M o ⟨ts,rfl,e5,h5,R,a⟩ l nl
   refine#[l,_,Z,.inl #[aF.of jc,λl2 n0=>#[Ln,λr nr=>?_]]]
   have O:=C.but R a
   have s6:ae o (ah (ah o l (.lst (ts.map λc=>V.ref c.1))) l2 (.tup (ts.map λc=>V.ref c.1))):=(je nl).trans (je n0)
   rw[Ef]at e5
   exact l0 (.cl y f' l2 ts) _ _ r #[Z,jc,λc hc=>(h5 c hc).1.same s6] #[hy,Lo,λc hc=>(h5 c hc).2] (by show(f',ts.length)∈_;rw[e5];exact h') (O.but2 ((O.B.upd_new nl).upd_new n0) ((O.s.new nl).new n0) (aU.of_same s6)) ((K4.trans a.two).trans (aU.of_same s6)) ((ke O.s s6).trans ((kn C.B C.s a).trans e4)) nr
 refine af λF1 u=>mP λG' D=>?_
 have Y:G' true H3:=by
  refine D _ _ (eS ?_)
  clear u D
  refine af λF2 f2=>#[_,Z,_,Z,_,Z,h,_,Z,.inl (aF.of hh),p,_,Z,G.B,Lo,Lo,λd4 j d3 d5 B4 e4=>?_]
  have C:=G.but B4 (ax.of_eq e4)
  have J:ax p H3 j:=ax.of_eq e4
  have a4:=hH.mono (J.tm G.B)
  obtain⟨v,c0,a',a0,p4,t4,rfl,z1,z2⟩:=yJ a4 d3 d5
  refine#[h,_,_,_,Z,Z,aF.of (J _ _ G.hsp.2 hh),a',p4,_,Z,ar.of z1,Z,_,_,Z,_,_,Z,Z,f2 _ _ ?_]
  clear f2
  refine#[_,Z,_,Z,_,Z,t4,Z,#[_,ar.of z2],?_]
  exact c1 c0.1 c0.2 (List.mem_map.mpr #[c0,a0,Z]) t4 j C (K3.trans J.two) ((kn G.B G.s J).trans e3) z2 (G0.h3 c0 a0)
 refine#[_,Z,Z,_,Z,bH (λc=>Y) (λc=>#[_,Z,Z,_,Z,vY Y λc2=>D _ _ (aG c2 (u _ _ ?_))])]
 clear Y D u
 have l1:∀(c:(0:Int) < (d:Int)),∃d':Nat,d=d'+1:=λc=>#[d - 1,Lo]
 refine af λF1 u=>dy (RH p g h S d kd y H3) (λE6 eR f6=>?_) λσ0 H' z=>?_
 ·clear u
  refine mP λG' D=>#[_,Z,Z,_,Z,?_]
  refine bH (λc=>?_) (λc=>D _ _ (eQ (f6 _ _ #[Z,Z])))
  refine#[_,Z,_,_,Z,Z,_,Z,D _ _ ?_]
  clear D
  refine bH (λc2=>?_) (λc2=>f6 _ _ #[Z,Z])
  clear f6
  obtain⟨d',rfl⟩:=l1 (Fz c2)
  have ed:(((d'+1:Nat):Int) - 1)=((d':Nat):Int):=by omega
  refine#[_,Z,_,Z,_,Z,_,Z,_,Z,_,_,Z,Z,p,g,h,S,d',ys,hs,(by show [V.ref p,V.ref g,V.ref h,V.ref S,V.int (((d'+1:Nat):Int) - 1)]=_;rw[ed]),G,Lo,Lo,λr b bs j b1 b2 c5 b4 b5 B4 s4 J=>?_]
  have C:=G.but2 B4 s4 J
  refine#[_,Z,_,Z,p,g,2,ys,Z,C.B,C.g,y1,y2,Ln,Ln,λX T o W dT gT R a=>?_]
  have O:=C.but R a
  refine#[_,Z,_,Z,_,Z,_,Z,_,Z,_,Z,_,_,Z,Z,p,g,h,S,d',ys,hs,(by show [V.ref p,V.ref g,V.ref h,V.ref S,V.int (((d'+1:Nat):Int) - 1)]=_;rw[ed]),O,Lo,(by rw[kn C.B C.s a];exact b4),λr3 b3 b0 H6 h6 h7 a1 h8 h0 B6 s6 k6=>#[sD,λt N=>?_]]
  have G6:=O.but2 B6 s6 k6
  have tm:aj j H6:=λb' xs e=>k6.tm O.B O.s _ _ (a.tm C.B _ _ e)
  have I:aj H6 (ah H6 t (.tup [.str "if",.ref X,.ref r,.ref r3])):=ae.tm (je N)
  rw[eR]
  refine q t (.ite t X T b b3 .nil) _ #[r,r3,bs,b0,[],Z,jc,(W.mono (k6.tm O.B O.s)).mono I,I _ _ (tm _ _ b1),I _ _ h6,(b2.mono tm).mono I,h7.mono I,Z] (by have x1:=kn C.B C.s a;rw[ke G6.s (je N)];show((b.size+b3.size+0+1:Nat):Int)+_<=_;omega) (by rw[ke G6.s (je N)];exact h8) (t9 #[gT,Lo] b5 h0) (G6.B.upd_new N) (G6.s.new N) (((K3.trans J).trans (a.two.trans k6)).trans (aU.of_same (je N)))
 obtain⟨rfl,e⟩:=z
 rw[e]
 refine u _ _ ?_
 clear u
 refine af λF1 u=>dy (RH p g h S d kd y H3) (λE6 eR f6=>?_) λσ0 H' z=>?_
 ·clear u
  refine mP λG' D=>#[_,Z,Z,_,Z,?_]
  refine bH (λc=>?_) (λc=>D _ _ (eQ (f6 _ _ #[Z,Z])))
  refine#[_,Z,_,_,Z,Z,_,Z,D _ _ ?_]
  clear D
  refine bH (λc2=>?_) (λc2=>f6 _ _ #[Z,Z])
  clear f6
  obtain⟨d',rfl⟩:=l1 (Fz c2)
  have ed:(((d'+1:Nat):Int) - 1)=((d':Nat):Int):=by omega
  refine#[_,Z,_,Z,p,g,2,ys,Z,G.B,G.g,y1,y2,Ln,Ln,λX T o W dT gT R a=>?_]
  have O:=G.but R a
  refine#[_,Z,_,Z,_,Z,_,Z,_,Z,_,_,Z,Z,p,g,h,S,d',ys,hs,(by show [V.ref p,V.ref g,V.ref h,V.ref S,V.int (((d'+1:Nat):Int) - 1)]=_;rw[ed]),O,Lo,(by rw[kn G.B G.s a];omega),λr3 b3 b0 H6 h6 h7 a1 h8 h0 B6 s6 k6=>#[dY,λt N=>?_]]
  have G6:=O.but2 B6 s6 k6
  have I:aj H6 (ah H6 t (.tup [.str "while",.ref X,.ref r3])):=ae.tm (je N)
  rw[eR]
  refine q t (.loop t X T b3 .nil) _ #[r3,b0,[],Z,jc,(W.mono (k6.tm O.B O.s)).mono I,I _ _ h6,h7.mono I,Z] (by have x1:=kn G.B G.s a;rw[ke G6.s (je N)];show((b3.size+0+1:Nat):Int)+_<=_;omega) (by rw[ke G6.s (je N)];exact h8) (oG #[gT,Lo] h0) (G6.B.upd_new N) (G6.s.new N) ((K3.trans (a.two.trans k6)).trans (aU.of_same (je N)))
 obtain⟨rfl,e⟩:=z
 rw[e]
 refine u _ _ ?_
 clear u
 refine af λF1 u=>mP λG' D=>#[_,Z,Z,_,Z,D _ _ ?_]
 clear D
 refine bH (λc=>?_) (λc=>u _ _ ?_)
 ·refine#[_,Z,_,Z,p,g,2,ys,Z,G.B,G.g,y1,y2,Ln,Ln,λX T o W dT gT R a=>#[bj,λt N=>?_]]
  exact l0 (.gv X T) _ o t #[Z,W] #[gT,Lo] EE (G.but R a) (K3.trans a.two) ((kn G.B G.s a).trans e3) N
 ·refine#[_,Z,_,Z,_,Z,p,g,3,ys,Z,G.B,G.g,y1,y2,Ln,Ln,λX T o W dT gT R a=>#[dY,λt N=>?_]]
  exact l0 (.st y X T) _ o t #[Z,W] #[hy,gT,Lo] EE (G.but R a) (K3.trans a.two) ((kn G.B G.s a).trans e3) N
theorem mj:am ["_law_box_here","_law_names_here","_law_heads","_law_spare","_law_deep","_law_body_here","_law_k"] ["_law_box_here","_law_names_here","_law_heads","_law_spare","_law_deep"] (aa mX):=bJ
theorem YK(F:aN K "_law_body" "_law_body" mX f fd)(cT:Cl P w K mg base 1 fT f0 ["_law_box_here","_law_wide"] aX "_law_take"){L:Nat}(cS:Cl P w K mg base (L+8) fS f1 ["_law_box_here","_law_names_here","_law_heads","_law_spare","_law_deep"] (lH n) "_law_statement")(mr:mg "range"=none)(m2:mg "tuple"=none):ai P w K mg base aD (L+9) f fd ["_law_box_here","_law_names_here","_law_heads","_law_spare","_law_deep"] (gN n):=by
 refine F.ok mj ?_ λc0 A o1 s H v Q E hr h=>?_
 ·rintro _ _ _ _ ⟨p,g,h,S,d,ys,hs,rfl,_⟩
  rfl
 obtain⟨p,g,h,S,d,ys,hs,rfl,G,hd,h0,q⟩:=h
 refine#[_,(jd (jB 5 mj.nd (jL jb)) (jd (kO EZ Z (kP Z mr (ja (cT.e hr.m (ja (pv 0) (ja jf jb))) jb)) (jy (i:=6) mj.nd Z (Or.inl Z)) (jg (jx (jE JC (js jr (pv 3) jf (λ_ _=>Z)) jf (aA _)) (jg (jX (kU EF EQ EO jT (pv 5) (ja (cS.e hr (ja (pv 0) (ja (pv 1) (ja (pv 2) (ja (pv 3) (ja (pv 4) jb)))))) jb)))) jp))) (jg (jm (jC jI Z m2 Ft (ja (pv 5) jb)))))),?_]
 have b0:=aH
 refine#[Eu _,λl N=>?_]
 have s0:ae H (ah H l (.lst [])):=je N
 have O:lK (ah H l (.lst [])) p g h S ys hs:=G.but2 (G.B.upd_new N) (G.s.new N) (aU.of_same s0)
 have l1:ah H l (.lst []) l=some (.lst []):=jc
 have lp:l≠p:=G.B.ne N
 have D:l≠S:=λe=>by obtain⟨k,z⟩:=G.s;rw[<- e,N]at z;cases z
 have k1:aU p S H (ah H l (.lst [])):=aU.of_same s0
 have R:fo (ah H l (.lst [])) S=fo H S:=ke G.s s0
 generalize ah H l (.lst [])=H1 at O l1 k1 R
 refine#[_,Z,p,6,Z,O.B,Ln,Ln,λm H2 m0 m1 B2 e2=>#[_,Z,Lo,Lo,?_]]
 have G2:=O.but B2 (ax.of_eq e2)
 refine KZ (lo:=0) (λi σ I=>∃(o6:Option V) (v:List V) (b:Bd),σ=[some (.ref p),some (.ref g),some (.ref h),some (.ref S),some (.int (d:Int)),some (.ref l),o6]/\I l=some (.lst v)/\dt I b v/\((b.size:Int)+fo I S<=fo H S/\0<=fo I S)/\b.fit hs ys d/\v.length<=i/\ap I p/\dm I S/\aU p S H I)
  #[none,[],.nil,Z,by rw[e2 l lp];exact l1,Z,(by rw[kn O.B O.s (ax.of_eq e2),R];exact#[by show((0:Nat):Int)+_<=_;omega,h0]),YI,Eu _,B2,G2.s,k1.trans (ax.of_eq e2).two] ?_ ?_
 ·intro i σ H3 hi J
  obtain⟨o6,v,b,rfl,a,u,j,x,h1,T,C,U⟩:=J
  have G3:=G.but2 T C U
  obtain⟨kk,W⟩:=id C
  refine#[_,Z,S,_,_,_,Z,Z,aF.of W,Z,_,_,Z,Z,_,Z,?_]
  refine bH (λc=>?_) (λc=>?_)
  ·refine#[_,Z,.inl #[Z,_,aF.of a],_,Z,_,Z,_,Z,_,Z,_,Z,p,g,h,S,d,ys,hs,Z,G3,hd,(by rw[Ju W];exact Fz c),λr b4 H4 h2 h5 h3 h4 B4 s4 k4=>?_]
   have X:H4 l=some (.lst v):=k4 _ _ lp D a
   refine#[l,_,_,Z,Z,X,Lo,?_]
   have tm:aj H4 (ah H4 l (.lst (v++[.ref r]))):=λb' xs e=>by rw[jl (jQ e X (by intro z;cases z))];exact e
   have Y:aj H3 H4:=k4.tm T C
   refine#[_,_,b.app b4,Z,jc,(h2.mono tm).app ((u.mono Y).mono tm),?_,YJ x h4,by rw[Ei];show v.length+1<=i+1;omega,B4.eq (jl (ES lp)),?_,λb' o n1 n2 e=>?_]
   ·rw[jY,Xz s4 λo e=>by rw[jl (ES D)];exact e]
    obtain⟨z1,z2⟩:=j
    exact#[Lo,h3]
   ·obtain⟨z,hz⟩:=s4
    exact#[z,by rw[jl (ES D)];exact hz]
   ·rw[jl (jo e N)]
    exact k4 _ _ n1 n2 (U _ _ n1 n2 e)
  ·exact#[_,v,b,Z,a,u,j,x,Lo,T,C,U]
 ·intro σ H3 J
  obtain⟨o6,v,b,rfl,a,u,j,x,h1,T,C,U⟩:=J
  refine#[_,Z,l,v,Z,.inl #[aF.of a,λt M=>?_]]
  have hm:(m).toNat<=5:=by omega
  refine q t b v _ jc (u.mono (ae.tm (je M))) (by rw[ke C (je M)];exact j.1) (by rw[ke C (je M)];exact j.2) x (T.upd_new M) (C.new M) (U.trans (aU.of_same (je M)))
theorem ph:ai P w K mg base aD 8 f c ["_law_box_here","_law_names_here","_law_heads","_law_spare","_law_deep"] (lH 0):=by
 have n:∀v H Q E,¬lH 0 v H Q E:=λv H Q E h=>by
  obtain⟨p,g,h,S,d,y,e,_,_,b,_⟩:=h
  exact absurd b (Gy _)
 exact#[λv H Q E h=>absurd h (n v H Q E),λA o s H a u v Q E _ _ _ _ h=>absurd h (n v H Q E)]
theorem BK(F:aN K "_law_statement" "_law_statement" rq f e)(FB:aN K "_law_body" "_law_body" mX g a)(c:Cl P w K mg base 1 r k ["_law_box_here","_law_wide"] aX "_law_take")(C:Cl P w K mg base 6 s l ["_law_box_here","_law_names_here","_law_deep"] (cX 4) "_law_term")(h:Cl P w K mg base 7 t o ["_law_box_here","_law_names_here"] iZ "_law_spot")(b:aC K e ["_law_box_here","_law_names_here","_law_heads","_law_spare","_law_deep"] [])(M:mg "_law_statement"=some (.ref f))(B:aC K a ["_law_box_here","_law_names_here","_law_heads","_law_spare","_law_deep"] [])(i:mg "_law_body"=some (.ref g))(j:mg "len"=none)(m:mg "tuple"=none)(d:mg "range"=none):
  ∀n:Nat,ai P w K mg base aD (n+n+8) f e ["_law_box_here","_law_names_here","_law_heads","_law_spare","_law_deep"] (lH n)/\ai P w K mg base aD (n+n+9) g a ["_law_box_here","_law_names_here","_law_heads","_law_spare","_law_deep"] (gN n)
 |0=>#[ph,YK (L:=0) FB c #[ph,b,F.kp,M] d m]
 |n+1=>by
  have I:=BK F FB c C h b M B i j m d n
  have E:n+n+10=n+1+(n+1)+8:=by omega
  have p:n+n+2+9=n+1+(n+1)+9:=by omega
  have H:=yk (L:=n+n) F c C h #[I.2,B,FB.kp,i] j m
  have q:=YK (L:=n+n+2) FB c #[H,b,F.kp,M] d m
  rw[<- E,<- p]
  exact#[H,q]
theorem AQ{x:List V}(h:k<=x.length):aV x none (some (k:Int))=x.take k:=by
 unfold aV
 rw[HT.sIx_nat,HT.sIx_none]
 have e:min k x.length=k:=by omega
 rw[e]
 simp
noncomputable abbrev yK:Stmt:=bL 55
theorem tW(h:0<=d)(H:d < 4):∃D:Nat,dC [V.int 3,.int 3,.int 3,.int 5] d=some (.int (D:Int))/\D < 6/\DO D<=111111/\D<=5:=by
 rcases(by omega:d=0∨d=1∨d=2∨d=3) with rfl |rfl |rfl |rfl
 ·exact#[3,Z,Ln,Ln,Ln]
 ·exact#[3,Z,Ln,Ln,Ln]
 ·exact#[3,Z,Ln,Ln,Ln]
 ·exact#[5,Z,Ln,Ln,Ln]
theorem oB{ys:List Str}{k:Int}(h:ys.length=20)(H:14<=k)(a:k<=20):1<=(ba ys (some 8) (some k)).length/\(ba ys (some 8) (some k)).length<=20:=by
 refine#[?_,by have:=qv ys (some 8) (some k);omega]
 have e:(8:Int)=((8:Nat):Int):=rfl
 have E:k=((k.toNat:Nat):Int):=by omega
 unfold ba
 rw[e,E,HT.sIx_nat,HT.sIx_nat,ED,Ga]
 omega
theorem tU{ss:List Str}(h:0<=k):(ba ss none (some k)).length<=k.toNat:=by
 have e:k=((k.toNat:Nat):Int):=by omega
 unfold ba
 rw[e,HT.sIx_nat,HT.sIx_none,ED]
 omega
theorem eZ{t u:TS}(h:∀E:bn,(∀a b,u D a b->E.nx a b)->t E c H):dJ t u D c H:=h { D with nx:=u D } λ_ _ h=>h
noncomputable def Aw(h:List (Str×List Str)):Prop:=∀c∈h,c.1.length<=20/\c.2.length<=6
noncomputable def DQ(H:Hp)(D:List Df):Prop:=∀d∈D,∃p:List Str,H d.pa=some (.tup (p.map V.str))/\p.length<=100
theorem Ji{a:Type}{P:a->Prop}{X:List a}{x:a}(h:∀c∈X,P c)(H:P x):∀c∈X++[x],P c:=λc b=>by
 rcases List.mem_append.mp b with h1 |h1
 ·exact h c h1
 ·rw[List.mem_singleton.mp h1];exact H
noncomputable def lg(H:Hp)(D:List Df)(N:List Nat):Prop:=D.length=N.length/\∀(i:Nat) (d:Df) (n:Nat),D[i]?=some d->N[i]?=some n->∃p:List Str,H d.pa=some (.tup (p.map V.str))/\p.length=n/\n<=100
theorem lg.mono(h:lg H D N)(k:aj H a):lg a D N:=#[h.1,λi d n b c=>let #[p,e,l]:=h.2 i d n b c;#[p,k _ _ e,l]]
theorem lg.snoc{d:Df}{p:List Str}(h:lg H D N)(e:H d.pa=some (.tup (p.map V.str)))(l:p.length<=100):lg H (D++[d]) (N++[p.length]):=by
 refine#[by rw[Ei,Ei,h.1];rfl,λi c n a b=>?_]
 by_cases f:i < D.length
 ·rw[Gg f]at a
  rw[Gg (by rw[<- h.1];exact f)]at b
  exact h.2 i c n a b
 ·have g:i < (D++[d]).length:=(List.getElem?_eq_some_iff.mp a).1
  rw[Ei]at g
  have E:i=D.length:=by have:i < D.length+1:=g;omega
  subst E
  rw[Gb (Eh _),HN]at a
  rw[h.1,Gb (Eh _),HN]at b
  cases a
  cases b
  exact#[p,e,Z,l]
theorem lg.v(h:lg H D n):DQ H D:=λd b=>by
 obtain⟨i,a,e⟩:=List.mem_iff_getElem.mp b
 have c:D[i]?=some d:=by rw[<- e];exact Ed a
 obtain⟨p,e,l,k⟩:=h.2 i d _ c (Ed (by rw[<- h.1];exact a))
 exact#[p,e,Lo]
noncomputable def nY(D:List Df)(n:List Nat):Prop:=(∀d∈D,lO d/\d.b.Cs ((D.map Df.f).zip n))/\(D.map Df.f).Nodup/\∀y∈D.map Df.f,y.length<=20
noncomputable def sd:Sp:=λv H Q _=>∃(p:Addr) (T R:Int),v=[.ref p,.int T,.int R]/\ap H p/\1<=T/\T<=8/\0<=R/\R<=40/\
 ∀(r:Addr) (d:List Df) (x:List V) (h:Hp),h r=some (.tup x)->cf h d x->(d.length:Int)=T->∀n:List Nat,nY d n->lg h d n->ap h p->ax p H h->Q (.ref r) h
theorem cp:am ["_law_box_here","_law_total","_law_room","_law_words","_law_most","_law_heads","_law_k","_law_turn","_law_row","_law_some","_law_deep","_law_defs","_law_f","_law_params","_law_spare","_law_body_here"] ["_law_box_here","_law_total","_law_room"] (aa yK):=bJ
inductive AJ(p wl:Addr)(T rm:Int)(H:Hp)(σ':_L.St)(H':Hp):Prop
 |mk (ys':List Str) (e0:σ'=[some (.ref p),some (.int T),some (.int rm),some (.ref wl),none,none,none,none,none,none,none,none,none,none,none,none]) (e1:H' wl=some (.lst (ys'.map V.str))) (e2:ys'.length=20) (e3:(∀y∈ys',y.length<=20)/\(ys'.take 8).Nodup) (e4:ap H' p) (e5:ax p H H'):AJ p wl T rm H σ' H'
inductive AI(p wl hl:Addr)(T rm m:Int)(ys:List Str)(H:Hp)(i:Nat)(σ:_L.St)(H':Hp):Prop
 |mk (o6 o7 o8:Option V) (hs:List (Str×List Str)) (hv:List V) (e0:σ=[some (.ref p),some (.int T),some (.int rm),some (.ref wl),some (.int m),some (.ref hl),o6,o7,o8,none,none,none,none,none,none,none]) (e1:H' hl=some (.lst hv)) (e2:dD H' hs hv) (e3:hs.length=i) (e4:Aw hs/\hs.map (·.1)=ys.take i) (e5:H' wl=some (.lst (ys.map V.str))) (e6:ap H' p) (e7:ax p H H'):AI p wl hl T rm m ys H i σ H'
inductive AK(p wl hl sm dl:Addr)(T rm m:Int)(dp:Nat)(zs:List Str)(hs:List (Str×List Str))(hv:List V)(H:Hp)(i:Nat)(σ:_L.St)(H':Hp):Prop
 |mk (o6 o7 o8 o12 o13 o14 o15:Option V) (ds:List Df) (dv:List V) (e0:σ=[some (.ref p),some (.int T),some (.int rm),some (.ref wl),some (.int m),some (.ref hl),o6,o7,o8,some (.ref sm),some (.int (dp:Int)),some (.ref dl),o12,o13,o14,o15]) (e1:H' dl=some (.lst dv)) (e2:cf H' ds dv) (e3:ds.length=i) (e4:(∀d∈ds,lO d/\d.b.Cs (hs.map λc=>(c.1,c.2.length)))/\ds.map Df.f=(hs.map (·.1)).take i) (e5:H' hl=some (.lst hv)) (e6:dD H' hs hv) (e7:H' sm=some (.lst (zs.map V.str))) (e8:ap H' p) (e9:ax p H H') (e10:lg H' ds ((hs.map λc=>c.2.length).take i)):AK p wl hl sm dl T rm m dp zs hs hv H i σ H'
inductive AL(hs:List (Str×List Str))(zs:List Str)(p wl hl sm dl t0 sp:Addr)(T rm m:Int)(dp:Nat)(o7 o8:Option V)(c:Str×List Str)(H9:Hp)(j:Nat)(σ:_L.St)(H':Hp):Prop
 |mk (o6':Option V) (bb:Addr) (Bb:Bd) (bs:List V) (e0:σ=[some (.ref p),some (.int T),some (.int rm),some (.ref wl),some (.int m),some (.ref hl),o6',o7,o8,some (.ref sm),some (.int (dp:Int)),some (.ref dl),some (.str c.1),some (.ref t0),some (.ref sp),some (.ref bb)]) (e1:H' bb=some (.tup bs)) (e2:dt H' Bb bs) (e3:(Bb.size:Int)+fo H' sp<=rm/\0<=fo H' sp) (e4:Bb.fit hs zs dp) (e5:ap H' p) (e6:dm H' sp) (e7:aU p sp H9 H'):AL hs zs p wl hl sm dl t0 sp T rm m dp o7 o8 c H9 j σ H'
theorem xX(F:aN K "_law_any" "_law_any" yK f fd)(cT:Cl P w K mg base 1 fT l5 ["_law_box_here","_law_wide"] aX "_law_take")(cA:Cl P w K mg base 2 fA l6 ["_law_box_here","_law_total"] gp "_law_names")(cB:Cl P w K mg base 21 fB l8 ["_law_box_here","_law_names_here","_law_heads","_law_spare","_law_deep"] (gN 6) "_law_body")(ml:mg "len"=none)(mr:mg "range"=none)(m0:mg "tuple"=none)(mi:mg "int"=none):ai P w K mg base aD 22 f fd ["_law_box_here","_law_total","_law_room"] sd:=by
 refine F.ok cp ?_ λl' A o5 s H vs Q E hr h=>?_
 ·rintro _ _ _ _ ⟨p,T,Y,rfl,_⟩
  rfl
 obtain⟨p,T,Y,rfl,B,m',o',f9,p1,q⟩:=h
 refine#[_,(jd (jB 3 cp.nd (cA.e hr.m (ja (pv 0) (ja jf jb)))) (jd (j3 (jx (ze (cT.e hr.m (ja (pv 0) (ja jf jb)))) (jg (za (jO kI (pv 3) j5 (jK jf)) (@pP _ _ _ _ _ _ _ _ _ (pv 3) jf jf (by intro _;rfl)))) jp)) (jd (jB 4 cp.nd (js jr (jL (ja jf (ja jf jb))) (jC kQ Z mi HL (ja (j4 zw (cT.e hr.m (ja (pv 0) (ja jf jb))) jf (aA _)) jb)) (λ_ _=>Z))) (jd (jB 5 cp.nd (jL jb)) (jd (kO EZ Z (kP Z mr (ja (pv 1) jb)) (jy (i:=6) cp.nd Z (Or.inl Z)) (jd (jB 7 cp.nd (jv jW jf (cT.e hr.m (ja (pv 0) (ja jf jb))))) (jd (jB 8 cp.nd (jv qL (jO kI (pv 3) (jK (pv 7)) (jK jf)) (jO kI (pv 3) (jK jf) (jK (pv 7))))) (jg (jX (kU EF EQ EO jT (pv 5) (ja (ji (ja (js jr (pv 3) (pv 6) (λ_ _=>Z)) (ja (jC jI Z m0 Ft (ja (jO kI (pv 8) j5 (jK (cT.e hr.m (ja (pv 0) (ja (pv 4) jb))))) jb)) jb))) jb))))))) (jd (jB 9 cp.nd (jO kI (pv 3) (jK jf) (jK (jv jW jf (cT.e hr.m (ja (pv 0) (ja jf jb))))))) (jd (jB 10 cp.nd (js jr (jL (ja jf (ja jf (ja jf (ja jf jb))))) (cT.e hr.m (ja (pv 0) (ja jf jb))) (λ_ _=>Z))) (jd (jB 11 cp.nd (jL jb)) (jd (kO EZ Z (qW (pv 5)) (zO (n:=2) Z (jD (jy (i:=12) cp.nd Z (Or.inl Z)) (jD (jy (i:=13) cp.nd Z (Or.inl Z)) kh))) (jd (jB 14 cp.nd (jL (ja (pv 2) jb))) (jd (jB 15 cp.nd (ji jb)) (jd (kO EZ Z (kP Z mr (ja jf jb)) (jy (i:=6) cp.nd Z (Or.inl Z)) (jg (jB 15 cp.nd (jv ki (pv 15) (cB.e hr (ja (pv 0) (ja (pv 9) (ja (pv 5) (ja (pv 14) (ja (pv 10) jb)))))))))) (jg (jX (kU EF EQ EO jT (pv 11) (ja (ji (ja (pv 12) (ja (pv 13) (ja (pv 15) jb)))) jb)))))))) (jg (jm (jC jI Z m0 Ft (ja (pv 11) jb))))))))))))),?_]
 have p2:=aH
 refine eZ λE1 m1=>?_
 refine#[_,Z,p,20,Z,B,Ln,Ln,λW ys H1 c5 f' c6 C B1 k1=>?_]
 refine m1 _ _ ?_
 refine eZ λE2 m2=>?_
 have wp:W≠p:=B.ne c5
 refine dy (AJ p W T Y H) (λE0 _ fm=>?_) λσ0 H2 l=>?_
 ·clear m2
  refine mP λG' g'=>#[_,Z,p,2,Z,B1,Ln,Ln,λd1 H2 p3 p4 B2 e2=>?_]
  have h0:H2 W=some (.lst (ys.map V.str)):=by rw[e2 W wp];exact f'
  have k2:=k1.trans (ax.of_eq e2)
  refine#[Z,_,Z,g' _ _ ?_]
  clear g'
  refine bH (λc=>?_) (λc=>fm _ _ #[ys,Z,h0,Lo,#[C.1,C.2.sublist (Gn _ _)],B2,k2])
  refine#[_,Z,_,Z,W,_,Z,aF.of h0,λsl n0=>?_]
  have g0:W≠sl:=λe=>by rw[<- e,h0]at n0;cases n0
  have p5:=B2.ne n0
  refine#[_,Z,W,sl,_,_,_,_,Z,Z,Z,Z,aq h0 n0,jc,g0,Ln,Ln,by rw[Ef];omega,?_,?_]
  ·have:=zg (ys.map V.str) none (some 2)
   rw[Ef]at this ⊢
   omega
  have e2:aV (ys.map V.str) none (some 2)=(ys.take 2).map V.str:=by
   rw[show(2:Int)=((2:Nat):Int) from Z,AQ (by rw[Ef];omega),Hy]
  refine fm _ _ #[ys.take 8++ys.take 2++ys.drop 10,Z,?_,?_,?_,(B2.upd_new n0).eq (jl (ES wp)),?_]
  ·rw[jc,e2,EK,EK,Hy,List.map_drop,Hy]
   rfl
  ·rw[Ei,Ei,ED,ED,Ga]
   omega
  ·refine#[λy hy=>?_,?_]
   ·rcases List.mem_append.mp hy with h |h
    ·rcases List.mem_append.mp h with h |h
     ·exact C.1 y (Fe h)
     ·exact C.1 y (Fe h)
    ·exact C.1 y (List.mem_of_mem_drop h)
   ·rw[List.append_assoc,List.take_append_of_le_length (by rw[ED];omega),List.take_take]
    exact C.2.sublist (Gn _ _)
  ·exact(k2.upd_new n0).upd_own c5
 obtain⟨ys,rfl,h0,c6,C,B2,k2⟩:=l
 refine m2 _ _ ?_
 clear m1 m2
 refine eZ λE3 m3=>?_
 refine#[bj,λl1 n'=>?_]
 refine#[_,Z,p,3,Z,B2.upd_new n',Ln,Ln,λd2 H3 p6 p9 B3 e3=>?_]
 have k3:ax p H2 H3:=((ax.refl).upd_new n').trans (ax.of_eq e3)
 have l0:=B2.ne n'
 have g1:H3 l1=some (.lst [.int 4,.int 7]):=by rw[e3 l1 l0];exact jc
 refine#[Z,.inr #[_,Z,?_]]
 have a':∀c:Bool,∃m:Int,dC [V.int 4,V.int 7] (if c then 1 else 0)=some (.int m)/\4<=m/\m<=7:=λc=>by
  cases c
  ·exact#[4,Z,Ln,Ln]
  ·exact#[7,Z,Ln,Ln]
 obtain⟨m,hm,m4,m7⟩:=a' _
 refine#[l1,_,_,_,Z,Z,aF.of g1,hm,?_]
 refine m3 _ _ ?_
 refine eZ λE4 m4=>?_
 have c9:H3 W=some (.lst (ys.map V.str)):=k3 _ _ wp h0
 have k0:=k2.trans k3
 refine#[Eu _,λhl n1=>?_]
 refine m4 _ _ ?_
 refine eZ λE5 m5=>?_
 have h4:=B3.ne n1
 have n5:H hl=none:=by
  cases z:H hl with
  |none=>rfl
  |some o=>have:=k0 _ _ h4 z;rw[n1]at this;cases this
 have wh:W≠hl:=λe=>by rw[<- e,c9]at n1;cases n1
 refine eO λJ j=>#[_,Z,T,Z,Lo,Lo,j _ _ ?_]
 clear j
 refine zL (lo:=0) (AI p W hl T Y m ys H)
  #[none,none,none,[],[],Z,jc,Z,Z,#[(λc hc=>nomatch hc),Z],aq c9 n1,B3.upd_new n1,k0.upd_own n5] ?_ ?_
 ·intro D' _ i σ H4 hi f0 Gq u l
  obtain⟨o6,o7,o8,hs,hv,rfl,b1,h6,c',h7,b2,B4,k4⟩:=l
  refine u ?_
  clear u m5 m3 m4
  show dJ (dA _ _) _ D' _ _
  refine eZ λF1 f1=>?_
  refine#[_,Z,p,6,Z,B4,Ln,Ln,λD H5 g2 g4 B5 e5=>?_]
  have k5:ax p H4 H5:=ax.of_eq e5
  have h8:=k5 _ _ wp b2
  have b3:=k5 _ _ h4 b1
  have b4:=h6.mono (k5.tm B4)
  refine#[_,_,Z,Z,?_]
  refine f1 _ _ ?_
  show dJ (dA _ _) _ D' _ _
  refine eZ λF2 f2=>?_
  refine#[_,Z,_,Z,_,Z,_,Z,W,_,Z,aF.of h8,λs1 b5=>?_]
  refine#[_,Z,_,Z,_,Z,_,Z,W,_,Z,aF.of (aq h8 b5),λs2 b6=>?_]
  have L1:=qv ys (some (8+D)) (some 14)
  have L0:=qv ys (some 8) (some (8+D))
  have L3:=zg (ys.map V.str) (some (8+D)) (some 14)
  have L4:=zg (ys.map V.str) (some 8) (some (8+D))
  rw[Ef]at L3 L4
  refine#[s1,s2,_,_,Z,Z,aq jc b6,jc,Lo,λrl d4=>?_]
  refine f2 _ _ ?_
  have er:aV (ys.map V.str) (some (8+D)) (some 14)++aV (ys.map V.str) (some 8) (some (8+D))=(ba ys (some (8+D)) (some 14)++ba ys (some 8) (some (8+D))).map V.str:=by
   rw[zF,zF,EK]
  have s6:ae H5 (ah (ah (ah H5 s1 (.lst (aV (ys.map V.str) (some (8+D)) (some 14)))) s2 (.lst (aV (ys.map V.str) (some 8) (some (8+D))))) rl (.lst (aV (ys.map V.str) (some (8+D)) (some 14)++aV (ys.map V.str) (some 8) (some (8+D))))):=((je b5).trans (je b6)).trans (je d4)
  have r6:ah (ah (ah H5 s1 (.lst (aV (ys.map V.str) (some (8+D)) (some 14)))) s2 (.lst (aV (ys.map V.str) (some 8) (some (8+D))))) rl (.lst (aV (ys.map V.str) (some (8+D)) (some 14)++aV (ys.map V.str) (some 8) (some (8+D)))) rl=some (.lst ((ba ys (some (8+D)) (some 14)++ba ys (some 8) (some (8+D))).map V.str)):=by rw[jc,er]
  have B6:ap (ah (ah (ah H5 s1 (.lst (aV (ys.map V.str) (some (8+D)) (some 14)))) s2 (.lst (aV (ys.map V.str) (some 8) (some (8+D))))) rl (.lst (aV (ys.map V.str) (some (8+D)) (some 14)++aV (ys.map V.str) (some 8) (some (8+D))))) p:=((B5.upd_new b5).upd_new b6).upd_new d4
  generalize ah (ah (ah H5 s1 (.lst (aV (ys.map V.str) (some (8+D)) (some 14)))) s2 (.lst (aV (ys.map V.str) (some 8) (some (8+D))))) rl (.lst (aV (ys.map V.str) (some (8+D)) (some 14)++aV (ys.map V.str) (some 8) (some (8+D))))=H6 at s6 r6 B6
  have LR:(ba ys (some (8+D)) (some 14)++ba ys (some 8) (some (8+D))).length<=40:=by rw[Ei];omega
  generalize ba ys (some (8+D)) (some 14)++ba ys (some 8) (some (8+D))=r0 at r6 LR
  have d6:=s6 _ _ h8
  have h':=s6 _ _ b3
  have ei:(0:Int)+(i:Int)=(i:Int):=Int.zero_add _
  rw[ei]
  obtain⟨y,b7⟩:∃y,ys[i]?=some y:=#[_,Ed (by omega:i < ys.length)]
  have hy:=EA b7
  have a':dC (ys.map V.str) (i:Int)=some (.str y):=ju (by rw[Eo,b7];rfl)
  have rp:rl≠p:=qp B6 r6
  refine#[_,Z,.inl #[Z,_,aF.of h'],_,Z,_,Z,W,_,_,_,Z,Z,aF.of d6,a',_,Z,_,Z,_,Z,p,m,Z,B6,Lo,Lo,λd7 H7 d0 d8 B7 e7=>?_]
  have k7:ax p H6 H7:=ax.of_eq e7
  refine#[_,Z,rl,_,Z,aF.of (k7 _ _ rp r6),λs3 d'=>?_]
  refine#[s3,_,Z,.inl #[aF.of jc,λt nt=>#[bj,λr nr=>?_]]]
  rw[zF]at nt nr ⊢
  have L8:=tU (ss:=r0) d0
  generalize ba r0 none (some d7)=ps at*
  have s8:ae H7 (ah (ah (ah H7 s3 (.lst (ps.map V.str))) t (.tup (ps.map V.str))) r (.tup [.str y,.ref t])):=((je d').trans (je nt)).trans (je nr)
  have t8:ah (ah (ah H7 s3 (.lst (ps.map V.str))) t (.tup (ps.map V.str))) r (.tup [.str y,.ref t]) t=some (.tup (ps.map V.str)):=aq jc nr
  have r8:ah (ah (ah H7 s3 (.lst (ps.map V.str))) t (.tup (ps.map V.str))) r (.tup [.str y,.ref t]) r=some (.tup [.str y,.ref t]):=jc
  have B8:ap (ah (ah (ah H7 s3 (.lst (ps.map V.str))) t (.tup (ps.map V.str))) r (.tup [.str y,.ref t])) p:=((B7.upd_new d').upd_new nt).upd_new nr
  generalize ah (ah (ah H7 s3 (.lst (ps.map V.str))) t (.tup (ps.map V.str))) r (.tup [.str y,.ref t])=R at s8 t8 r8 B8
  have e0:=s8 _ _ (k7 _ _ h4 h')
  have g5:=s8 _ _ (k7 _ _ wp d6)
  have h5:=h6.len
  refine#[hl,_,_,Z,Z,e0,Lo,?_]
  have tm:aj R (ah R hl (.lst (hv++[.ref r]))):=λb xs e=>by rw[jl (jQ e e0 (by intro z;cases z))];exact e
  have g6:=((b4.mono (ae.tm s6)).mono (k7.tm B6)).mono (ae.tm s8)
  refine f0 _ _ #[_,_,_,hs++[(y,ps)],_,Z,jc,(g6.mono tm).snoc #[r,t,Z,tm _ _ r8,tm _ _ t8],by rw[Ei,c'];rfl,#[Ji h7.1 #[C.1 y hy,by show ps.length<=6;omega],by rw[EK,h7.2,GJ,b7];rfl],by rw[jl wh];exact g5,B8.eq (jl (ES h4)),?_]
  refine ax.upd_own (λb o n e=>?_) n5
  exact s8 _ _ (k7 _ _ n (s6 _ _ (k5 _ _ n (k4 _ _ n e))))
 intro σ H4 l
 obtain⟨o6,o7,o8,hs,hv,rfl,b1,h6,c',⟨h7,e4⟩,b2,B4,k4⟩:=l
 refine m5 _ _ ?_
 refine eZ λE6 m6=>?_
 refine#[_,Z,_,Z,_,Z,p,7,Z,B4,Ln,Ln,λD H5 g2 g4 B5 e5=>?_]
 have k5:ax p H4 H5:=ax.of_eq e5
 have h8:=k5 _ _ wp b2
 have b3:=k5 _ _ h4 b1
 have b4:=h6.mono (k5.tm B4)
 refine#[_,_,Z,Z,_,Z,W,_,Z,aF.of h8,λsm n3=>?_]
 refine m6 _ _ ?_
 refine eZ λE7 m7=>?_
 obtain⟨z1,z2⟩:=oB (ys:=ys) (k:=14+D) c6 Lo Lo
 have m6:ah H5 sm (.lst (aV (ys.map V.str) (some 8) (some (14+D)))) sm=some (.lst ((ba ys (some 8) (some (14+D))).map V.str)):=by rw[jc,zF]
 have k6:ax p H (ah H5 sm (.lst (aV (ys.map V.str) (some 8) (some (14+D))))):=(k4.trans k5).upd_new n3
 have h':=aq (o:=.lst (aV (ys.map V.str) (some 8) (some (14+D)))) b3 n3
 have e6:=b4.mono (ae.tm (je (o:=.lst (aV (ys.map V.str) (some 8) (some (14+D)))) n3))
 have B6:=B5.upd_new (o:=.lst (aV (ys.map V.str) (some 8) (some (14+D)))) n3
 generalize ah H5 sm (.lst (aV (ys.map V.str) (some 8) (some (14+D))))=H6 at m6 k6 h' e6 B6
 generalize ba ys (some 8) (some (14+D))=zs at m6 z1 z2
 have s':=qp B6 m6
 refine#[sD,λl2 b'=>?_]
 refine#[_,Z,p,4,Z,B6.upd_new b',Ln,Ln,λd7 H7 d0 d8 B7 e7=>?_]
 have k7:ax p H6 H7:=((ax.refl).upd_new b').trans (ax.of_eq e7)
 have l3:=B6.ne b'
 have g7:H7 l2=some (.lst [.int 3,.int 3,.int 3,.int 5]):=by rw[e7 l2 l3];exact jc
 obtain⟨dp,g8,i0,p',q1⟩:=tW d0 d8
 refine#[l2,_,_,_,Z,Z,aF.of g7,g8,?_]
 refine m7 _ _ ?_
 refine eZ λE8 m8=>?_
 have m7:=k7 _ _ s' m6
 have c0:=k7 _ _ h4 h'
 have i1:=e6.mono (k7.tm B6)
 have k9:=k6.trans k7
 refine#[Eu _,λdl N=>?_]
 refine m8 _ _ ?_
 refine eZ λE9 m9=>?_
 have d3:=B7.ne N
 have n7:H dl=none:=by
  cases z:H dl with
  |none=>rfl
  |some o=>have:=k9 _ _ d3 z;rw[N]at this;cases this
 have e8:hl≠dl:=λe=>by rw[<- e,c0]at N;cases N
 have s5:sm≠dl:=λe=>by rw[<- e,m7]at N;cases N
 have q2:=h6.len
 refine eO λJ j=>#[_,Z,hl,Z,#[_,aF.of (aq c0 N)],j _ _ ?_]
 clear j
 refine Qk (K:=K) (a:=hl) (xs:=hv) (AK p W hl sm dl T Y m dp zs hs hv H)
  #[_,_,_,_,_,_,_,[],[],Z,jc,Z,Z,#[(λc hc=>nomatch hc),Z],aq c0 N,i1.mono (ae.tm (je N)),aq m7 N,B7.upd_new N,k9.upd_own n7,#[Z,(λi d n h=>nomatch h)]] ?_ ?_ ?_
 ·intro i σ R _ l
  obtain⟨o6,o7,o8,o1,o2,o3,o4,ds,dv,rfl,h5,hD,a0,x,hh,hd,c1,B8,k8,p0⟩:=l
  exact aF.of hh
 ·intro D' _ i v σ R hx f0 Gq u l
  obtain⟨o6,o7,o8,o1,o2,o3,o4,ds,dv,rfl,h5,hD,a0,x,hh,hd,c1,B8,k8,p0⟩:=l
  have q3:i < hv.length:=(List.getElem?_eq_some_iff.mp hx).1
  obtain⟨c,hc,q0,t0,rfl,w1,w2⟩:=hd.at i v hx
  refine u ?_
  clear u m9
  have i2:=EA hc
  have e':=h7 c i2
  refine D5 λF6 f6=>#[q0,_,Z,ar.of w1,Z,_,_,Z,_,_,Z,Z,f6 _ _ ?_]
  clear f6
  show dJ (dA _ _) _ D' _ _
  refine eZ λF1 f1=>?_
  refine#[_,Z,mM,λM n2=>?_]
  refine f1 _ _ ?_
  show dJ (dA _ _) _ D' _ _
  refine eZ λF2 f2=>?_
  refine#[nV,λb0 n4=>?_]
  refine f2 _ _ ?_
  show dJ (Ac _ _ _) _ D' _ _
  refine eZ λF3 f3=>?_
  have s9:ae R (ah (ah R M (.lst [.int Y])) b0 (.tup [])):=(je n2).trans (je n4)
  have s4:dm (ah (ah R M (.lst [.int Y])) b0 (.tup [])) M:=#[Y,aq jc n4]
  have b9:ah (ah R M (.lst [.int Y])) b0 (.tup []) b0=some (.tup []):=jc
  have B9:ap (ah (ah R M (.lst [.int Y])) b0 (.tup [])) p:=(B8.upd_new n2).upd_new n4
  have e9:fo (ah (ah R M (.lst [.int Y])) b0 (.tup [])) M=Y:=Ju (aq jc n4)
  generalize ah (ah R M (.lst [.int Y])) b0 (.tup [])=H9 at s9 s4 b9 B9 e9
  have f4:H M=none:=by
   cases z:H M with
   |none=>rfl
   |some o=>have:=k8 _ _ (B8.ne n2) z;rw[n2]at this;cases this
  have i3:dl≠M:=λe=>by rw[<- e,h5]at n2;cases n2
  have G9:lK H9 p sm hl M zs hs:=#[B9,s9 _ _ c1,z1,z2,#[hv,s9 _ _ hh,hd.mono (ae.tm s9)],Lo,Lo,λc hc=>(h7 c hc).2,s4]
  refine eO λJ j=>#[_,Z,Ln,Ln,j _ _ ?_]
  clear j
  refine zL (lo:=0) (AL hs zs p W hl sm dl t0 M T Y m dp o7 o8 c H9)
   #[_,b0,.nil,[],Z,b9,Z,(by rw[e9];exact#[by show((0:Nat):Int)+_<=_;omega,f9]),YI,B9,s4,aU.refl] ?_ ?_
  ·intro q4 _ j σ G hj fin2 Gq u l
   obtain⟨o9,bb,Bb,bs,rfl,c2,a1,a2,I,B',U,L⟩:=l
   refine u ?_
   clear u f1 f2 f3
   have G0:=G9.but2 B' U L
   refine#[_,Z,_,Z,_,Z,_,Z,_,Z,_,Z,p,sm,hl,M,dp,zs,hs,Z,G0,i0,a2.2,λr b q5 H0 X a4 i4 c3 c4 a3 S k'=>?_]
   have tm:=k'.tm B' U
   have lb:=a1.len
   have q6:=a4.len
   obtain⟨j0,j1⟩:=a2
   refine#[bb,r,_,_,Z,Z,tm _ _ c2,X,Lo,λr2 H' f5 s0=>?_]
   have j2:ap H' p:=by
    obtain⟨a,b,h1,h2,h3,h⟩:=a3.ob
    exact#[a,b,h1,h2,h3,s0 _ _ h]
   have s7:dm H' M:=by
    obtain⟨z,hz⟩:=S
    exact#[z,s0 _ _ hz]
   refine fin2 _ _ #[_,r2,Bb.app b,_,Z,f5,(a4.mono (ae.tm s0)).app ((a1.mono tm).mono (ae.tm s0)),?_,YJ I c4,j2,s7,L.trans (k'.trans (aU.of_same s0))]
   rw[jY,ke S s0]
   exact#[Lo,c3]
  ·intro σ G l
   obtain⟨o9,bb,Bb,bs,rfl,c2,a1,a2,I,B',U,L⟩:=l
   refine f3 _ _ ?_
   have O:G dl=some (.lst dv):=L _ _ d3 i3 (s9 _ _ h5)
   have G0:=G9.but2 B' U L
   have t3:aj R G:=λb xs e=>L.tm B9 s4 _ _ (s9 _ _ e)
   refine#[_,Z,.inl #[Z,_,aF.of O],_,Z,_,Z,_,Z,dY,λr nr=>?_]
   have S:ae G (ah G r (.tup [.str c.1,.ref t0,.ref bb])):=je nr
   have l4:=hD.len
   have f7:Bb.size<=40:=by obtain⟨j0,j1⟩:=a2;omega
   refine#[dl,_,_,Z,Z,S _ _ O,Lo,?_]
   have X:ah G r (.tup [.str c.1,.ref t0,.ref bb]) r=some (.tup [.str c.1,.ref t0,.ref bb]):=jc
   have a3:=B'.upd_new (o:=.tup [.str c.1,.ref t0,.ref bb]) nr
   generalize ah G r (.tup [.str c.1,.ref t0,.ref bb])=H0 at S X a3
   have tm:aj H0 (ah H0 dl (.lst (dv++[.ref r]))):=λb xs e=>by rw[jl (jQ e (S _ _ O) (by intro z;cases z))];exact e
   have t2:aj G (ah H0 dl (.lst (dv++[.ref r]))):=λb xs e=>tm _ _ (S _ _ e)
   have t1:aj R (ah H0 dl (.lst (dv++[.ref r]))):=λb xs e=>t2 _ _ (t3 _ _ e)
   refine f0 _ _ #[_,_,_,_,_,_,_,ds++[#[c.1,r,t0,bb,Bb]],_,Z,jc,(hD.mono t1).snoc #[bs,Z,tm _ _ X,t2 _ _ c2,a1.mono t2],by rw[Ei,a0];rfl,#[Ji x.1 #[#[#[zs,z2,I.1.1],FR I.2 Lo,Es f7 Ln],I.1.2],by rw[EK,x.2,GJ,Eo,hc];rfl],?_,hd.mono t1,?_,a3.eq (jl (ES d3)),?_,(by rw[GJ,Eo,hc];exact(p0.mono t1).snoc (d:=#[c.1,r,t0,bb,Bb]) (t1 _ _ w2) (Es e'.2 Ln))]
   ·obtain⟨q7,e1,e2⟩:=G0.h
    rw[jl e8]
    exact S _ _ (L _ _ G9.hsp.2 G9.hsp.1 (s9 _ _ hh))
   ·rw[jl s5]
    exact S _ _ G0.g
   ·refine ax.upd_own (λb o n e=>?_) n7
    exact S _ _ (L _ _ n (jo e f4) (s9 _ _ (k8 _ _ n e)))
 ·intro σ R l
  obtain⟨o6,o7,o8,o1,o2,o3,o4,ds,dv,rfl,h5,hD,a0,x,hh,hd,c1,B8,k8,p0⟩:=l
  refine m9 _ _ ?_
  refine#[_,Z,dl,dv,Z,.inl #[aF.of h5,λt nt=>?_]]
  have nn:(ds.map Df.f).Nodup:=by
   rw[x.2,e4]
   refine List.Nodup.sublist (Gn _ _) ?_
   have e:∀m,m<=8->ys.take m=(ys.take 8).take m:=λm hm=>by rw[List.take_take,GX hm]
   rw[e _ Lo]
   exact C.2.sublist (Gn _ _)
  exact q t ds dv _ jc (hD.mono (ae.tm (je nt))) Lo (hs.map λc=>c.2.length) #[λd hd=>#[(x.1 d hd).1,by have e:=x.2;rw[FY (by rw[Ef];omega)]at e;rw[e];have z:=(x.1 d hd).2;rw[show(hs.map λc=>(c.1,c.2.length))=(hs.map (·.1)).zip (hs.map λc=>c.2.length) by rw[List.zip_map']]at z;exact z],nn,λy hy=>by rw[x.2,e4]at hy;exact C.1 y (Fe (Fe hy))] (by have z:=p0.mono (ae.tm (je (o:=.tup dv) nt));rw[FY (by rw[Ef];omega)]at z;exact z) (B8.upd_new nt) (k8.upd_new nt)
theorem nV:0<=sizeLine:=by decide
theorem mM:1<=sizeLine:=by decide
theorem bj:2<=sizeLine:=by decide
theorem dY:3<=sizeLine:=by decide
theorem sD:4<=sizeLine:=by decide
theorem aj.trans(a:aj H h)(b:aj h d):aj H d:=λc x e=>b c x (a c x e)
theorem aj.refl:aj H H:=λ_ _ e=>e
noncomputable def fj(H:Hp)(y:List Str)(k:Nat)(a:Addr):Prop:=∃T,a9 H T a/\T.Good y/\T.depth<=k
theorem fj.mono(h:fj H y k a)(m:aj H b):fj b y k a:=let #[T,c,d]:=h;#[T,c.mono m,d]
theorem fj.ok(h:fj H y k a)(m:k < 6):∃T,a9 H T a/\cQ y T:=let #[T,b,c,d]:=h;#[T,b,c,FR d m]
section
variable {Cf:gA}{H:Hp}{ys:List Str}
theorem Ag(h:H a=some (.tup [.str "num",.int n]))(b:0<=n)(c:n < 1000000000000000000):fj H ys 0 a:=#[.num n,h,#[b,c],Eu _]
theorem sM(h:H a=some (.tup [.str "var",.str x]))(b:x∈ys):fj H ys 0 a:=#[.var x,h,b,Eu _]
noncomputable def Sg(s:Str):Prop:=∃i,i < 6/\s=Dk i
theorem wO(h:H a=some (.tup [.str "op",.str s,.ref b,.ref c]))(d:Sg s)(e:fj H ys j b)(f:fj H ys k c)(q:j < n)(r:k < n):fj H ys n a:=by
 obtain⟨i,g,rfl⟩:=d
 obtain⟨B,l,m,t⟩:=e
 obtain⟨C,o,p,u⟩:=f
 exact#[.op i B C,#[b,c,h,l,o],#[g,m,p],by show max B.depth C.depth+1<=n;omega]
theorem zo:Sg "+":=#[0,Ln,Lq]
theorem Q8:Sg "-":=#[1,Ln,Lq]
theorem Q9:Sg "*":=#[2,Ln,Lq]
theorem vE:Sg "/":=#[3,Ln,Lq]
theorem QE:Sg "<":=#[4,Ln,Lq]
theorem BE:Sg "=":=#[5,Ln,Lq]
theorem uV(h:0<=d)(a:d < 4):∃s,dC [V.str "+",.str "+",.str "*",.str "-"] d=some (.str s)/\Sg s:=by
 rcases(by omega:d=0∨d=1∨d=2∨d=3) with rfl |rfl |rfl |rfl
 ·exact#[_,Z,zo]
 ·exact#[_,Z,zo]
 ·exact#[_,Z,Q9]
 ·exact#[_,Z,Q8]
theorem uU(h:0<=d)(a:d < 3):∃c,dC (Str.cps "<=*").toList d=some c/\Sg #[(List.toArray [c])]:=by
 rcases(by omega:d=0∨d=1∨d=2) with rfl |rfl |rfl
 ·exact#[_,Z,QE]
 ·exact#[_,Z,BE]
 ·exact#[_,Z,Q9]
theorem Bq{P:Addr->Prop}(e:0<=d)(f:d < 2)(h:P a)(c:P b):∃x,dC [V.ref a,.ref b] d=some (.ref x)/\P x:=by
 rcases(by omega:d=0∨d=1) with rfl |rfl
 ·exact#[_,Z,h]
 ·exact#[_,Z,c]
theorem Br{P:Addr->Prop}(g:0<=d)(i:d < 3)(h:P a)(e:P b)(f:P c):∃x,dC [V.ref a,.ref b,.ref c] d=some (.ref x)/\P x:=by
 rcases(by omega:d=0∨d=1∨d=2) with rfl |rfl |rfl
 ·exact#[_,Z,h]
 ·exact#[_,Z,e]
 ·exact#[_,Z,f]
theorem Bs{P:Addr->Prop}(h:P a)(d:P b)(c:Bool):∃x,dC [V.ref a,.ref b] (if c then 1 else 0)=some (.ref x)/\P x:=by
 cases c
 ·exact#[_,Z,h]
 ·exact#[_,Z,d]
noncomputable def cg(Cf:gA)(H:Hp)(ys:List Str)(d:Nat)(v:V):Prop:=∃s,gi H v s/\(s.Ok ys/\s.Cs Cf)/\s.dep<=d/\s.size<=1+20*d
noncomputable def fu(Cf:gA)(H:Hp)(ys:List Str)(d:Nat)(x:List V):Prop:=∃b,dt H b x/\(b.Ok ys/\b.Cs Cf)/\b.dep<=d/\b.size<=(1+20*d)*x.length
theorem cg.mono(h:cg Cf H ys d v)(m:aj H a):cg Cf a ys d v:=let #[s,b,c]:=h;#[s,b.mono m,c]
theorem fu.mono(h:fu Cf H ys d x)(m:aj H a):fu Cf a ys d x:=let #[s,b,c]:=h;#[s,b.mono m,c]
theorem cg.up(h:cg Cf H ys 0 v):cg Cf H ys d v:=let #[s,a,b,c,e]:=h;#[s,a,b,Lo,Lo]
theorem Ki:fu Cf H ys d []:=#[.nil,Z,#[EE,EE],Eu _,Eu _]
theorem Jv{xs:List V}(h:fu Cf H ys d xs)(g:fu Cf H ys d z):fu Cf H ys d (xs++z):=by
 obtain⟨a,c,A,f,i⟩:=h
 obtain⟨b,e,B,j,k⟩:=g
 refine#[a.app b,e.app c,#[Kg A.1 B.1,Kf A.2 B.2],by rw[zn];omega,?_]
 rw[jY,Ei,Nat.mul_add]
 omega
theorem zB(h:cg Cf H ys d v):fu Cf H ys d [v]:=by
 obtain⟨s,a,b,c,e⟩:=h
 exact#[s,a.bd,b,c,by show s.size<=(1+20*d)*1;omega]
theorem jU(h:cg Cf H ys d v)(g:fu Cf H ys d xs):fu Cf H ys d (v::xs):=Jv (xs:=[v]) (zB h) g
theorem QR{l:Lf}(h:H p=some (.tup v))(a:tJ H l v)(b:l.Ok ys)(c:l.Cs Cf):cg Cf H ys 0 (.ref p):=#[.lf p l .nil,.lf p l v h a,#[#[b,EE],c,EE],Eh 0,Eh 1]
theorem BO(h:H p=some (.tup [.str "read",.str x,.ref t]))(a:x∈ys)(b:fj H ys k t)(c:k < 6:=by decide):cg Cf H ys 0 (.ref p):=by
 obtain⟨T,d,e⟩:=b.ok c
 exact QR (l:=.rd x t T) h #[Z,d] #[a,e] EE
theorem BP(h:H p=some (.tup [.str "set",.str x,.ref t]))(a:x∈ys)(b:fj H ys k t)(c:k < 6:=by decide):cg Cf H ys 0 (.ref p):=by
 obtain⟨T,d,e⟩:=b.ok c
 exact QR (l:=.st x t T) h #[Z,d] #[a,e] EE
theorem BM(h:H p=some (.tup [.str "give",.ref t]))(a:fj H ys k t)(b:k < 6:=by decide):cg Cf H ys 0 (.ref p):=by
 obtain⟨T,c,d⟩:=a.ok b
 exact QR (l:=.gv t T) h #[Z,c] d EE
theorem BQ(h:H p=some (.tup [.str "write",.ref t,.ref u]))(a:fj H ys k t)(b:fj H ys j u)(c:k < 6:=by decide)(d:j < 6:=by decide):cg Cf H ys 0 (.ref p):=by
 obtain⟨T,e,f⟩:=a.ok c
 obtain⟨U,g,i⟩:=b.ok d
 exact QR (l:=.wr t u T U) h #[Z,e,g] #[f,i] EE
theorem BL{f:Str}(h:H p=some (.tup [.str "call",.str x,.str f,.ref q]))(b:x∈ys)(a:(f,2)∈Cf)(d:H q=some (.tup [.ref t,.ref u]))(e:fj H ys k t)(g:fj H ys j u)(i:k < 6:=by decide)(m:j < 6:=by decide):cg Cf H ys 0 (.ref p):=by
 obtain⟨T,n,o⟩:=e.ok i
 obtain⟨U,r,s⟩:=g.ok m
 refine QR (l:=.cl x f q [(t,T),(u,U)]) h #[Z,d,λc hc=>?_] #[b,(by show 2<=6;decide),λc hc=>?_] a
 ·rcases List.mem_cons.mp hc with rfl |hc
  ·exact n
  ·rw[List.mem_singleton.mp hc];exact r
 ·rcases List.mem_cons.mp hc with rfl |hc
  ·exact o
  ·rw[List.mem_singleton.mp hc];exact s
theorem BN(h:H p=some (.tup [.str "if",.ref t,.ref q,.ref Q]))(e:fj H ys k t)(f:H q=some (.tup A))(g:H Q=some (.tup B))(G:fu Cf H ys 0 A)(i:fu Cf H ys 0 B)(r:A.length+B.length<=20)(j:k < 6:=by decide):cg Cf H ys 1 (.ref p):=by
 obtain⟨T,l,m⟩:=e.ok j
 obtain⟨a,n,c,s,u⟩:=G
 obtain⟨b,o,d,v,x⟩:=i
 exact#[.ite p t T a b .nil,.ite p t T a b q Q A B h l f g n o,#[#[m,c.1,d.1,EE],c.2,d.2,EE],(by show max (max a.dep b.dep+1) 0<=1;omega),(by show a.size+b.size+0+1<=21;omega)]
theorem sy(h:H p=some (.tup [.str "while",.ref t,.ref q]))(c:fj H ys k t)(d:H q=some (.tup A))(g:fu Cf H ys 0 A)(l:A.length<=20)(e:k < 6:=by decide):cg Cf H ys 1 (.ref p):=by
 obtain⟨T,f,i⟩:=c.ok e
 obtain⟨a,j,b,m,n⟩:=g
 exact#[.loop p t T a .nil,.loop p t T a q A h f d j,#[#[i,b.1,EE],b.2,EE],(by show max (a.dep+1) 0<=1;omega),(by show a.size+0+1<=21;omega)]
noncomputable def nW(Cf:gA)(n:Nat)(H:Hp)(r:Addr)(f:Str):Prop:=∃d:Df,vS H d (.ref r)/\(lO d/\d.b.Cs Cf)/\∃p:List Str,H d.pa=some (.tup (p.map V.str))/\p.length=n/\d.f=f
theorem nW.mono(h:nW Cf n H r f)(m:aj H a):nW Cf n a r f:=let #[d,b,c,p,e,g]:=h;#[d,b.mono m,c,p,m _ _ e,g]
theorem AV{f:Str}{p:List Str}(h:H r=some (.tup [.str f,.ref a,.ref b]))(d:H a=some (.tup (p.map V.str)))(e:p.length=n)(i:H b=some (.tup x))(g:fu Cf H ys 1 x)(l:x.length<=100)(j:ys.length<=20):nW Cf n H r f:=by
 obtain⟨c,k,C,m,o⟩:=g
 exact#[#[f,r,a,b,c],#[x,Z,h,i,k],#[#[#[ys,j,C.1],(by show c.dep < 8;omega),(by show c.size<=3000;omega)],C.2],p,d,e,Z]
structure Wd(H0 H:Hp)(p wl:Addr)(ys:List Str):Prop where
 B:ap H p
 K:ax p H0 H
 w:H wl=some (.lst (ys.map V.str))
theorem Wd.np(h:Wd b H p a ys):a≠p:=qp h.B h.w
theorem Wd.same(h:Wd a H p b ys)(s:ae H c):Wd a c p b ys:=#[h.B.same s,h.K.trans (ax.of_same s),s _ _ h.w]
theorem Wd.but(h:Wd b H p c ys)(B:ap a p)(k:ax p H a):Wd b a p c ys:=#[B,h.K.trans k,k _ _ h.np h.w]
theorem Wd.own{xs:List V}(h:Wd a H p b ys)(n:a l=none)(L:l≠p)(c:l≠b):Wd a (ah H l (.lst z)) p b ys:=#[h.B.eq (jl (ES L)),h.K.upd_own n,by rw[jl (ES c)];exact h.w]
theorem Qv(h:H l=some (.lst x)):aj H (ah H l (.lst a)):=λb u e=>by rw[jl (jQ e h (by intro z;cases z))];exact e
end
noncomputable def mG:Sp:=λv H Q _=>∃(p a b:Addr) (y:List Str) (k:Nat),v=[.ref p,.ref a,.ref b]/\ap H p/\fj H y k a/\fj H y k b/\∀(r:Addr) (h:Hp),fj h y (k+1) r->ap h p->ax p H h->Q (.ref r) h
noncomputable def dn(n:Nat):Sp:=λv H Q _=>∃(p W:Addr) (f g:Str) (y:List Str),v=[.ref p,.str f,.str g,.ref W]/\ap H p/\H W=some (.lst (y.map V.str))/\y.length=6/\∀(r:Addr) (h:Hp),nW [(g,2)] n h r f->ap h p->ax p H h->Q (.ref r) h
noncomputable abbrev Dh:Stmt:=bL 56
noncomputable abbrev md:Stmt:=bL 57
noncomputable abbrev gj:Stmt:=bL 58
noncomputable abbrev eV:Stmt:=bL 59
noncomputable abbrev pZ:Stmt:=bL 60
theorem C5{A:List V}(h:A.length=5):∃a b c d e,A=[a,b,c,d,e]:=by
 cases A with
 |nil=>cases h
 |cons a r=>
  cases r with
  |nil=>cases h
  |cons b R=>
   cases R with
   |nil=>cases h
   |cons c f=>
    cases f with
    |nil=>cases h
    |cons d g=>
     cases g with
     |nil=>cases h
     |cons e i=>
      cases i with
      |nil=>exact#[a,b,c,d,e,Z]
      |cons _ _=>cases h
theorem DW{n:Nat}:lY (n+1) 0=some 0:=by unfold lY;rw[Er Ln,Er Lo];rfl
theorem DX{n:Nat}:lY (n+2) 1=some 1:=by unfold lY;rw[Er Ln,Er Lo];rfl
theorem dW:dC (v::u::y) 1=some u:=ju (j:=1) Z
structure Fw(p:Addr)(H H':Hp):Prop where
 t:aj H H'
 b:ax p H H'
theorem Fw.refl:Fw p H H:=#[aj.refl,ax.refl]
theorem Fw.trans(a:Fw p H h)(b:Fw p h c):Fw p H c:=#[a.t.trans b.t,a.b.trans b.b]
theorem Fw.new{p:Addr}{H:Hp}{o:HO}(n:H r=none):Fw p H (ah H r o):=#[ae.tm (je n),ax.of_same (je n)]
theorem Fw.same(s:ae H h):Fw p H h:=#[ae.tm s,ax.of_same s]
theorem Fw.but(B:ap H p)(c:ax p H h):Fw p H h:=#[c.tm B,c]
noncomputable def mN(P:Hp->V->Prop):Prop:=∀H h v,aj H h->P H v->P h v
noncomputable def Ev(a:Hp)(p W:Addr)(y:List Str)(b:Hp)(c:_L.St)(t:TE)(P:Hp->V->Prop):Prop:=∀(H:Hp) (Q:VK),Fw p b H->Wd a H p W y->(∀v h,P h v->Wd a h p W y->Fw p H h->Q v h)->t c H Q
noncomputable def PT(y:List Str)(k:Nat)(H:Hp)(v:V):Prop:=∃a,v= .ref a/\fj H y k a
noncomputable def PB(C:gA)(y:List Str)(d n:Nat)(H:Hp)(v:V):Prop:=∃a x,v= .ref a/\H a=some (.tup x)/\fu C H y d x/\x.length<=n
noncomputable def PN(y:List Str)(_:Hp)(v:V):Prop:=∃x,v= .str x/\x∈y
noncomputable def PG(_:Hp)(v:V):Prop:=∃s,v= .str s/\Sg s
noncomputable def PP(n:Nat)(H:Hp)(v:V):Prop:=∃(a:Addr) (x:List Str),v= .ref a/\H a=some (.tup (x.map V.str))/\x.length=n
noncomputable def tK(y:Str)(_:Hp)(v:V):Prop:=v= .str y
noncomputable def PD(C:gA)(n:Nat)(f:Str)(H:Hp)(v:V):Prop:=∃a,v= .ref a/\nW C n H a f
section
variable {Cf:gA}{ys:List Str}{H0 Hb:Hp}{p wl:Addr}{σ:_L.St}
theorem au:mN (PT ys k):=λ_ _ _ m #[a,e,h]=>#[a,e,h.mono m]
theorem dE:mN (PB Cf ys d n):=λ_ _ _ m #[a,x,e,h,H,b]=>#[a,x,e,m _ _ h,H.mono m,b]
theorem dI:mN λH v=>cg Cf H ys d v:=λ_ _ _ m h=>h.mono m
theorem iu:mN (PD Cf n f):=λ_ _ _ m #[a,e,h]=>#[a,e,h.mono m]
theorem Ev.up{P R:Hp->V->Prop}(h:Ev H0 p wl ys Hb σ t P)(k:∀H v,P H v->R H v):Ev H0 p wl ys Hb σ t R:=λH Q m W q=>h H Q m W λv a x=>q v a (k _ _ x)
theorem jM{P:Hp->V->Prop}(e:σ[i]?=some (some v))(M:mN P)(h:P Hb v):Ev H0 p wl ys Hb σ (aW i) P:=λH Q m W q=>#[v,e,q v H (M _ _ _ m.t h) W .refl]
theorem qk(h:Sg s):Ev H0 p wl ys Hb σ (tC (.str s)) PG:=λH Q m W q=>q _ H #[s,Z,h] W .refl
theorem kN{K:Frag}(e:σ[j]?=some (some (.ref wl)))(a:0<=i)(b:i < (ys.length:Int)):Ev H0 p wl ys Hb σ (dF (iy K) (aW j) (tC (.int i))) (PN ys):=λH Q m W q=>by
 obtain⟨y,c,h⟩:=Ke (ys:=ys) a b
 exact#[_,e,wl,_,_,_,Z,Z,aF.of W.w,h,q _ H #[y,Z,c] W .refl]
theorem kA{Q:VK}{P:Hp->V->Prop}(W:Wd H0 H p wl ys)(q:∀v h,P h v->Wd H0 h p wl ys->Fw p H h->Q v h)(n:H r=none)(x:aj H (ah H r o)->ah H r o r=some o->P (ah H r o) (.ref r)):Q (.ref r) (ah H r o):=
 q _ _ (x (ae.tm (je n)) jc) (W.same (je n)) (.new n)
noncomputable abbrev tw(n:Int):TE:=dB aX [] E0 (al (aW 0) (al (tC (.int n)) aL))
noncomputable def PK(n:Int)(_:Hp)(v:V):Prop:=∃d:Int,v= .int d/\0<=d/\d < n
theorem kW(e:σ[0]?=some (some (.ref p)))(h:1<=n)(c:n<=1000):Ev H0 p wl ys Hb σ (tw n) (PK n):=λH Q m W q=>
 #[_,e,p,n,Z,W.B,Lo,Lo,λd f D a b E=>q _ _ #[d,Z,D,a] (W.but b (ax.of_eq E)) (.but W.B (ax.of_eq E))]
theorem kC(h:Ev H0 p wl ys Hb σ t (PK n))(g:n<=1000000000000000000):Ev H0 p wl ys Hb σ (bN (al (tC (.str "num")) (al t aL))) (PT ys 0):=λH Q m W q=>
 h H _ m W λv i #[d,e,D,j] a b=>#[bj,λr N=>kA (P:=PT ys 0) a (λV c x f k=>q V c x f (b.trans k)) N λ_ z=>#[r,Z,Ag (by rw[z,e]) D Lo]]
theorem Qs(h:0<=n)(a:n < m):Ev H0 p wl ys Hb σ (tC (.int n)) (PK m):=λH Q _ W q=>q _ H #[n,Z,h,a] W .refl
theorem Qw(h:Ev H0 p wl ys Hb σ t (PK n))(c:0<=m):Ev H0 p wl ys Hb σ (dF (u6 λi j=>V.int (i+j)) (tC (.int m)) t) (PK (m+n)):=λH Q M W q=>
 h H _ M W λv a #[d,e,D,f] b k=>#[m,d,Z,e,q _ a #[m+d,Z,Lo,Lo] b k]
theorem J6(h:Ev H0 p wl ys Hb σ t (PN ys)):Ev H0 p wl ys Hb σ (bN (al (tC (.str "var")) (al t aL))) (PT ys 0):=λH Q m W q=>
 h H _ m W λv i #[d,e,a] b c=>#[bj,λr n=>kA (P:=PT ys 0) b (λV f x g k=>q V f x g (c.trans k)) n λ_ z=>#[r,Z,sM (by rw[z,e]) a]]
theorem qg{n:Nat}(h:Ev H0 p wl ys Hb σ T PG)(f:Ev H0 p wl ys Hb σ g (PT ys j))(i:Ev H0 p wl ys Hb σ l (PT ys k))(o:j < n)(u:k < n):Ev H0 p wl ys Hb σ (bN (al (tC (.str "op")) (al T (al g (al l aL))))) (PT ys n):=λH Q m W q=>
 h H _ m W λM v #[s,E,X] y c=>f v _ (m.trans c) y λO A #[a,B,C] D d=>i A _ ((m.trans c).trans d) D λR S #[b,F,G] I e=>#[sD,λr N=>kA (P:=PT ys n) I (λV J x L k=>q V J x L (((c.trans d).trans e).trans k)) N λt z=>
  #[r,Z,wO (by rw[z,E,B,F]) X ((C.mono e.t).mono t) (G.mono t) o u]]
theorem A1(e:σ[0]?=some (some (.ref p))):Ev H0 p wl ys Hb σ (dF yH (tC (.str "<=*")) (tw 3)) PG:=λH Q m W q=>
 kW e Ln Ln H _ m W λv h #[d,E,D,a] b k=>by
  obtain⟨g,i,x⟩:=uU D a
  exact#["<=*",d,g,Z,E,Lq,i,q _ h #[_,Z,x] b k]
theorem Yi{K:Frag}(e:σ[0]?=some (some (.ref p)))(r:Ev H0 p wl ys Hb σ T (PT ys k))(s:Ev H0 p wl ys Hb σ u (PT ys k)):Ev H0 p wl ys Hb σ (dF (iy K) (lI (al T (al u aL))) (tw 2)) (PT ys k):=λH Q m W q=>
 r H _ m W λV y #[a,E,X] z c=>s y _ (m.trans c) z λA C #[b,D,F] h f=>#[bj,λl n=>kW e Ln Ln _ _ (((m.trans c).trans f).trans (.new n)) (h.same (je n)) λv G #[d,I,J,L] M j=>by
  obtain⟨g,i,x⟩:=Bq (P:=fj C ys k) J L (X.mono f.t) F
  rw[<- E,<- D]at i
  have t:=(Fw.new (p:=p) (o:=HO.lst [V,A]) n).trans j
  exact#[l,_,d,_,Z,I,aF.of (j.b _ _ (h.B.ne n) jc),i,q _ G #[g,Z,x.mono t.t] M ((c.trans f).trans t)]]
theorem we{K:Frag}(e:σ[0]?=some (some (.ref p)))(u:Ev H0 p wl ys Hb σ T (PT ys k))(y:Ev H0 p wl ys Hb σ z (PT ys k))(A:Ev H0 p wl ys Hb σ C (PT ys k)):Ev H0 p wl ys Hb σ (dF (iy K) (lI (al T (al z (al C aL)))) (tw 3)) (PT ys k):=λH Q m W q=>
 u H _ m W λV D #[a,E,X] F f=>y D _ (m.trans f) F λG I #[b,J,L] M h=>A I _ ((m.trans f).trans h) M λN O #[c,R,S] r j=>#[dY,λl n=>kW e Ln Ln _ _ ((((m.trans f).trans h).trans j).trans (.new n)) (r.same (je n)) λv U #[d,Y,d0,d1] W4 s=>by
  obtain⟨g,i,x⟩:=Br (P:=fj O ys k) d0 d1 (X.mono (h.trans j).t) (L.mono j.t) S
  rw[<- E,<- J,<- R]at i
  have t:=(Fw.new (p:=p) (o:=HO.lst [V,G,N]) n).trans s
  exact#[l,_,d,_,Z,Y,aF.of (s.b _ _ (r.B.ne n) jc),i,q _ U #[g,Z,x.mono t.t] W4 (((f.trans h).trans j).trans t)]]
theorem AZ{K:Frag}(e:σ[0]?=some (some (.ref p)))(r:1<=n)(s:n<=1000)(u:Ev H0 p wl ys Hb σ T (PT ys k))(y:Ev H0 p wl ys Hb σ z (PT ys k)):Ev H0 p wl ys Hb σ (dF (iy K) (lI (al T (al z aL))) (CA (λX H Q=>(∃i,X=[V.int i]/\Q (V.int i) H)∨∃k,X=[V.bl k]/\Q (V.int (if k=true then 1 else 0)) H) (al (dF yG (tw n) (tC (.int 0))) aL))) (PT ys k):=λH Q m W q=>
 u H _ m W λA C #[a,E,D] F c=>y C _ (m.trans c) F λG I #[b,J,L] h f=>#[bj,λl N=>kW e r s _ _ (((m.trans c).trans f).trans (.new N)) (h.same (je N)) λv M #[d,O,S,U] R j=>by
  subst O
  refine#[Z,.inr #[_,Z,?_]]
  obtain⟨g,i,x⟩:=Bs (P:=fj I ys k) (D.mono f.t) L _
  rw[<- E,<- J]at i
  have t:=(Fw.new (p:=p) (o:=HO.lst [A,G]) N).trans j
  exact#[l,_,_,_,Z,Z,aF.of (j.b _ _ (h.B.ne N) jc),i,q _ M #[g,Z,x.mono t.t] R ((c.trans f).trans t)]]
theorem J7(e:σ[0]?=some (some (.ref p)))(h:Ev H0 p wl ys Hb σ T (PT ys k))(g:Ev H0 p wl ys Hb σ i (PT ys k)):Ev H0 p wl ys Hb σ (dB mG [] E0 (al (aW 0) (al T (al i aL)))) (PT ys (k+1)):=λH Q m W q=>
 #[_,e,h H _ m W λv j #[a,E,x] l d=>g j _ (m.trans d) l λV y #[b,n,X] c f=>#[p,a,b,ys,k,by rw[E,n];rfl,c.B,x.mono f.t,X,λr o s u C=>q _ o #[r,Z,s] (c.but u C) ((d.trans f).trans (.but c.B C))]]
theorem tY{w:Str}{T a:TE}{A B R:Hp->V->Prop}(M:mN A)(d:mN B)(e:Ev H0 p wl ys Hb σ T A)(f:Ev H0 p wl ys Hb σ a B)(h:∀H r u v,H r=some (.tup [.str w,u,v])->A H u->B H v->R H (.ref r)):Ev H0 p wl ys Hb σ (bN (al (tC (.str w)) (al T (al a aL)))) R:=λH Q m W q=>
 e H _ m W λC g X i b=>f g _ (m.trans b) i λD E j l c=>#[dY,λr n=>kA (P:=R) l (λo s x y k=>q o s x y ((b.trans c).trans k)) n λt z=>h _ _ _ _ z (M _ _ _ t (M _ _ _ c.t X)) (d _ _ _ t j)]
theorem CZ{w:Str}{T:TE}{A R:Hp->V->Prop}(M:mN A)(a:Ev H0 p wl ys Hb σ T A)(h:∀H r u,H r=some (.tup [.str w,u])->A H u->R H (.ref r)):Ev H0 p wl ys Hb σ (bN (al (tC (.str w)) (al T aL))) R:=λH Q m W q=>
 a H _ m W λf g X b c=>#[bj,λr n=>kA (P:=R) b (λv d x e k=>q v d x e (c.trans k)) n λt z=>h _ _ _ z (M _ _ _ t X)]
theorem AW{w:Str}{T d e:TE}{A B C R:Hp->V->Prop}(M:mN A)(f:mN B)(g:mN C)(i:Ev H0 p wl ys Hb σ T A)(j:Ev H0 p wl ys Hb σ d B)(l:Ev H0 p wl ys Hb σ e C)(h:∀H r u v x,H r=some (.tup [.str w,u,v,x])->A H u->B H v->C H x->R H (.ref r)):Ev H0 p wl ys Hb σ (bN (al (tC (.str w)) (al T (al d (al e aL))))) R:=λH Q m W q=>
 i H _ m W λL n X o a=>j n _ (m.trans a) o λO s y D b=>l s _ ((m.trans a).trans b) D λS U E F c=>#[sD,λr N=>kA (P:=R) F (λG I x J k=>q G I x J (((a.trans b).trans c).trans k)) N λt z=>h _ _ _ _ _ z (M _ _ _ t (M _ _ _ (b.trans c).t X)) (f _ _ _ t (f _ _ _ c.t y)) (g _ _ _ t E)]
theorem xO:mN (PN ys):=λ_ _ _ _ h=>h
theorem J8{t T:TE}{k:Nat}(h:Ev H0 p wl ys Hb σ t (PN ys))(b:Ev H0 p wl ys Hb σ T (PT ys k))(c:k < 6):Ev H0 p wl ys Hb σ (bN (al (tC (.str "read")) (al t (al T aL)))) (λH v=>cg Cf H ys 0 v):=tY xO au h b λH r u v z #[x,e,d] #[a,E,f]=>BO (by rw[z,e,E]) d f c
theorem JD{t T:TE}{k:Nat}(h:Ev H0 p wl ys Hb σ t (PN ys))(b:Ev H0 p wl ys Hb σ T (PT ys k))(c:k < 6):Ev H0 p wl ys Hb σ (bN (al (tC (.str "set")) (al t (al T aL)))) (λH v=>cg Cf H ys 0 v):=tY xO au h b λH r u v z #[x,e,d] #[a,E,f]=>BP (by rw[z,e,E]) d f c
theorem J9{t T:TE}{j k:Nat}(h:Ev H0 p wl ys Hb σ t (PT ys j))(b:Ev H0 p wl ys Hb σ T (PT ys k))(c:j < 6)(d:k < 6):Ev H0 p wl ys Hb σ (bN (al (tC (.str "write")) (al t (al T aL)))) (λH v=>cg Cf H ys 0 v):=tY au au h b λH r u v z #[x,e,f] #[a,E,g]=>BQ (by rw[z,e,E]) f g c d
theorem QS{t:TE}{k:Nat}(h:Ev H0 p wl ys Hb σ t (PT ys k))(b:k < 6):Ev H0 p wl ys Hb σ (bN (al (tC (.str "give")) (al t aL))) (λH v=>cg Cf H ys 0 v):=CZ au h λH r v z #[a,e,c]=>BM (by rw[z,e]) c b
theorem ZQ{n o T c:TE}{j k:Nat}(C:Ev H0 p wl ys Hb σ n (PN ys)){f:Str}(D:Ev H0 p wl ys Hb σ o (tK f))(d:(f,2)∈Cf)(F:Ev H0 p wl ys Hb σ T (PT ys j))(G:Ev H0 p wl ys Hb σ c (PT ys k))(I:j < 6)(J:k < 6):Ev H0 p wl ys Hb σ (bN (al (tC (.str "call")) (al n (al o (al (bN (al T (al c aL))) aL))))) (λH v=>cg Cf H ys 0 v):=by
 let R:Hp->V->Prop:=λH v=>∃q a b,v= .ref q/\H q=some (.tup [.ref a,.ref b])/\fj H ys j a/\fj H ys k b
 have M:mN R:=λ_ _ _ m #[q,a,b,e,g,L,i]=>#[q,a,b,e,m _ _ g,L.mono m,i.mono m]
 have N:Ev H0 p wl ys Hb σ (bN (al T (al c aL))) R:=λH Q m W q=>
  F H _ m W λv2 O #[a,E,X] S s=>G O _ (m.trans s) S λv3 H3 #[b,l,U] Y A=>#[bj,λr nr=>kA (P:=R) Y (λv' H' x W' k=>q v' H' x W' ((s.trans A).trans k)) nr λt z=>#[r,a,b,Z,by rw[z,E,l],(X.mono A.t).mono t,U.mono t]]
 exact AW xO (B:=tK f) (λ_ _ _ _ h=>h) M C D N λH r u v x z #[y,e1,g] (E:v= .str f) #[q,a,b,l,i,h4,h5]=>BL (f:=f) (by rw[z,e1,E,l]) g d i h4 h5 I J
theorem wc{t T b:TE}{k n m:Nat}(h:Ev H0 p wl ys Hb σ t (PT ys k))(c:Ev H0 p wl ys Hb σ T (PB Cf ys 0 n))(d:Ev H0 p wl ys Hb σ b (PB Cf ys 0 m))(e:k < 6)(s:n+m<=20):Ev H0 p wl ys Hb σ (bN (al (tC (.str "if")) (al t (al T (al b aL))))) (λH v=>cg Cf H ys 1 v):=
 AW au dE dE h c d λH r u v x z #[a,E,f] #[Q,X,g,i,j,y] #[A,B,l,o,q,C]=>BN (by rw[z,E,g,l]) f i o j q Lo e
theorem wm{t T:TE}{k n:Nat}(h:Ev H0 p wl ys Hb σ t (PT ys k))(b:Ev H0 p wl ys Hb σ T (PB Cf ys 0 n))(c:k < 6)(i:n<=20):Ev H0 p wl ys Hb σ (bN (al (tC (.str "while")) (al t (al T aL)))) (λH v=>cg Cf H ys 1 v):=
 tY au dE h b λH r u v z #[a,e,d] #[q,x,E,f,g,j]=>sy (by rw[z,e,E]) d f g Lo c
theorem wb{d:Nat}:Ev H0 p wl ys Hb σ (bN aL) (PB Cf ys d 0):=λH Q m W q=>#[nV,λr n=>kA (P:=PB Cf ys d 0) W q n λt z=>#[r,[],Z,z,Ki,Eh 0]]
theorem Ka(h:Ev H0 p wl ys Hb σ T (λH v=>cg Cf H ys d v)):Ev H0 p wl ys Hb σ (bN (al T aL)) (PB Cf ys d 1):=λH Q m W q=>
 h H _ m W λf g X a b=>#[mM,λr n=>kA (P:=PB Cf ys d 1) a (λV c x e k=>q V c x e (b.trans k)) n λt z=>#[r,_,Z,z,zB (X.mono t),Eh 1]]
theorem Yj(h:Ev H0 p wl ys Hb σ T (λH v=>cg Cf H ys d v))(c:Ev H0 p wl ys Hb σ e (λH v=>cg Cf H ys d v)):Ev H0 p wl ys Hb σ (bN (al T (al e aL))) (PB Cf ys d 2):=λH Q m W q=>
 h H _ m W λs f X g a=>c f _ (m.trans a) g λu y i j b=>#[bj,λr n=>kA (P:=PB Cf ys d 2) j (λV l x o k=>q V l x o ((a.trans b).trans k)) n λt z=>#[r,_,Z,z,jU ((X.mono b.t).mono t) (zB (i.mono t)),Eh 2]]
theorem AX(h:Ev H0 p wl ys Hb σ T (λH v=>cg Cf H ys d v))(e:Ev H0 p wl ys Hb σ f (λH v=>cg Cf H ys d v))(g:Ev H0 p wl ys Hb σ i (λH v=>cg Cf H ys d v)):Ev H0 p wl ys Hb σ (bN (al T (al f (al i aL)))) (PB Cf ys d 3):=λH Q m W q=>
 h H _ m W λC j X l a=>e j _ (m.trans a) l λD n o s b=>g n _ ((m.trans a).trans b) s λE F u y c=>#[dY,λr N=>kA (P:=PB Cf ys d 3) y (λV A x B k=>q V A x B (((a.trans b).trans c).trans k)) N λt z=>#[r,_,Z,z,jU ((X.mono (b.trans c).t).mono t) (jU ((o.mono c.t).mono t) (zB (u.mono t))),Eh 3]]
theorem qM(h:Ev H0 p wl ys Hb σ T (PB Cf ys d n))(e:Ev H0 p wl ys Hb σ f (PB Cf ys d m))(B:n+m<=100):Ev H0 p wl ys Hb σ (dF wE T f) (PB Cf ys d (n+m)):=λH Q M W q=>
 h H _ M W λV g #[a,x,E,i,X,L] j c=>e g _ (M.trans c) j λC D #[b,z,l,o,u,F] v k=>#[a,b,x,z,E,l,k.t _ _ i,o,Es (show x.length+z.length<=100 by omega) Ln,λr y A s=>q _ y #[r,_,Z,A,Jv ((X.mono k.t).mono (ae.tm s)) (u.mono (ae.tm s)),by rw[Ei];omega] (v.same s) ((c.trans k).trans (.same s))]
theorem KW(e:σ[i]?=some (some (.str x))):Ev H0 p wl ys Hb σ (aW i) (tK x):=jM e (λ_ _ _ _ h=>h) Z
theorem Yk(h:Ev H0 p wl ys Hb σ T (tK f))(g:Ev H0 p wl ys Hb σ i (PP m))(j:Ev H0 p wl ys Hb σ l (PB Cf ys 1 n))(O:n<=100)(o:ys.length<=20):Ev H0 p wl ys Hb σ (bN (al T (al i (al l aL)))) (PD Cf m f):=λH Q M W q=>
 h H _ M W λv s (E:v= .str f) u c=>g s _ (M.trans c) u λR y #[a,S,A,B,L] C d=>j y _ ((M.trans c).trans d) C λU Y #[b,xs,D,F,X,l4] G e=>#[dY,λr N=>kA (P:=PD Cf m f) G (λV I x J k=>q V I x J (((c.trans d).trans e).trans k)) N λt z=>
  #[r,Z,AV (f:=f) (by rw[z,E,A,D]) (t _ _ (e.t _ _ B)) L (t _ _ F) (X.mono t) Lo o]]
theorem wf(h:Ev H0 p wl ys Hb σ T (PN ys)):Ev H0 p wl ys Hb σ (bN (al T aL)) (PP 1):=λH Q m W q=>
 h H _ m W λV f #[X,e,_] a b=>#[mM,λr n=>kA (P:=PP 1) a (λv c x d k=>q v c x d (b.trans k)) n λt z=>#[r,[X],Z,by rw[z,e];rfl,Z]]
theorem wg(h:Ev H0 p wl ys Hb σ T (PN ys))(b:Ev H0 p wl ys Hb σ c (PN ys)):Ev H0 p wl ys Hb σ (bN (al T (al c aL))) (PP 2):=λH Q m W q=>
 h H _ m W λV d #[X,e,_] f a=>b d _ (m.trans a) f λs u #[g,E,_] i j=>#[bj,λr n=>kA (P:=PP 2) i (λv l x o k=>q v l x o ((a.trans j).trans k)) n λt z=>#[r,[X,g],Z,by rw[z,e,E];rfl,Z]]
theorem cg.lift(h:cg Cf H ys 0 v):cg Cf H ys 1 v:=h.up
theorem PB.lift(h:PB Cf ys 0 n H v):PB Cf ys 1 n H v:=let #[a,x,e,c,#[b,B,d,g,i],f]:=h;#[a,x,e,c,#[b,B,d,Lo,Lo],f]
theorem PB.more(h:PB Cf ys d n H v)(k:n<=m):PB Cf ys d m H v:=let #[a,x,e,b,c,f]:=h;#[a,x,e,b,c,Es f k]
theorem qT{a b:TS}(W:Wd H0 H p wl ys)(e:σ[0]?=some (some (.ref p)))(g:1<=n)(i:n<=1000)(j:∀h,Wd H0 h p wl ys->Fw p H h->a D σ h)(l:∀h,Wd H0 h p wl ys->Fw p H h->b D σ h):g9 (im (dF yG (tw n) (tC (.int 0)))) a b D σ H:=
 kW (Hb:=H) e g i H _ .refl W λv c #[d,E,m,o] f k=>by
  subst E
  exact#[Z,_,Z,bH (λ_=>j c f k) (λ_=>l c f k)]
theorem jR{D:bn}{P:Hp->V->Prop}(W:Wd H0 H p wl ys)(h:Ev H0 p wl ys H σ t P)(q:∀v a,P a v->Wd H0 a p wl ys->Fw p H a->D.nx (σ.set i (some v)) a):dA t (a8 i) D σ H:=h H _ .refl W q
theorem Qx{D:bn}{P:Hp->V->Prop}(W:Wd H0 H p wl ys)(h:Ev H0 p wl ys H σ t P)(q:∀v a,P a v->Wd H0 a p wl ys->D.rt v a):gV t D σ H:=h H _ .refl W λv a x b _=>q v a x b
theorem vB{K:Frag}{D:bn}(W:Wd H0 H p wl ys)(d:Ev H0 p wl ys H σ T (PT ys 0))(e:Ev H0 p wl ys H σ f (PT ys 0))(g:Ev H0 p wl ys H σ l (PT ys 0))
  (q:∀u v w h,PT ys 0 h u->PT ys 0 h v->PT ys 0 h w->Wd H0 h p wl ys->Fw p H h->D.nx (((σ.set k (some w)).set j (some v)).set i (some u)) h):wL K (bN (al T (al f (al l aL)))) i j k D σ H:=
 d H _ .refl W λV m x o a=>e m _ a o λs y X z b=>g y _ (a.trans b) z λA E B C c=>#[dY,λr n=>#[r,_,_,_,Z,ar.of jc,q V s A _ (au _ _ _ (ae.tm (je n)) (au _ _ _ (b.trans c).t x)) (au _ _ _ (ae.tm (je n)) (au _ _ _ c.t X)) (au _ _ _ (ae.tm (je n)) B) (C.same (je n)) (((a.trans b).trans c).trans (.new n))]]
structure Ow(H0 H:Hp)(p wl l:Addr)(xs:List V):Prop where
 hl:H l=some (.lst xs)
 np:l≠p
 lw:l≠wl
 l0:H0 l=none
theorem Ow.fw(o:Ow H0 H p wl l x)(k:Fw p H h):Ow H0 h p wl l x:=#[k.b _ _ o.np o.hl,o.np,o.lw,o.l0]
theorem Ow.new(W:Wd H0 H p wl ys)(n:H l=none):Ow H0 (ah H l (.lst x)) p wl l x:=#[jc,W.B.ne n,(λe=>by have z:=W.w;rw[<- e,n]at z;cases z),W.K.none W.B n]
theorem Bo{D:bn}(W:Wd H0 H p wl ys)(b:Ev H0 p wl ys H σ t (λH v=>cg Cf H ys 0 v))(q:∀l v h,Ow H0 h p wl l [v]->cg Cf h ys 0 v->Wd H0 h p wl ys->Fw p H h->D.nx (σ.set i (some (.ref l))) h):dA (lI (al t aL)) (a8 i) D σ H:=
 b H _ .refl W λV c x a k=>#[mM,λl n=>q l V _ (.new a n) (x.mono (ae.tm (je n))) (a.same (je n)) (k.trans (.new n))]
theorem Bp{D:bn}(W:Wd H0 H p wl ys)(c:Ev H0 p wl ys H σ T (λH v=>cg Cf H ys 0 v))(d:Ev H0 p wl ys H σ e (λH v=>cg Cf H ys 0 v))(q:∀l u v h,Ow H0 h p wl l [u,v]->cg Cf h ys 0 u->cg Cf h ys 0 v->Wd H0 h p wl ys->Fw p H h->D.nx (σ.set i (some (.ref l))) h):dA (lI (al T (al e aL))) (a8 i) D σ H:=
 c H _ .refl W λV f x g k=>d f _ k g λj m X a b=>#[bj,λl n=>q l V j _ (.new a n) ((x.mono b.t).mono (ae.tm (je n))) (X.mono (ae.tm (je n))) (a.same (je n)) ((k.trans b).trans (.new n))]
theorem Jw{K:Frag}{D:bn}(W:Wd H0 H p wl ys)(a:σ[i]?=some (some (.ref l)))(o:Ow H0 H p wl l xs)(b:xs.length<=100)(c:Ev H0 p wl ys H σ T (λH v=>cg Cf H ys 0 v))
  (q:∀v h,cg Cf h ys 0 v->Ow H0 h p wl l (xs++[v])->Wd H0 h p wl ys->aj H h->D.nx σ h):nG (Dp K "list" mW (aW i) (al T aL)) D σ H:=
 #[_,a,.inl #[Z,_,aF.of o.hl],c H _ .refl W λv e x d k=>#[l,xs,v,Z,Z,(o.fw k).hl,FR b Ln,q v _ (x.mono (Qv (o.fw k).hl)) #[jc,o.np,o.lw,o.l0] (d.own (xs:=xs) o.l0 o.np o.lw) (k.t.trans (Qv (o.fw k).hl))]]
theorem vI{K:Frag}{D:bn}(W:Wd H0 H p wl ys)(h:σ[i]?=some (some (.ref l)))(o:Ow H0 H p wl l (u::v::z))
  (q:∀a,Ow H0 a p wl l (v::u::z)->Wd H0 a p wl ys->aj H a->D.nx σ a):dA (bN (al (dF (iy K) (aW i) (tC (.int 1))) (al (dF (iy K) (aW i) (tC (.int 0))) aL))) (oK K 2 (dw (xA (aW i) (tC (.int 0)) pU) (dw (xA (aW i) (tC (.int 1)) pU) oJ))) D σ H:=
 #[_,h,l,_,_,_,Z,Z,aF.of o.hl,dW,_,h,l,_,_,_,Z,Z,aF.of o.hl,c7,bj,λt N=>#[t,_,Z,ar.of jc,Z,_,_,Z,_,h,l,_,0,0,Z,Z,aq o.hl N,DW (n:=z.length+1),_,_,Z,_,h,l,_,1,1,Z,Z,jc,DX (n:=z.length),Z,
  q _ #[jc,o.np,o.lw,o.l0] (((W.same (je N)).own (xs:=u::v::z) o.l0 o.np o.lw).own (xs:=u::v::z) o.l0 o.np o.lw) (((ae.tm (je N)).trans (Qv (aq o.hl N))).trans (Qv jc))]]
theorem wj{K:Frag}{n:Nat}(e:σ[i]?=some (some (.ref l)))(o:Ow H0 Hb p wl l x)(h:fu Cf Hb ys 0 x)(a:x.length<=n):Ev H0 p wl ys Hb σ (CA (λx H Q=>∃p ys,x=[V.ref p]/\((aF K H p ys/\∀(l:Addr),H l=none->Q (V.ref l) (ah H l (HO.tup ys)))∨ar K H p ys/\Q (V.ref p) H)) (al (aW i) aL)) (PB Cf ys 0 n):=λH Q m W q=>
 #[_,e,l,x,Z,.inl #[aF.of (o.fw m).hl,λr N=>kA (P:=PB Cf ys 0 n) W q N λt z=>#[r,x,Z,z,(h.mono m.t).mono t,a]]]
theorem xh{D:bn}(W:Wd H0 H p wl ys)(u:σ[i]?=some (some (.ref l)))(y:σ[j]?=some (some (.ref m)))(o:Ow H0 H p wl l x)(O:Ow H0 H p wl m z)(C:x.length+z.length<=100)(E:fu Cf H ys 0 x)(F:fu Cf H ys 0 z)
  (G:Ev H0 p wl ys H σ T (λH v=>cg Cf H ys 0 v)) (I:Ev H0 p wl ys H σ J (λH v=>cg Cf H ys 0 v)) (q:∀r U h,Ow H0 h p wl r U->fu Cf h ys 0 U->U.length<=x.length+z.length+2->Wd H0 h p wl ys->Fw p H h->D.nx (σ.set i (some (.ref r))) h):
  dA (dF yE (dF yE (aW i) (aW j)) (lI (al T (al J aL)))) (a8 i) D σ H:=
 #[_,u,_,y,l,m,_,_,Z,Z,o.hl,O.hl,Es C Ln,λc n=>G _ _ (.new n) (W.same (je n)) λV L X M k=>I L _ ((Fw.new n).trans k) M λe R Q A s=>#[bj,λd N=>#[c,d,_,_,Z,Z,aq ((k.trans s).b _ _ (W.B.ne n) jc) N,jc,by
  have:=aH
  show(x++z).length+2<=sizeLine
  rw[Ei]
  omega,λr a=>q r _ _ (.new (A.same (je N)) a) (by
   have f:=(((Fw.new n).trans k).trans s).trans ((Fw.new (p:=p) (o:=HO.lst [V,e]) N).trans (Fw.new (o:=HO.lst ((x++z)++[V,e])) a))
   have g:=(Fw.new (p:=p) (o:=HO.lst [V,e]) N).trans (Fw.new (o:=HO.lst ((x++z)++[V,e])) a)
   exact Jv (Jv (E.mono f.t) (F.mono f.t)) (jU ((X.mono s.t).mono g.t) (zB (Q.mono g.t)))) (by rw[Ei,Ei];exact Eh _) ((A.same (je N)).same (je a)) ((((Fw.new n).trans k).trans s).trans ((Fw.new N).trans (Fw.new a)))]]]
theorem YL{K:Frag}{D:bn}(W:Wd H0 H p wl ys)(k:σ[3]?=some (some (.ref wl)))(l:ys.length=6)
  (q:∀a b c d e g,PT ys 0 g a->PT ys 0 g b->PT ys 0 g c->PT ys 0 g d->PT ys 0 g e->Wd H0 g p wl ys->D.nx (((((σ.set 4 (some a)).set 5 (some b)).set 6 (some c)).set 7 (some d)).set 8 (some e)) g):
  dA (sE (wq K (CB (yI K) (aW 3) i7 (lJ (tC (V.int 5))))) 1 [] (a8 0) i6 (bN (al (tC (V.str "var")) (al (aW 0) aL)))) (DM K 5 (dw (a8 4) (dw (a8 5) (dw (a8 6) (dw (a8 7) (dw (a8 8) oJ)))))) D σ H:=by
 have B:=aH
 refine#[_,k,_,Z,wl,_,Z,aF.of W.w,λs n=>?_]
 have E:aV (ys.map V.str) none (some 5)=(ys.take 5).map V.str:=by rw[show(5:Int)=((5:Nat):Int) from Z,AQ (by rw[Ef];omega),Hy]
 have t:ah H s (.lst (aV (ys.map V.str) none (some 5))) s=some (.lst ((ys.take 5).map V.str)):=by rw[E];exact jc
 have S:=je (o:=HO.lst (aV (ys.map V.str) none (some 5))) n
 generalize ah H s (.lst (aV (ys.map V.str) none (some 5)))=A at t S
 refine#[s,Z,#[_,aF.of t],?_]
 refine Zw (K:=K) (a:=s) (xs:=(ys.take 5).map V.str) (by rw[Ef,ED];omega) (λi j g=>j.length=i/\(∀v∈j,PT ys 0 g v)/\ae A g) #[Z,(λ_ h=>absurd h EL),ae.refl _] (λi j g h=>#[aF.of (h.2.2 _ _ t),ID h.1]) (λi x j g C h=>?_) (λj F h L N=>?_)
 ·obtain⟨y,l,rfl⟩:=List.mem_map.mp (EA C)
  exact#[_,Z,bj,λr u=>#[by rw[Ei,h.1];rfl,Ji (λa z=>au _ _ _ (ae.tm (je u)) (h.2.1 a z)) #[r,Z,sM jc (Fe l)],h.2.2.trans (je u)]]
 ·have e:=h.1
  rw[Ef,ED]at e
  obtain⟨a,b,c,d,f,rfl⟩:=C5 (show j.length=5 by omega)
  have m:=ae.tm (je (o:=HO.lst [a,b,c,d,f]) N)
  exact#[L,_,Z,aF.of jc,Z,_,_,Z,_,_,Z,_,_,Z,_,_,Z,_,_,Z,Z,q a b c d f _ (au _ _ _ m (h.2.1 a Lp)) (au _ _ _ m (h.2.1 b Lp)) (au _ _ _ m (h.2.1 c Lp)) (au _ _ _ m (h.2.1 d Lp)) (au _ _ _ m (h.2.1 f Lp)) (((W.same S).same h.2.2).same (je N))]
end
theorem Di:am ["_law_box_here","_law_a","_law_b"] ["_law_box_here","_law_a","_law_b"] (aa Dh):=bJ
theorem Bk(F:aN K "_law_op" "_law_op" Dh f t)(C:Cl P w K mg base 1 T u ["_law_box_here","_law_wide"] aX "_law_take"):ai P w K mg base aD 2 f t ["_law_box_here","_law_a","_law_b"] mG:=by
 refine F.ok Di ?_ λv A O s H V Q E x h=>?_
 ·rintro _ _ _ _ ⟨p,a,b,y,k,rfl,_⟩
  rfl
 obtain⟨p,a,b,y,k,rfl,B,z,D,q⟩:=h
 refine#[_,(jg (jm (ji (ja jk (ja (js jr (jL (ja jk (ja jk (ja jk (ja jk jb))))) (C.e x.m (ja (pv 0) (ja jf jb))) (λ_ _=>Z)) (ja (pv 1) (ja (pv 2) jb))))))),?_]
 refine#[sD,λl n=>#[_,Z,p,4,Z,B.upd_new n,Ln,Ln,λd G I J L j=>?_]]
 obtain⟨s,c,M⟩:=uV I J
 have g:ax p H G:=((ax.refl).upd_new n).trans (ax.of_eq j)
 refine#[l,_,_,_,Z,Z,aF.of (by rw[j l (B.ne n)];exact jc),c,_,Z,_,Z,sD,λr N=>?_]
 have S:=je (o:=HO.tup [.str "op",.str s,.ref a,.ref b]) N
 exact q r _ (wO jc M ((z.mono (g.tm B)).mono (ae.tm S)) ((D.mono (g.tm B)).mono (ae.tm S)) (FQ _) (FQ _)) (L.upd_new N) (g.trans (ax.of_same S))
theorem bK:am ["_law_box_here","_law_f","_law_g","_law_w","_law_x","_law_i","_law_y","_law_spot_here","_law_body_here","_law_deeper","_law_test","_law_early","_law_last"] ["_law_box_here","_law_f","_law_g","_law_w"] (aa md):=bJ
theorem pE(F:aN K "_law_inner" "_law_inner" md f fd)(I:Cl P w K mg base 1 fT c0 ["_law_box_here","_law_wide"] aX "_law_take")(cO:Cl P w K mg base 2 fO c1 ["_law_box_here","_law_a","_law_b"] mG "_law_op"):ai P w K mg base aD 3 f fd ["_law_box_here","_law_f","_law_g","_law_w"] (dn 2):=by
 refine F.ok bK ?_ λc2 A o1 s H vs Q E l h=>?_
 ·rintro _ _ _ _ ⟨p,T,f0,g,Y,rfl,_⟩
  rfl
 obtain⟨p,T,f0,g,Y,rfl,B,hw,h2,q⟩:=h
 refine#[_,(jd (@uW _ _ _ _ _ _ _ _ (4) (5) (6) Z bK.nd Z Z Z (Or.inl Z) (Or.inl Z) (Or.inl Z) (ji (ja (ji (ja jk (ja (js jr (pv 3) jf (λ_ _=>Z)) jb))) (ja (ji (ja jk (ja (js jr (pv 3) jf (λ_ _=>Z)) jb))) (ja (ji (ja jk (ja (js jr (pv 3) jf (λ_ _=>Z)) jb))) jb)))) (by first |exact .inl Z |exact .inr Z) (by first |exact .inl Z |exact .inr Z) (by first |exact .inl Z |exact .inr Z) Ls Ls) (jd (jB 7 bK.nd (ji (ja jk (ja jk (ja (js jr (jL (ja (pv 4) (ja (pv 5) jb))) (I.e l.m (ja (pv 0) (ja jf jb))) (λ_ _=>Z)) (ja (ji (ja jk (ja (I.e l.m (ja (pv 0) (ja jf jb))) jb))) jb)))))) (jd (jB 8 bK.nd (ji (ja (ji (ja jk (ja (js jr (pv 3) jf (λ_ _=>Z)) (ja (pv 7) jb)))) jb))) (jd (j3 (jx (ze (I.e l.m (ja (pv 0) (ja jf jb)))) (jd (jB 7 bK.nd (ji (ja jk (ja jk (ja (pv 5) (ja (ji (ja jk (ja (jv jW jf (I.e l.m (ja (pv 0) (ja jf jb)))) jb))) jb)))))) (jg (jB 8 bK.nd (jv ki (pv 8) (ji (ja (ji (ja jk (ja (pv 7) (ja (cO.e l.m (ja (pv 0) (ja (pv 4) (ja (pv 6) jb)))) jb)))) jb)))))) jp)) (jd (j3 (jx (ze (I.e l.m (ja (pv 0) (ja jf jb)))) (jd (jB 9 bK.nd (ji (ja jk (ja (js jr (pv 3) jf (λ_ _=>Z)) (ja (pv 2) (ja (ji (ja (ji (ja jk (ja jk (ja (pv 5) (ja (ji (ja jk (ja jf jb))) jb))))) (ja (pv 6) jb))) jb)))))) (jg (jB 8 bK.nd (jv ki (pv 8) (ji (ja (ji (ja jk (ja (pv 5) (ja (ji (ja (pv 9) jb)) (ja (ji jb) jb))))) jb)))))) jp)) (jd (jB 10 bK.nd (ji (ja jk (ja (js Kc jk (I.e l.m (ja (pv 0) (ja jf jb))) (λ_ _=>Z)) (ja (pv 6) (ja (ji (ja jk (ja (I.e l.m (ja (pv 0) (ja jf jb))) jb))) jb)))))) (jd (jB 11 bK.nd (ji (ja jk (ja (cO.e l.m (ja (pv 0) (ja (pv 4) (ja (pv 6) jb)))) jb)))) (jd (jB 12 bK.nd (ji (ja jk (ja (cO.e l.m (ja (pv 0) (ja (pv 6) (ja (pv 5) jb)))) jb)))) (jd (jB 8 bK.nd (jv ki (pv 8) (ji (ja (ji (ja jk (ja (pv 10) (ja (ji (ja (pv 11) jb)) (ja (ji jb) jb))))) (ja (pv 12) jb))))) (jg (jm (ji (ja (pv 1) (ja (ji (ja (js jr (pv 3) jf (λ_ _=>Z)) (ja (js jr (pv 3) jf (λ_ _=>Z)) jb))) (ja (pv 8) jb))))))))))))))),?_]
 have W0:Wd H H p T Y:=#[B,ax.refl,hw]
 refine af λF1 f1=>vB W0 (J6 (kN Z Ln Lo)) (J6 (kN Z Ln Lo)) (J6 (kN Z Ln Lo)) λvx vi vy J xx X U W1 k1=>f1 _ _ ?_
 refine af λF2 f2=>jR W1 (qg (n:=1) (qk zo) (Yi Z (jM Z au xx) (jM Z au X)) (kC (kW Z Ln Ln) Ln) Ln Ln) λv2 H2 x2 W2 k2=>f2 _ _ ?_
 refine af λF3 f3=>jR W2 (Ka (J8 (Cf:=[(g,2)]) (kN Z Ln Lo) (jM Z au x2) Ln)) λv3 H3 x3 W3 k3=>f3 _ _ ?_
 refine af λF4 f4=>dy (λL u=>∃(o:Option V) (b:V),L=[some (V.ref p),some (V.str f0),some (V.str g),some (V.ref T),some (vx),some (vi),some (vy),o,some b,none,none,none,none]/\PB [(g,2)] Y 1 2 u b/\Wd H u p T Y/\aj H3 u) (λE4 _ f5=>qT W3 Z Ln Ln (λH6 W6 k6=>?_) (λH6 W6 k6=>?_)) λσ0 H5 h0=>?_
 ·clear f4
  have C:aj J H6:=((k2.t.trans k3.t).trans k6.t)
  refine af λF7 f7=>jR W6 (qg (n:=1) (qk zo) (jM Z au (au _ _ _ C X)) (kC (Qw (kW Z Ln Ln) Ln) Ln) Ln Ln) λv7 H7 x7 W7 k7=>f7 _ _ ?_
  have D:aj H3 H7:=(k6.t.trans k7.t)
  have G:aj J H7:=(C.trans k7.t)
  refine jR W7 (qM (jM Z dE (dE _ _ _ D x3)) (Ka (J9 (Cf:=[(g,2)]) (jM Z au x7) (J7 Z (jM Z au (au _ _ _ G xx)) (jM Z au (au _ _ _ G U))) Ln Ln)) Ln) λv8 H8 x8 W8 k8=>f5 _ _ ?_
  have m0:aj H3 H8:=(D.trans k8.t)
  exact#[_,_,Z,(PB.lift x8),W8,m0]
 ·clear f4
  exact f5 _ _ #[_,_,Z,(PB.more (PB.lift (dE _ _ _ k6.t x3)) Ln),W6,k6.t]
 obtain⟨o5,b5,rfl,x5,W5,k5⟩:=h0
 refine f4 _ _ ?_
 clear f4
 refine af λF9 f9=>dy (λL u=>∃(o:Option V) (b:V),L=[some (V.ref p),some (V.str f0),some (V.str g),some (V.ref T),some (vx),some (vi),some (vy),o5,some b,o,none,none,none]/\PB [(g,2)] Y 1 3 u b/\Wd H u p T Y/\aj H5 u) (λE9 _ f6=>qT W5 Z Ln Ln (λH0 W k=>?_) (λH0 W k=>?_)) λσ1 H4 h1=>?_
 ·clear f9
  have M:aj J H0:=(((k2.t.trans k3.t).trans k5).trans k.t)
  refine af λF0 f'=>jR W (ZQ (Cf:=[(g,2)]) (kN Z Ln Lo) (KW Z) Ez (qg (n:=1) (qk Q8) (jM Z au (au _ _ _ M X)) (kC (Qs Ln (by decide:(1:Int) < 2)) Ln) Ln Ln) (jM Z au (au _ _ _ M U)) Ln Ln) λv1 H9 x0 W4 k0=>f' _ _ ?_
  have c:aj H5 H9:=(k.t.trans k0.t)
  have N:aj J H9:=(M.trans k0.t)
  refine jR W4 (qM (jM Z dE (dE _ _ _ c x5)) (Ka (wc (jM Z au (au _ _ _ N X)) (Ka (jM Z dI x0)) (wb (Cf:=[(g,2)]) (d:=0)) Ln Ln)) Ln) λv4 a2 x1 W9 k9=>f6 _ _ ?_
  have O:aj H5 a2:=(c.trans k9.t)
  exact#[_,_,Z,x1,W9,O]
 ·clear f9
  exact f6 _ _ #[_,_,Z,(PB.more (dE _ _ _ k.t x5) Ln),W,k.t]
 obtain⟨o2,c3,rfl,x4,a3,k'⟩:=h1
 refine f9 _ _ ?_
 clear f9
 have i:aj J H4:=(((k2.t.trans k3.t).trans k5).trans k')
 refine af λF5 a4=>jR a3 (qg (n:=1) (A1 Z) (jM Z au (au _ _ _ i U)) (kC (kW Z Ln Ln) Ln) Ln Ln) λv5 a0 x9 a' k4=>a4 _ _ ?_
 have a:aj J a0:=(i.trans k4.t)
 refine af λF6 b0=>jR a' (QS (Cf:=[(g,2)]) (J7 Z (jM Z au (au _ _ _ a xx)) (jM Z au (au _ _ _ a U))) Ln) λv9 b1 x' b2 R=>b0 _ _ ?_
 have j:aj J b1:=(a.trans R.t)
 refine af λc4 b3=>jR b2 (QS (Cf:=[(g,2)]) (J7 Z (jM Z au (au _ _ _ j U)) (jM Z au (au _ _ _ j X))) Ln) λv' a1 b4 b6 S=>b3 _ _ ?_
 have y:aj H4 a1:=((k4.t.trans R.t).trans S.t)
 have z:aj a0 a1:=(R.t.trans S.t)
 refine af λc5 b7=>jR b6 (qM (jM Z dE (dE _ _ _ y x4)) (Yj (wc (jM Z au (au _ _ _ z x9)) (Ka (jM Z dI (dI _ _ _ S.t x'))) (wb (Cf:=[(g,2)]) (d:=0)) Ln Ln) (Ev.up (jM Z dI b4) λ_ _=>cg.lift)) Ln) λc6 c9 b9 b' c'=>b7 _ _ ?_
 refine Qx b' (Yk (KW Z) (wg (kN Z Ln Lo) (kN Z Ln Lo)) (jM Z dE b9) Ln Lo) λv u x W'=>?_
 obtain⟨r,rfl,x⟩:=x
 exact q r u x W'.B W'.K
theorem bg:am ["_law_box_here","_law_f","_law_inner_here","_law_w","_law_n","_law_i","_law_s","_law_x","_law_y","_law_body_here","_law_spot_here","_law_start","_law_loop"] ["_law_box_here","_law_f","_law_inner_here","_law_w"] (aa gj):=bJ
noncomputable def KR:Scope:=#[.function,[(".0",.local),("_law_one",.local)],false,false,[]]
theorem Ya:(["_law_one"]:List Str).Nodup:=by decide+kernel
theorem Yb:aZ ["_law_box_here","_law_f","_law_inner_here","_law_w","_law_n","_law_i","_law_s","_law_x","_law_y","_law_body_here","_law_spot_here","_law_start","_law_loop"] (aa gj) KR ["_law_one"] 1 []:=mO
theorem ZA(F:aN K "_law_looped" "_law_looped" gj f fd)(C:Cl P w K mg base 1 fT d6 ["_law_box_here","_law_wide"] aX "_law_take")(cO:Cl P w K mg base 2 fO d7 ["_law_box_here","_law_a","_law_b"] mG "_law_op")(mi:mg "int"=none)(m6:mg "tuple"=none):ai P w K mg base aD 3 f fd ["_law_box_here","_law_f","_law_inner_here","_law_w"] (dn 1):=by
 refine F.ok bg ?_ λd8 A b2 s H vs Q E l h=>?_
 ·rintro _ _ _ _ ⟨p,W,f0,g,Y,rfl,_⟩
  rfl
 obtain⟨p,W,f0,g,Y,rfl,B,hw,h2,q⟩:=h
 refine#[_,(jd (za (@kJ _ _ _ _ _ _ _ (["_law_one"]) (1) ([]) _ _ _ _ Z (qW (jO kI (pv 3) j5 (jK jf))) Yb (λ_ _ _ _ _=>(jy (i:=0) Ya Z (Or.inl Z))) (λ_ _ _ _ _=>(@zi _)) (λ_ _ _ _ _=>(ji (ja jk (ja (pv 0) jb)))) (by intro _;rfl)) (@YB _ _ _ _ (5) _ Z (jD (jy (i:=4) bg.nd Z (Or.inl Z)) (jD (jy (i:=5) bg.nd Z (Or.inl Z)) (jD (jy (i:=6) bg.nd Z (Or.inl Z)) (jD (jy (i:=7) bg.nd Z (Or.inl Z)) (jD (jy (i:=8) bg.nd Z (Or.inl Z)) kh))))) Ls Ls)) (jd (jB 9 bg.nd (jL (ja (ji (ja jk (ja (js jr (pv 3) jf (λ_ _=>Z)) (ja (ji (ja jk (ja jk (ja (pv 5) (ja (ji (ja jk (ja (C.e l.m (ja (pv 0) (ja jf jb))) jb))) jb))))) jb)))) jb))) (jd (jX (kU EF EQ EO jT (pv 9) (ja (ji (ja jk (ja (js jr (pv 3) jf (λ_ _=>Z)) (ja (pv 2) (ja (ji (ja (pv 7) (ja (js jr (jL (ja (pv 5) (ja (pv 6) jb))) (jC kQ Z mi HL (ja (j4 zw (C.e l.m (ja (pv 0) (ja jf jb))) jf (aA _)) jb)) (λ_ _=>Z)) jb))) jb))))) jb))) (jd (j3 (jx (ze (C.e l.m (ja (pv 0) (ja jf jb)))) (jd (jB 10 bg.nd (ji (ja jk (ja jk (ja (pv 5) (ja (ji (ja jk (ja (jv jW jf (C.e l.m (ja (pv 0) (ja jf jb)))) jb))) jb)))))) (jg (jX (kU EF EQ EO jT (pv 9) (ja (ji (ja jk (ja (pv 10) (ja (js jr (jL (ja (pv 6) (ja (pv 8) (ja (pv 7) jb)))) (C.e l.m (ja (pv 0) (ja jf jb))) (λ_ _=>Z)) jb)))) jb))))) jp)) (jd (jX (kU EF EQ EO jT (pv 9) (ja (ji (ja jk (ja (js jr (pv 3) jf (λ_ _=>Z)) (ja (cO.e l.m (ja (pv 0) (ja (js jr (jL (ja (pv 6) (ja (pv 6) (ja (pv 7) jb)))) (C.e l.m (ja (pv 0) (ja jf jb))) (λ_ _=>Z)) (ja (pv 8) jb)))) jb)))) jb))) (jd (j3 (jx (ze (C.e l.m (ja (pv 0) (ja jf jb)))) (jg (za (ji (ja (js jr (pv 9) jf (λ_ _=>Z)) (ja (js jr (pv 9) jf (λ_ _=>Z)) jb))) (zO (n:=2) Z (jD (qI (pv 9) jf zE) (jD (qI (pv 9) jf zE) kh))))) jp)) (jd (jX (kU EF EQ EO jT (pv 9) (ja (ji (ja jk (ja (js jr (pv 3) jf (λ_ _=>Z)) (ja (ji (ja jk (ja jk (ja (pv 5) (ja (ji (ja jk (ja jf jb))) jb))))) jb)))) jb))) (jd (jB 11 bg.nd (ji (ja (ji (ja jk (ja (js jr (pv 3) jf (λ_ _=>Z)) (ja (ji (ja jk (ja (C.e l.m (ja (pv 0) (ja jf jb))) jb))) jb)))) (ja (ji (ja jk (ja (js jr (pv 3) jf (λ_ _=>Z)) (ja (ji (ja jk (ja (C.e l.m (ja (pv 0) (ja jf jb))) jb))) jb)))) jb)))) (jd (j3 (jx (ze (C.e l.m (ja (pv 0) (ja jf jb)))) (jd (jB 11 bg.nd (jv ki (pv 11) (ji (ja (ji (ja jk (ja (js jr (pv 3) jf (λ_ _=>Z)) (ja (ji (ja jk (ja (jv jW jf (C.e l.m (ja (pv 0) (ja jf jb)))) jb))) jb)))) jb)))) (jg (jB 11 bg.nd (jv ki (pv 11) (ji (ja (ji (ja jk (ja (js jr (pv 3) jf (λ_ _=>Z)) (ja (ji (ja jk (ja jk (ja (pv 4) (ja (ji (ja jk (ja jf jb))) jb))))) jb)))) jb)))))) jp)) (jd (jB 12 bg.nd (ji (ja jk (ja (ji (ja jk (ja jk (ja (pv 5) (ja (pv 4) jb))))) (ja (jC jI Z m6 Ft (ja (pv 9) jb)) jb))))) (jg (jm (ji (ja (pv 1) (ja (ji (ja (js jr (pv 3) jf (λ_ _=>Z)) jb)) (ja (jv ki (pv 11) (ji (ja (pv 12) (ja (ji (ja jk (ja (ji (ja jk (ja jf jb))) (ja (pv 6) jb)))) (ja (ji (ja jk (ja (pv 6) jb))) jb))))) jb)))))))))))))))),?_]
 have W0:Wd H H p W Y:=#[B,ax.refl,hw]
 refine af λF1 f1=>YL W0 Z h2 λvn vi vs vx vy U xn xi xs xx xy W1=>f1 _ _ ?_
 refine af λF2 f2=>Bo W1 (J8 (Cf:=[(g,2)]) (kN Z Ln Lo) (qg (n:=1) (qk zo) (jM Z au xi) (kC (kW Z Ln Ln) Ln) Ln Ln) Ln) λlb u2 H2 o2 x2 W2 k2=>f2 _ _ ?_
 refine af λF3 f3=>Jw W2 Z o2 (show 1<=100 by decide) (ZQ (Cf:=[(g,2)]) (kN Z Ln Lo) (KW Z) Ez (jM Z au (au _ _ _ k2.t xx)) (AZ Z Ln Ln (jM Z au (au _ _ _ k2.t xi)) (jM Z au (au _ _ _ k2.t xs))) Ln Ln) λu3 H3 x3 o3 W3 k3=>f3 _ _ ?_
 refine af λF4 f4=>dy (λu c=>∃(o:Option V) (G:List V),u=[some (V.ref p),some (V.str f0),some (V.str g),some (V.ref W),some (vn),some (vi),some (vs),some (vx),some (vy),some (V.ref lb),o,none,none]/\Ow H c p W lb (u2::u3::G)/\fu [(g,2)] c Y 0 G/\G.length<=1/\Wd H c p W Y/\aj H3 c) (λE4 _ f5=>qT W3 Z Ln Ln (λH6 W6 k6=>?_) (λH6 W6 k6=>?_)) λσ2 H5 h3=>?_
 ·clear f4
  have o6:=o3.fw k6
  have R:aj U H6:=((k2.t.trans k3).trans k6.t)
  refine af λF7 f7=>jR W6 (qg (n:=1) (qk zo) (jM Z au (au _ _ _ R xi)) (kC (Qw (kW Z Ln Ln) Ln) Ln) Ln Ln) λv7 H7 x7 W7 k7=>f7 _ _ ?_
  have o7:=o6.fw k7
  have y:aj U H7:=(R.trans k7.t)
  refine Jw W7 Z o7 (show 2<=100 by decide) (J9 (Cf:=[(g,2)]) (jM Z au x7) (we Z (jM Z au (au _ _ _ y xs)) (jM Z au (au _ _ _ y xy)) (jM Z au (au _ _ _ y xx))) Ln Ln) λu8 H8 x8 o8 W8 k8=>f5 _ _ ?_
  have m5:aj H3 H8:=((k6.t.trans k7.t).trans k8)
  exact#[_,[u8],Z,o8,zB x8,Eh 1,W8,m5]
 ·clear f4
  have o6:=o3.fw k6
  exact f5 _ _ #[_,[],Z,o6,Ki,Ln,W6,k6.t]
 obtain⟨w5,G,rfl,o5,zx,zl,W5,k5⟩:=h3
 refine f4 _ _ ?_
 clear f4
 have M:aj U H5:=((k2.t.trans k3).trans k5)
 refine af λF9 f9=>Jw W5 Z o5 (show G.length+1+1<=100 by omega) (JD (Cf:=[(g,2)]) (kN Z Ln Lo) (J7 Z (we Z (jM Z au (au _ _ _ M xs)) (jM Z au (au _ _ _ M xs)) (jM Z au (au _ _ _ M xx))) (jM Z au (au _ _ _ M xy))) Ln) λu9 H9 x9 o9 W9 k9=>f9 _ _ ?_
 have zy:fu [(g,2)] H9 Y 0 (G++[u9]):=Jv (zx.mono k9) (zB x9)
 have zm:(G++[u9]).length<=2:=by rw[Ei];exact FP zl
 refine af λF0 I=>dy (λu c=>∃(X:List V),u=[some (V.ref p),some (V.str f0),some (V.str g),some (V.ref W),some (vn),some (vi),some (vs),some (vx),some (vy),some (V.ref lb),w5,none,none]/\Ow H c p W lb X/\fu [(g,2)] c Y 0 X/\X.length<=4/\Wd H c p W Y/\aj H9 c) (λE1 _ S=>qT W9 Z Ln Ln (λH0 W4 k=>?_) (λH0 W4 k=>?_)) λσ0 b3 h0=>?_
 ·clear I
  have o1:=o9.fw k
  refine vI W4 Z o1 λH4 b4 b5 k0=>S _ _ ?_
  have m0:aj H3 H4:=(((k5.trans k9).trans k.t).trans k0)
  have m1:aj H2 H4:=((((k3.trans k5).trans k9).trans k.t).trans k0)
  have z:aj H9 H4:=(k.t.trans k0)
  exact#[_,Z,b4,jU ((dI _ _ _ m0 x3)) (jU ((dI _ _ _ m1 x2)) (zy.mono z)),(show(G++[u9]).length+1+1<=4 by omega),b5,z]
 ·clear I
  have o1:=o9.fw k
  have m2:aj H2 H0:=(((k3.trans k5).trans k9).trans k.t)
  have m3:aj H3 H0:=((k5.trans k9).trans k.t)
  exact S _ _ #[_,Z,o1,jU ((dI _ _ _ m2 x2)) (jU ((dI _ _ _ m3 x3)) (zy.mono k.t)),(show(G++[u9]).length+1+1<=4 by omega),W4,k.t]
 obtain⟨X,rfl,b6,ux,ul,b7,b9⟩:=h0
 refine I _ _ ?_
 clear I
 have d:aj U b3:=((M.trans k9).trans b9)
 refine af λF5 f6=>Jw b7 Z b6 Lo (JD (Cf:=[(g,2)]) (kN Z Ln Lo) (qg (n:=1) (qk zo) (jM Z au (au _ _ _ d xi)) (kC (Qs Ln (by decide:(1:Int) < 2)) Ln) Ln Ln) Ln) λu0 a1 x1 b' c0 k1=>f6 _ _ ?_
 have b0:fu [(g,2)] a1 Y 0 (X++[u0]):=Jv (ux.mono k1) (zB x1)
 have bl:(X++[u0]).length<=5:=by rw[Ei];exact FP ul
 refine af λF6 f'=>jR c0 (Yj (JD (Cf:=[(g,2)]) (kN Z Ln Lo) (kC (kW Z Ln Ln) Ln) Ln) (JD (Cf:=[(g,2)]) (kN Z Ln Lo) (kC (kW Z Ln Ln) Ln) Ln)) λv1 a2 x0 c1 J=>f' _ _ ?_
 have o':=b'.fw J
 refine af λd' L=>dy (λu c=>∃(b:V),u=[some (V.ref p),some (V.str f0),some (V.str g),some (V.ref W),some (vn),some (vi),some (vs),some (vx),some (vy),some (V.ref lb),w5,some b,none]/\Ow H c p W lb (X++[u0])/\PB [(g,2)] Y 0 4 c b/\Wd H c p W Y/\aj a2 c) (λE2 _ T=>qT c1 Z Ln Ln (λc2 a0 a=>?_) (λc2 a0 a=>?_)) λσ1 a3 h1=>?_
 ·clear L
  have o4:=o'.fw a
  refine af λe0 c3=>jR a0 (qM (jM Z dE (dE _ _ _ a.t x0)) (Ka (J8 (Cf:=[(g,2)]) (kN Z Ln Lo) (kC (Qw (kW Z Ln Ln) Ln) Ln) Ln)) Ln) λv2 c4 x4 c5 k4=>c3 _ _ ?_
  have c6:=o4.fw k4
  have m4:aj U c4:=((((d.trans k1).trans J.t).trans a.t).trans k4.t)
  refine jR c5 (qM (jM Z dE x4) (Ka (JD (Cf:=[(g,2)]) (kN Z Ln Lo) (qg (n:=1) (qk vE) (jM Z au (au _ _ _ m4 xn)) (kC (Qs Ln (by decide:(2:Int) < 3)) Ln) Ln Ln) Ln)) Ln) λv3 c9 x5 c' a4=>T _ _ ?_
  have d0:=c6.fw a4
  have N:aj a2 c9:=((a.t.trans k4.t).trans a4.t)
  exact#[_,Z,d0,x5,c',N]
 ·clear L
  have o4:=o'.fw a
  exact T _ _ #[_,Z,o4,(PB.more (dE _ _ _ a.t x0) Ln),a0,a.t]
 obtain⟨e1,rfl,a',x',d1,b1⟩:=h1
 refine L _ _ ?_
 clear L
 have j:aj U a3:=(((d.trans k1).trans J.t).trans b1)
 have O:aj a1 a3:=(J.t.trans b1)
 refine af λe2 d2=>jR d1 (wm (qg (n:=1) (qk QE) (jM Z au (au _ _ _ j xi)) (jM Z au (au _ _ _ j xn)) Ln Ln) (wj (n:=5) Z a' (b0.mono O) bl) Ln Ln) λv4 d3 d4 d5 k'=>d2 _ _ ?_
 have e3:=a'.fw k'
 have D:aj U d3:=(j.trans k'.t)
 refine Qx d5 (Yk (KW Z) (wf (kN Z Ln Lo)) (qM (Ev.up (jM Z dE (dE _ _ _ k'.t x')) λ_ _=>PB.lift) (AX (jM Z dI d4) (Ev.up (J9 (Cf:=[(g,2)]) (kC (Qs Ln (by decide:(30:Int) < 31)) Ln) (jM Z au (au _ _ _ D xs)) Ln Ln) λ_ _=>cg.lift) (Ev.up (QS (Cf:=[(g,2)]) (jM Z au (au _ _ _ D xs)) Ln) λ_ _=>cg.lift)) Ln) Ln Lo) λv c x W'=>?_
 obtain⟨r,rfl,x⟩:=x
 exact q r c x W'.B W'.K
theorem CU(b:0<=d)(c:d < 2)(h:cg C H y 0 u)(a:cg C H y 0 v):fu C H y 0 (aV [u,v] none (some (1+d)))/\(aV [u,v] none (some (1+d))).length<=2:=by
 rcases(by omega:d=0∨d=1) with rfl |rfl
 ·exact#[zB h,by show 1<=2;decide]
 ·exact#[jU h (zB a),by show 2<=2;decide]
noncomputable def P2(C:gA)(y:List Str)(H:Hp)(w:V):Prop:=∃a u v,w= .ref a/\H a=some (.tup [u,v])/\cg C H y 0 u/\cg C H y 0 v
theorem wz:mN (P2 C y):=λ_ _ _ m #[a,u,v,e,h,H,b]=>#[a,u,v,e,m _ _ h,H.mono m,b.mono m]
section
variable {Cf:gA}{ys:List Str}{H0 Hb:Hp}{p wl:Addr}{σ:_L.St}
theorem xu(h:Ev H0 p wl ys Hb σ T (λH v=>cg Cf H ys 0 v))(c:Ev H0 p wl ys Hb σ d (λH v=>cg Cf H ys 0 v)):Ev H0 p wl ys Hb σ (bN (al T (al d aL))) (P2 Cf ys):=λH Q m W q=>
 h H _ m W λo e X f a=>c e _ (m.trans a) f λs u g i b=>#[bj,λr n=>kA (P:=P2 Cf ys) i (λV j x l k=>q V j x l ((a.trans b).trans k)) n λt z=>#[r,_,_,Z,z,(X.mono b.t).mono t,g.mono t]]
theorem xt(e:σ[i]?=some (some v))(E:σ[0]?=some (some (.ref p)))(h:P2 Cf ys Hb v):Ev H0 p wl ys Hb σ (CB Bv (aW i) i7 (lJ (dF (u6 λi j=>V.int (i+j)) (tC (.int 1)) (tw 2)))) (PB Cf ys 0 2):=λH Q m W q=>
 #[v,e,kW E Ln Ln H _ m W λw y #[d,b,D,c] f k=>#[1,d,Z,b,_,Z,by
  obtain⟨a,u,A,rfl,g,l,n⟩:=wz _ _ _ (m.trans k).t h
  have z:=CU D c l n
  exact#[a,_,Z,g,λr o x s=>q _ o #[r,_,Z,x,z.1.mono (ae.tm s),z.2] (f.same s) (k.trans (.same s))]]]
end
theorem aM:am ["_law_box_here","_law_f","_law_inner_here","_law_w","_law_n","_law_i","_law_s","_law_x","_law_y","_law_spot_here","_law_body_here","_law_kept","_law_some","_law_start","_law_loop"] ["_law_box_here","_law_f","_law_inner_here","_law_w"] (aa eV):=bJ
noncomputable def KD:Scope:=#[.function,[(".0",.local),("_law_one",.local)],false,false,[]]
theorem Xr:(["_law_one"]:List Str).Nodup:=by decide+kernel
theorem Xt:aZ ["_law_box_here","_law_f","_law_inner_here","_law_w","_law_n","_law_i","_law_s","_law_x","_law_y","_law_spot_here","_law_body_here","_law_kept","_law_some","_law_start","_law_loop"] (aa eV) KD ["_law_one"] 1 []:=mO
theorem Yc(F:aN K "_law_ticking" "_law_ticking" eV f fd)(C:Cl P w K mg base 1 fT b6 ["_law_box_here","_law_wide"] aX "_law_take")(cO:Cl P w K mg base 2 fO b7 ["_law_box_here","_law_a","_law_b"] mG "_law_op")(mi:mg "int"=none)(m1:mg "tuple"=none):ai P w K mg base aD 3 f fd ["_law_box_here","_law_f","_law_inner_here","_law_w"] (dn 1):=by
 refine F.ok aM ?_ λc0 A o5 s H vs Q E c h=>?_
 ·rintro _ _ _ _ ⟨p,W,f0,g,ys,rfl,_⟩
  rfl
 obtain⟨p,W,f0,g,ys,rfl,B,hw,h1,q⟩:=h
 refine#[_,(jd (za (@kJ _ _ _ _ _ _ _ (["_law_one"]) (1) ([]) _ _ _ _ Z (qW (jO kI (pv 3) j5 (jK jf))) Xt (λ_ _ _ _ _=>(jy (i:=0) Xr Z (Or.inl Z))) (λ_ _ _ _ _=>(@zi _)) (λ_ _ _ _ _=>(ji (ja jk (ja (pv 0) jb)))) (by intro _;rfl)) (@YB _ _ _ _ (5) _ Z (jD (jy (i:=4) aM.nd Z (Or.inl Z)) (jD (jy (i:=5) aM.nd Z (Or.inl Z)) (jD (jy (i:=6) aM.nd Z (Or.inl Z)) (jD (jy (i:=7) aM.nd Z (Or.inl Z)) (jD (jy (i:=8) aM.nd Z (Or.inl Z)) kh))))) Ls Ls)) (jd (jB 9 aM.nd (ji (ja jk (ja (jv jW jf (C.e c.m (ja (pv 0) (ja jf jb)))) jb)))) (jd (jB 10 aM.nd (jL (ja (ji (ja jk (ja (js jr (pv 3) jf (λ_ _=>Z)) (ja (pv 9) jb)))) (ja (ji (ja jk (ja (js jr (pv 3) jf (λ_ _=>Z)) (ja (js jr (jL (ja (pv 5) (ja (ji (ja jk (ja (C.e c.m (ja (pv 0) (ja jf jb))) jb))) jb))) (C.e c.m (ja (pv 0) (ja jf jb))) (λ_ _=>Z)) jb)))) jb)))) (jd (jX (kU EF EQ EO jT (pv 10) (ja (ji (ja jk (ja (js jr (pv 3) jf (λ_ _=>Z)) (ja (pv 2) (ja (ji (ja (js jr (jL (ja (pv 7) (ja (ji (ja jk (ja jf jb))) jb))) (C.e c.m (ja (pv 0) (ja jf jb))) (λ_ _=>Z)) (ja (js jr (jL (ja (pv 5) (ja (ji (ja jk (ja jf jb))) jb))) (C.e c.m (ja (pv 0) (ja jf jb))) (λ_ _=>Z)) jb))) jb))))) jb))) (jd (j3 (jx (ze (C.e c.m (ja (pv 0) (ja jf jb)))) (jg (jX (kU EF EQ EO jT (pv 10) (ja (ji (ja jk (ja (ji (ja jk (ja jk (ja (pv 5) (ja (ji (ja jk (ja (C.e c.m (ja (pv 0) (ja jf jb))) jb))) jb))))) (ja (pv 8) jb)))) jb)))) jp)) (jd (jB 11 aM.nd (ji (ja jk (ja jf jb)))) (jd (jB 12 aM.nd (jL (ja (ji (ja jk (ja (js jr (pv 3) jf (λ_ _=>Z)) (ja (pv 11) jb)))) (ja (ji (ja jk (ja (pv 11) (ja (cO.e c.m (ja (pv 0) (ja (pv 6) (ja (pv 8) jb)))) jb)))) jb)))) (jd (j3 (jx (ze (C.e c.m (ja (pv 0) (ja jf jb)))) (jg (jB 12 aM.nd (jL (ja (ji (ja jk (ja (js jr (pv 3) jf (λ_ _=>Z)) (ja (cO.e c.m (ja (pv 0) (ja (pv 6) (ja (pv 8) jb)))) jb)))) jb)))) jp)) (jd (jB 10 aM.nd (jv qL (jv qL (pv 10) (pv 12)) (jL (ja (ji (ja jk (ja (pv 9) (ja (ji (ja jk (ja jk (ja (pv 5) (ja (ji (ja jk (ja jf jb))) jb))))) jb)))) (ja (ji (ja jk (ja (js jr (pv 3) jf (λ_ _=>Z)) (ja (ji (ja jk (ja jk (ja (pv 5) (ja (pv 4) jb))))) jb)))) jb))))) (jd (jB 13 aM.nd (ji (ja (ji (ja jk (ja (js jr (pv 3) jf (λ_ _=>Z)) (ja (ji (ja jk (ja jf jb))) jb)))) (ja (ji (ja jk (ja (pv 9) (ja (ji (ja jk (ja (C.e c.m (ja (pv 0) (ja jf jb))) jb))) jb)))) jb)))) (jd (jB 14 aM.nd (ji (ja jk (ja (ji (ja jk (ja (js jr (pv 3) jf (λ_ _=>Z)) jb))) (ja (jC jI Z m1 Ft (ja (pv 10) jb)) jb))))) (jg (jm (ji (ja (pv 1) (ja (ji (ja (js jr (pv 3) jf (λ_ _=>Z)) jb)) (ja (jv ki (jO zd (pv 13) j5 (jK (jv jW jf (C.e c.m (ja (pv 0) (ja jf jb)))))) (ji (ja (pv 14) (ja (ji (ja jk (ja (pv 6) jb))) jb)))) jb))))))))))))))))),?_]
 have W0:Wd H H p W ys:=#[B,ax.refl,hw]
 refine af λF1 f1=>YL W0 Z h1 λvn vi vs vx vy H1 xn xi xs xx xy W1=>f1 _ _ ?_
 refine af λF2 f2=>jR W1 (kC (Qw (kW Z Ln Ln) Ln) Ln) λv2 H2 x2 W2 k2=>f2 _ _ ?_
 refine af λF3 f3=>Bp W2 (J8 (Cf:=[(g,2)]) (kN Z Ln Lo) (jM Z au x2) Ln) (J8 (Cf:=[(g,2)]) (kN Z Ln Lo) (Yi Z (jM Z au (au _ _ _ k2.t xi)) (kC (kW Z Ln Ln) Ln)) Ln) λlb u3 w3 H3 o3 x3 y3 W3 k3=>f3 _ _ ?_
 have a:aj H1 H3:=(k2.t.trans k3.t)
 refine af λF4 f4=>Jw W3 Z o3 (show 2<=100 by decide) (ZQ (Cf:=[(g,2)]) (kN Z Ln Lo) (KW Z) Ez (Yi Z (jM Z au (au _ _ _ a xx)) (kC (Qs Ln (by decide:(3:Int) < 4)) Ln)) (Yi Z (jM Z au (au _ _ _ a xi)) (kC (Qs Ln (by decide:(2:Int) < 3)) Ln)) Ln Ln) λu4 H4 x4 o4 W4 k4=>f4 _ _ ?_
 refine af λF5 f5=>dy (λN d=>∃(us:List V),N=[some (V.ref p),some (V.str f0),some (V.str g),some (V.ref W),some (vn),some (vi),some (vs),some (vx),some (vy),some (v2),some (V.ref lb),none,none,none,none]/\Ow H d p W lb us/\fu [(g,2)] d ys 0 us/\us.length<=4/\Wd H d p W ys/\aj H4 d) (λE5 _ f6=>qT W4 Z Ln Ln (λH7 W7 u=>?_) (λH7 W7 u=>?_)) λσ1 H6 h2=>?_
 ·clear f5
  have o7:=o4.fw u
  have D:aj H1 H7:=((a.trans k4).trans u.t)
  refine Jw W7 Z o7 (show 3<=100 by decide) (J9 (Cf:=[(g,2)]) (qg (n:=1) (qk zo) (jM Z au (au _ _ _ D xi)) (kC (kW Z Ln Ln) Ln) Ln Ln) (jM Z au (au _ _ _ D xy)) Ln Ln) λu8 H8 x8 o8 W8 k8=>f6 _ _ ?_
  have G:aj H4 H8:=(u.t.trans k8)
  have I:aj H3 H8:=((k4.trans u.t).trans k8)
  exact#[_,Z,o8,(jU ((dI _ _ _ I x3)) (jU ((dI _ _ _ I y3)) (jU ((dI _ _ _ G x4)) (jU (x8) Ki)))),(show 4<=4 by decide),W8,G]
 ·clear f5
  have o7:=o4.fw u
  have J:aj H3 H7:=(k4.trans u.t)
  exact f6 _ _ #[_,Z,o7,(jU ((dI _ _ _ J x3)) (jU ((dI _ _ _ J y3)) (jU ((dI _ _ _ u.t x4)) Ki))),(show 3<=4 by decide),W7,u.t]
 obtain⟨us,rfl,o6,ux,ul,W6,k6⟩:=h2
 refine f5 _ _ ?_
 clear f5
 refine af λF9 f9=>jR W6 (kC (Qs Ln (by decide:(30:Int) < 31)) Ln) λv9 H9 x9 W9 k9=>f9 _ _ ?_
 have o9:=o6.fw k9
 have b:aj H1 H9:=(((a.trans k4).trans k6).trans k9.t)
 refine af λF0 f7=>Bp W9 (J8 (Cf:=[(g,2)]) (kN Z Ln Lo) (jM Z au x9) Ln) (J9 (Cf:=[(g,2)]) (jM Z au x9) (J7 Z (jM Z au (au _ _ _ b xs)) (jM Z au (au _ _ _ b xy))) Ln Ln) λlm u0 w0 H0 z0 x0 y0 W5 j=>f7 _ _ ?_
 have o1:=o9.fw j
 refine af λF6 y=>dy (λN d=>∃(m:Addr) (zs:List V),N=[some (V.ref p),some (V.str f0),some (V.str g),some (V.ref W),some (vn),some (vi),some (vs),some (vx),some (vy),some (v2),some (V.ref lb),some (v9),some (.ref m),none,none]/\Ow H d p W lb us/\Ow H d p W m zs/\fu [(g,2)] d ys 0 zs/\zs.length<=2/\Wd H d p W ys/\aj H0 d) (λE1 _ L=>qT W5 Z Ln Ln (λH5 O k=>?_) (λH5 O k=>?_)) λσ0 R h0=>?_
 ·clear y
  have S:=o1.fw k
  have z1:=z0.fw k
  have l:aj H1 H5:=((b.trans j.t).trans k.t)
  refine Bo O (JD (Cf:=[(g,2)]) (kN Z Ln Lo) (J7 Z (jM Z au (au _ _ _ l xs)) (jM Z au (au _ _ _ l xy))) Ln) λlq u1 a0 z2 x1 a1 k1=>L _ _ ?_
  have o':=S.fw k1
  have z:aj H0 a0:=(k.t.trans k1.t)
  exact#[_,_,Z,o',z2,zB x1,(show 1<=2 by decide),a1,z]
 ·clear y
  have S:=o1.fw k
  have z1:=z0.fw k
  exact L _ _ #[_,_,Z,S,z1,(jU ((dI _ _ _ k.t x0)) (jU ((dI _ _ _ k.t y0)) Ki)),(show 2<=2 by decide),O,k.t]
 obtain⟨lm,zs,rfl,a2,z3,zx,zl,a3,T⟩:=h0
 refine y _ _ ?_
 clear y
 have o:aj H2 R:=(((((k3.t.trans k4).trans k6).trans k9.t).trans j.t).trans T)
 have M:aj H1 R:=((b.trans j.t).trans T)
 have U:aj H6 R:=((k9.t.trans j.t).trans T)
 refine af λF7 f'=>xh a3 Z Z a2 z3 Lo (ux.mono U) zx (J9 (Cf:=[(g,2)]) (jM Z au (au _ _ _ o x2)) (qg (n:=1) (qk zo) (jM Z au (au _ _ _ M xi)) (kC (Qs Ln (by decide:(1:Int) < 2)) Ln) Ln Ln) Ln Ln) (JD (Cf:=[(g,2)]) (kN Z Ln Lo) (qg (n:=1) (qk QE) (jM Z au (au _ _ _ M xi)) (jM Z au (au _ _ _ M xn)) Ln Ln) Ln) λlc cs a4 a' cx cl b0 k5=>f' _ _ ?_
 have cm:cs.length<=8:=by omega
 have X:aj H2 a4:=(o.trans k5.t)
 refine af λb9 b1=>jR b0 (xu (JD (Cf:=[(g,2)]) (kN Z Ln Lo) (kC (Qs Ln (by decide:(1:Int) < 2)) Ln) Ln) (J9 (Cf:=[(g,2)]) (jM Z au (au _ _ _ X x2)) (kC (kW Z Ln Ln) Ln) Ln Ln)) λv1 b' x5 b2 Y=>b1 _ _ ?_
 have o2:=a'.fw Y
 refine af λc1 b3=>jR b2 (wm (J6 (kN Z Ln Lo)) (wj (n:=8) Z o2 (cx.mono Y.t) cm) Ln Ln) λv3 b4 x7 b5 k0=>b3 _ _ ?_
 have c2:=o2.fw k0
 have m0:aj H1 b4:=(((M.trans k5.t).trans Y.t).trans k0.t)
 refine Qx b5 (Yk (KW Z) (wf (kN Z Ln Lo)) (qM (Ev.up (xt Z Z (wz _ _ _ k0.t x5)) λ_ _=>PB.lift) (Yj (jM Z dI x7) (Ev.up (QS (Cf:=[(g,2)]) (jM Z au (au _ _ _ m0 xs)) Ln) λ_ _=>cg.lift)) Ln) Ln Lo) λv d x W'=>?_
 obtain⟨r,rfl,x⟩:=x
 exact q r d x W'.B W'.K
theorem CV{y:List Str}{lo:Nat}(h:y.length=14)(H:lo<=8):(ba y (some (lo:Int)) (some ((lo+6:Nat):Int))).length=6:=by
 unfold ba
 rw[HT.sIx_nat,HT.sIx_nat,ED,Ga,h,GX (Es H Ln),GX (Nat.add_le_add_right H 6),Nat.add_sub_cancel_left]
 exact GX (Nat.le_sub_of_add_le (Es (Nat.add_le_add_left H 6) Ln))
theorem DY{k:Nat}(h:k < n):lY n (k:Int)=some k:=by unfold lY;rw[Er Lo,Er Lo,Fs]
theorem nW.more(h:nW C n H r f)(k:∀y∈C,y∈D):nW D n H r f:=let #[d,b,a,c]:=h;#[d,b,#[a.1,km k a.2],c]
theorem CY(r:nW [(l,N),(m,j),(o,k)] N H a l)(s:nW [(l,N),(m,j),(o,k)] j H b m)(t:nW [(l,N),(m,j),(o,k)] k H c o)(p:N<=100/\j<=100/\k<=100):∃D,cf H D [.ref a,.ref b,.ref c]/\D.length=3/\((∀d∈D,lO d/\d.b.Cs [(l,N),(m,j),(o,k)])/\D.map Df.f=[l,m,o])/\lg H D [N,j,k]:=by
 obtain⟨d,u,v,O,y,z,E⟩:=r
 obtain⟨e,A,B,Q,C,F,G⟩:=s
 obtain⟨f,I,J,R,g3,L,M⟩:=t
 refine#[[d,e,f],#[_,_,Z,u,_,_,Z,A,_,_,Z,I,Z],Z,#[λx q=>?_,by rw[<- E,<- G,<- M];rfl],Z,λi x n h g=>?_]
 ·simp only[Gr,EL,Hq]at q
  rcases q with rfl |rfl |rfl
  ·exact v
  ·exact B
  ·exact J
 ·match i,h,g with
  |0,h,g=>cases h;cases g;exact#[_,y,z,p.1]
  |1,h,g=>cases h;cases g;exact#[_,C,F,p.2.1]
  |2,h,g=>cases h;cases g;exact#[_,g3,L,p.2.2]
noncomputable def mx:Sp:=λv H Q _=>∃(p:Addr),v=[.ref p]/\ap H p/\∀(r:Addr) (d:List Df) (x:List V) (h:Hp),h r=some (.tup x)->cf h d x->d.length=3->∀n,nY d n->lg h d n->(∃r,n=1::r)->ap h p->ax p H h->Q (.ref r) h
noncomputable def AA(L:List Str)(_:Hp)(v:V):Prop:=∃x,v= .str x/\x∈L
section
variable {ys:List Str}{H0 Hb:Hp}{p wl:Addr}{σ:_L.St}
theorem A0{K:Frag}(e:σ[0]?=some (some (.ref p)))(r:Ev H0 p wl ys Hb σ t (tK a))(s:Ev H0 p wl ys Hb σ T (tK b))(u:Ev H0 p wl ys Hb σ x (tK c)):Ev H0 p wl ys Hb σ (dF (iy K) (lI (al t (al T (al x aL)))) (tw 3)) (AA [a,b,c]):=λH Q m W q=>
 r H _ m W λy z (E:y= .str a) A k=>s z _ (m.trans k) A λC D (F:C= .str b) G f=>u D _ ((m.trans k).trans f) G λI R (J:I= .str c) h j=>#[dY,λl n=>kW e Ln Ln _ _ ((((m.trans k).trans f).trans j).trans (.new n)) (h.same (je n)) λv L #[d,M,S,U] N o=>by
  obtain⟨g,i,O⟩:∃g,dC [V.str a,.str b,.str c] d=some (.str g)/\g∈[a,b,c]:=by
   rcases(by omega:d=0∨d=1∨d=2) with rfl |rfl |rfl
   ·exact#[a,Z,Lp]
   ·exact#[b,Z,Lp]
   ·exact#[c,Z,Lp]
  rw[<- E,<- F,<- J]at i
  exact#[l,_,d,_,Z,M,aF.of (o.b _ _ (h.B.ne n) jc),i,q _ L #[g,Z,O] N (((k.trans f).trans j).trans ((Fw.new n).trans o))]]
theorem ZR{K:Frag}{lo:Nat}(e:σ[0]?=some (some (.ref p)))(E:σ[1]?=some (some (.ref wl)))(d:Ev H0 p wl ys Hb σ t (tK f))(l:Ev H0 p wl ys Hb σ T (AA L))(h:ys.length=14)(o:lo<=8)(s:i=(lo:Int))(u:j=((lo+6:Nat):Int)):
  Ev H0 p wl ys Hb σ (dB (dn n) [] E0 (al (aW 0) (al t (al T (al (CB (yI K) (aW 1) (lJ (tC (.int i))) (lJ (tC (.int j)))) aL))))) (PD (L.map λy=>(y,2)) n f):=λH Q m W q=>
 #[_,e,d H _ m W λv x (z:v= .str f) A k=>l x _ (m.trans k) A λV M #[g,D,c] b F=>#[_,E,_,Z,_,Z,wl,_,Z,aF.of b.w,λr N=>#[p,r,f,g,ba ys (some i) (some j),by rw[z,D];rfl,b.B.upd_new N,by rw[jc,zF],by rw[s,u];exact CV h o,λa G X I C=>
  q _ G #[a,Z,X.more λy J=>by rw[List.mem_singleton.mp J];exact List.mem_map.mpr #[g,c,Z]] ((b.same (je N)).but I C) ((k.trans F).trans ((Fw.new N).trans (.but (b.B.upd_new N) C)))]]]
theorem qU{K:Frag}{k:Nat}(e:σ[j]?=some (some (.ref wl)))(a:i=(k:Int))(h:ys[k]?=some y):Ev H0 p wl ys Hb σ (dF (iy K) (aW j) (tC (.int i))) (tK y):=λH Q m W q=>
 #[_,e,wl,_,_,_,Z,Z,aF.of W.w,(by rw[a];exact ju (by rw[Eo,h];rfl)),q _ H Z W .refl]
theorem AY{n1 n2 n3:Nat}(s:n1<=100/\n2<=100/\n3<=100)(u:Ev H0 p wl ys Hb σ T (PD [(e,n1),(h,n2),(i,n3)] n1 e))(y:Ev H0 p wl ys Hb σ z (PD [(e,n1),(h,n2),(i,n3)] n2 h))(A:Ev H0 p wl ys Hb σ B (PD [(e,n1),(h,n2),(i,n3)] n3 i)):Ev H0 p wl ys Hb σ (bN (al T (al z (al B aL)))) (λH v=>∃r D x,v= .ref r/\H r=some (.tup x)/\cf H D x/\D.length=3/\((∀d∈D,lO d/\d.b.Cs [(e,n1),(h,n2),(i,n3)])/\D.map Df.f=[e,h,i])/\lg H D [n1,n2,n3]):=λH Q m W q=>
 u H _ m W λV C X E k=>y C _ (m.trans k) E λF G I J j=>A G _ ((m.trans k).trans j) J λL H4 M N l=>#[dY,λr n=>q _ _ (by
  have t:=ae.tm (je (o:=HO.tup [V,F,L]) n)
  obtain⟨a,O,R⟩:=iu _ _ _ t (iu _ _ _ (j.trans l).t X)
  obtain⟨b,S,U⟩:=iu _ _ _ t (iu _ _ _ l.t I)
  obtain⟨c,Y,h3⟩:=iu _ _ _ t M
  obtain⟨D,g⟩:=CY R U h3 s
  exact#[r,D,_,Z,by rw[jc,O,S,Y],g]) (N.same (je n)) (((k.trans j).trans l).trans (.new n))]
end
theorem eB:am ["_law_box_here","_law_w","_law_body_here","_law_deeper","_law_further","_law_first"] ["_law_box_here"] (aa pZ):=bJ
theorem uA(F:aN K "_law_busy" "_law_busy" pZ f fd)(T:Cl P w K mg base 1 fT f0 ["_law_box_here","_law_wide"] aX "_law_take")(cO:Cl P w K mg base 2 fO f1 ["_law_box_here","_law_a","_law_b"] mG "_law_op")(cA:Cl P w K mg base 2 fA f7 ["_law_box_here","_law_total"] gp "_law_names")(cL:Cl P w K mg base 3 fL f9 ["_law_box_here","_law_f","_law_inner_here","_law_w"] (dn 1) "_law_looped")(cK:Cl P w K mg base 3 fK f' ["_law_box_here","_law_f","_law_inner_here","_law_w"] (dn 1) "_law_ticking")(cI:Cl P w K mg base 3 fI a0 ["_law_box_here","_law_f","_law_g","_law_w"] (dn 2) "_law_inner"):ai P w K mg base aD 4 f fd ["_law_box_here"] mx:=by
 refine F.ok eB ?_ λc0 A U s H vs Q E i h=>?_
 ·rintro _ _ _ _ ⟨p,rfl,_⟩
  rfl
 obtain⟨p,rfl,B,q⟩:=h
 refine#[_,(jd (jB 1 eB.nd (cA.e i.m (ja (pv 0) (ja jf jb)))) (jd (j3 (jx (ze (T.e i.m (ja (pv 0) (ja jf jb)))) (jg (za (js jr (pv 1) jf (λ_ _=>Z)) (qI (pv 1) jf zE))) jp)) (jd (jB 2 eB.nd (ji (ja (ji (ja jk (ja (js jr (pv 1) jf (λ_ _=>Z)) (ja (ji (ja jk (ja (js jr (pv 1) jf (λ_ _=>Z)) jb))) jb)))) (ja (ji (ja jk (ja (cO.e i.m (ja (pv 0) (ja (ji (ja jk (ja (js jr (pv 1) jf (λ_ _=>Z)) jb))) (ja (ji (ja jk (ja (js jr (pv 1) jf (λ_ _=>Z)) jb))) jb)))) jb))) jb)))) (jd (jB 3 eB.nd (ji (ja (js jr (pv 1) jf (λ_ _=>Z)) (ja (ji (ja (js jr (pv 1) jf (λ_ _=>Z)) (ja (js jr (pv 1) jf (λ_ _=>Z)) jb))) (ja (pv 2) jb))))) (jd (jB 4 eB.nd (js jr (jL (ja (js jr (pv 1) jf (λ_ _=>Z)) (ja (js jr (pv 1) jf (λ_ _=>Z)) (ja (js jr (pv 1) jf (λ_ _=>Z)) jb)))) (T.e i.m (ja (pv 0) (ja jf jb))) (λ_ _=>Z))) (jd (jB 5 eB.nd (cL.e i.m (ja (pv 0) (ja (js jr (pv 1) jf (λ_ _=>Z)) (ja (js jr (pv 1) jf (λ_ _=>Z)) (ja (jO kI (pv 1) (jK jf) (jK jf)) jb)))))) (jd (j3 (jx (ze (T.e i.m (ja (pv 0) (ja jf jb)))) (jg (jB 5 eB.nd (cK.e i.m (ja (pv 0) (ja (js jr (pv 1) jf (λ_ _=>Z)) (ja (js jr (pv 1) jf (λ_ _=>Z)) (ja (jO kI (pv 1) (jK jf) (jK jf)) jb))))))) jp)) (jg (jm (ji (ja (pv 5) (ja (cI.e i.m (ja (pv 0) (ja (js jr (pv 1) jf (λ_ _=>Z)) (ja (pv 4) (ja (jO kI (pv 1) (jK jf) (jK jf)) jb))))) (ja (pv 3) jb))))))))))))),?_]
 refine af λFa o=>#[_,Z,p,14,Z,B,Ln,Ln,λj ys Ha X u c d Ba ka=>o _ _ ?_]
 clear o
 have wp:j≠p:=qp Ba u
 refine af λFa o=>dy (λn g=>∃Y:List Str,n=[some (V.ref p),some (V.ref j),none,none,none,none]/\g j=some (.lst (Y.map V.str))/\(Y.length=14/\(Y.take 3).Nodup/\∀y∈Y.take 3,y.length<=20)/\ap g p/\ax p H g) (λE0 _ fm=>qT (W:=#[Ba,ka,u]) Z Ln Ln (λHb l kb=>?_) (λHb l kb=>fm _ _ #[_,Z,l.w,#[Lo,d.2.sublist (Gn _ _),λy hy=>d.1 y (Fe hy)],l.B,l.K])) λσ1 H0 h3=>?_
 ·clear o
  obtain⟨v1,h6,z⟩:=Ke (ys:=ys) (k:=1) Ln Lo
  refine#[_,Z,j,_,_,_,Z,Z,aF.of l.w,z,_,Z,j,_,8,8,Z,Z,l.w,DY (k:=8) (by rw[Ef];omega),fm _ _ #[ys.set 8 v1,Z,?_,#[by rw[HW];omega,by rw[List.take_set_of_le Ln];exact#[d.2.sublist (Gn _ _),λy hy=>d.1 y (Fe hy)]],l.B.eq (jl (ES wp)),l.K.upd_own X]]
  rw[jc,List.map_set]
 obtain⟨ys,rfl,h4,⟨c,C,D⟩,B1,k1⟩:=h3
 obtain⟨y0,h0⟩:∃y,ys[0]?=some y:=#[_,Ed (by omega:0 < ys.length)]
 obtain⟨G,I⟩:∃y,ys[1]?=some y:=#[_,Ed (by omega:1 < ys.length)]
 obtain⟨y2,N⟩:∃y,ys[2]?=some y:=#[_,Ed (by omega:2 < ys.length)]
 have e3:ys.take 3=[y0,G,y2]:=by rw[GJ,GJ,GJ,h0,I,N];rfl
 rw[e3]at C D
 refine o _ _ ?_
 clear o
 have W1:Wd H H0 p j ys:=#[B1,k1,h4]
 generalize H0=H1 at W1
 refine af λF2 f2=>jR W1 (Yj (J8 (Cf:=[]) (kN Z Ln Lo) (J6 (kN Z Ln Lo)) Ln) (QS (Cf:=[]) (J7 Z (J6 (kN Z Ln Lo)) (J6 (kN Z Ln Lo))) Ln)) λv2 H2 x2 W2 k2=>f2 _ _ ?_
 refine af λF3 f3=>jR W2 (Yk (Cf:=[]) (qU (k:=2) Z Z N) (wg (kN Z Ln Lo) (kN Z Ln Lo)) (Ev.up (jM Z dE x2) λ_ _=>PB.lift) Ln Lo) λv3 H3 x3 W3 k3=>f3 _ _ ?_
 refine af λF4 f4=>jR W3 (A0 Z (qU (k:=1) Z Z I) (qU (k:=2) Z Z N) (qU (k:=2) Z Z N)) λv4 H4 x4 W4 k4=>f4 _ _ ?_
 refine af λF5 f5=>jR W4 (ZR (lo:=6) Z Z (qU (k:=0) Z Z h0) (Ev.up (R:=AA [G]) (qU (k:=1) Z Z I) λ_ _ e=>#[_,e,Ez]) c Ln Z Z) λv5 H5 x5 W5 k5=>f5 _ _ ?_
 refine af λF6 O=>dy (λn g=>∃(b:V),n=[some (V.ref p),some (V.ref j),some (v2),some (v3),some (v4),some b]/\PD [(G,2)] 1 y0 g b/\Wd H g p j ys/\aj H5 g) (λE6 _ J=>qT W5 Z Ln Ln (λH8 W8 S=>?_) (λH8 W8 S=>?_)) λσ2 H7 h5=>?_
 ·clear O
  refine jR W8 (ZR (lo:=6) Z Z (qU (k:=0) Z Z h0) (Ev.up (R:=AA [G]) (qU (k:=1) Z Z I) λ_ _ e=>#[_,e,Ez]) c Ln Z Z) λv9 H9 x9 W9 k9=>J _ _ ?_
  have M:aj H5 H9:=(S.t.trans k9.t)
  exact#[_,Z,x9,W9,M]
 ·clear O
  exact J _ _ #[_,Z,(iu _ _ _ S.t x5),W8,S.t]
 obtain⟨b7,rfl,x7,W7,k7⟩:=h5
 refine O _ _ ?_
 clear O
 have L:aj H3 H7:=((k4.t.trans k5.t).trans k7)
 refine Qx W7 (AY (n1:=1) (n2:=2) (n3:=2) #[Ln,Ln,Ln] (Ev.up (jM Z iu x7) (λ_ _ #[a,e,h]=>#[a,e,h.more Lp])) (Ev.up (ZR (lo:=7) Z Z (qU (k:=1) Z Z I) (jM (P:=AA [G,y2,y2]) Z (λ_ _ _ _ h=>h) x4) c Ln Z Z) (λ_ _ #[a,e,h]=>#[a,e,h.more Lp])) (Ev.up (jM Z iu (iu _ _ _ L x3)) (λ_ _ #[a,e,h]=>#[a,e,h.more Lp]))) λv g x W'=>?_
 obtain⟨r,ds,xs,rfl,g0,g1,g2,g3,g4⟩:=x
 exact q r ds xs g g0 g1 g2 [1,2,2] #[by rw[g3.2];exact g3.1,by rw[g3.2];exact#[C,D]] g4 #[_,Z] W'.B W'.K
noncomputable abbrev mY:Stmt:=bL 61
theorem Ad(h:0<=d)(H:d < 4):∃m:Int,dC [V.int 3,.int 3,.int 3,.int 8] d=some (.int m)/\3<=m/\m<=8:=by
 rcases(by omega:d=0∨d=1∨d=2∨d=3) with rfl |rfl |rfl |rfl
 ·exact#[3,Z,Ln,Ln]
 ·exact#[3,Z,Ln,Ln]
 ·exact#[3,Z,Ln,Ln]
 ·exact#[8,Z,Ln,Ln]
theorem xq(h:cf H D v)(f:0<=k)(g:k < (v.length:Int)):∃d,dC v k=some (.ref d.p)/\d∈D/\vS H d (.ref d.p):=by
 have a:k.toNat < v.length:=by omega
 have E:k=((k.toNat:Nat):Int):=by omega
 obtain⟨d,c,b⟩:=h.at k.toNat _ (Ed a)
 have e:v[k.toNat]= .ref d.p:=b.elim λ_ z=>z.1
 refine#[d,?_,EA c,by rw[<- e];exact b]
 rw[E]
 exact ju (by rw[<- e];exact Ed a)
noncomputable def Ap(H:Hp)(D:List Df)(v a:V):Prop:=∃(d:Df) (p:List Str) (t:Addr) (I:List Int),d∈D/\v= .str d.f/\H d.pa=some (.tup (p.map V.str))/\a= .ref t/\H t=some (.tup (I.map V.int))/\I.length=p.length/\I.length<=100/\∀i∈I,0<=i/\i < 1000000000000000000
noncomputable def my:Sp:=λb H Q _=>∃(p:Addr),b=[.ref p]/\ap H p/\∀(t r:Addr) (v a:V) (d:List Df) (x:List V) (h:Hp),h t=some (.tup [.ref r,v,a])->h r=some (.tup x)->cf h d x->1<=d.length->d.length<=8->∀n,nY d n->lg h d n->Ap h d v a->ap h p->ax p H h->Q (.ref t) h
theorem eE:am ["_law_box_here","_law_program","_law_total","_law_f","_law_params","_law_body_here"] ["_law_box_here"] (aa mY):=bJ
noncomputable def Xu:Scope:=#[.function,[(".0",.local),("_law_one",.local),("_law_number",.globalImplicit),("_law_box_here",.free)],false,false,[]]
theorem o0:(["_law_one","_law_box_here"]:List Str).Nodup:=by decide+kernel
theorem oq:aZ ["_law_box_here","_law_program","_law_total","_law_f","_law_params","_law_body_here"] (aa mY) Xu ["_law_one","_law_box_here"] 1 [0]:=mO
theorem uB(F:aN K "_law_case" "_law_case" mY f fd)(M:Cl P w K mg base 1 fT f0 ["_law_box_here","_law_wide"] aX "_law_take")(cN:Cl P w K mg base 2 fN f3 ["_law_box_here"] gQ "_law_number")(cY:Cl P w K mg base 4 fY f4 ["_law_box_here"] mx "_law_busy")(cZ:Cl P w K mg base 22 fZ f5 ["_law_box_here","_law_total","_law_room"] sd "_law_any")(ml:mg "len"=none)(m0:mg "tuple"=none):ai P w K mg base aD 23 f fd ["_law_box_here"] my:=by
 refine F.ok eE ?_ λc0 A o1 s H vs Q E y h=>?_
 ·rintro _ _ _ _ ⟨p,rfl,_⟩
  rfl
 obtain⟨p,rfl,B,q⟩:=h
 refine#[_,(jd (jx (jE JC (M.e y.m (ja (pv 0) (ja jf jb))) jf (aA _)) (jd (jB 1 eE.nd (cY.e y.m (ja (pv 0) jb))) (jg (jm (ji (ja (pv 1) (ja (jw (js jJ (pv 1) jf (λ_ _=>Z))) (ja (ji (ja (M.e y.m (ja (pv 0) (ja jf jb))) jb)) jb))))))) jp) (jd (jB 2 eE.nd (js jr (jL (ja jf (ja jf (ja jf (ja jf jb))))) (M.e y.m (ja (pv 0) (ja jf jb))) (λ_ _=>Z))) (jd (jB 1 eE.nd (cZ.e y.m (ja (pv 0) (ja (jv jW jf (M.e y.m (ja (pv 0) (ja (pv 2) jb)))) (ja jf jb))))) (jd (za (js jJ (pv 1) (M.e y.m (ja (pv 0) (ja (jF jH Z ml Fd (ja (pv 1) jb)) jb))) (λ_ _=>Z)) (zO (n:=3) Z (jD (jy (i:=3) eE.nd Z (Or.inl Z)) (jD (jy (i:=4) eE.nd Z (Or.inl Z)) (jD (jy (i:=5) eE.nd Z (Or.inl Z)) kh))))) (jg (jm (ji (ja (pv 1) (ja (pv 3) (ja (jC jI Z m0 Ft (ja (@kJ _ _ _ _ _ _ _ (["_law_one","_law_box_here"]) (1) ([0]) _ _ _ _ Z (zb (pv 4)) oq (λ_ _ _ _ _=>(jy (i:=0) o0 Z (Or.inl Z))) (λ_ _ _ _ _=>(@zi _)) (λ_ _ _ _ _=>(cN.e y.m (ja (pv 1) jb))) (by intro _;rfl)) jb)) jb)))))))))),?_]
 have b0:=aH
 refine af λF1 a=>mP λG1 g1=>#[_,Z,p,3,Z,B,Ln,Ln,λd1 H1 a0 a1 B1 e1=>#[_,_,Z,Z,_,Z,g1 _ _ ?_]]
 clear g1
 have k1:ax p H H1:=ax.of_eq e1
 refine bH (λc=>?_) (λc=>a _ _ ?_)
 ·clear a
  refine af λF2 f2=>#[_,Z,p,Z,B1,λr ds xs H2 N C hl ns D b O B2 k2=>f2 _ _ ?_]
  clear f2
  have ln:=C.len
  obtain⟨nr,rfl⟩:=O
  cases ds with
  |nil=>cases hl
  |cons d r0=>
  obtain⟨p0,R,S,_⟩:=b.2 0 d 1 Z Z
  have h0:=C
  obtain⟨u0,rr,rfl,⟨bs,rfl,hp,_⟩,_⟩:=h0
  have g:dC (V.ref d.p::rr) 0=some (.ref d.p):=c7
  refine#[_,Z,jq N g #[d.p,_,_,_,Z,Z,ar.of hp,c7,_,Z,p,6,Z,B2,Ln,Ln,λd3 H3 d0 d4 B3 e3=>?_]]
  have c3:ax p H2 H3:=ax.of_eq e3
  refine#[mM,λu nu=>#[dY,λt U=>?_]]
  have s4:ae H3 (ah (ah H3 u (.tup [.int d3])) t (.tup [.ref r,.str d.f,.ref u])):=(je nu).trans (je U)
  have T:=(c3.tm B2).trans (ae.tm s4)
  exact q t r _ _ _ _ _ jc (T _ _ N) (C.mono T) Lo Lo _ D (b.mono T) #[d,p0,u,[d3],Ez,Z,T _ _ R,Z,aq jc U,by rw[S];rfl,(by show 1<=100;decide),λi hi=>by rw[List.mem_singleton.mp hi];omega] (B3.same s4) ((k1.trans k2).trans (c3.trans (ax.of_same s4)))
 clear a
 refine af λF1 a=>#[sD,λl W=>#[_,Z,p,4,Z,B1.upd_new W,Ln,Ln,λd2 H2 d6 d7 B2 e2=>?_]]
 have k2:ax p H1 H2:=((ax.refl).upd_new W).trans (ax.of_eq e2)
 obtain⟨m,g,m3,m8⟩:=Ad d6 d7
 refine#[l,_,_,_,Z,Z,aF.of (by rw[e2 l (B1.ne W)];exact jc),g,a _ _ ?_]
 clear a
 refine af λF1 a=>#[_,Z,_,Z,_,Z,p,m,Z,B2,Lo,Lo,λd3 H3 d0 d4 B3 e3=>#[_,_,Z,Z,p,1+d3,12,Z,B3,Lo,Lo,Ln,Ln,λr ds xs H4 G C hl ns D b B4 k4=>a _ _ ?_]]
 clear a
 have ln:=C.len
 have K4:ax p H H4:=(k1.trans k2).trans ((ax.of_eq e3).trans k4)
 refine af λF1 a=>#[_,Z,_,Z,_,Z,r,_,Z,.inr (ar.of G),p,_,Z,B4,Lo,Lo,λd5 H5 d8 d' B5 e5=>?_]
 have c5:ax p H4 H5:=ax.of_eq e5
 have o:=c5.tm B4
 obtain⟨d,g,hd,bs,e,hp,_⟩:=xq (C.mono o) d8 d'
 refine#[r,_,_,_,Z,Z,ar.of (o _ _ G),g,d.p,_,Z,ar.of hp,Z,_,_,Z,_,_,Z,_,_,Z,Z,a _ _ ?_]
 clear a
 obtain⟨pv,X,h4⟩:=b.v d hd
 have z:=o _ _ X
 refine#[_,Z,_,Z,_,Z,d.pa,Z,#[_,ar.of z],?_]
 refine zu (K:=K) (xs:=pv.map V.str) (by rw[Ef];omega) (λi L J=>(∃I:List Int,L=I.map V.int/\I.length=i/\∀j∈I,0<=j/\j < 1000000000000000000)/\ap J p/\ax p H5 J) #[#[[],Z,Z,(λ_ h=>nomatch h)],B5,ax.refl] (λi L J k=>?_) (λi x L J hx k=>?_) (λL J k l W=>?_)
 ·exact#[ar.of (k.2.2.tm B5 _ _ z),let #[I,e,l,_]:=k.1;by rw[e,Ef,l];exact Eh _]
 ·exact#[_,Z,p,Z,k.2.1,λe H7 e0 e1 B7 e7=>#[let #[I,h1,l,h2]:=k.1;#[I++[e],by rw[h1,EK];rfl,by rw[Ei,l];rfl,Ji h2 #[e0,e1]],B7,k.2.2.trans (ax.of_eq e7)]]
 ·refine#[l,_,Z,.inl #[aF.of jc,λl2 n0=>#[dY,λt U=>?_]]]
  have s7:ae J (ah (ah (ah J l (.lst L)) l2 (.tup L)) t (.tup [.ref r,.str d.f,.ref l2])):=((je W).trans (je n0)).trans (je U)
  have T:=o.trans ((k.2.2.tm B5).trans (ae.tm s7))
  obtain⟨I,hz,Y,h3⟩:=k.1
  rw[Ef]at Y
  exact q t r _ _ ds xs _ jc (T _ _ G) (C.mono T) Lo Lo ns D (b.mono T) #[d,pv,l2,I,hd,Z,T _ _ X,Z,by rw[<- hz];exact aq jc U,Y,Lo,h3] (k.2.1.same s7) (K4.trans (c5.trans (k.2.2.trans (ax.of_same s7))))
noncomputable abbrev iF:Stmt:=bL 2
noncomputable abbrev iM:Stmt:=bL 3
noncomputable abbrev a6:=List (bo×V)
noncomputable def d9(x:Int):Prop:=0<=x/\x < 1000000000000000000
noncomputable def GT(k:a6):Prop:=∀p∈k,∃i,p.2= .int i/\d9 i
theorem GT.nil:GT []:=λ_ h=>absurd h EL
theorem GT.put(h:GT a)(k:bo)(H:d9 i):GT (aQ a k (.int i)):=by
 intro p hp
 unfold aQ at hp
 split at hp
 ·obtain⟨q,b,rfl⟩:=List.mem_map.mp hp
  by_cases e:q.1=k
  ·rw[Er e];exact#[i,Z,H]
  ·rw[Ew e];exact h q b
 ·rcases List.mem_append.mp hp with hp |hp
  ·exact h p hp
  ·rw[List.mem_singleton.mp hp];exact#[i,Z,H]
theorem GT.val(h:GT a)(e:bQ a k=some v):∃i,v= .int i/\d9 i:=by
 unfold bQ at e
 obtain⟨p,H,rfl⟩:=Option.map_eq_some_iff.mp e
 exact h p (List.mem_of_find?_eq_some H)
noncomputable def look(a:a6)(k:bo)(z:Int):Int:=match bQ a k with
 |some (.int i)=>i
 |_=>z
theorem zU(h:GT a)(k:bo)(z:Int):(bQ a k).getD (.int z)= .int (look a k z):=by
 unfold look
 cases e:bQ a k with
 |none=>rfl
 |some v=>obtain⟨i,rfl,_⟩:=h.val e;rfl
theorem ZB(h:GT a)(e:bQ a k=some v)(z:Int):v= .int (look a k z):=by
 unfold look
 obtain⟨i,rfl,_⟩:=h.val e
 rw[e]
theorem Qq(e:bQ a k=none)(z:Int):look a k z=z:=by
 unfold look
 rw[e]
theorem Ja(h:GT a)(H:d9 z):d9 (look a k z):=by
 unfold look
 cases e:bQ a k with
 |none=>exact H
 |some v=>obtain⟨i,rfl,b⟩:=h.val e;exact b
theorem Jb:d9 0:=#[Ln,Ln]
noncomputable def jn(i:Nat)(x y:Int):Int:=match i with
 |0=>(x+y) % 1000000000000000000
 |1=>(x - y) % 1000000000000000000
 |2=>x*y % 1000000000000000000
 |3=>if y=0 then 0 else x / y
 |4=>if x < y then 1 else 0
 |_=>if x=y then 1 else 0
noncomputable def Tm.ev(k:a6):Tm->Int
 | .num n=>n
 | .var x=>look k (.inr x) 0
 | .op i a b=>jn i (a.ev k) (b.ev k)
theorem A3(H:d9 x)(c:d9 y):d9 (jn i x y):=by
 have a:(1000000000000000000:Int)≠0:=by decide
 have b:(0:Int) < 1000000000000000000:=by decide
 match i with
 |0=>exact#[Fj _ a,EW _ b]
 |1=>exact#[Fj _ a,EW _ b]
 |2=>exact#[Fj _ a,EW _ b]
 |3=>
  show d9 (if y=0 then 0 else x / y)
  by_cases h:y=0
  ·rw[Er h];exact#[Ln,Ln]
  ·rw[Ew h]
   have e:=c.1
   have d:0 < y:=by omega
   refine#[Int.ediv_nonneg H.1 Lo,Int.lt_of_le_of_lt ?_ H.2]
   exact Int.ediv_le_self _ H.1
 |4=>
  show d9 (if x < y then 1 else 0)
  split<;>exact#[Ln,Ln]
 |n+5=>
  show d9 (if x=y then 1 else 0)
  split<;>exact#[Ln,Ln]
theorem qh(g:GT k):∀{t:Tm},t.Good y->d9 (t.ev k)
 | .num _,h=>h
 | .var x,_=>Ja g Jb
 | .op _ _ _,h=>A3 (qh g h.2.1) (qh g h.2.2)
noncomputable def iU:Sp:=λv H Q _=>∃(i:Nat) (x y:Int),v=[.str (Dk i),.int x,.int y]/\i < 6/\d9 x/\d9 y/\Q (.int (jn i x y)) H
noncomputable def Cm(K:Frag)(H:Hp)(T:Tm)(a:Addr):Prop:=a9 H T a∨(T= .num 0/\ar K H a [.str "num",.int 0])
noncomputable def cw(K:Frag)(n:Nat):Sp:=λv H Q _=>∃(a d:Addr) (T:Tm) (y:List Str) (k:a6),v=[.ref a,.ref d]/\Cm K H T a/\T.depth < n/\T.Good y/\H d=some (.dK k)/\GT k/\Q (.int (T.ev k)) H
theorem rK:am ["sign","left","right"] ["sign","left","right"] (aa iF):=bJ
theorem ZC(F:aN K "joined" "joined" iF f b)(m:mg "TOP"=some (.int 1000000000000000000 t)):ai P w K mg base aD 1 f b ["sign","left","right"] iU:=by
 refine F.ok rK (λd H Q E h=>?_) (λe A o s H d Q E r h=>?_)
 ·obtain⟨i,x,y,rfl,_⟩:=h
  rfl
 obtain⟨i,x,y,rfl,u,g,j,q⟩:=h
 refine#[_,(jd (jx (jV (pv 0)) (jg (jm (jv kX (jv jW (pv 1) (pv 2)) (qV (v:=.int 1000000000000000000) Z m #[_,Z])))) jp) (jd (jx (jV (pv 0)) (jg (jm (jv kX (jv ky (pv 1) (pv 2)) (qV (v:=.int 1000000000000000000) Z m #[_,Z])))) jp) (jd (jx (jV (pv 0)) (jg (jm (jv kX (jv zh (pv 1) (pv 2)) (qV (v:=.int 1000000000000000000) Z m #[_,Z])))) jp) (jd (jx (jV (pv 0)) (jg (jm (zD (ze (pv 2)) jf (jv Jg (pv 1) (pv 2))))) jp) (jd (jx (jV (pv 0)) (jg (jm (zD (jE J4 (pv 1) (pv 2) (aA _)) jf jf))) jp) (jg (jm (zD (jE zw (pv 1) (pv 2) (aA _)) jf jf)))))))),?_]
 obtain⟨k,l⟩:=g
 obtain⟨n,p⟩:=j
 rcases(by omega:i=0∨i=1∨i=2∨i=3∨i=4∨i=5) with rfl |rfl |rfl |rfl |rfl |rfl
 ·refine#[_,Z,Z,_,Z,cj Lq ?_]
  exact#[_,Z,_,Z,_,_,Z,Z,_,_,Z,Z,(by show(0:Int) < 1000000000000000000;decide),q]
 ·refine#[_,Z,Z,_,Z,aG Lq ?_]
  refine#[_,Z,Z,_,Z,cj Lq ?_]
  exact#[_,Z,_,Z,_,_,Z,Z,_,_,Z,Z,(by show(0:Int) < 1000000000000000000;decide),q]
 ·refine#[_,Z,Z,_,Z,aG Lq ?_]
  refine#[_,Z,Z,_,Z,aG Lq ?_]
  refine#[_,Z,Z,_,Z,cj Lq ?_]
  exact#[_,Z,_,Z,_,_,Z,Z,.inl #[Lo,Lo],_,_,Z,Z,(by show(0:Int) < 1000000000000000000;decide),q]
 ·refine#[_,Z,Z,_,Z,aG Lq ?_]
  refine#[_,Z,Z,_,Z,aG Lq ?_]
  refine#[_,Z,Z,_,Z,aG Lq ?_]
  refine#[_,Z,Z,_,Z,cj Lq ?_]
  have a:Q (.int (if y=0 then 0 else x / y)) H:=q
  refine#[_,Z,Z,_,Z,?_]
  refine bH (λc=>?_) (λc=>?_)
  ·have C:V.int y=V.int 0:=Fz c
   injection C with C
   rw[Er C]at a
   exact a
  ·have C:y≠0:=λz=>c (by rw[z];rfl)
   rw[Ew C]at a
   exact#[_,Z,_,Z,_,_,Z,Z,#[Lo,Lo],a]
 ·refine#[_,Z,Z,_,Z,aG Lq ?_]
  refine#[_,Z,Z,_,Z,aG Lq ?_]
  refine#[_,Z,Z,_,Z,aG Lq ?_]
  refine#[_,Z,Z,_,Z,aG Lq ?_]
  refine#[_,Z,Z,_,Z,cj Lq ?_]
  have a:Q (.int (if x < y then 1 else 0)) H:=q
  refine#[_,Z,_,Z,_,_,Z,Z,_,Z,?_]
  refine bH (λc=>?_) (λc=>?_)
  ·rw[Er (Fz c)]at a
   exact a
  ·rw[Ew (Hr (Bool.eq_false_iff.mpr c))]at a
   exact a
 ·refine#[_,Z,Z,_,Z,aG Lq ?_]
  refine#[_,Z,Z,_,Z,aG Lq ?_]
  refine#[_,Z,Z,_,Z,aG Lq ?_]
  refine#[_,Z,Z,_,Z,aG Lq ?_]
  refine#[_,Z,Z,_,Z,aG Lq ?_]
  have a:Q (.int (if x=y then 1 else 0)) H:=q
  refine#[_,Z,_,Z,Z,_,Z,?_]
  refine bH (λc=>?_) (λc=>?_)
  ·have C:V.int x=V.int y:=Fz c
   injection C with C
   rw[Er C]at a
   exact a
  ·have C:x≠y:=λz=>c (by rw[z];exact EN Z)
   rw[Ew C]at a
   exact a
theorem vA:am ["term","held"] ["term","held"] (aa iM):=bJ
theorem pM(F:aN K "worth" "worth" iM f p)(C:Cl P w K mg base (n+1) f p ["term","held"] (cw K n) "worth")(v:Cl P w K mg base 1 R B ["sign","left","right"] iU "joined"):ai P w K mg base aD (n+2) f p ["term","held"] (cw K (n+1)):=by
 refine F.ok vA (λV H Q E h=>?_) (λD A o s H V Q E j h=>?_)
 ·obtain⟨a,d,T,y,c,rfl,_⟩:=h
  rfl
 obtain⟨a,d,T,y,c,rfl,t,I,g,l,G,q⟩:=h
 refine#[_,(jd (jx (jV (jw (pv 0))) (jg (jm (jw (pv 0)))) jp) (jd (jx (jV (jw (pv 0))) (jg (jm (@zR _ _ _ _ _ _ _ _ _ (kB j) (pv 1) (jw (pv 0)) jf #[Ls,Ls,Ls,Ls]))) jp) (jg (jm (v.e j.m (ja (jw (pv 0)) (ja (C.e j (ja (jw (pv 0)) (ja (pv 1) jb))) (ja (C.e j (ja (jw (pv 0)) (ja (pv 1) jb))) jb)))))))),?_]
 cases T with
 |num m=>
  have b:ar K H a [.str "num",.int m]:=t.elim (λh=>ar.of h) λz=>by cases z.1;exact z.2
  refine#[_,Z,a,_,_,_,Z,Z,b,Z,Z,_,Z,cj Lq ?_]
  exact#[_,Z,a,_,_,_,Z,Z,b,Z,q]
 |var x=>
  have b:H a=some (.tup [.str "var",.str x]):=t.resolve_right λz=>by cases z.1
  refine(jq b Z #[Z,_,Z,aG Lq ?_])
  refine(jq b Z #[Z,_,Z,cj Lq ?_])
  refine#[_,Z,d,Z,.inl #[c,.inl l],jq b Z #[_,dN.k (k:=Sum.inr x) l,?_]]
  rw[zU G]
  exact q
 |op i r u=>
  obtain⟨J,L,b,M,N⟩:=t.resolve_right λz=>by cases z.1
  have O:max r.depth u.depth+1 < n+1:=I
  refine(jq b Z #[Z,_,Z,aG Lq ?_])
  refine(jq b Z #[Z,_,Z,aG Lq ?_])
  refine(jq b Z ?_)
  refine(jq b Z #[_,Z,J,d,r,y,c,Z,.inl M,Lo,g.2.1,l,G,?_])
  refine(jq b Z #[_,Z,L,d,u,y,c,Z,.inl N,Lo,g.2.2,l,G,?_])
  exact#[i,_,_,Z,g.1,qh G g.2.1,qh G g.2.2,q]
theorem pi:ai P w K mg base aD 1 f e ["term","held"] (cw K 0):=by
 have n:∀v H Q E,¬cw K 0 v H Q E:=λv H Q E h=>by
  obtain⟨a,d,T,y,k,_,_,c,_⟩:=h
  exact absurd c (Gy _)
 exact#[λv H Q E h=>absurd h (n v H Q E),λA o s H b u v Q E _ _ _ _ h=>absurd h (n v H Q E)]
theorem sU(F:aN K "worth" "worth" iM f a)(b:aC K a ["term","held"] [])(m:mg "worth"=some (.ref f))(c:Cl P w K mg base 1 e d ["sign","left","right"] iU "joined"):
  ∀n:Nat,ai P w K mg base aD (n+1) f a ["term","held"] (cw K n)
 |0=>pi
 |n+1=>pM F #[(sU F b m c n),b,F.kp,m] c
noncomputable def TV(H:Hp)(y:List Str)(t:Addr)(T:Tm):Prop:=a9 H T t/\cQ y T
theorem TV.mono(k:aj H a)(h:TV H y t T):TV a y t T:=#[h.1.mono k,h.2]
inductive Gl where
 |give (t:Addr) (T:Tm) |nought |go (n:Nat)
structure WD where
 sets:List (Str×Addr×Tm)
 goal:Gl
noncomputable def Gl.gol(N:Addr):Gl->Cb
 | .give t _=>.give t
 | .nought=>.give N
 | .go n=>.go (n:Int)
noncomputable def WD.wy(n:Addr)(w:WD):Wy:=#[w.sets.map λs=>(s.1,s.2.1),w.goal.gol n]
noncomputable def Au(H:Hp)(y:List Str)(m:Nat):Gl->Prop
 | .give t T=>TV H y t T
 | .nought=>True
 | .go n=>n < m
structure oe(H:Hp)(ys:List Str)(m N:Nat)(w:WD):Prop where
 sets:∀s∈w.sets,TV H ys s.2.1 s.2.2
 len:w.sets.length<=N
 goal:Au H ys m w.goal
noncomputable def lr(H:Hp)(y:List Str)(n:Addr)(m N:Nat)(w:Wy):Prop:=∃d:WD,d.wy n=w/\oe H y m N d
noncomputable def DA(F:gA)(H:Hp)(y:List Str):Dd->Prop
 | .st p=>∃(l:Lf) (v:List V),H p=some (.tup v)/\tJ H l v/\l.Ok y/\l.isCut=true/\l.Cs F
 | .ask t=>∃T,TV H y t T
noncomputable def Dd.ways:Dd->Nat
 | .st _=>1
 | .ask _=>2
structure tG(F:gA)(H:Hp)(ys:List Str)(nA:Addr)(m N:Nat)(c:Ct):Prop where
 mem:∀x,c.M x->x∈ys
 deed:DA F H ys c.d
 ways:∀w∈c.ws,lr H ys nA m N w
 len:c.ws.length=c.d.ways
structure sX(H:Hp)(ys:List Str)(nA:Addr)(m N:Nat)(pc:Pc):Prop where
 mem:∀x,pc.M x->x∈ys
 way:lr H ys nA m N pc.w
section
variable {F:gA}{H H':Hp}{ys:List Str}{nA:Addr}{m N N':Nat}
theorem Au.mono(k:aj H H')(h:Au H ys m g):Au H' ys m g:=by
 cases g with
 |give t T=>exact TV.mono k h
 |nought=>trivial
 |go n=>exact h
theorem oe.mono(k:aj H H'){w:WD}(h:oe H ys m N w):oe H' ys m N w:=#[λs a=>(h.sets s a).mono k,h.len,h.goal.mono k]
theorem lr.up(a:N<=N'){w:Wy}(h:lr H ys nA m N w):lr H ys nA m N' w:=let #[d,e,v]:=h;#[d,e,v.sets,Es v.len a,v.goal]
theorem tG.up(a:N<=N')(h:tG F H ys nA m N c):tG F H ys nA m N' c:=#[h.mem,h.deed,λw b=>(h.ways w b).up a,h.len]
theorem sX.up(a:N<=N')(h:sX H ys nA m N p):sX H ys nA m N' p:=#[h.mem,h.way.up a]
theorem XA{n:Nat}(a:k=(n:Int))(b:n < m):lr H ys nA m N #[[],.go k]:=#[#[[],.go n],by rw[a];rfl,(λ_ h=>absurd h EL),Eu _,b]
theorem Kb:∀(b:Bd) {X:List V} {g:Pc} {fs:List Ct} {N:Nat},dt H b X->b.Ok ys->b.Cs F->sX H ys nA m N g->(∀c∈fs,tG F H ys nA m N c)->fs.length+b.cuts<=m->
  sX H ys nA m (N+b.size) (pB (m:Int) b g fs).1/\∀c∈(pB (m:Int) b g fs).2,tG F H ys nA m (N+b.size) c
 | .nil,_,_,_,_,_,_,_,o,y,_=>#[o,y]
 | .lf p l r,X,g,fs,N,C,i,k,o,y,D=>by
  obtain⟨vs,zs,_,h1,I,h3⟩:=C
  have E:fs.length+(l.cut+r.cuts)<=m:=D
  obtain⟨R,A⟩:=Kb r h3 i.2 k.2 o y Lo
  have hl:=j8 (m:Int) r g fs
  have S:N+r.size<=N+(r.size+1):=by omega
  have j:=Lf.use_in i.1 R.mem
  have J:l.isCut=true->l.cut=1->sX H ys nA m (N+(r.size+1)) #[l.use (pB (m:Int) r g fs).1.M,#[[],.go ((m:Int) - ((pB (m:Int) r g fs).2.length:Int) - 1)]]/\∀c∈(pB (m:Int) r g fs).2++[#[l.use (pB (m:Int) r g fs).1.M,.st p,[(pB (m:Int) r g fs).1.w]]],tG F H ys nA m (N+(r.size+1)) c:=λG h0=>
   #[#[j,XA (n:=m - (fs.length+r.cuts) - 1) (by rw[hl];omega) Lo],λc L=>by
    rcases List.mem_append.mp L with z |z
    ·exact(A c z).up S
    ·rw[List.mem_singleton.mp z]
     exact#[j,#[l,vs,h1,I,i.1,G,k.1],λw hw=>by rw[List.mem_singleton.mp hw];exact R.way.up S,Z]]
  show sX H ys nA m (N+(r.size+1)) (pL (m:Int) p l (pB (m:Int) r g fs)).1/\∀c∈(pL (m:Int) p l (pB (m:Int) r g fs)).2,tG F H ys nA m (N+(r.size+1)) c
  cases l with
  |gv t T=>exact#[#[j,#[#[[],.give t T],Z,(λ_ h=>absurd h EL),Eu _,I.2,i.1]],λc G=>(A c G).up S]
  |st x t T=>
   refine#[#[j,?_],λc G=>(A c G).up S]
   show lr H ys nA m _ (gM x t (pB (m:Int) r g fs).1)
   unfold gM
   split
   ·obtain⟨d,e,v⟩:=R.way
    refine#[#[(x,t,T)::d.sets,d.goal],by rw[<- e];rfl,λs hs=>?_,FP v.len,v.goal]
    rcases List.mem_cons.mp hs with rfl |hs
    ·exact#[I.2,i.1.2]
    ·exact v.sets s hs
   ·exact R.way.up S
  |rd x t T |wr t u T U |cl x f q ts=>exact J Z Z
 | .ite p t T a c r,X,g,fs,N,C,i,k,o,y,D=>by
  obtain⟨qa,qb,as,bs,zs,_,g1,O,g2,g3,Q,g5,W⟩:=C
  have E:fs.length+(1+a.cuts+c.cuts+r.cuts)<=m:=D
  obtain⟨R,A⟩:=Kb r W i.2.2.2 k.2.2 o y Lo
  have B:=j8 (m:Int) r g fs
  obtain⟨c1,c2⟩:=Kb c g5 i.2.2.1 k.2.1 R A Lo
  have h4:=j8 (m:Int) c (pB (m:Int) r g fs).1 (pB (m:Int) r g fs).2
  obtain⟨Y,a2⟩:=Kb a Q i.2.1 k.1 (R.up (FG _ _)) c2 Lo
  have S:N+r.size+c.size+a.size<=N+(a.size+c.size+r.size+1):=by omega
  have j:∀x,(Bd.ite p t T a c .nil).use (pB (m:Int) r g fs).1.M x->x∈ys:=Bd.use_in #[i.1,i.2.1,i.2.2.1,EE] R.mem
  have hk:(m:Int) - ((pB (m:Int) r g fs).2.length:Int) - ((Bd.ite p t T a c .nil).cuts:Int)=((m - (fs.length+r.cuts) - (1+a.cuts+c.cuts):Nat):Int):=by
   show(m:Int) - _ - ((1+a.cuts+c.cuts+0:Nat):Int)=_
   rw[B]
   omega
  unfold pB
  dsimp only
  refine#[#[j,XA hk Lo],λe he=>?_]
  rcases List.mem_append.mp he with z |z
  ·exact(a2 e z).up S
  ·rw[List.mem_singleton.mp z]
   refine#[j,#[T,O,i.1],λw hw=>?_,Z]
   rcases List.mem_cons.mp hw with rfl |hw
   ·exact Y.way.up S
   ·rw[List.mem_singleton.mp hw]
    exact c1.way.up (by show _<=N+(a.size+c.size+r.size+1);omega)
 | .loop p t T a r,X,g,fs,N,C,i,k,o,y,D=>by
  obtain⟨qa,as,zs,_,g1,O,g2,Q,W⟩:=C
  have E:fs.length+(1+a.cuts+r.cuts)<=m:=D
  obtain⟨R,A⟩:=Kb r W i.2.2 k.2 o y Lo
  have B:=j8 (m:Int) r g fs
  have j:∀x,(Bd.loop p t T a .nil).use (pB (m:Int) r g fs).1.M x->x∈ys:=Bd.use_in #[i.1,i.2.1,EE] R.mem
  have hk:(m:Int) - ((pB (m:Int) r g fs).2.length:Int) - ((Bd.loop p t T a .nil).cuts:Int)=((m - (fs.length+r.cuts) - (1+a.cuts):Nat):Int):=by
   show(m:Int) - _ - ((1+a.cuts+0:Nat):Int)=_
   rw[B]
   omega
  have pl:sX H ys nA m (N+r.size) #[(Bd.loop p t T a .nil).use (pB (m:Int) r g fs).1.M,#[[],.go ((m:Int) - ((pB (m:Int) r g fs).2.length:Int) - ((Bd.loop p t T a .nil).cuts:Int))]]:=#[j,XA hk Lo]
  obtain⟨Y,a2⟩:=Kb a Q i.2.1 k.1 pl A Lo
  have S:N+r.size+a.size<=N+(a.size+r.size+1):=by omega
  unfold pB
  dsimp only
  refine#[pl.up (by show _<=N+(a.size+r.size+1);omega),λe he=>?_]
  rcases List.mem_append.mp he with z |z
  ·exact(a2 e z).up S
  ·rw[List.mem_singleton.mp z]
   refine#[j,#[T,O,i.1],λw hw=>?_,Z]
   rcases List.mem_cons.mp hw with rfl |hw
   ·exact Y.way.up S
   ·rw[List.mem_singleton.mp hw]
    exact R.way.up (by show _<=N+(a.size+r.size+1);omega)
end
noncomputable def bh(n:Addr)(d:Df):List Ct:=(fV n d).2.reverse
theorem QF(n:Addr)(d:Df):(bh n d).length=d.b.cuts:=by
 unfold bh
 rw[List.length_reverse]
 exact(j8 _ _ _ _).trans (Nat.zero_add _)
theorem wG{nA:Addr}{d:Df}(f:dt H d.b B)(g:d.b.Ok y):sX H y nA d.b.cuts d.b.size (fV nA d).1/\∀c∈bh nA d,tG d.b.calls H y nA d.b.cuts d.b.size c:=by
 have p:sX H y nA d.b.cuts 0 (C7 nA):=#[λx i=>absurd i EL,#[[],.nought],Z,(λ_ h=>absurd h EL),Eh _,EE]
 obtain⟨a,e⟩:=Kb (m:=d.b.cuts) d.b f g (zG d.b) p (fs:=[]) (λ_ h=>absurd h EL) (by show 0+_<=_;omega)
 rw[Nat.zero_add]at a e
 exact#[a,λc j=>e c (List.mem_reverse.mp j)]
theorem zW{M:Str->Prop}{y:List Str}(h:∀x,M x->x∈y):(canon M).length<=y.length:=by
 by_cases e:∃s,Nm s M
 ·obtain⟨s,H⟩:=e
  rw[<- H.canon]
  exact H.len h
 ·unfold canon
  rw[dif_neg e]
  exact Eu _
noncomputable def bM:List (Str×Addr×Tm)->a6->a6
 | [],k=>k
 |s::r,k=>bM r (aQ k (.inr s.1) (.int (s.2.2.ev k)))
noncomputable def dh(N:Addr)(d:Df)(n:Nat):List Str:=match (bh N d)[n]? with
 |some c=>canon c.M
 |none=>[]
noncomputable def nO(N:Nat->List Str)(k:a6):Gl->Tr
 | .give _ T=>aK [a7 "give",aI (T.ev k)]
 | .nought=>aK [a7 "give",aI 0]
 | .go n=>aK [a7 "go",aI (n:Int),aK ((N n).map λx=>aI (look k (.inr x) 0))]
theorem zp{H:Hp}{ys:List Str}:∀{ss:List (Str×Addr×Tm)} {k:a6},(∀s∈ss,TV H ys s.2.1 s.2.2)->GT k->GT (bM ss k)
 | [],_,_,g=>g
 |s::r,k,h,g=>zp (H:=H) (ys:=ys) (ss:=r) (λS a=>h S (EB _ a)) (g.put _ (qh g (h s Ez).2.1))
theorem Qr{S:List (Str×Addr×Tm)}:∀{i:Nat} {s:Str×Addr×Tm} {k:a6},S[i]?=some s->bM (S.take (i+1)) k=aQ (bM (S.take i) k) (.inr s.1) (.int (s.2.2.ev (bM (S.take i) k))):=by
 induction S with
 |nil=>intro i s k h;simp at h
 |cons a r I=>
  intro i s k h
  cases i with
  |zero=>
   cases h
   rfl
  |succ i=>exact I (by simpa using h)
theorem zI{kvs:a6}{k:bo}{v:V}:(aQ kvs k v).length<=kvs.length+1:=by
 unfold aQ
 split
 ·rw[Ef];exact Gm _
 ·rw[Ei];exact Eh _
theorem Kj:∀{ss:List (Str×Addr×Tm)} {k:a6},(bM ss k).length<=k.length+ss.length
 | [],_=>Eh _
 |s::r,k=>by
  have h:=Kj (ss:=r) (k:=aQ k (.inr s.1) (.int (s.2.2.ev k)))
  have H:=zI (kvs:=k) (k:=.inr s.1) (v:=.int (s.2.2.ev k))
  show(bM r _).length<=k.length+(r.length+1)
  omega
noncomputable def aw(n:List Str)(i:List Int):a6:=cV [] ((n.map Sum.inr).zip (i.map V.int))
theorem Xa:∀{m:a6} {k:a6},GT k->GT m->GT (cV k m)
 | [],_,g,_=>g
 |p::r,k,g,h=>by
  obtain⟨i,e,H⟩:=h p Ez
  have E:aQ k p.1 p.2=aQ k p.1 (.int i):=by rw[e]
  show GT (cV (aQ k p.1 p.2) r)
  rw[E]
  exact Xa (g.put _ H) λq a=>h q (EB _ a)
theorem zY(h:∀i∈I,d9 i):GT (aw n I):=by
 refine Xa GT.nil λp H=>?_
 obtain⟨i,a,e⟩:=List.mem_map.mp (HV H).2
 exact#[i,e.symm,h i a]
theorem JZ{ns:List Str}{is:List Int}:(aw ns is).length<=ns.length:=by
 have h:=qD ((ns.map Sum.inr).zip (is.map V.int)) []
 rw[IR,Ef]at h
 show(cV [] _).length<=_
 have H:(cV [] ((ns.map Sum.inr).zip (is.map V.int))).length<=0+min ns.length (is.map V.int).length:=h
 omega
noncomputable abbrev ma:Stmt:=bL 19
noncomputable abbrev iE:Stmt:=bL 20
noncomputable abbrev gF:Stmt:=bL 23
noncomputable abbrev iD:Stmt:=bL 24
noncomputable abbrev gE:Stmt:=bL 25
noncomputable abbrev iI:Stmt:=bL 26
structure i'(H:Hp)(nA:Addr)(d:Df)(ys:List Str)(v:V):Prop where
 tr:aP H (eh nA d) v []
 bd:∃bs,dt H d.b bs
 ok:d.b.Ok ys
 y20:ys.length<=20
 sz:d.b.size<=3000
structure As(H:Hp)(nA:Addr)(d:Df)(ys:List Str)(c:Ct)(ka na wa:Addr)(dv:V)(wvs:List V):Prop where
 at':H ka=some (.tup [.ref na,dv,.ref wa])
 nms:H na=some (.tup ((canon c.M).map V.str))
 deed:aP H (Cr c.d) dv []
 wat:H wa=some (.tup wvs)
 ways:aP H (aE (c.ws.map ff)) .non wvs
 v:tG d.b.calls H ys nA d.b.cuts d.b.size c
theorem YM:∀{S:List Str} {v:List V},aP H (aE (S.map a7)) .non v->v=S.map V.str
 | [],v,h=>h
 |s::S,v,h=>by
  obtain⟨_,_,y,Y,rfl,⟨rfl,_⟩,a⟩:=h
  rw[YM a]
  rfl
section
variable {H H':Hp}{nA:Addr}{d:Df}{ys:List Str}{v:V}
theorem i'.mono(k:aj H H')(h:i' H nA d ys v):i' H' nA d ys v:=#[h.tr.mono k,let #[b,a]:=h.bd;#[b,a.mono k],h.ok,h.y20,h.sz]
theorem i'.parts(h:i' H nA d ys v):∃(a c:Addr) (W:V) (C:List V),v= .ref a/\H a=some (.tup [.str d.f,.ref d.pa,W,.ref c])/\aP H (ff (fV nA d).1.w) W []/\H c=some (.tup C)/\aP H (aE ((bh nA d).map AN)) .non C:=by
 obtain⟨_,a,x,rfl,i,_,_,n,Y,rfl,⟨rfl,_⟩,_,_,o,j,rfl,⟨rfl,_⟩,_,_,W,k,rfl,l,_,_,p,y,rfl,m,e⟩:=h.tr
 have e:y=[]:=e
 subst e
 obtain⟨_,c,C,rfl,b,g⟩:=m
 exact#[a,c,W,C,Z,i,l,b,g]
theorem i'.cut{C:List V}(h:i' H nA d ys v)(a:aP H (aE ((bh nA d).map AN)) .non C){n:Nat}{c:Ct}(g:(bh nA d)[n]?=some c):∃k N i D W,C[n]?=some (.ref k)/\As H nA d ys c k N i D W:=by
 have L:=kL a
 rw[Ef]at L
 have u:n < C.length:=by rw[L];exact(List.getElem?_eq_some_iff.mp g).1
 have j:C[n]?=some C[n]:=Ed u
 obtain⟨T,b,t⟩:=qr a n _ j
 rw[Eo,g]at b
 cases b
 obtain⟨B,y⟩:=h.bd
 have z:=(wG (nA:=nA) y h.ok).2 c (EA g)
 generalize C[n]=x at j t
 obtain⟨_,k,E,rfl,l,_,_,F,G,rfl,m,_,_,D,I,rfl,o,_,_,J,A,rfl,p,e⟩:=t
 have e:A=[]:=e
 subst e
 obtain⟨_,N,M,rfl,f,q⟩:=m
 obtain⟨_,i,W,rfl,r,s⟩:=p
 rw[YM q]at f
 exact#[k,N,i,D,W,j,l,f,o,r,s,z]
theorem i'.way(h:i' H nA d ys v):lr H ys nA d.b.cuts d.b.size (fV nA d).1.w:=let #[B,a]:=h.bd;(wG (nA:=nA) a h.ok).1.way
theorem XB(h:(bh nA d)[n]?=some c):dh nA d n=canon c.M:=by
 unfold dh
 rw[h]
end
structure CQ(H:Hp)(nA:Addr)(w:WD)(wa sa ga:Addr)(ss:List V)(wd:Str)(u:V):Prop where
 at':H wa=some (.tup [.ref sa,.ref ga])
 sat:H sa=some (.tup ss)
 sets:∀(i:Nat) (x:V),ss[i]?=some x->∃(s:Str×Addr×Tm) (p:Addr),w.sets[i]?=some s/\x= .ref p/\H p=some (.tup [.str s.1,.ref s.2.1])
 len:ss.length=w.sets.length
 gat:H ga=some (.tup [.str wd,u])
 goal:match w.goal with
  | .give t _=>wd="give"/\u= .ref t
  | .nought=>wd="give"/\u= .ref nA
  | .go n=>wd="go"/\u= .int (n:Int)
theorem YN{w:WD}(h:aP H (ff (w.wy N)) v []):∃(l S G:Addr) (A:List V) (W:Str) (u:V),v= .ref l/\CQ H N w l S G A W u:=by
 obtain⟨_,r,X,rfl,C,_,_,y0,D,rfl,⟨_,s,c,rfl,E,m⟩,_,_,Y,y,rfl,b,e⟩:=h
 have e:y=[]:=e
 subst e
 have L:=kL m
 have st:∀(i:Nat) (x:V),c[i]?=some x->∃(s:Str×Addr×Tm) (p:Addr),w.sets[i]?=some s/\x= .ref p/\H p=some (.tup [.str s.1,.ref s.2.1]):=λi x F=>by
  obtain⟨tr,o,I⟩:=qr m i x F
  rw[Eo]at o
  obtain⟨q,J,rfl⟩:=Option.map_eq_some_iff.mp o
  have a:(w.sets.map λs=>(s.1,s.2.1))[i]?=some q:=J
  rw[Eo]at a
  obtain⟨z,M,rfl⟩:=Option.map_eq_some_iff.mp a
  obtain⟨_,p,X,rfl,O,_,_,Q,R,rfl,⟨rfl,_⟩,_,_,U,B,rfl,⟨rfl,_⟩,e⟩:=I
  have e:B=[]:=e
  subst e
  exact#[z,p,M,Z,O]
 have ln:c.length=w.sets.length:=by
  rw[L,Ef]
  exact Ef ..
 have f:∀g:Gl,w.goal=g->aP H (uf (g.gol N)) Y []->∃(G:Addr) (W:Str) (u:V),Y= .ref G/\H G=some (.tup [.str W,u])/\match g with
  | .give t _=>W="give"/\u= .ref t
  | .nought=>W="give"/\u= .ref N
  | .go n=>W="go"/\u= .int (n:Int):=λg _ b=>by
  cases g with
  |give t T |nought |go n=>
   obtain⟨_,gl,X,rfl,d,_,_,Q,R,rfl,⟨rfl,_⟩,_,_,U,B,rfl,⟨rfl,_⟩,e⟩:=b
   have e:B=[]:=e
   subst e
   exact#[gl,_,_,Z,d,Z,Z]
 obtain⟨G,W,u,rfl,j,k⟩:=f w.goal Z b
 exact#[r,s,G,c,W,u,Z,C,E,st,ln,j,k]
noncomputable def ig(N:Addr):Sp:=λa H Q _=>∃(v:V) (n:Nat) (d:Df) (y:List Str) (c:Ct),a=[v,.int (n:Int)]/\i' H N d y v/\(bh N d)[n]?=some c/\∀(k b e:Addr) (D:V) (W:List V),As H N d y c k b e D W->Q (.ref k) H
noncomputable def iT(N:Addr):Sp:=λa H Q _=>∃(v:V) (n:Nat) (h:Addr) (d:Df) (y:List Str) (c:Ct) (i:List Int),a=[v,.int (n:Int),.ref h]/\i' H N d y v/\(bh N d)[n]?=some c/\H h=some (.tup (i.map V.int))/\i.length=(canon c.M).length/\
 ∀D:Addr,H D=none->Q (.ref D) (ah H D (.dK (aw (canon c.M) i)))
theorem Jc:∀(s:List Str),(s.map (Sum.inr:Str->bo)).map kV=s.map V.str:=λs=>by rw[FS];rfl
theorem vv:am ["part","n"] ["part","n"] (aa ma):=bJ
theorem pq{f:Addr}{g:FuncData}{N:Addr}(F:aN K "cut_at" "cut_at" ma f g):ai P w K mg base aD 1 f g ["part","n"] (ig N):=by
 refine F.ok vv ?_ λl A o s H V Q E B h=>?_
 ·rintro _ _ _ _ ⟨v,n,d,y,c,rfl,_⟩
  rfl
 obtain⟨v,n,d,y,c,rfl,i,m,q⟩:=h
 refine#[_,(jg (jm (js jJ (jw (pv 0)) (pv 1) (λ_ _=>Z)))),?_]
 obtain⟨a,p,I,J,rfl,r,L,b,e⟩:=i.parts
 obtain⟨t,u,x,D,W,z,C⟩:=i.cut e m
 exact#[_,Z,a,_,_,_,Z,Z,ar.of r,ju (j:=3) Z,_,Z,p,_,_,_,Z,Z,ar.of b,ju z,q t u x D W C]
theorem rJ:am ["part","n","held"] ["part","n","held"] (aa iE):=bJ
theorem ZD(F:aN K "held_at" "held_at" iE f g)(i:Cl P w K mg base 1 J j ["part","n"] (ig N) "cut_at")(m:mg "dict"=none)(a:mg "zip"=none):ai P w K mg base aD 2 f g ["part","n","held"] (iT N):=by
 refine F.ok rJ ?_ λp A o s H V Q E r h=>?_
 ·rintro _ _ _ _ ⟨v,n,b,d,y,c,I,rfl,_⟩
  rfl
 obtain⟨v,n,b,d,y,c,I,rfl,t,u,x,z,q⟩:=h
 refine#[_,(jg (jm (@qY _ _ _ _ _ _ _ _ Z m Z a Z (ja (js jJ (i.e r (ja (pv 0) (ja (pv 1) jb))) jf (λ_ _=>Z)) (ja (pv 2) jb)) Ls Ls Ls Ls))),?_]
 refine#[_,Z,_,Z,v,n,d,y,c,Z,t,u,λB D O R W C=>#[B,_,_,_,Z,Z,ar.of C.at',c7,_,Z,D,b,(canon c.M).map Sum.inr,_,Z,by rw[Jc];exact ar.of C.nms,ar.of x,by rw[Ef,Ef,z],λl G=>q l G]]
inductive Wh where
 |rd (a i:Int) |wr (a b:Int) |ask (b:Int) |cl (f:Str) (is:List Int) (i:Int)
noncomputable def wW(H:Hp)(u:V):Wh->Prop
 | .rd a i=>∃p,u= .ref p/\H p=some (.tup [.str "read",.int a,.int i])
 | .wr a b=>∃p,u= .ref p/\H p=some (.tup [.str "write",.int a,.int b])
 | .ask b=>∃p,u= .ref p/\H p=some (.tup [.str "ask",.int b])
 | .cl f I i=>∃p c g e,u= .ref p/\H p=some (.tup [.str "call",.ref c])/\H c=some (.tup [.str f,.ref g,e,.int i])/\H g=some (.tup (I.map V.int))
theorem wW.mono{H d:Hp}(k:aj H d){u:V}{w:Wh}(h:wW H u w):wW d u w:=by
 cases w with
 |rd a i |wr a b |ask b=>obtain⟨p,e,h⟩:=h;exact#[p,e,k _ _ h]
 |cl f I i=>obtain⟨p,c,g,e,E,j,l,m⟩:=h;exact#[p,c,g,e,E,k _ _ j,k _ _ l,k _ _ m]
inductive DD where
 |st (p:Addr) (l:Lf) |ask (t:Addr) (T:Tm)
noncomputable def DD.dd:DD->Dd
 | .st p _=>.st p
 | .ask t _=>.ask t
noncomputable def vQ(H:Hp)(y:List Str):DD->Prop
 | .st p l=>∃v,H p=some (.tup v)/\tJ H l v/\l.Ok y/\l.isCut=true
 | .ask t T=>TV H y t T
theorem vQ.mono(k:aj H a)(h:vQ H y d):vQ a y d:=by
 cases d with
 |st p l=>obtain⟨v,b,c,e⟩:=h;exact#[v,k _ _ b,c.mono k,e]
 |ask t T=>exact TV.mono k h
noncomputable def DD.Cs(F:gA):DD->Prop
 | .st _ l=>l.Cs F
 | .ask _ _=>True
theorem AS{F:gA}(h:DA F H y d):∃e:DD,e.dd=d/\vQ H y e/\e.Cs F:=by
 cases d with
 |st p=>obtain⟨l,v,a,b,c,f,g⟩:=h;exact#[.st p l,Z,#[v,a,b,c,f],g]
 |ask t=>obtain⟨T,h⟩:=h;exact#[.ask t T,Z,h,EE]
noncomputable def At:DD->Wh->Prop
 | .st _ (.rd _ _ _),.rd _ i=>d9 i
 | .st _ (.wr _ _ _ _),.wr _ _=>True
 | .st _ (.cl _ _ _ _),.cl _ _ i=>d9 i
 | .ask _ _,.ask b=>b=0∨b=1
 |_,_=>False
noncomputable def lU(d:DD)(w:Wh)(k:a6):a6:=match d,w with
 | .st _ (.rd x _ _),.rd _ i=>aQ k (.inr x) (.int i)
 | .st _ (.cl x _ _ _),.cl _ _ i=>aQ k (.inr x) (.int i)
 |_,_=>k
noncomputable def Wh.side:Wh->Nat
 | .ask b=>if b=0 then 1 else 0
 |_=>0
noncomputable def oI(Q:VK)(H:Hp):Wh->Prop
 | .rd _ i=>Q (.int i) H
 | .cl _ _ i=>Q (.int i) H
 |_=>False
noncomputable def fc:Sp:=λv H Q _=>∃(u:V) (w:Wh),v=[u]/\wW H u w/\oI Q H w
noncomputable def nD(n:Addr):Sp:=λa H Q _=>∃(v W:V) (D:Addr) (d:Df) (y:List Str) (w:WD) (k:a6),a=[v,W,.ref D]/\i' H n d y v/\aP H (ff (w.wy n)) W []/\oe H y d.b.cuts d.b.size w/\H D=some (.dK k)/\GT k/\k.length<=200/\
 ∀(u:V) (h:Hp),aP h (nO (dh n d) (bM w.sets k) w.goal) u []->ax D H h->Q u h
inductive EI(dd:Addr)(σ0:_L.St)(ss:List (Str×Addr×Tm))(k:a6)(H:Hp)(i:Nat)(σ:_L.St)(H':Hp):Prop
 |mk (o3 o4:Option V) (e0:σ=σ0++[o3,o4,none,none]) (e1:H' dd=some (.dK (bM (ss.take i) k))) (e2:ax dd H H'):EI dd σ0 ss k H i σ H'
theorem qy{H:Hp}:∀{is:List Int},aP H (aE (is.map aI)) .non (is.map V.int)
 | []=>rfl
 |i::is=>jh Z jN (qy (is:=is))
theorem nU:am ["what"] ["what"] (aa gF):=bJ
theorem pC(F:aN K "found_in" "found_in" gF f n):ai P w K mg base aD 1 f n ["what"] fc:=by
 refine F.ok nU ?_ λC A o s H v Q E t h=>?_
 ·rintro _ _ _ _ ⟨u,W,rfl,_⟩
  rfl
 obtain⟨u,W,rfl,d,q⟩:=h
 refine#[_,(jg (jm (zD (jV (jw (pv 0))) (jw (js jJ (pv 0) jf (λ_ _=>Z))) (js jJ (pv 0) (wC ZV jf) (λ_ _=>Z))))),?_]
 cases W with
 |rd a i=>
  obtain⟨p,rfl,l⟩:=d
  exact(jq l c7 #[Z,_,Z,aG Lq #[_,Z,_,Z,p,_,_,_,Z,Z,ar.of l,Z,q]])
 |cl f I i=>
  obtain⟨p,c,g,e,rfl,m,r,_⟩:=d
  exact(jq m c7 #[Z,_,Z,cj Lq (jq m dW #[c,_,_,_,Z,Z,ar.of r,ju (j:=3) Z,q])])
 |wr a b |ask b=>exact q.elim
theorem eY:am ["part","way","numbers","name","term","goal","held"] ["part","way","numbers"] (aa iD):=bJ
noncomputable def Yd:Scope:=#[.function,[(".0",.local),("name",.local),("numbers",.free)],false,false,[]]
theorem uj:(["name","numbers"]:List Str).Nodup:=by decide+kernel
theorem tQ:aZ ["part","way","numbers","name","term","goal","held"] (aa iD) Yd ["name","numbers"] 1 [2]:=mO
theorem px(F:aN K "end_of" "end_of" iD f fd)(cC:Cl P w K mg base 1 fC f2 ["part","n"] (ig U) "cut_at")(cW:Cl P w K mg base 7 fW f3 ["term","held"] (cw K 6) "worth")(m0:mg "tuple"=none)(no:io K U):ai P w K mg base aD 8 f fd ["part","way","numbers"] (nD U):=by
 refine F.ok eY ?_ λc0 A o1 s H vs Q E Y h=>?_
 ·rintro _ _ _ _ ⟨v,w1,D,d,ys,O,k,rfl,_⟩
  rfl
 obtain⟨v,w1,D,d,ys,O,k,rfl,hp,hw,wv,hd,gk,hk,q⟩:=h
 refine#[_,(jd (kO EZ Z (zb (jw (pv 1))) (zO (n:=2) Z (jD (jy (i:=3) eY.nd Z (Or.inl Z)) (jD (jy (i:=4) eY.nd Z (Or.inl Z)) kh))) (jg (zk (kB Y) (pv 2) (pv 3) (cW.e Y.m (ja (pv 4) (ja (pv 2) jb))) Z))) (jd (jB 5 eY.nd (jw (pv 1))) (jd (jx (jV (jw (pv 5))) (jg (jm (ji (ja jk (ja (cW.e Y.m (ja (jw (pv 5)) (ja (pv 2) jb))) jb))))) jp) (jd (@Yu _ _ _ _ _ _ _ _ _ _ (6) (["name","numbers"]) (1) ([2]) _ _ _ _ eY.nd Z (Or.inl Z) Z (zb (js jJ (cC.e Y.m (ja (pv 0) (ja (jw (pv 5)) jb))) jf (λ_ _=>Z))) tQ (λ_ _ _ _ _=>(jy (i:=0) uj Z (Or.inl Z))) (λ_ _ _ _ _=>(@zi _)) (λ_ _ _ _ _=>(@zR _ _ _ _ _ _ _ _ _ (kB Y) (pv 1) (pv 0) jf #[Ls,Ls,Ls,Ls])) Ls (by first |exact .inl Z |exact .inr Z) (by intro _;rfl)) (jg (jm (ji (ja jk (ja (jw (pv 5)) (ja (jC jI Z m0 Ft (ja (pv 6) jb)) jb)))))))))),?_]
 have b0:=aH
 obtain⟨wa,sa,ga,ss,wd,u,rfl,W⟩:=YN hw
 have R:∀g,ax D H g->aj H g:=λg k b xs e=>k b _ (jQ e hd (by intro z;cases z)) e
 have h2:=hp.sz
 have h3:=wv.len
 refine af λF1 C=>eO λJ j=>(jq W.at' c7 #[sa,Z,#[_,ar.of W.sat],j _ _ ?_])
 clear j
 refine qu (K:=K) (xs:=ss) (EI D [some v,some (.ref wa),some (.ref D)] O.sets k H) #[_,_,Z,hd,ax.refl] (λi σ g _ h=>?_) ?_ (λσ g h=>C _ _ ?_)
 ·obtain⟨_,_,_,_,I⟩:=h
  exact ar.of (R _ I _ _ W.sat)
 ·intro E _ i x σ H1 hx f0 Gq kq h
  obtain⟨o3,o4,rfl,L,I⟩:=h
  clear C
  obtain⟨s,p,hs,rfl,h0⟩:=W.sets i x hx
  have S:=R _ I
  have tv:=(wv.sets s (EA hs)).mono S
  have g1:GT (bM (O.sets.take i) k):=zp (H:=H) (ys:=ys) (λs hs=>wv.sets s (Fe hs)) gk
  have l1:=Kj (ss:=O.sets.take i) (k:=k)
  rw[ED]at l1
  refine kq ?_
  clear kq
  refine#[p,_,Z,ar.of (S _ _ h0),Z,_,_,Z,_,_,Z,Z,?_]
  refine#[_,Z,_,Z,s.2.1,D,s.2.2,ys,_,Z,.inl tv.1,tv.2.2,tv.2.1,L,g1,_,Z,_,Z,D,_,Z,.inl #[_,.inr s.1,L,Z,Lo,Z],f0 _ _ #[_,_,Z,?_,λc o X e=>by rw[jl X];exact I c o X e]]
  rw[Qr hs]
  exact jc
 ·obtain⟨o3,o4,rfl,L,I⟩:=h
  rw[W.len,Fc]at L
  have S:=R _ I
  have g1:GT (bM O.sets k):=zp (H:=H) (ys:=ys) wv.sets gk
  have B:=wv.goal
  have a:=W.goal
  generalize bM O.sets k=N at L g1 q
  refine af λF1 C=>(jq (S _ _ W.at') dW (C _ _ ?_))
  clear C
  have G:=S _ _ W.gat
  refine af λF1 C=>tq λG1 k3 k0=>(jq G c7 #[Z,_,Z,?_])
  have give:∀(t:Addr) (T:Tm),wd="give"->u= .ref t->Cm K g T t->cQ ys T->(∀(u':V) (H9:Hp),aP H9 (aK [a7 "give",aI (T.ev N)]) u' []->ax D H H9->Q u' H9)->G1 (decide (V.str wd=V.str "give")) g:=by
   intro t T e1 e2 x1 x2 x3
   subst e1
   subst e2
   rw[EN Z]
   refine k3 _ (jq G dW #[_,Z,t,D,T,ys,N,Z,x1,x2.2,x2.1,L,g1,bj,λr nr=>?_])
   exact x3 _ _ (jA jc (jh Z jG (jh Z jN jz))) λc o X e=>je nr _ _ (I c o X e)
  cases hg:O.goal with
  |give t T=>
   rw[hg]at B a q
   exact give t T a.1 a.2 (.inl (B.1.mono S)) B.2 q
  |nought=>
   rw[hg]at a q
   exact give U (.num 0) a.1 a.2 (.inr #[Z,no _]) #[#[Ln,Ln],Ln] q
  |go n=>
   rw[hg]at B a q
   clear give k3
   obtain⟨e1,e2⟩:=a
   subst e1
   subst e2
   have hn:n < (bh U d).length:=by rw[QF];exact B
   obtain⟨c,hc⟩:∃c,(bh U d)[n]?=some c:=#[_,Ed hn]
   have e0:decide (V.str "go"=V.str "give")=false:=by decide+kernel
   rw[e0]
   refine k0 _ (C _ _ ?_)
   clear k0 C
   refine af λF1 C=>#[_,Z,jq G dW #[v,n,d,ys,c,Z,hp.mono S,hc,λka na w2 dv w3 ca=>#[ka,_,_,_,Z,Z,ar.of ca.at',c7,na,Z,#[_,ar.of ca.nms],?_]]]
   have cl:=Es (zW ca.v.mem) hp.y20
   have q:∀(u:V) (g:Hp),aP g (aK [a7 "go",aI (n:Int),aK ((dh U d n).map λx=>aI (look N (.inr x) 0))]) u []->ax D H g->Q u g:=q
   rw[XB hc]at q
   refine zu (K:=K) (xs:=(canon c.M).map V.str) (by rw[Ef];omega) (λi zs Hx=>zs=((canon c.M).take i).map (λx=>V.int (look N (.inr x) 0))/\Hx=g) #[Z,Z] (λi zs Hx h=>?_) (λi x zs Hx hx h=>?_) (λzs Hx h l nl=>C _ _ ?_)
   ·obtain⟨rfl,rfl⟩:=h
    exact#[ar.of ca.nms,by rw[Ef,ED];omega]
   ·obtain⟨rfl,rfl⟩:=h
    rw[Eo]at hx
    obtain⟨y,hy,rfl⟩:=Option.map_eq_some_iff.mp hx
    refine#[_,Z,D,Z,.inl #[N,.inl L],_,Z,_,dN.k (k:=Sum.inr y) L,?_,Z]
    rw[zU g1,FK,hy,EK]
    rfl
   ·obtain⟨rfl,rfl⟩:=h
    rw[Ef,Fc]
    refine(jq (je nl _ _ G) dW #[_,Z,l,_,Z,.inl #[aF.of jc,λtl n0=>#[dY,λr nr=>?_]]])
    refine q _ _ (jA jc (jh Z jG (jh Z jN (jh Z (jA (aq jc nr) ?_) jz)))) λc' o X e=>je nr _ _ (je n0 _ _ (je nl _ _ (I c' o X e)))
    have:=qy (H:=ah (ah (ah Hx l (.lst ((canon c.M).map (λx=>V.int (look N (.inr x) 0))))) tl (.tup ((canon c.M).map (λx=>V.int (look N (.inr x) 0))))) r (.tup [.str "go",.int (n:Int),.ref tl])) (is:=(canon c.M).map λx=>look N (.inr x) 0)
    rw[FS,FS]at this
    exact this
structure hV(H:Hp)(nA:Addr)(d:Df)(ys:List Str)(v:V)(sa:Addr)(n:Nat)(hv:Addr)(uw:V)(c:Ct)(is:List Int)(wh:Wh)(e:DD)(wd:WD):Prop where
 prt:i' H nA d ys v
 at':H sa=some (.tup [.int (n:Int),.ref hv,uw])
 cut:(bh nA d)[n]?=some c
 hat:H hv=some (.tup (is.map V.int))
 hl:is.length=(canon c.M).length
 hin:∀i∈is,d9 i
 whv:wW H uw wh
 ed:e.dd=c.d
 dv:vQ H ys e
 fit:At e wh
 way:c.ws[wh.side]?=some (wd.wy nA)
 wdv:oe H ys d.b.cuts d.b.size wd
theorem hV.mono(k:aj H a)(h:hV H N d y v s n b u c i f e g):hV a N d y v s n b u c i f e g:=
 #[h.prt.mono k,k _ _ h.at',h.cut,k _ _ h.hat,h.hl,h.hin,h.whv.mono k,h.ed,h.dv.mono k,h.fit,h.way,h.wdv.mono k]
noncomputable def Cu(n:Addr)(d:Df)(c:Ct)(i:List Int)(a:Wh)(e:DD)(W:WD):Tr:=nO (dh n d) (bM W.sets (lU e a (aw (canon c.M) i))) W.goal
noncomputable def gn(n:Addr):Sp:=λc H Q _=>∃(v:V) (a:Addr) (d:Df) (y p:List Str) (I:List Int) (w:WD),c=[v,.ref a]/\i' H n d y v/\H d.pa=some (.tup (p.map V.str))/\p.length<=100/\H a=some (.tup (I.map V.int))/\I.length=p.length/\(∀i∈I,d9 i)/\w.wy n=(fV n d).1.w/\oe H y d.b.cuts d.b.size w/\
 ∀(u:V) (h:Hp),aP h (nO (dh n d) (bM w.sets (aw p I)) w.goal) u []->ae H h->Q u h
noncomputable def iW(N:Addr):Sp:=λb H Q _=>∃(v U:V) (s f:Addr) (n:Nat) (d:Df) (y:List Str) (c:Ct) (i:List Int) (W:Wh) (e:DD) (a:WD),b=[v,.ref s]/\hV H N d y v s n f U c i W e a/\∀(u:V) (h:Hp),aP h (Cu N d c i W e a) u []->ae H h->Q u h
theorem Qy(h:At e a)(g:GT k):GT (lU e a k):=by
 unfold lU
 split
 ·exact g.put _ h
 ·exact g.put _ h
 ·exact g
theorem YO{e:DD}{wh:Wh}{k:a6}:(lU e wh k).length<=k.length+1:=by
 unfold lU
 split
 ·exact zI
 ·exact zI
 ·exact Gm _
theorem nS:am ["part","args"] ["part","args"] (aa gE):=bJ
theorem Ye(F:aN K "first_of" "first_of" gE f I)(J:Cl P w K mg base 8 fE L ["part","way","numbers"] (nD T) "end_of")(M:mg "dict"=none)(b:mg "zip"=none):ai P w K mg base aD 9 f I ["part","args"] (gn T):=by
 refine F.ok nS ?_ λR A O s H vs Q E U h=>?_
 ·rintro _ _ _ _ ⟨v,x,d,y,p,is,z,rfl,_⟩
  rfl
 obtain⟨v,x,d,y,p,is,z,rfl,C,g,V,i,n,r,t,W,q⟩:=h
 refine#[_,(jg (jm (J.e U.m (ja (pv 0) (ja (jw (pv 0)) (ja (@qY _ _ _ _ _ _ _ _ Z M Z b Z (ja (jw (pv 0)) (ja (pv 1) jb)) Ls Ls Ls Ls) jb)))))),?_]
 obtain⟨a,ca,X,cs,rfl,D,G,Y,h0⟩:=C.parts
 rw[<- t]at G
 refine#[_,Z,_,Z,a,_,_,_,Z,Z,ar.of D,ju (j:=2) Z,jq D dW #[_,Z,d.pa,x,p.map Sum.inr,_,Z,by rw[Jc];exact ar.of g,ar.of i,by rw[Ef,Ef,n],λl N=>?_]]
 have S:ae H (ah H l (.dK (aw p is))):=je N
 have zl:=JZ (ns:=p) (is:=is)
 exact#[.ref a,X,l,d,y,z,aw p is,Z,C.mono (ae.tm S),G.mono (ae.tm S),W.mono (ae.tm S),jc,zY r,Lo,λu H' tu k=>q u H' tu λc o e=>k c o (jo e N) (S _ _ e)]
theorem dU:am ["part","step","cut","numbers","what","way"] ["part","step"] (aa iI):=bJ
theorem ZE{f:Addr}{fd:FuncData}{nA fC fD fF fE:Addr}{f0 f3 f4 f5:FuncData}(F:aN K "onward" "onward" iI f fd)(cC:Cl P w K mg base 1 fC f0 ["part","n"] (ig nA) "cut_at")(cD:Cl P w K mg base 2 fD f3 ["part","n","held"] (iT nA) "held_at")(cF:Cl P w K mg base 1 fF f4 ["what"] fc "found_in")(cE:Cl P w K mg base 8 fE f5 ["part","way","numbers"] (nD nA) "end_of"):ai P w K mg base aD 9 f fd ["part","step"] (iW nA):=by
 refine F.ok dU ?_ λc0 A o2 s H vs Q E hr h=>?_
 ·rintro _ _ _ _ ⟨v,L,Y,hv,n,d,ys,c,is,wh,e,wd,rfl,_⟩
  rfl
 obtain⟨v,L,Y,hv,n,d,ys,c,is,wh,e,wd,rfl,C,q⟩:=h
 refine#[_,(jd (jB 2 dU.nd (cC.e hr.m (ja (pv 0) (ja (jw (pv 1)) jb)))) (jd (jB 3 dU.nd (cD.e hr.m (ja (pv 0) (ja (jw (pv 1)) (ja (jw (pv 1)) jb))))) (jd (jB 4 dU.nd (jw (pv 1))) (jd (jx (jE zr (jw (pv 4)) (ji (ja jk (ja jk jb))) Z) (jg (zk (kB hr) (pv 3) (jw (js jJ (pv 2) jf (λ_ _=>Z))) (cF.e hr.m (ja (pv 4) jb)) Z)) jp) (jd (jB 5 dU.nd (zD (jE (Z9 (kB hr)) (pv 4) (ji (ja jk (ja jf jb))) (aA _)) (jw (js jJ (pv 2) jf (λ_ _=>Z))) (jw (js jJ (pv 2) jf (λ_ _=>Z))))) (jg (jm (cE.e hr.m (ja (pv 0) (ja (pv 5) (ja (pv 3) jb))))))))))),?_]
 have b0:=aH
 obtain⟨a,ca,wv,cs,rfl,ha,hw,a0,a1⟩:=C.prt.parts
 have h0:=C.at'
 refine af λF1 J=>#[_,Z,jq h0 c7 #[_,n,d,ys,c,Z,C.prt,C.cut,λka na wa dv w0 cu=>J _ _ ?_]]
 clear J
 refine af λF1 J=>#[_,Z,jq h0 c7 (jq h0 dW #[_,n,hv,d,ys,c,is,Z,C.prt,C.cut,C.hat,C.hl,λD n0=>J _ _ ?_])]
 clear J
 have s1:ae H (ah H D (.dK (aw (canon c.M) is))):=je n0
 have d1:ah H D (.dK (aw (canon c.M) is)) D=some (.dK (aw (canon c.M) is)):=jc
 generalize ah H D (.dK (aw (canon c.M) is))=H1 at s1 d1
 have O:=C.mono (ae.tm s1)
 have g0:GT (aw (canon c.M) is):=zY C.hin
 have z0:=JZ (ns:=canon c.M) (is:=is)
 have z1:=zW cu.v.mem
 have z2:=C.prt.y20
 generalize h7:aw (canon c.M) is=k0 at d1 g0 z0
 refine af λF1 J=>#[_,Z,Y,_,_,_,Z,Z,ar.of O.at',ju (j:=2) Z,J _ _ ?_]
 clear J
 have o1:Cu nA d c is wh e wd=nO (dh nA d) (bM wd.sets (lU e wh k0)) wd.goal:=by unfold Cu;rw[h7]
 rw[o1]at q
 have h1:=kL cu.ways
 rw[Ef]at h1
 have G:∃x,w0[wh.side]?=some x/\aP H (ff (wd.wy nA)) x []:=by
  have hj:wh.side < w0.length:=by rw[h1];exact(List.getElem?_eq_some_iff.mp C.way).1
  obtain⟨tr,ht,tx⟩:=qr cu.ways wh.side _ (Ed hj)
  rw[Eo,C.way]at ht
  cases ht
  exact#[_,Ed hj,tx]
 obtain⟨wx,G,t0⟩:=G
 have h4:=cu.at'
 have h8:=cu.wat
 refine af λF1 J=>?_
 have r0:∀(H3:Hp),H3 D=some (.dK (lU e wh k0))->ax D H1 H3->F1 [some (.ref a),some (.ref Y),some (.ref ka),some (.ref D),some L,none] H3:=by
  intro H3 h3 k3
  refine J _ _ ?_
  clear J
  have s3:ae H H3:=λc o x=>k3 c o (jo x n0) (s1 _ _ x)
  have l3:=YO (e:=e) (wh:=wh) (k:=k0)
  refine af λF2 f2=>?_
  have f6:∀H4,ae H3 H4->F2 [some (.ref a),some (.ref Y),some (.ref ka),some (.ref D),some L,some wx] H4:=λH4 s4=>f2 _ _ (by
   have S:=s3.trans s4
   exact#[_,Z,_,Z,_,Z,.ref a,wx,D,d,ys,wd,_,Z,C.prt.mono (ae.tm S),t0.mono (ae.tm S),C.wdv.mono (ae.tm S),s4 _ _ h3,Qy C.fit g0,Lo,λu R tu k=>q u R tu λc o x=>k c o (jo x n0) (S _ _ x)])
  clear f2
  have wk:=C.whv.mono (ae.tm s3)
  have gg:∀(H4:Hp) (j:Nat),ae H3 H4->w0[j]?=some wx->dF (eu K) (dF (eu K) (aW 2) (tC (.int 2))) (tC (.int (j:Int))) [some (.ref a),some (.ref Y),some (.ref ka),some (.ref D),some L,none] H4 λx H5=>F2 ([some (.ref a),some (.ref Y),some (.ref ka),some (.ref D),some L,none].set 5 (some x)) H5:=λH4 j s4 hj=>
   #[_,Z,ka,_,_,_,Z,Z,ar.of ((s3.trans s4) _ _ h4),ju (j:=2) Z,wa,_,_,_,Z,Z,ar.of ((s3.trans s4) _ _ h8),ju hj,f6 H4 s4]
  cases wh with
  |rd a' i |wr a' b=>
   obtain⟨p,rfl,B⟩:=wk
   exact#[_,Z,bj,λt N=>#[p,t,_,_,Z,Z,ar.of (je N _ _ B),ar.of jc,.inl #[Z,Z,_,Z,aG (by unfold ip;exact Hs _) (gg _ 0 (je N) G)]]]
  |ask b=>
   obtain⟨p,rfl,B⟩:=wk
   have hb:b=0∨b=1:=by
    have:=C.fit
    cases e with
    |st p l=>cases l<;>exact this.elim
    |ask t T=>exact this
   rcases hb with rfl |rfl
   ·exact#[_,Z,bj,λt N=>#[p,t,_,_,Z,Z,ar.of (je N _ _ B),ar.of jc,.inl #[Z,Z,_,Z,cj Lq (gg _ 1 (je N) G)]]]
   ·exact#[_,Z,bj,λt N=>#[p,t,_,_,Z,Z,ar.of (je N _ _ B),ar.of jc,.inl #[Z,Z,_,Z,aG Lq (gg _ 0 (je N) G)]]]
  |cl f' i0 i=>
   obtain⟨p,c',g,e',rfl,B,h',_⟩:=wk
   exact#[_,Z,bj,λt N=>#[p,t,_,_,Z,Z,ar.of (je N _ _ B),ar.of jc,.inr #[_,c',_,_,_,Z,ar.of (je N _ _ h'),Z,_,Z,aG Z (gg _ 0 (je N) G)]]]
 have wk:=O.whv
 have dk:=O.dv
 have fk:=O.fit
 have h5:=s1 _ _ h4
 have d0:=cu.deed
 rw[<- C.ed]at d0
 have skip:∀(p:Addr) (W:Str) (r:List V),L= .ref p->H1 p=some (.tup (.str W::r))->mQ (.str W) [.str "read",.str "call"]=false->lU e wh k0=k0->g9 (im (dF (Cy K false) (dF (eu K) (aW 4) (tC (.int 0))) (bN (al (tC (.str "read")) (al (tC (.str "call")) aL))))) (p7 (aW 3) (dF (eu K) (dF (eu K) (aW 2) (tC (.int 1))) (tC (.int 1))) (dB fc [] E0 (al (aW 4) aL))) sG { nx:=F1,rt:=Q } [some (.ref a),some (.ref Y),some (.ref ka),some (.ref D),some L,none] H1:=by
  intro p W r I B e2 e3
  subst I
  refine tq λG1 k1 k2=>(jq B c7 #[bj,λt N=>#[t,_,Z,.inr (ar.of jc),Z,Z,_,Z,?_]])
  show G1 (mQ (.str W) [.str "read",.str "call"]) _
  rw[e2]
  exact k2 _ (r0 _ (by rw[e3];exact aq d1 N) λc o _ x=>je N _ _ x)
 have p0:∀(p p':Addr) (W:Str) (r:List V) (i:Int) (x:Str) (y:V) (r':List V),L= .ref p->H1 p=some (.tup (.str W::r))->mQ (.str W) [.str "read",.str "call"]=true->dv= .ref p'->H1 p'=some (.tup (y:: .str x::r'))->(∀R:Hp,ae H1 R->wW R L wh)->(∀(Q':VK) (R:Hp),Q' (.int i) R->oI Q' R wh)->lU e wh k0=aQ k0 (.inr x) (.int i)->g9 (im (dF (Cy K false) (dF (eu K) (aW 4) (tC (.int 0))) (bN (al (tC (.str "read")) (al (tC (.str "call")) aL))))) (p7 (aW 3) (dF (eu K) (dF (eu K) (aW 2) (tC (.int 1))) (tC (.int 1))) (dB fc [] E0 (al (aW 4) aL))) sG { nx:=F1,rt:=Q } [some (.ref a),some (.ref Y),some (.ref ka),some (.ref D),some L,none] H1:=by
  intro p p' W r i x y r' I B e2 e4 X e5 e6 e3
  subst I
  subst e4
  refine tq λG1 k1 k2=>(jq B c7 #[bj,λt N=>#[t,_,Z,.inr (ar.of jc),Z,Z,_,Z,?_]])
  show G1 (mQ (.str W) [.str "read",.str "call"]) _
  rw[e2]
  refine k1 _ #[_,Z,.ref p,wh,Z,e5 _ (je N),e6 _ _ ?_]
  exact#[_,Z,jq (je N _ _ h5) dW #[p',_,_,_,Z,Z,ar.of (je N _ _ X),dW,D,_,Z,.inl #[k0,.inr x,aq d1 N,Z,Lo,Z],r0 _ (by rw[e3];exact jc) λc o nc z=>by rw[jl nc];exact je N _ _ z]]
 cases e with
 |ask t T=>
  cases wh with
  |ask b=>obtain⟨p,I,B⟩:=wk;exact skip p _ _ I B Lq Z
  |_=>exact fk.elim
 |st p' l=>
  obtain⟨vs,X,h6,_⟩:=dk
  have ed:dv= .ref p':=d0.1
  cases l with
  |rd x t T=>
   cases wh with
   |rd b i=>obtain⟨p,I,B⟩:=wk;obtain⟨rfl,_⟩:=h6;exact p0 p p' _ _ i x _ _ I B Lq ed X (λR s'=>#[p,I,s' _ _ B]) (λ_ _ h=>h) Z
   |_=>exact fk.elim
  |wr t u T U=>
   cases wh with
   |wr b i=>obtain⟨p,I,B⟩:=wk;exact skip p _ _ I B Lq Z
   |_=>exact fk.elim
  |cl x f' q' ts=>
   cases wh with
   |cl f2 i1 i=>obtain⟨p,c2,g2,e2,I,B,h2,h3⟩:=wk;obtain⟨rfl,_⟩:=h6;exact p0 p p' _ _ i x _ _ I B Lq ed X (λR s'=>#[p,c2,g2,e2,I,s' _ _ B,s' _ _ h2,s' _ _ h3]) (λ_ _ h=>h) Z
   |_=>exact fk.elim
  |st x t T |gv t T=>cases wh<;>exact fk.elim
noncomputable abbrev gm:Stmt:=bL 21
noncomputable abbrev iz:Stmt:=bL 22
noncomputable def DJ(k:a6):DD->Tr
 | .st _ (.rd _ _ T)=>aK [a7 "read",aI (T.ev k)]
 | .st _ (.wr _ _ T U)=>aK [a7 "write",aI (T.ev k),aI (U.ev k)]
 | .st _ (.cl _ f _ t)=>aK [a7 "call",a7 f,aK (t.map λc=>aI (c.2.ev k))]
 | .ask _ T=>aK [a7 "ask",aI (if T.ev k=0 then 0 else 1)]
 |_=>.nil
noncomputable def di(N:Addr):Sp:=λb H Q _=>∃(v:V) (n:Nat) (a:Addr) (d:Df) (y:List Str) (c:Ct) (I:List Int) (e:DD),b=[v,.int (n:Int),.ref a]/\i' H N d y v/\(bh N d)[n]?=some c/\H a=some (.tup (I.map V.int))/\I.length=(canon c.M).length/\(∀i∈I,d9 i)/\e.dd=c.d/\vQ H y e/\
 ∀(u:V) (h:Hp),aP h (DJ (aw (canon c.M) I) e) u []->ae H h->Q u h
noncomputable def gU:Sp:=λv H Q _=>∃(a d:Addr) (t:List (Addr×Tm)) (y:List Str) (k:a6),v=[.ref a,.ref d]/\H a=some (.tup (t.map λc=>V.ref c.1))/\t.length<=6/\(∀c∈t,a9 H c.2 c.1/\cQ y c.2)/\H d=some (.dK k)/\GT k/\
 ∀(r:Addr) (h:Hp),h r=some (.tup (t.map λc=>V.int (c.2.ev k)))->ae H h->Q (.ref r) h
theorem rQ:am ["terms","numbers"] ["terms","numbers"] (aa gm):=bJ
noncomputable def Yf:Scope:=#[.function,[(".0",.local),("term",.local),("worth",.globalImplicit),("numbers",.free)],false,false,[]]
theorem um:(["term","numbers"]:List Str).Nodup:=by decide+kernel
theorem tS:aZ ["terms","numbers"] (aa gm) Yf ["term","numbers"] 1 [1]:=mO
theorem ZF(F:aN K "worths" "worths" gm f v)(C:Cl P w K mg base 7 U B ["term","held"] (cw K 6) "worth")(M:mg "tuple"=none):ai P w K mg base aD 8 f v ["terms","numbers"] gU:=by
 refine F.ok rQ ?_ λG A o s H R Q E I h=>?_
 ·rintro _ _ _ _ ⟨a,D,t,g,k,rfl,_⟩
  rfl
 obtain⟨a,D,t,g,k,rfl,p,W,b,J,L,q⟩:=h
 refine#[_,(jg (jm (jC jI Z M Ft (ja (@kJ _ _ _ _ _ _ _ (["term","numbers"]) (1) ([1]) _ _ _ _ Z (zb (pv 0)) tS (λ_ _ _ _ _=>(jy (i:=0) um Z (Or.inl Z))) (λ_ _ _ _ _=>(@zi _)) (λ_ _ _ _ _=>(C.e I.m (ja (pv 0) (ja (pv 1) jb)))) (by intro _;rfl)) jb)))),?_]
 have N:=aH
 refine#[_,Z,a,Z,#[_,ar.of p],?_]
 refine zu (K:=K) (xs:=t.map λc=>V.ref c.1) (by rw[Ef];omega) (λi z d=>z=(t.take i).map (λc=>V.int (c.2.ev k))/\d=H) #[Z,Z] (λi z d h=>?_) (λi x z d r h=>?_) (λz d h l O=>?_)
 ·obtain⟨rfl,rfl⟩:=h
  exact#[ar.of p,by rw[Ef,ED];omega]
 ·obtain⟨rfl,rfl⟩:=h
  rw[Eo]at r
  obtain⟨y,u,rfl⟩:=Option.map_eq_some_iff.mp r
  have Y:=EA u
  refine#[_,Z,_,Z,y.1,D,y.2,g,k,Z,.inl (b y Y).1,(b y Y).2.2,(b y Y).2.1,J,L,?_,Z]
  rw[FK,u,EK]
  rfl
 ·obtain⟨rfl,rfl⟩:=h
  rw[Ef,Fc]
  exact#[l,_,Z,.inl #[aF.of jc,λT n=>q T _ jc ((je O).trans (je n))]]
theorem eX:am ["part","n","held","numbers","deed","word"] ["part","n","held"] (aa iz):=bJ
theorem ZG(F:aN K "deed_at" "deed_at" iz f fd)(cH:Cl P w K mg base 2 fH f0 ["part","n","held"] (iT nA) "held_at")(cC:Cl P w K mg base 1 fC f2 ["part","n"] (ig nA) "cut_at")(cW:Cl P w K mg base 7 fW f3 ["term","held"] (cw K 6) "worth")(cS:Cl P w K mg base 8 fS f4 ["terms","numbers"] gU "worths"):ai P w K mg base aD 9 f fd ["part","n","held"] (di nA):=by
 refine F.ok eX ?_ λc0 A o1 s H vs Q E L h=>?_
 ·rintro _ _ _ _ ⟨v,n,hv,d,Y,c,is,e,rfl,_⟩
  rfl
 obtain⟨v,n,hv,d,Y,c,is,e,rfl,hp,hc,hh,hl,h0,h1,h2,q⟩:=h
 refine#[_,(jd (jB 3 eX.nd (cH.e L.m (ja (pv 0) (ja (pv 1) (ja (pv 2) jb))))) (jd (jB 4 eX.nd (js jJ (cC.e L.m (ja (pv 0) (ja (pv 1) jb))) jf (λ_ _=>Z))) (jd (jB 5 eX.nd (jw (pv 4))) (jd (jx (jV (pv 5)) (jg (jm (ji (ja (pv 5) (ja (zD (jE zw (cW.e L.m (ja (jw (pv 4)) (ja (pv 3) jb))) jf (aA _)) jf jf) jb))))) jp) (jd (jx (jV (pv 5)) (jg (jm (ji (ja (pv 5) (ja (jw (pv 4)) (ja (cS.e L.m (ja (jw (pv 4)) (ja (pv 3) jb))) jb)))))) jp) (jd (jx (jV (pv 5)) (jg (jm (ji (ja (pv 5) (ja (cW.e L.m (ja (jw (pv 4)) (ja (pv 3) jb))) jb))))) jp) (jg (jm (jv ki (ji (ja (pv 5) jb)) (cS.e L.m (ja (jO zd (pv 4) (jK jf) j5) (ja (pv 3) jb)))))))))))),?_]
 have b0:=aH
 obtain⟨a,ca,p0,cs,rfl,ha,_,h7,h8⟩:=hp.parts
 refine af λi b=>#[_,Z,_,Z,_,Z,.ref a,n,hv,d,Y,c,is,Z,hp,hc,hh,hl,λC n0=>b _ _ ?_]
 clear b
 have S:ae H (ah H C (.dK (aw (canon c.M) is))):=je n0
 have O:ah H C (.dK (aw (canon c.M) is)) C=some (.dK (aw (canon c.M) is)):=jc
 show dJ _ _ _ _ (ah H C (.dK (aw (canon c.M) is)))
 generalize ah H C (.dK (aw (canon c.M) is))=H1 at S O
 have V:GT (aw (canon c.M) is):=zY h0
 generalize aw (canon c.M) is=k at O V q
 have dk:=h2.mono (ae.tm S)
 refine af λi b=>#[_,Z,_,Z,.ref a,n,d,Y,c,Z,hp.mono (ae.tm S),hc,λka na wa dv w0 cu=>#[ka,_,_,_,Z,Z,ar.of cu.at',dW,b _ _ ?_]]
 clear b
 have D:=cu.deed
 rw[<- h1]at D
 cases e with
 |ask t T=>
  obtain⟨_,p,xs,rfl,g,_,_,y0,z0,rfl,⟨rfl,_⟩,_,_,y1,z1,rfl,⟨rfl,_⟩,e⟩:=D
  have e:z1=[]:=e
  subst e
  refine af λi b=>(jq g c7 (b _ _ ?_))
  clear b
  refine af λi b=>#[_,Z,Z,_,Z,cj Lq #[_,Z,jq g dW #[_,Z,t,C,T,Y,k,Z,.inl dk.1,dk.2.2,dk.2.1,O,V,Z,_,Z,?_]]]
  by_cases z:T.ev k=0
  ·refine cj (by rw[z];decide+kernel) #[bj,λr G=>q _ _ (jA jc (jh Z jG (jh Z #[?_,Z] jz))) (S.trans (je G))]
   rw[Er z]
  ·refine aG (by rw[EH];intro e;injection e with e;exact z e) #[bj,λr G=>q _ _ (jA jc (jh Z jG (jh Z #[?_,Z] jz))) (S.trans (je G))]
   rw[Ew z]
 |st p l=>
  have ed:dv= .ref p:=D.1
  subst ed
  obtain⟨vs,g,I,B,h3⟩:=dk
  cases l with
  |rd x t T=>
   obtain⟨rfl,ht⟩:=I
   refine af λi b=>(jq g c7 (b _ _ ?_))
   clear b
   refine af λi b=>#[_,Z,Z,_,Z,aG Lq (b _ _ ?_)]
   clear b
   refine af λi b=>#[_,Z,Z,_,Z,aG Lq (b _ _ ?_)]
   clear b
   refine af λi b=>#[_,Z,Z,_,Z,cj Lq #[_,Z,_,Z,p,_,_,_,Z,Z,ar.of g,ju (j:=2) Z,_,Z,t,C,T,Y,k,Z,.inl ht,B.2.2,B.2.1,O,V,bj,λr G=>?_]]
   exact q _ _ (jA jc (jh Z jG (jh Z jN jz))) (S.trans (je G))
  |wr t u T U=>
   obtain⟨rfl,ht,hu⟩:=I
   refine af λi b=>(jq g c7 (b _ _ ?_))
   clear b
   refine af λi b=>#[_,Z,Z,_,Z,aG Lq (b _ _ ?_)]
   clear b
   refine af λi b=>#[_,Z,Z,_,Z,aG Lq (b _ _ ?_)]
   clear b
   refine af λi b=>#[_,Z,Z,_,Z,aG Lq (b _ _ ?_)]
   clear b
   refine#[_,Z,mM,λr1 N=>#[_,Z,1,Z,p,_,Z,je N _ _ g,λr2 H2 J R=>#[_,Z,r2,C,[(t,T),(u,U)],Y,k,Z,J,(by show 2<=6;decide),?_,R _ _ (je N _ _ O),V,λr3 H3 h4 s3=>#[r1,r3,_,_,Z,Z,s3 _ _ (R _ _ jc),h4,dY,λr4 H4 h5 s4=>?_]]]]
   ·intro y W
    have X:=(je (o:=.tup [.str "write"]) N).trans R
    simp only[Gr,EL,Hq]at W
    rcases W with rfl |rfl
    ·exact#[ht.same X,B.1]
    ·exact#[hu.same X,B.2]
   ·exact q _ _ (jA h5 (jh Z jG (jh Z jN (jh Z jN jz)))) (S.trans ((je N).trans (R.trans (s3.trans s4))))
  |cl x f' qa ts=>
   obtain⟨rfl,hq,h6⟩:=I
   refine af λi b=>(jq g c7 (b _ _ ?_))
   clear b
   refine af λi b=>#[_,Z,Z,_,Z,aG Lq (b _ _ ?_)]
   clear b
   have l6:ts.length<=6:=B.2.1
   refine af λi b=>#[_,Z,Z,_,Z,cj Lq #[_,Z,_,Z,p,_,_,_,Z,Z,ar.of g,ju (j:=2) Z,_,Z,p,_,_,_,Z,Z,ar.of g,ju (j:=3) Z,_,Z,qa,C,ts,Y,k,Z,hq,l6,λy W=>#[h6 y W,B.2.2 y W],O,V,λr2 H2 J R=>#[dY,λr G=>?_]]]
   refine q _ _ (jA jc (jh Z jG (jh Z jG (jh Z (jA (aq J G) ?_) jz)))) (S.trans (R.trans (je G)))
   have:=qy (H:=ah H2 r (.tup [.str "call",.str f',.ref r2])) (is:=ts.map λc=>c.2.ev k)
   rw[FS,FS]at this
   exact this
  |st x t T |gv t T=>cases h3
noncomputable abbrev iG:Stmt:=bL 13
noncomputable abbrev l7:Stmt:=bL 14
noncomputable abbrev iB:Stmt:=bL 15
noncomputable abbrev rA:Stmt:=bY (bL 16) 0
noncomputable abbrev mh:Stmt:=bY (bL 16) 1
noncomputable abbrev rB:Stmt:=bY (bL 16) 2
noncomputable abbrev iJ:Stmt:=bL 18
noncomputable def wR(H:Hp)(x:V)(g:Str):Prop:=∃p r,x= .ref p/\H p=some (.tup (.str g::r))
noncomputable def lG:Sp:=λb H Q _=>∃(a:Addr) (f:Str) (X:List V) (i:Nat) (v:V),b=[.ref a,.str f]/\H a=some (.tup X)/\X[i]?=some v/\wR H v f/\(∀j x,j < i->X[j]?=some x->∃g,wR H x g/\g≠f)/\Q v H
noncomputable def iQ:Sp:=λd H Q _=>∃(a g:Addr) (f:Str) (X y:List V) (i:Nat) (v:V) (p b:Addr) (r c:List V),d=[.ref a,.str f,.ref g]/\H a=some (.tup X)/\X[i]?=some v/\v= .ref p/\H p=some (.tup (.str f:: .ref b::r))/\H b=some (.tup c)/\H g=some (.tup y)/\y.length=c.length/\(∀j x,j < i->X[j]?=some x->∃g,wR H x g/\g≠f)/\Q v H
noncomputable def gu(c l p:Addr)(m:Int)(t:Nat):List (Str×V):=[("cells",.ref c),("most",.int m),("left",.ref l),("turns",.int (t:Int)),("parts",.ref p)]
structure Rn(H:Hp)(C r dx cA lA pA:Addr)(m:Int)(t:Nat)(L Cs:a6):Prop where
 ins:H r=some (.ins C dx (gu cA lA pA m t))
 lf:H lA=some (.dK L)
 ce:H cA=some (.dK Cs)
 iL:GT L
 iC:GT Cs
 cl:cA≠lA
structure RK(K:Frag)(C:Addr):Prop where
 cl:nK K C
 n1:bu K C "cells"
 n2:bu K C "most"
 n3:bu K C "left"
 n4:bu K C "turns"
 n5:bu K C "parts"
noncomputable def gq(C:Addr):Sp:=λv H Q _=>∃(r d b l p:Addr) (m c:Int) (t:Nat) (L a:a6),v=[.ref r,.int c]/\Rn H C r d b l p m t L a/\Q (.int (look L (.inl c) (look a (.inl c) 0))) H
noncomputable def mK(C:Addr):Sp:=λv H Q _=>∃(r d c:Addr) (m:Int),v=[.ref r,.ref c,.int m]/\H r=some (.ins C d [])/\∀l,H l=none->Q .non (ah (ah H l (.dK [])) r (.ins C d [("cells",.ref c),("most",.int m),("left",.ref l),("turns",.int 0)]))
structure XM(K:Frag)(mg:Str->Option Value)(x:Str)(L:Addr):Prop where
 ex:excIn K L nL "ValueError.__new__"=true
 kp:keepIn K (.ref L)=true
 xc:og K L
 ty:typeIn K (.ref L)=some (.type "type")
 m:mg x=some (.ref L)
noncomputable def NX(o:HO):Prop:=∀a,o≠ .ext a
noncomputable def Kp(H h:Hp):Prop:=∀b o,NX o->H b=some o->h b=some o
theorem Kp.of_same(s:ae H h):Kp H h:=λb o _ e=>s _ _ e
theorem Kp.trans(a:Kp H h)(b:Kp h d):Kp H d:=λc o n e=>b c o n (a c o n e)
noncomputable def mV(E:XK):XK:=λC d H=>∀x T t c,C= .ref c->H x=some (fQ c d T x)->H T=some (eM T)->H t=none->E (.ref c) d (ah (ah H t (eM t)) x (fQ c d t x))
theorem zX{P:Program}{w:World}{K:Frag}{mg:Str->Option Value}{base:Heap}:dj (eI P w) (eN (eI P w) P w K mg base N q s f g A o a H E) (mV E):=
 uR λx C d T t i b c e h=>h x T t C Z b c e
theorem J1{H h:Hp}(e:h b=some o)(n:NX o)(a:h x=some (fQ C d T x))(c:h t=none):ah (ah h t (eM t)) x (fQ C d t x) b=some o:=by
 have N:b≠x:=λz=>by
  rw[z,a]at e
  injection e with e
  exact n _ e.symm
 rw[jl N,jl (jo e c)]
 exact e
noncomputable def Fl(E:XK)(L:Addr)(R:Hp->Prop):Prop:=∀(_:Unit) H,R H->E (.ref L) none H
noncomputable def i5(C L:Addr):Sp:=λv H Q E=>∃(r d c l p:Addr) (m:Int) (t:Nat),v=[.ref r]/\H r=some (.ins C d (gu c l p m t))/\((t:Int) < m->Q .non (ah H r (.ins C d (gu c l p m (t+1)))))/\(m<=(t:Int)->Fl E L (Kp H))
noncomputable def fb(D:Addr):Sp:=λv H Q E=>∃d:Int,v=[.int d]/\(d < 15->Q (.int (d+1)) H)/\(15<=d->Fl E D (Kp H))
theorem Xb{H:Hp}(a:H x=none)(N:ah H x (vU L none x) T=none):ae H (ah (ah (ah H x (vU L none x)) T (eM T)) x (fQ L d T x)):=by
 intro b o e
 have n:b≠x:=jo e a
 rw[jl n,jl (λz=>by rw[<- z,jl n,e]at N;cases N),jl n]
 exact e
theorem lD:am ["ones","f","one"] ["ones","f"] (aa iG):=bJ
theorem ZH(F:aN K "named" "named" iG f D):ai P w K mg base aD 1 f D ["ones","f"] lG:=by
 refine F.ok lD ?_ λG A o s H W Q E X h=>?_
 ·rintro _ _ _ _ ⟨a,f,xs,i,v,rfl,_⟩
  rfl
 obtain⟨a,f,xs,i,v,rfl,t,u,L,d,q⟩:=h
 refine#[_,(jd (kO EZ Z (zb (pv 0)) (jy (i:=2) lD.nd Z (Or.inl Z)) (jg (jx (jE zw (jw (pv 2)) (pv 1) (aA _)) (jg (jm (pv 2))) jp))) (@Z8 _ _)),?_]
 have M:i < xs.length:=(List.getElem?_eq_some_iff.mp u).1
 refine af λY f1=>eO λJ j=>#[_,Z,a,Z,#[_,ar.of t],j _ _ ?_]
 clear j
 refine qu (K:=K) (xs:=xs) (λk c e=>(∃O,c=[some (.ref a),some (.str f),O])/\e=H/\k<=i) #[#[_,Z],Z,Eu _] (λk c e _ h=>by rw[h.2.1];exact ar.of t) ?_ (λc e h=>?_)
 ·intro l R k x c H2 m N I b h
  obtain⟨⟨O,rfl⟩,rfl,y⟩:=h
  refine b ?_
  clear b
  by_cases S:k=i
  ·subst S
   rw[u]at m
   cases m
   obtain⟨p,r,rfl,n⟩:=id L
   show g9 _ _ _ l _ _
   refine tq λT B C=>(jq n c7 #[_,Z,Z,_,Z,?_])
   rw[EN (Z:V.str f=V.str f)]
   refine B _ ?_
   show gV _ l _ _
   unfold gV
   rw[R]
   exact#[_,Z,q]
  ·obtain⟨g,⟨p,r,rfl,n⟩,U⟩:=d k x Lo m
   show g9 _ _ _ l _ _
   refine tq λT B C=>(jq n c7 #[_,Z,Z,_,Z,?_])
   rw[EH (λz=>U (by injection z))]
   exact C _ (N _ _ #[#[_,Z],Z,Lo])
 ·obtain⟨_,_,y⟩:=h
  exact absurd y Lo
theorem rN:am ["parts","f"] ["parts","f"] (aa iJ):=bJ
theorem ZI(F:aN K "part_of" "part_of" iJ f c)(C:Cl P w K mg base 1 r d ["ones","f"] lG "named"):ai P w K mg base aD 2 f c ["parts","f"] lG:=by
 refine F.ok rN ?_ λg A o s H V Q E j h=>?_
 ·rintro _ _ _ _ ⟨a,f,x,i,v,rfl,_⟩
  rfl
 obtain⟨a,f,x,i,v,rfl,l,n,p,b,q⟩:=h
 refine#[_,(jg (jm (C.e j.m (ja (pv 0) (ja (pv 1) jb))))),?_]
 exact#[_,Z,_,Z,a,f,x,i,v,Z,l,n,p,b,q]
theorem nj:am ["ones","f","args","one"] ["ones","f","args"] (aa l7):=bJ
theorem pk(F:aN K "begun" "begun" l7 f j)(C:Cl P w K mg base 1 N l ["ones","f"] lG "named")(M:mg "len"=none):ai P w K mg base aD 2 f j ["ones","f","args"] iQ:=by
 refine F.ok nj ?_ λn A o s H V Q E t h=>?_
 ·rintro _ _ _ _ ⟨a,g,f,x,y,i,v,p,c,r,u,rfl,_⟩
  rfl
 obtain⟨a,g,f,x,y,i,v,p,c,r,u,rfl,z,B,rfl,d,D,G,I,J,q⟩:=h
 refine#[_,(jd (jB 3 nj.nd (C.e t.m (ja (pv 0) (ja (pv 1) jb)))) (jd (jx (jE qS (jF jH Z M Fd (ja (pv 2) jb)) (jF jH Z M Fd (ja (jw (pv 3)) jb)) (aA _)) (@Z8 _ _) jp) (jg (jm (pv 3))))),?_]
 refine af λL b=>#[_,Z,_,Z,a,f,x,i,.ref p,Z,z,B,#[p,_,Z,d],J,b _ _ ?_]
 clear b
 refine af λL b=>#[_,Z,g,_,Z,.inr (ar.of G),jq d dW #[c,_,Z,.inr (ar.of D),Z,_,Z,aG (by rw[I];simp) (b _ _ #[_,Z,q])]]
theorem rH:am ["deep"] ["deep"] (aa iB):=bJ
theorem ZJ(F:aN K "deeper" "deeper" iB f a)(M:mg "DEEPEST"=some (.int 15 t))(X:XM K mg "TooDeep" D):ai P w K mg base (eI P w) 1 f a ["deep"] (fb D):=by
 refine F.ok1 rH ?_ λC A o s H V Q E g h=>?_
 ·rintro _ _ _ _ ⟨d,rfl,_⟩
  rfl
 obtain⟨d,rfl,q,e⟩:=h
 refine#[_,(jd (jx (jE ZN (pv 0) (qV (v:=.int 15) Z M #[t,Z]) (aA _)) (jg (@Q0 _ _ _ _ _ Z Qh (@Qd _ _ _ _ _ X.ex X.kp Z X.m Ln))) jp) (jg (jm (jv jW (pv 0) jf)))),?_]
 refine af λi b=>#[_,Z,_,_,Z,Z,_,Z,?_]
 by_cases c:(15:Int)<=d
 ·refine cj (EN c) λx n=>?_
  exact#[x,D,none,Z,jc,X.xc,X.ty,λT N=>e c () _ (Kp.of_same (Xb n N))]
 ·exact aG (EH c) (b _ _ #[_,Z,_,_,Z,Z,q Lo])
theorem yY:am ["self","cells","most"] ["self","cells","most"] (aa rA):=bJ
theorem uN(F:aN K "__init__" "Turns.__init__" rA f v)(c:RK K C):ai P w K mg base aD 1 f v ["self","cells","most"] (mK C):=by
 refine F.ok yY ?_ λx A o s H V Q E B h=>?_
 ·rintro _ _ _ _ ⟨r,D,y,m,rfl,_⟩
  rfl
 obtain⟨r,D,y,m,rfl,g,q⟩:=h
 refine#[_,(jd (@qK _ _ _ _ _ _ _ _ (pv 0) (pv 1) Z) (jd (@qK _ _ _ _ _ _ _ _ (pv 0) (pv 2) Z) (jd (@qK _ _ _ _ _ _ _ _ (pv 0) QY Z) (jg (@qK _ _ _ _ _ _ _ _ (pv 0) jf Z))))),?_]
 refine af λj a=>#[_,Z,_,Z,r,C,D,_,Z,g,c.cl,c.n1,Ln,a _ _ ?_]
 clear a
 refine af λj a=>#[_,Z,_,Z,r,C,D,_,Z,jc,c.cl,c.n2,(by show 1 < 1000;decide),a _ _ ?_]
 clear a
 refine af λj a=>λl n=>#[_,Z,r,C,D,_,Z,aq jc n,c.cl,c.n3,(by show 2 < 1000;decide),a _ _ ?_]
 clear a
 refine#[_,Z,r,C,D,_,Z,jc,c.cl,c.n4,(by show 3 < 1000;decide),?_]
 have N:l≠r:=λe=>by rw[e,jc]at n;cases n
 have z:H l=none:=by rw[jl N,jl N]at n;exact n
 have e:∀p t u O:HO,ah (ah (ah (ah (ah H r p) r t) l (.dK [])) r u) r O=ah (ah H l (.dK [])) r O:=λp t u O=>by
  funext b
  by_cases d:b=r
  ·rw[d,jc,jc]
  ·rw[jl d,jl d,jl d]
   by_cases i:b=l
   ·rw[i,jc,jc]
   ·rw[jl i,jl d,jl d,jl i]
 rw[e]
 exact q l z
theorem vw:am ["self"] ["self"] (aa mh):=bJ
theorem pI(F:aN K "take_turn" "Turns.take_turn" mh f g)(b:RK K C)(X:XM K mg "TooLong" L):ai P w K mg base (eI P w) 1 f g ["self"] (i5 C L):=by
 refine F.ok1 vw ?_ λi A o s H v Q E y h=>?_
 ·rintro _ _ _ _ ⟨r,d,j,l,p,m,t,rfl,_⟩
  rfl
 obtain⟨r,d,j,l,p,m,t,rfl,a,q,e⟩:=h
 refine#[_,(jd (jx (jE ZN (zA (pv 0) Z) (zA (pv 0) Z) (aA _)) (jg (@Q0 _ _ _ _ _ Z Qh (@Qd _ _ _ _ _ X.ex X.kp Z X.m Ln))) jp) (jg (@Y6 _ _ _ _ _ _ _ _ _ _ (pv 0) jf xE))),?_]
 refine af λz n=>#[_,Z,r,C,d,_,_,Z,a,b.cl,b.n4,Z,_,Z,r,C,d,_,_,Z,a,b.cl,b.n2,Z,_,_,Z,Z,_,Z,?_]
 by_cases c:m<=(t:Int)
 ·refine cj (EN c) λx N=>?_
  exact#[x,L,none,Z,jc,X.xc,X.ty,λT u=>e c () _ (Kp.of_same (Xb N u))]
 ·exact aG (EH c) (n _ _ #[_,Z,r,C,d,_,_,Z,a,b.cl,b.n4,Z,_,_,Z,Z,d,_,a,(by show 5 < 1000;decide),q Lo])
theorem yZ:am ["self","cell"] ["self","cell"] (aa rB):=bJ
theorem uO(F:aN K "number_in" "Turns.number_in" rB f p)(b:RK K C):ai P w K mg base aD 1 f p ["self","cell"] (gq C):=by
 refine F.ok yZ ?_ λu A o s H V Q E g h=>?_
 ·rintro _ _ _ _ ⟨r,d,i,l,x,m,c,t,L,j,rfl,_⟩
  rfl
 obtain⟨r,d,i,l,x,m,c,t,L,j,rfl,a,q⟩:=h
 refine#[_,(jg (jm (zD (ZU (@yv _ _ _ _ _ (kB g) (pv 1) (zA (pv 0) Z))) (uT (kB g) (zA (pv 0) Z) (pv 1) (λ_ _=>Z)) (@zR _ _ _ _ _ _ _ _ _ (kB g) (zA (pv 0) Z) (pv 1) jf #[Ls,Ls,Ls,Ls])))),?_]
 refine#[_,Z,_,Z,r,C,d,_,_,Z,a.ins,b.cl,b.n3,Z,l,_,Z,dN.k (k:=.inl c) a.lf,_,Z,?_]
 cases e:bQ L (.inl c) with
 |some v=>
  refine cj Z #[_,Z,r,C,d,_,_,Z,a.ins,b.cl,b.n3,Z,_,Z,l,v,Z,by rw[<- e];exact dN.k (k:=.inl c) a.lf,?_]
  rw[ZB a.iL e (look j (.inl c) 0)]
  exact q
 |none=>
  refine aG Z #[_,Z,r,C,d,_,_,Z,a.ins,b.cl,b.n1,Z,i,Z,.inl #[_,.inl a.ce],_,Z,_,dN.k (k:=.inl c) a.ce,?_]
  rw[zU a.iC]
  rw[Qq e]at q
  exact q
noncomputable abbrev pY:Stmt:=bY (bL 28) 0
noncomputable abbrev u7:Stmt:=bY (bL 28) 1
noncomputable abbrev ve:Stmt:=bY (bL 28) 2
noncomputable abbrev yS:Stmt:=bL 29
inductive Sk where
 |nil |st (n:Int) (hs:List Int) (w r:Sk) |ask (b:Int) |rd (c i:Int) |wr (c i:Int) |cl (f:Str) (is:List Int) (s:Sk) (a:Int)
noncomputable def Sk.dep:Sk->Nat
 | .st _ _ w r=>max w.dep r.dep
 | .cl _ _ s _=>s.dep+1
 |_=>0
noncomputable def Sk.size:Sk->Nat
 | .st _ _ w r=>w.size+r.size+1
 | .cl _ _ s _=>s.size
 |_=>0
noncomputable def Sk.ok:Bool->Sk->Prop
 |true,.nil=>True
 |true,.st _ _ w r=>w.ok false/\r.ok true
 |false,.cl _ _ s _=>s.ok true
 |false,.ask _=>True
 |false,.rd _ _=>True
 |false,.wr _ _=>True
 |_,_=>False
noncomputable def hG(H:Hp):Sk->V->List V->Prop
 | .nil,_,x=>x=[]
 | .st n d w r,_,x=>∃p h u y,x= .ref p::y/\H p=some (.tup [.int n,.ref h,u])/\H h=some (.tup (d.map V.int))/\hG H w u []/\hG H r .non y
 | .ask b,u,_=>∃p,u= .ref p/\H p=some (.tup [.str "ask",.int b])
 | .rd c i,u,_=>∃p,u= .ref p/\H p=some (.tup [.str "read",.int c,.int i])
 | .wr c i,u,_=>∃p,u= .ref p/\H p=some (.tup [.str "write",.int c,.int i])
 | .cl f I s a,u,_=>∃p c g e S,u= .ref p/\H p=some (.tup [.str "call",.ref c])/\H c=some (.tup [.str f,.ref g,.ref e,.int a])/\H g=some (.tup (I.map V.int))/\H e=some (.tup S)/\hG H s .non S
theorem hG.mono(k:aj H i):∀{s:Sk} {u:V} {x:List V},hG H s u x->hG i s u x
 | .nil,_,_,h=>h
 | .st _ _ _ _,_,_,z=>by obtain⟨p,h,u,y,e,a,b,d,f⟩:=z;exact #[p,h,u,y,e,k _ _ a,k _ _ b,hG.mono k d,hG.mono k f]
 | .ask _,_,_,z=>by obtain⟨p,e,h⟩:=z;exact #[p,e,k _ _ h]
 | .rd _ _,_,_,z=>by obtain⟨p,e,h⟩:=z;exact #[p,e,k _ _ h]
 | .wr _ _,_,_,z=>by obtain⟨p,e,h⟩:=z;exact #[p,e,k _ _ h]
 | .cl _ _ _ _,_,_,z=>by obtain⟨p,c,g,e,S,E,a,b,d,f,j⟩:=z;exact #[p,c,g,e,S,E,k _ _ a,k _ _ b,k _ _ d,k _ _ f,hG.mono k j]
noncomputable def Sk.put(n:Int)(h:List Int)(W:Sk):Sk->Sk
 | .st a b c r=>.st a b c (Sk.put n h W r)
 |_=>.st n h W .nil
theorem wD{H:Hp}{n:Int}{a:List Int}{w:Sk}{p h:Addr}{u:V}(b:H p=some (.tup [.int n,.ref h,u]))(c:H h=some (.tup (a.map V.int)))(d:hG H w u []):∀{s:Sk} {x:List V},s.ok true->hG H s .non x->hG H (Sk.put n a w s) .non (x++[.ref p])
 | .nil,_,_,e=>by have e:_=[]:=e;rw[e];exact#[p,h,u,[],Z,b,c,d,Z]
 | .st _ _ _ r,_,o,z=>by obtain⟨f,g,U,y,e,i,j,k,l⟩:=z;rw[e];exact#[f,g,U,y++[.ref p],Z,i,j,k,wD b c d o.2 l]
theorem YQ{w:Sk}(h:w.ok false):∀{s:Sk},s.ok true->(Sk.put n H w s).ok true
 | .nil,_=>#[h,EE]
 | .st _ _ _ _,o=>#[o.1,YQ h o.2]
theorem Xc{n:Int}{hs:List Int}{w:Sk}:∀{s:Sk},s.ok true->(Sk.put n hs w s).size=s.size+(w.size+1)
 | .nil,_=>by show w.size+0+1=0+(w.size+1);omega
 | .st _ _ c r,o=>by have:=Xc (n:=n) (hs:=hs) (w:=w) (s:=r) o.2;show c.size+(Sk.put n hs w r).size+1=c.size+r.size+1+(w.size+1);omega
theorem YR{n:Int}{hs:List Int}{w:Sk}{j:Nat}(H:w.dep<=j):∀{s:Sk},s.ok true->s.dep<=j->(Sk.put n hs w s).dep<=j
 | .nil,_,_=>by show max w.dep 0<=j;omega
 | .st _ _ c r,o,h=>by have h:max c.dep r.dep<=j:=h;have:=YR (n:=n) (hs:=hs) H (s:=r) o.2 Lo;show max c.dep (Sk.put n hs w r).dep<=j;omega
theorem rZ:∀{s:Sk} {x:List V},s.ok true->hG H s .non x->x.length<=s.size
 | .nil,_,_,e=>by have e:_=[]:=e;rw[e];exact Eh 0
 | .st _ _ w r,_,o,z=>by obtain⟨_,_,_,y,e,_,_,_,h⟩:=z;have:=rZ o.2 h;rw[e];show y.length+1<=w.size+r.size+1;omega
noncomputable def tF(H:Hp)(f:Str)(i:List Int)(s:Sk)(a:Int)(u:V):Prop:=∃c g e S,u= .ref c/\H c=some (.tup [.str f,.ref g,.ref e,.int a])/\H g=some (.tup (i.map V.int))/\H e=some (.tup S)/\hG H s .non S
noncomputable def Sk.wh:Sk->Wh
 | .ask b=>.ask b
 | .rd c i=>.rd c i
 | .wr c i=>.wr c i
 | .cl f I _ a=>.cl f I a
 |_=>.ask 0
theorem B0{s:Sk}(o:s.ok false)(h:hG H s u []):wW H u s.wh:=by
 cases s with
 |nil |st=>exact o.elim
 |ask b |rd c i |wr c i=>exact h
 |cl f I s a=>obtain⟨p,c,g,e,S,E,d,j,k,_⟩:=h;exact#[p,c,g,.ref e,E,d,j,k]
inductive Gd where
 |give (a:Int) |go (n:Nat) (hs:List Int)
noncomputable def gf(N:Nat->List Str)(k:a6):Gl->Gd
 | .give _ T=>.give (T.ev k)
 | .nought=>.give 0
 | .go n=>.go n ((N n).map λx=>look k (.inr x) 0)
noncomputable def DU:Gd->Tr
 | .give a=>aK [a7 "give",aI a]
 | .go n h=>aK [a7 "go",aI (n:Int),aK (h.map aI)]
structure Aq where
 nm:List Str
 e:DD
 ws:List WD
structure fg where
 f:Str
 ps:List Str
 way:WD
 cs:List Aq
structure Ar(H:Hp)(ys:List Str)(nA:Addr)(d:Df)(c:Ct)(cd:Aq):Prop where
 nm:cd.nm=canon c.M
 ed:cd.e.dd=c.d
 dv:vQ H ys cd.e
 cs:cd.e.Cs d.b.calls
 len:cd.ws.length=c.ws.length
 ws:∀(j:Nat) (w:Wy) (wd:WD),c.ws[j]?=some w->cd.ws[j]?=some wd->wd.wy nA=w/\oe H ys d.b.cuts d.b.size wd
structure tM(H:Hp)(nA:Addr)(d:Df)(ys:List Str)(pd:fg):Prop where
 f:pd.f=d.f
 ps:H d.pa=some (.tup (pd.ps.map V.str))
 wy:pd.way.wy nA=(fV nA d).1.w
 wv:oe H ys d.b.cuts d.b.size pd.way
 len:pd.cs.length=(bh nA d).length
 cs:∀(n:Nat) (c:Ct) (cd:Aq),(bh nA d)[n]?=some c->pd.cs[n]?=some cd->Ar H ys nA d c cd
theorem Ar.mono(k:aj H f)(h:Ar H y n d c C):Ar f y n d c C:=#[h.nm,h.ed,h.dv.mono k,h.cs,h.len,λj w W a b=>let #[e,v]:=h.ws j w W a b;#[e,v.mono k]]
theorem tM.mono(k:aj H e)(h:tM H N d y p):tM e N d y p:=#[h.f,k _ _ h.ps,h.wy,h.wv.mono k,h.len,λn c C a b=>(h.cs n c C a b).mono k]
theorem tO{c d:Type}{R:c->d->Prop}:∀(l:List c),(∀a∈l,∃b,R a b)->∃m:List d,m.length=l.length/\∀(i:Nat) (a:c) (b:d),l[i]?=some a->m[i]?=some b->R a b
 | [],_=>#[[],Z,λi a b h=>by simp at h]
 |a::l,h=>by
  obtain⟨b,g⟩:=h a Ez
  obtain⟨m,e,j⟩:=tO l λx k=>h x (EB _ k)
  refine#[b::m,by rw[EM,EM,e],λi x y H f=>?_]
  cases i with
  |zero=>cases H;cases f;exact g
  |succ i=>exact j i x y (by simpa using H) (by simpa using f)
noncomputable def nQ(p:fg)(n:Nat):List Str:=match p.cs[n]? with
 |some c=>c.nm
 |none=>[]
theorem tM.nms(h:tM H N d y p):dh N d=nQ p:=by
 funext n
 unfold dh nQ
 by_cases a:n < p.cs.length
 ·have b:n < (bh N d).length:=by rw[<- h.len];exact a
  rw[Ed a,Ed b]
  exact(h.cs n _ _ (Ed b) (Ed a)).nm.symm
 ·rw[Fp (HK a),Fp (by rw[<- h.len];exact HK a)]
inductive OW where
 |ok (w:Sk) (L:a6) (t:Nat) |long |deep
inductive OC where
 |ok (s:Sk) (a:Int) (L:a6) (t:Nat) |long |deep
noncomputable def OC.cons(n:Int)(h:List Int)(w:Sk):OC->OC
 | .ok s a L t=>.ok (.st n h w s) a L t
 | .long=>.long
 | .deep=>.deep
noncomputable def Sk.app:Sk->Sk->Sk
 | .st n h w r,s=>.st n h w (r.app s)
 |_,s=>s
noncomputable def OC.pre(S:Sk):OC->OC
 | .ok s a L t=>.ok (S.app s) a L t
 | .long=>.long
 | .deep=>.deep
theorem Xd:∀{s:Sk},s.ok true->s.app .nil=s
 | .nil,_=>rfl
 | .st n h w r,o=>by show Sk.st n h w (r.app .nil)=_;rw[Xd o.2]
theorem YS{w:Sk}:∀{s:Sk},s.ok true->(Sk.put n h w s).app q=s.app (.st n h w q)
 | .nil,_=>rfl
 | .st a b c r,o=>by show Sk.st a b c ((Sk.put n h w r).app q)=Sk.st a b c (r.app (.st n h w q));rw[YS o.2]
theorem pR{w s:Sk}(o:OC)(h:s.ok true):(o.cons n H w).pre s=o.pre (Sk.put n H w s):=by
 cases o with
 |ok q a L t=>show OC.ok (s.app (.st n H w q)) a L t= .ok ((Sk.put n H w s).app q) a L t;rw[YS h]
 |long |deep=>rfl
noncomputable abbrev nJ:=Str->List Int->a6->Nat->OC
noncomputable def OC.cl(f:Str)(i:List Int):OC->OW
 | .ok s a L t=>.ok (.cl f i s a) L t
 | .long=>.long
 | .deep=>.deep
noncomputable def gY(call:nJ)(C:a6)(k L:a6)(t:Nat)(e:DD):OW:=if t < 60 then match e with
 | .ask _ T=>.ok (.ask (if T.ev k=0 then 0 else 1)) L (t+1)
 | .st _ (.rd _ _ T)=>.ok (.rd (T.ev k) (look L (.inl (T.ev k)) (look C (.inl (T.ev k)) 0))) L (t+1)
 | .st _ (.wr _ _ T U)=>.ok (.wr (T.ev k) (U.ev k)) (aQ L (.inl (T.ev k)) (.int (U.ev k))) (t+1)
 | .st _ (.cl _ f _ a)=>(call f (a.map λc=>c.2.ev k) L (t+1)).cl f (a.map λc=>c.2.ev k)
 |_=>.long
 else .long
theorem YT{call:nJ}(h:¬t < 60):gY call C k L t e= .long:=by unfold gY;rw[Ew h]
theorem oF{call:nJ}(h:t < 60):gY call C k L t (.ask p T)= .ok (.ask (if T.ev k=0 then 0 else 1)) L (t+1):=by unfold gY;rw[Er h]
theorem vZ{call:nJ}(h:t < 60):gY call C k L t (.st p (.rd x a T))= .ok (.rd (T.ev k) (look L (.inl (T.ev k)) (look C (.inl (T.ev k)) 0))) L (t+1):=by unfold gY;rw[Er h]
theorem v0{call:nJ}(h:t < 60):gY call C k L t (.st p (.wr a b T U))= .ok (.wr (T.ev k) (U.ev k)) (aQ L (.inl (T.ev k)) (.int (U.ev k))) (t+1):=by unfold gY;rw[Er h]
theorem QT{call:nJ}(h:t < 60):gY call C k L t (.st p (.cl x f q T))=(call f (T.map λc=>c.2.ev k) L (t+1)).cl f (T.map λc=>c.2.ev k):=by unfold gY;rw[Er h]
noncomputable def wB(p:fg)(c:Aq)(h:List Int)(w:Wh):Gd:=match c.ws[w.side]? with
 |some W=>gf (nQ p) (bM W.sets (lU c.e w (aw c.nm h))) W.goal
 |none=>.give 0
noncomputable def j'(call:nJ)(C:a6)(p:fg):Nat->Gd->a6->Nat->OC
 |0,_,_,_=>.long
 |_+1,.give a,L,t=>.ok .nil a L t
 |m+1,.go n h,L,t=>match p.cs[n]? with
  |none=>.long
  |some c=>match gY call C (aw c.nm h) L t c.e with
   | .ok w l T=>(j' call C p m (wB p c h w.wh) l T).cons (n:Int) h w
   | .long=>.long
   | .deep=>.deep
noncomputable def gg:List fg->Str->Option fg
 | [],_=>none
 |p::r,f=>if p.f=f then some p else gg r f
theorem YU:∀{b:List fg} {i:Nat} {a:fg},b[i]?=some a->(∀(j:Nat) (p:fg),j < i->b[j]?=some p->p.f≠a.f)->gg b a.f=some a
 | [],i,a,h,_=>by simp at h
 |p::r,0,a,h,_=>by cases h;show(if p.f=p.f then some p else _)=_;rw[Er Z]
 |p::r,i+1,a,h,k=>by
  show(if p.f=a.f then some p else gg r a.f)=_
  rw[Ew (k 0 p (Nat.succ_pos _) Z)]
  exact YU (i:=i) (by simpa using h) λj q H c=>k (j+1) q (Nat.succ_lt_succ H) (by simpa using c)
noncomputable def bG(p:List fg)(C:a6):Nat->nJ
 |0=>λ_ _ _ _=>.deep
 |j+1=>λf i L t=>match gg p f with
  |none=>.long
  |some a=>j' (bG p C j) C a 62 (gf (nQ a) (bM a.way.sets (aw a.ps i)) a.way.goal) L t
structure Ps(H:Hp)(nA pA:Addr)(ds:List Df)(ns:List Nat)(xs:List V)(pds:List fg):Prop where
 at':H pA=some (.tup xs)
 tr:aP H (aE (ds.map (eh nA))) .non xs
 dv:∃zs,cf H ds zs
 ok:nY ds ns
 pa:lg H ds ns
 dl:pds.length=ds.length
 pr:∀(i:Nat) (d:Df) (pd:fg),ds[i]?=some d->pds[i]?=some pd->∃ys,(d.b.Ok ys/\ys.length<=20)/\tM H nA d ys pd
theorem Ps.mono(h:Ps H n c D N x p)(k:aj H e):Ps e n c D N x p:=#[k _ _ h.at',h.tr.mono k,let #[f,z]:=h.dv;#[f,z.mono k],h.ok,h.pa.mono k,h.dl,λi d g a b=>let #[Y,y,r]:=h.pr i d g a b;#[Y,y,r.mono k]]
theorem YV(h:aP H (eh n d) v []):wR H v d.f:=by
 obtain⟨_,a,x,rfl,b,_,_,Y,y,rfl,⟨rfl,_⟩,_⟩:=h
 exact#[a,_,Z,b]
theorem ZS:∀{D:List Df} {z:List V},cf H D z->∀{i:Nat} {d:Df},D[i]?=some d->∃B,dt H d.b B
 |_::_,_,q,0,d,a=>by obtain⟨u,r,e,⟨B,_,_,_,h⟩,c⟩:=q;cases a;exact#[B,h]
 |_::_,_,#[u,r,e,_,c],i+1,d,a=>ZS c (by simpa using a)
section
variable {H:Hp}{nA pA:Addr}{ds:List Df}{ns:List Nat}{xs:List V}{pds:List fg}
theorem Ps.part(h:Ps H nA pA ds ns xs pds){i:Nat}{d:Df}{v:V}(b:ds[i]?=some d)(q:xs[i]?=some v):∃y c,i' H nA d y v/\pds[i]?=some c/\tM H nA d y c/\gg pds d.f=some c:=by
 obtain⟨T,n,t⟩:=qr h.tr i v q
 rw[Eo,b]at n
 cases n
 obtain⟨z,r⟩:=h.dv
 obtain⟨_,_,s⟩:=(h.ok.1 d (EA b)).1
 have u:i < ds.length:=(List.getElem?_eq_some_iff.mp b).1
 have g:pds[i]?=some (pds[i]'(by rw[h.dl];exact u)):=Ed _
 obtain⟨y,⟨O,Y⟩,k⟩:=h.pr i d _ b g
 refine#[y,_,#[t,ZS r b,O,Y,s],g,k,?_]
 rw[<- k.f]
 refine YU g λj p A l e=>?_
 have a:j < ds.length:=by omega
 obtain⟨_,_,m⟩:=h.pr j _ p (Ed a) l
 rw[m.f,k.f]at e
 have x:(ds.map Df.f)[j]?=some (ds[j]).f:=by rw[Eo,Ed a];rfl
 have o:(ds.map Df.f)[i]?=some d.f:=by rw[Eo,b];rfl
 rw[<- e]at o
 have:=(IF (by rw[Ef];exact a) h.ok.2.1).mp (x.trans o.symm)
 omega
theorem Ps.cs(h:Ps H nA pA ds ns xs pds){i:Nat}{d:Df}(a:ds[i]?=some d):∀f∈d.b.calls,f∈(ds.map Df.f).zip ns:=zH (h.ok.1 d (EA a)).2
theorem Ps.at(h:Ps H nA pA ds ns xs pds){i:Nat}{d:Df}(b:ds[i]?=some d):∃v,xs[i]?=some v/\aP H (eh nA d) v []/\wR H v d.f/\∀j x,j < i->xs[j]?=some x->∃g,wR H x g/\g≠d.f:=by
 have L:=kL h.tr
 rw[Ef]at L
 have r:i < ds.length:=(List.getElem?_eq_some_iff.mp b).1
 have t:∀(j:Nat) (x:V),xs[j]?=some x->∃c,ds[j]?=some c/\aP H (eh nA c) x []:=λj x k=>by
  obtain⟨s,m,t⟩:=qr h.tr j x k
  rw[Eo]at m
  obtain⟨c,a,rfl⟩:=Option.map_eq_some_iff.mp m
  exact#[c,a,t]
 have n:xs[i]?=some (xs[i]'Lo):=Ed Lo
 obtain⟨c,a,T⟩:=t _ _ n
 rw[b]at a
 cases a
 refine#[_,n,T,YV T,λj x u k=>?_]
 obtain⟨c,a,q⟩:=t j x k
 refine#[c.f,YV q,λe=>?_]
 have o:(ds.map Df.f)[j]?=some c.f:=by rw[Eo,a];rfl
 have p:(ds.map Df.f)[i]?=some d.f:=by rw[Eo,b];rfl
 rw[<- e]at p
 have l:j < (ds.map Df.f).length:=(List.getElem?_eq_some_iff.mp o).1
 have:=(IF l h.ok.2.1).mp (o.trans p.symm)
 omega
theorem Ps.find(h:Ps H nA pA ds ns xs pds)(a:(f,n)∈(ds.map Df.f).zip ns):∃(i:Nat) (d:Df),ds[i]?=some d/\ns[i]?=some n/\d.f=f:=by
 obtain⟨i,b,e⟩:=List.mem_iff_getElem.mp a
 have E:((ds.map Df.f).zip ns)[i]?=some (f,n):=by rw[<- e];exact Ed b
 rw[J']at E
 rw[Eo]at E
 obtain⟨d,c,g⟩:=Option.map_eq_some_iff.mp E.1
 exact#[i,d,c,E.2,g]
end
theorem Rn.tm(h:Rn H C r d c l p m t L f)(k:aU r l H a):aj H a:=λb x e=>k b _ (jQ e h.ins (by intro z;cases z)) (jQ e h.lf (by intro z;cases z)) e
theorem Rn.same(h:Rn H C r d c l p m t L a)(s:ae H b):Rn b C r d c l p m t L a:=#[s _ _ h.ins,s _ _ h.lf,s _ _ h.ce,h.iL,h.iC,h.cl]
theorem Rn.rl(h:Rn H C r d c l p m t L a):r≠l/\r≠c:=#[jQ h.ins h.lf (by intro z;cases z),jQ h.ins h.ce (by intro z;cases z)]
noncomputable def Ak(r l:Addr)(H h:Hp):Prop:=∀b o,b≠r->b≠l->NX o->H b=some o->h b=some o
theorem Fl.next(h:Fl E L (Ak r l H)):Fl (mV E) L (Ak r l H):=λd i k x T t c e a j f=>by
 cases e
 exact h d _ λb o N g n e=>J1 (H:=H) (k b o N g n e) n a f
theorem Fl.nextK(h:Fl E L (Kp H)):Fl (mV E) L (Kp H):=λd g k x T t c e a i f=>by
 cases e
 exact h d _ λb o n e=>J1 (H:=H) (k b o n e) n a f
theorem Fl.mono{R S:Hp->Prop}(h:Fl E L R)(k:∀H,S H->R H):Fl E L S:=λd H s=>h d H (k H s)
noncomputable def mI(C:Addr):Sp:=λv H Q _=>∃(r d p c:Addr) (m:Int),v=[.ref r,.ref p,.ref c,.int m]/\H r=some (.ins C d [])/\∀l,H l=none->Q .non (ah (ah H l (.dK [])) r (.ins C d (gu c l p m 0)))
noncomputable def lT(A B:Prop)(E:XK)(T t:Addr)(R:Hp->Prop):Prop:=(A->Fl E T R)/\(B->Fl E t R)
theorem lT.mono{R S:Hp->Prop}(h:lT A B E T t R)(k:∀H,S H->R H):lT A B E T t S:=#[λa=>(h.1 a).mono k,λb=>(h.2 b).mono k]
theorem lT.next(h:lT A B E T t (Ak r l H)):lT A B (mV E) T t (Ak r l H):=#[λa=>(h.1 a).next,λb=>(h.2 b).next]
theorem lT.imp{R:Hp->Prop}(h:lT A B E T t R)(a:c->A)(b:d->B):lT c d E T t R:=#[λx=>h.1 (a x),λx=>h.2 (b x)]
noncomputable def dX(C T o N:Addr)(j:Nat):Sp:=λq H Q E=>∃(r g k l b A:Addr) (D t i:Nat) (L c:a6) (v:V) (d:Df) (m:List Df) (n:List Nat) (x:List V) (p:List fg) (I:List Int),q=[.ref r,v,.ref A,.int (D:Int)]/\D+j=16/\1<=j/\Rn H C r g k l b 60 t L c/\L.length<=t/\t<=60/\Ps H N b m n x p/\m[i]?=some d/\n[i]?=some I.length/\x[i]?=some v/\H A=some (.tup (I.map V.int))/\(∀z∈I,d9 z)/\
 (∀(u:V) (s:Sk) (a:Int) (e:a6) (h:Hp),bG p c j d.f I L t= .ok s a e (t+s.size)->tF h d.f I s a u->s.ok true->s.dep+1<=j->d9 a->Rn h C r g k l b 60 (t+s.size) e c->e.length<=t+s.size->t+s.size<=60->aU r l H h->Q u h)/\lT (bG p c j d.f I L t= .long) (bG p c j d.f I L t= .deep) E T o (Ak r l H)
noncomputable def sr(C T m N:Addr)(j:Nat):Sp:=λo H Q E=>∃(r D g l a:Addr) (d t:Nat) (L c k:a6) (u:V) (e:DD) (y:List Str) (i:List Df) (n:List Nat) (x:List V) (p:List fg),o=[.ref r,u,.int (d:Int)]/\d+j=15/\Rn H C r D g l a 60 t L c/\L.length<=t/\t<=60/\Ps H N a i n x p/\aP H (DJ k e) u []/\vQ H y e/\GT k/\e.Cs ((i.map Df.f).zip n)/\
 (∀(w:Sk) (v:V) (b:a6) (h:Hp),gY (bG p c j) c k L t e= .ok w b (t+1+w.size)->hG h w v []->w.ok false->At e w.wh->w.dep<=j->Rn h C r D g l a 60 (t+1+w.size) b c->b.length<=t+1+w.size->t+1+w.size<=60->aU r l H h->Q v h)/\lT (gY (bG p c j) c k L t e= .long) (gY (bG p c j) c k L t e= .deep) E T m (Ak r l H)
theorem yX:am ["self","parts","cells","most"] ["self","parts","cells","most"] (aa pY):=bJ
theorem uI(F:aN K "__init__" "BookRun.__init__" pY f t)(j:RK K C)(GT:ai P w K mg base aD 1 u c ["self","cells","most"] (mK C))(B:aC K c ["self","cells","most"] [])(M:mg "Turns"=some (.ref T))(v:wQ K T "__init__" u):ai P w K mg base aD 2 f t ["self","parts","cells","most"] (mI C):=by
 refine F.ok yX ?_ λx A o s H V Q E y h=>?_
 ·rintro _ _ _ _ ⟨r,d,z,k,m,rfl,_⟩
  rfl
 obtain⟨r,d,z,k,m,rfl,g,q⟩:=h
 refine#[_,(jd (jX (@uS _ _ _ _ _ _ _ _ _ _ _ _ _ _ _ _ _ _ _ _ Z M v GT y.m B .nil bq (ja (pv 0) (ja (pv 2) (ja (pv 3) jb))) Ln Ls Ls Ls)) (jg (@qK _ _ _ _ _ _ _ _ (pv 0) (pv 1) Z))),?_]
 refine af λD n=>#[_,Z,_,Z,_,Z,r,d,k,m,Z,g,λL N=>n _ _ ?_]
 clear n
 refine#[_,Z,_,Z,r,C,d,_,Z,jc,j.cl,j.n5,(by show 4 < 1000;decide),?_]
 have e:∀(i:Hp) (p O:HO),ah (ah i r p) r O=ah i r O:=λi p O=>by
  funext b
  by_cases a:b=r
  ·rw[a,jc,jc]
  ·rw[jl a,jl a,jl a]
 rw[e]
 exact q L N
theorem Jd(h:aP H (aK t) u []):∃a x,u= .ref a/\H a=some (.tup x)/\aP H (aE t) .non x:=let #[_,a,x,e,b,c]:=h;#[a,x,e,b,c]
theorem zq(h:aP H (aE (t::T)) .non x):∃y Y,x=y::Y/\aP H t y []/\aP H (aE T) .non Y:=let #[_,_,y,Y,e,a,b]:=h;#[y,Y,e,a,b]
theorem QG(h:aP H (a7 x) y []):y= .str x:=h.1
theorem Je(h:aP H (aI n) y []):y= .int n:=h.1
theorem Jj:∀{I:List Int} {v:List V},aP H (aE (I.map aI)) .non v->v=I.map V.int
 | [],v,h=>h
 |i::I,v,h=>by obtain⟨y,Y,rfl,a,b⟩:=zq h;rw[Je a,Jj b];rfl
theorem J2{H:Hp}{w:Str}{t:List Tr}{u:V}(h:aP H (aK (a7 w::t)) u []):∃a x,u= .ref a/\H a=some (.tup (.str w::x))/\aP H (aE t) .non x:=by
 obtain⟨a,x,rfl,b,h⟩:=Jd h
 obtain⟨y,Y,rfl,c,d⟩:=zq h
 rw[QG c]at b
 exact#[a,Y,Z,b,d]
theorem Jx{H:Hp}{w:Str}{i:Int}{u:V}(h:aP H (aK [a7 w,aI i]) u []):∃a,u= .ref a/\H a=some (.tup [.str w,.int i]):=by
 obtain⟨a,x,rfl,b,h⟩:=J2 h
 obtain⟨y,Y,rfl,c,d⟩:=zq h
 have e:Y=[]:=d
 rw[Je c,e]at b
 exact#[a,Z,b]
theorem XC{H:Hp}{w:Str}{i:Int}{t:Tr}{u:V}(h:aP H (aK [a7 w,aI i,t]) u []):∃a y,u= .ref a/\H a=some (.tup [.str w,.int i,y])/\aP H t y []:=by
 obtain⟨a,x,rfl,b,h⟩:=J2 h
 obtain⟨y,Y,rfl,c,d⟩:=zq h
 obtain⟨z,f,rfl,g,j⟩:=zq d
 have e:f=[]:=j
 rw[Je c,e]at b
 exact#[a,z,Z,b,g]
theorem Bw:am ["self","deed","deep"] ["self","deed","deep"] (aa ve):=bJ
theorem ya(F:aN K "what_of" "BookRun.what_of" ve f fd)(ck:RK K C)(GT:ai P w K mg base (eI P w) 1 fT f0 ["self"] (i5 C TL))(bT:aC K f0 ["self"] [])(m0:bV K C "take_turn" fT)(GI:ai P w K mg base aD 1 fI f2 ["self","cell"] (gq C))(bI:aC K f2 ["self","cell"] [])(m1:bV K C "number_in" fI)(GD:ai P w K mg base (eI P w) 1 fD f3 ["deep"] (fb TD))(bD:aC K f3 ["deep"] [])(kD:keepIn K (.ref fD)=true)(mD:mg "deeper"=some (.ref fD))(cP:Cl P w K mg base 2 fP f6 ["parts","f"] lG "part_of")(GC:ai P w K mg base (eI P w) (2*j+12) fC f4 ["self","part","args","deep"] (dX C TL TD nA j))(bC:aC K f4 ["self","part","args","deep"] [])(m2:bV K C "chain_of" fC):ai P w K mg base (eI P w) (2*j+13) f fd ["self","deed","deep"] (sr C TL TD nA j):=by
 refine F.ok1 Bw ?_ λc5 A o2 s H vs Q E hr h=>?_
 ·rintro _ _ _ _ ⟨r,D,W,I,O,M,t,L,Cs,k,u,e,ys,ds,ns,X,p1,rfl,_⟩
  rfl
 obtain⟨r,D,W,I,O,M,t,L,Cs,k,u,e,ys,ds,ns,X,p1,rfl,h4,J,h5,ht,hP,B,h0,hk,h1,q,t0⟩:=h
 refine#[_,(jd (jX (pN (pv 0) ck.cl m0 GT hr.m bT .nil zX)) (jd (jx (jV (jw (pv 1))) (jg (jm (ji (ja jk (ja (jw (pv 1)) (ja (kY (pv 0) ck.cl m1 GI hr.m bI .nil bq (ja (jw (pv 1)) jb)) jb)))))) jp) (jd (jx (jV (jw (pv 1))) (jg (jm (ji (ja jk (ja (kY (pv 0) ck.cl m2 GC hr.m bC .nil zX (ja (cP.e hr.m (ja (zA (pv 0) Z) (ja (jw (pv 1)) jb))) (ja (jw (pv 1)) (ja (kH GD hr.m Z mD kD bD .nil zX (ja (pv 2) jb)) jb)))) jb))))) jp) (jd (jx (jV (jw (pv 1))) (jg (zk (kB hr) (zA (pv 0) Z) (jw (pv 1)) (jw (pv 1)) Z)) jp) (jg (jm (pv 1))))))),?_]
 have b0:=aH
 refine af λY n=>#[_,Z,r,D,_,Z,J.ins,Z,r,D,W,I,O,60,t,Z,J.ins,λlt=>n _ _ ?_,λge=>((t0.1 (YT Lo)).mono λH' kk=>λb o _ _ nx e=>kk b o nx e).nextK]
 clear n
 have t1:aj H (ah H r (.ins C D (gu W I O 60 (t+1)))):=λb X e=>by rw[jl (jQ e J.ins (by intro z;cases z))];exact e
 have R:Rn (ah H r (.ins C D (gu W I O 60 (t+1)))) C r D W I O 60 (t+1) L Cs:=#[jc,by rw[jl J.rl.1.symm];exact J.lf,by rw[jl J.rl.2.symm];exact J.ce,J.iL,J.iC,J.cl]
 have k1:aU r I H (ah H r (.ins C D (gu W I O 60 (t+1)))):=λb o n1 n2 e=>by rw[jl n1];exact e
 generalize ah H r (.ins C D (gu W I O 60 (t+1)))=H1 at t1 R k1
 have B:=B.mono t1
 have lt':t+1<=60:=by omega
 have f5:∀(w:Sk) (X:List V) (S:Hp) (v:Addr),S v=none->hG (ah S v (.tup X)) w (.ref v) []->w.ok false->gY (bG p1 Cs j) Cs k L t e= .ok w L (t+1)->At e w.wh->w.size=0->w.dep<=j->H1=S->Q (.ref v) (ah S v (.tup X)):=λw X S v nv hw ok eq ft sz dp e2=>by
  subst e2
  exact q w _ L _ (by rw[sz];exact eq) hw ok ft dp (by rw[sz];exact R.same (je nv)) Lo Lo (k1.trans (aU.of_same (je nv)))
 cases e with
 |ask ta T=>
  obtain⟨p,rfl,G⟩:=Jx B
  refine af λY n=>(jq G Z #[Z,_,Z,aG Lq (n _ _ ?_)])
  clear n
  refine af λY n=>(jq G Z #[Z,_,Z,aG Lq (n _ _ ?_)])
  clear n
  refine af λY n=>(jq G Z #[Z,_,Z,aG Lq (n _ _ ?_)])
  clear n
  refine#[_,Z,q (.ask (if T.ev k=0 then 0 else 1)) _ L _ (oF Lo) #[p,Z,G] EE ?_ (Eu _) R (by show L.length<=t+1+0;omega) lt' k1]
  show(if T.ev k=0 then (0:Int) else 1)=0∨(if T.ev k=0 then (0:Int) else 1)=1
  split
  ·exact .inl Z
  ·exact .inr Z
 |st p0 l=>
  obtain⟨vs,_,h6,o1,c0⟩:=h0
  cases l with
  |gv ta T |st x ta T=>cases c0
  |rd x ta T=>
   obtain⟨p,rfl,G⟩:=Jx B
   refine af λY n=>(jq G Z #[Z,_,Z,cj Lq (jq G Z #[_,Z,r,D,_,Z,R.ins,Z,jq G Z #[r,D,W,I,O,60,_,_,_,_,Z,R,dY,λv nv=>?_]])])
   exact f5 (.rd (T.ev k) (look L (.inl (T.ev k)) (look Cs (.inl (T.ev k)) 0))) _ _ v nv #[v,Z,jc] EE (vZ Lo) (Ja R.iL (Ja R.iC Jb)) Z (Eu _) Z
  |wr ta ub T U=>
   obtain⟨p,y,rfl,G,hy⟩:=XC B
   rw[Je hy]at G
   refine af λY n=>(jq G Z #[Z,_,Z,aG Lq (n _ _ ?_)])
   clear n
   refine af λY n=>(jq G Z #[Z,_,Z,aG Lq (n _ _ ?_)])
   clear n
   refine af λY n=>(jq G Z #[Z,_,Z,cj Lq (jq G Z #[_,Z,r,C,D,_,_,Z,R.ins,ck.cl,ck.n3,Z,jq G Z #[I,_,Z,le.k (k:=.inl (T.ev k)) R.lf Lo,n _ _ ?_]])])
   clear n
   have pl:=zI (kvs:=L) (k:=.inl (T.ev k)) (v:=.int (U.ev k))
   have t3:aj H1 (ah H1 I (.dK (aQ L (.inl (T.ev k)) (.int (U.ev k))))):=λb X e=>by rw[jl (jQ e R.lf (by intro z;cases z))];exact e
   refine#[_,Z,q (.wr (T.ev k) (U.ev k)) _ (aQ L (.inl (T.ev k)) (.int (U.ev k))) _ (v0 Lo) #[p,Z,t3 _ _ G] EE EE (Eu _) #[by rw[jl J.rl.1];exact R.ins,jc,by rw[jl J.cl];exact R.ce,R.iL.put _ (qh hk o1.2.1),R.iC,R.cl] (by show _<=t+1+0;omega) lt' λb o n1 n2 e=>?_]
   rw[jl n2]
   exact k1 b o n1 n2 e
  |cl x f q' ts=>
   obtain⟨p,y3,rfl,G,hy⟩:=J2 B
   obtain⟨y1,y5,rfl,e1,hy⟩:=zq hy
   obtain⟨y2,y0,rfl,e2,hy⟩:=zq hy
   have e3:y0=[]:=hy
   subst e3
   rw[QG e1]at G
   obtain⟨ag,a0,rfl,ha,N⟩:=Jd e2
   have N:aP H1 (aE ((ts.map λc=>c.2.ev k).map aI)) .non a0:=by rw[FS];exact N
   rw[Jj N]at ha
   obtain⟨i,d,hd,hn,rfl⟩:=hP.find h1
   have P1:=hP.mono t1
   obtain⟨v,hv,_,h2,h3⟩:=P1.at hd
   refine af λY n=>(jq G Z #[Z,_,Z,aG Lq (n _ _ ?_)])
   clear n
   refine af λY n=>(jq G Z #[Z,_,Z,cj Lq ?_])
   clear n
   refine#[_,Z,r,D,_,Z,R.ins,Z,_,Z,r,C,D,_,_,Z,R.ins,ck.cl,ck.n5,Z,jq G Z #[O,d.f,X,i,v,Z,P1.at',hv,h2,h3,jq G Z #[_,Z,(M:Int),Z,λdl=>?_,λdg=>((t0.2 (by have z:j=0:=Lo;rw[QT Lo,z];rfl)).mono λS kk=>λb o n1 n2 nx e=>kk b o nx (k1 b o n1 n2 e)).nextK]]]
   refine#[r,D,W,I,O,ag,M+1,t+1,i,L,Cs,v,d,ds,ns,X,p1,ts.map λc=>c.2.ev k,Z,Lo,Lo,R,Lo,lt',P1,hd,by rw[Ef];exact hn,hv,ha,λz hz=>?_,λu sk a L' S eq hc ok dp ia R2 l2 t2 k2=>?_,lT.next ((t0.imp (λz=>by rw[QT Lo,z];rfl) (λz=>by rw[QT Lo,z];rfl)).mono λS kk=>λb o n1 n2 nx e=>kk b o n1 n2 nx (k1 b o n1 n2 e))]
   ·obtain⟨c,hc,rfl⟩:=List.mem_map.mp hz
    exact qh hk (o1.2.2 c hc).1
   ·obtain⟨c,g,ee,ss,rfl,c1,c2,c3,c4⟩:=hc
    refine#[bj,λv2 nv=>?_]
    have s2:ae S (ah S v2 (.tup [.str "call",.ref c])):=je nv
    refine q (.cl d.f (ts.map λc=>c.2.ev k) sk a) _ L' _ (by rw[QT Lo,eq];rfl) #[v2,c,g,ee,ss,Z,jc,s2 _ _ c1,s2 _ _ c2,s2 _ _ c3,c4.mono (ae.tm s2)] ok ia (by show sk.dep+1<=j;omega) (R2.same s2) l2 t2 ((k1.trans k2).trans (aU.of_same s2))
theorem xf:dC (s++[x]) (-1)=some x:=by
 have l:(s++[x]).length=s.length+1:=by rw[Ei];rfl
 unfold dC lY
 rw[l,Ew Lo,Er Lo]
 have e:(-1+((s.length+1:Nat):Int)).toNat=s.length:=by omega
 show(s++[x])[(-1+((s.length+1:Nat):Int)).toNat]?=_
 rw[e]
 simp
inductive Av(H:Hp)(nA:Addr)(d:Df)(u:V):Gd->Prop
 |give (p:Addr) (a:Int) (e:u= .ref p) (h:H p=some (.tup [.str "give",.int a])) (i:d9 a):Av H nA d u (.give a)
 |go (p hv:Addr) (n:Nat) (c:Ct) (is:List Int) (e:u= .ref p) (h:H p=some (.tup [.str "go",.int (n:Int),.ref hv])) (h2:H hv=some (.tup (is.map V.int))) (hc:(bh nA d)[n]?=some c) (hl:is.length=(canon c.M).length) (hi:∀i∈is,d9 i):Av H nA d u (.go n is)
theorem Qz{H:Hp}(h:aP f (nO (dh N d) k g) u [])(j:GT k)(l:Au H Y d.b.cuts g):Av f N d u (gf (dh N d) k g):=by
 cases g with
 |give t T=>obtain⟨p,e,h⟩:=Jx h;exact .give p _ e h (qh j l.2.1)
 |nought=>obtain⟨p,e,h⟩:=Jx h;exact .give p 0 e h Jb
 |go n=>
  obtain⟨p,y,e,h,q⟩:=XC h
  obtain⟨a,X,rfl,m,c⟩:=Jd q
  have r:n < (bh N d).length:=by rw[QF];exact l
  have o:(bh N d)[n]?=some (bh N d)[n]:=Ed r
  have c:aP f (aE (((dh N d n).map λx=>look k (.inr x) 0).map aI)) .non X:=by rw[FS];exact c
  rw[Jj c]at m
  refine .go p a n _ _ e h m o (by rw[Ef,XB o]) λi s=>?_
  obtain⟨x,_,rfl⟩:=List.mem_map.mp s
  exact Ja j Jb
inductive CI(call:nJ)(pd:fg)(tot:OC)(C r dx cA lA pA ag sl nA:Addr)(deep t j:Nat)(Cs:a6)(v:V)(d:Df)(H:Hp)(kk:Nat)(σ:_L.St)(H':Hp):Prop
 |mk (o6:Option V) (u:V) (g:Gd) (m:Nat) (sk:Sk) (ss:List V) (L:a6) (e0:σ=[some (.ref r),some v,some (.ref ag),some (.int (deep:Int)),some (.ref sl),some u,o6]) (e1:H' sl=some (.lst ss)) (e2:hG H' sk .non ss) (e3:sk.ok true) (e4:sk.dep+1<=j) (e5:Av H' nA d u g) (e6:Rn H' C r dx cA lA pA 60 (t+sk.size) L Cs) (e7:L.length<=t+sk.size) (e8:t+sk.size<=60) (e9:aU r lA H H') (e10:kk+t+sk.size=61) (e11:(j' call Cs pd m g L (t+sk.size)).pre sk=tot) (e12:62<=m+(t+sk.size)):CI call pd tot C r dx cA lA pA ag sl nA deep t j Cs v d H kk σ H'
theorem lu:am ["self","part","args","deep","steps","goal","what"] ["self","part","args","deep"] (aa u7):=bJ
theorem xY(F:aN K "chain_of" "BookRun.chain_of" u7 f fd)(ck:RK K C)(cF:Cl P w K mg base 9 fF f2 ["part","args"] (gn nA) "first_of")(cD:Cl P w K mg base 9 fD f3 ["part","n","held"] (di nA) "deed_at")(cO:Cl P w K mg base 9 fO f4 ["part","step"] (iW nA) "onward")(GW:ai P w K mg base (eI P w) (2*j+13) fW f0 ["self","deed","deep"] (sr C TL TD nA j))(bW:aC K f0 ["self","deed","deep"] [])(m0:bV K C "what_of" fW)(m1:mg "tuple"=none):ai P w K mg base (eI P w) (2*j+14) f fd ["self","part","args","deep"] (dX C TL TD nA (j+1)):=by
 refine F.ok1 lu ?_ λc3 A o2 s H vs Q E hr h=>?_
 ·rintro _ _ _ _ ⟨r,dx,cA,lA,pA,ag,U,t,i,L,y,v,d,ds,ns,xs,x,is,rfl,_⟩
  rfl
 obtain⟨r,dx,cA,lA,pA,ag,U,t,i,L,y,v,d,ds,ns,xs,x,is,rfl,b5,_,hR,a0,ht,hP,hd,hn,hv,ha,h3,q,t4⟩:=h
 refine#[_,(jd (jB 4 lu.nd (jL jb)) (jd (jB 5 lu.nd (cF.e hr.m (ja (pv 1) (ja (pv 2) jb)))) (jd (QV PassesOwn.leaving (jV (jw (pv 5))) (jd (jB 6 lu.nd (kY (pv 0) ck.cl m0 GW hr.m bW .nil zX (ja (cD.e hr.m (ja (pv 1) (ja (jw (pv 5)) (ja (jw (pv 5)) jb)))) (ja (pv 3) jb)))) (jd (jX (kU PySem.F.plainAttrs_list PySem.F.slot_list_append PySem.F.type_list_append jT (pv 4) (ja (ji (ja (jw (pv 5)) (ja (jw (pv 5)) (ja (pv 6) jb)))) jb))) (jg (jB 5 lu.nd (cO.e hr.m (ja (pv 1) (ja (js jr (pv 4) (wC ZV jf) (λ_ _=>Z)) jb)))))))) (jg (jm (ji (ja (jw (pv 1)) (ja (pv 2) (ja (jC jI Z m1 boot_tuple (ja (pv 4) jb)) (ja (jw (pv 5)) jb)))))))))),?_]
 have b6:=aH
 obtain⟨ys,g,h1,b9,pr,a1⟩:=hP.part hd hv
 obtain⟨ps,h4,a2,a3⟩:=hP.pa.2 i d _ hd hn
 have e3:ps=g.ps:=by
  have z:=h4.symm.trans pr.ps
  injection z with z
  injection z with z
  exact(List.map_inj_right λa b e=>by injection e).mp z
 subst e3
 have e0:bG x y (j+1) d.f is L t=j' (bG x y j) y g 62 (gf (nQ g) (bM g.way.sets (aw g.ps is)) g.way.goal) L t:=by
  show(match gg x d.f with |none=>OC.long |some g=>j' (bG x y j) y g 62 (gf (nQ g) (bM g.way.sets (aw g.ps is)) g.way.goal) L t)=_
  rw[a1]
 generalize bG x y (j+1) d.f is L t=X at q t4 e0
 refine af λF1 J=>#[nV,λS Y=>J _ _ ?_]
 clear J
 have s1:ae H (ah H S (.lst [])):=je Y
 have l1:ah H S (.lst []) S=some (.lst []):=jc
 generalize ah H S (.lst [])=H1 at s1 l1 ⊢
 have e4:=pr.wy
 have h2:=pr.wv
 refine af λF1 J=>#[_,Z,_,Z,v,ag,d,ys,g.ps,is,g.way,Z,h1.mono (ae.tm s1),s1 _ _ h4,Lo,s1 _ _ ha,a2.symm,h3,e4,h2.mono (ae.tm s1),λu H2 hu s2=>J _ _ ?_]
 clear J
 have S2:=s1.trans s2
 have gz:GT (aw g.ps is):=zY h3
 have g0:=Qz (H:=H) hu (zp h2.sets gz) h2.goal
 rw[pr.nms]at g0
 have s0:S≠r:=Ne.symm (jo hR.ins Y)
 have s3:S≠lA:=Ne.symm (jo hR.lf Y)
 have s9:cA≠S:=jo hR.ce Y
 refine af λF1 J=>?_
 refine sT (CI (bG x y j) g X C r dx cA lA pA ag S nA U t (j+1) y v d H) (61 - t) #[none,u,_,62,.nil,[],L,Z,s2 _ _ l1,Z,trivial,by show 0+1<=j+1;omega,g0,hR.same S2,a0,ht,aU.of_same S2,by show 61 - t+t+0=61;omega,by rw[e0];show OC.pre .nil (j' (bG x y j) y g 62 _ L t)=_;cases j' (bG x y j) y g 62 (gf (nQ g) (bM g.way.sets (aw g.ps is)) g.way.goal) L t<;>rfl,by show 62<=62+(t+0);omega] ?_
 intro kk σ H3 E' rt fE F kT cF.k Gq kq hW
 obtain⟨o6,u,gd,m,N,R,L1,rfl,w1,w2,w3,w4,w5,w6,w7,w8,w9,b',W,c4⟩:=hW
 obtain⟨m,rfl⟩:∃m',m=m'+1:=#[m - 1,Lo]
 have t0:=hR.tm w9
 have P3:=hP.mono t0
 cases w5 with
 |give p a e h5 ia=>
  subst e
  refine kq (jq h5 Z #[Z,_,Z,?_])
  rw[show decide (V.str (Str.ofString "give")=V.str (Str.ofString "go"))=false by decide+kernel]
  refine cF.k _ (J _ _ ?_)
  obtain⟨pa,ca,wv,cs,e,h7,_⟩:=(h1.mono t0).parts
  subst e
  refine(jq h7 Z #[_,Z,_,Z,S,R,Z,.inl #[aF.of w1,λl2 n0=>?_]])
  have s4:ae H3 (ah H3 l2 (.tup R)):=je n0
  refine(jq (s4 _ _ h5) Z #[sD,λv2 nv=>?_])
  have s5:=s4.trans (je (o:=.tup [.str d.f,.ref ag,.ref l2,.int a]) nv)
  have S5:aU r lA H (ah (ah H3 l2 (.tup R)) v2 (.tup [.str d.f,.ref ag,.ref l2,.int a])):=w9.trans (aU.of_same s5)
  have W:OC.ok (N.app .nil) a L1 (t+N.size)=X:=W
  rw[Xd w3]at W
  exact q _ N a L1 _ W.symm #[v2,ag,l2,R,Z,jc,hR.tm S5 _ _ ha,aq jc nv,w2.mono (ae.tm s5)] w3 w4 ia (w6.same s5) w7 w8 S5
 |go p D n c hs e h5 h6 hc hl hi=>
  subst e
  refine kq (jq h5 Z #[Z,_,Z,?_])
  rw[show decide (V.str (Str.ofString "go")=V.str (Str.ofString "go"))=true by decide+kernel]
  refine kT _ ?_
  clear kT cF.k J
  have P0:=h1.mono t0
  obtain⟨pa,ca,wv,cs,e9,h7,_,_,a4⟩:=P0.parts
  obtain⟨ka,na,wa,dv,c5,_,c1⟩:=P0.cut a4 hc
  have a':n < g.cs.length:=by rw[pr.len];exact(List.getElem?_eq_some_iff.mp hc).1
  obtain⟨cd,h8⟩:∃cd,g.cs[n]?=some cd:=#[_,List.getElem?_eq_getElem a']
  have cr:=(pr.cs n c cd hc h8).mono t0
  obtain⟨c2,e,c0⟩:=cd
  obtain⟨e1,ed,d0,e5,Am,b0⟩:=cr
  have e1:c2=canon c.M:=e1
  subst e1
  have W:OC.pre N (match g.cs[n]? with
   |none=>OC.long
   |some c=>match gY (bG x y j) y (aw c.nm hs) L1 (t+N.size) c.e with
    | .ok w L1 t1=>(j' (bG x y j) y g m (wB g c hs w.wh) L1 t1).cons (n:Int) hs w
    | .long=>.long
    | .deep=>.deep)=X:=W
  rw[h8]at W
  have W:OC.pre N (match gY (bG x y j) y (aw (canon c.M) hs) L1 (t+N.size) e with
    | .ok w L1 t1=>(j' (bG x y j) y g m (wB g #[canon c.M,e,c0] hs w.wh) L1 t1).cons (n:Int) hs w
    | .long=>.long
    | .deep=>.deep)=X:=W
  have gk:GT (aw (canon c.M) hs):=zY hi
  refine af λF1 J=>#[_,Z,r,dx,_,Z,w6.ins,Z,_,Z,jq h5 Z (jq h5 Z #[v,n,D,d,ys,c,hs,e,Z,P0,hc,h6,hl,hi,ed,d0,λud H4 b1 s4=>?_])]
  have t':=t0.trans (ae.tm s4)
  refine#[_,Z,r,dx,cA,lA,pA,U,t+N.size,L1,y,aw (canon c.M) hs,ud,e,ys,ds,ns,xs,x,Z,Lo,w6.same s4,w7,w8,hP.mono t',b1,d0.mono (ae.tm s4),gk,?_,λw uw L' H5 e7 hw o1 ft d1 R5 l5 t5 k5=>J _ _ ?_,?_]
  ·cases e with
   |ask=>trivial
   |st p0 l=>cases l<;>first |trivial |exact hP.cs hd _ e5
  ·clear J
   have K5:aU r lA H3 H5:=(aU.of_same s4).trans k5
   have t7:aj H3 H5:=w6.tm K5
   have g5:=t7 _ _ h5
   have w0:H5 S=some (.lst R):=K5 _ _ s0 s3 w1
   have l0:=rZ w3 w2
   refine af λF1 J=>#[_,Z,.inl #[Z,_,aF.of w0],jq g5 Z (jq g5 Z #[_,Z,dY,λO n3=>?_])]
   have s6:ae H5 (ah H5 O (.tup [.int (n:Int),.ref D,uw])):=je n3
   have e6:ah H5 O (.tup [.int (n:Int),.ref D,uw]) O=some (.tup [.int (n:Int),.ref D,uw]):=jc
   refine#[S,_,_,Z,Z,s6 _ _ w0,Lo,J _ _ ?_]
   clear J
   generalize ah H5 O (.tup [.int (n:Int),.ref D,uw])=H6 at s6 e6
   have b7:ax S H6 (ah H6 S (.lst (R++[.ref O]))):=λb o nb e=>by rw[jl nb];exact e
   have t3:aj H6 (ah H6 S (.lst (R++[.ref O]))):=λb xs e=>b7 _ _ (jQ e (s6 _ _ w0) (by intro z;cases z)) e
   have w':ah H6 S (.lst (R++[.ref O])) S=some (.lst (R++[.ref O])):=jc
   generalize ah H6 S (.lst (R++[.ref O]))=H7 at b7 t3 w'
   have t2:aj H5 H7:=λb xs e=>t3 _ _ (s6 _ _ e)
   have B:aj H3 H7:=t7.trans t2
   have G:w.wh.side < c.ws.length:=by
    rw[c1.v.len,<- ed]
    cases e with
    |ask ta T=>show _ < 2;unfold Wh.side;split<;>(try split)<;>omega
    |st p0 l=>
     show _ < 1
     cases w<;>first |exact Nat.one_pos |exact o1.elim | (cases l<;>exact ft.elim)
   obtain⟨I,h0⟩:∃I,c0[w.wh.side]?=some I:=#[_,List.getElem?_eq_getElem (by rw[Am];exact G)]
   obtain⟨e2,h'⟩:=b0 _ _ I (List.getElem?_eq_getElem G) h0
   have sv:hV H7 nA d ys v O n D uw c hs w.wh e I:=#[P0.mono B,t3 _ _ e6,hc,B _ _ h6,hl,hi,(B0 o1 hw).mono t2,ed,d0.mono B,ft,by rw[e2];exact List.getElem?_eq_getElem G,h'.mono B]
   have b2:dC (R++[V.ref O]) (-1)=some (.ref O):=xf
   refine#[_,Z,_,Z,_,Z,S,_,_,_,Z,Z,aF.of w',b2,v,uw,O,D,n,d,ys,c,hs,w.wh,e,I,Z,sv,λu2 H8 b3 s8=>?_]
   have t8:=ae.tm s8
   have b4:=B.trans t8
   have g1:=Qz (H:=H7) b3 (zp sv.wdv.sets (Qy ft gk)) sv.wdv.goal
   have e8:wB g #[canon c.M,e,c0] hs w.wh=gf (nQ g) (bM I.sets (lU e w.wh (aw (canon c.M) hs))) I.goal:=by
    show(match c0[w.wh.side]? with |some wd=>gf (nQ g) (bM wd.sets (lU e w.wh (aw (canon c.M) hs))) wd.goal |none=>Gd.give 0)=_
    rw[h0]
   rw[pr.nms,<- e8]at g1
   rw[e7]at W
   have W:OC.pre N ((j' (bG x y j) y g m (wB g #[canon c.M,e,c0] hs w.wh) L' (t+N.size+1+w.size)).cons (n:Int) hs w)=X:=W
   rw[pR _ w3]at W
   have s7:=Xc (n:=(n:Int)) (hs:=hs) (w:=w) w3
   have R7:Rn H7 C r dx cA lA pA 60 (t+N.size+1+w.size) L' y:=#[b7 _ _ (Ne.symm s0) (s6 _ _ R5.ins),b7 _ _ (Ne.symm s3) (s6 _ _ R5.lf),b7 _ _ s9 (s6 _ _ R5.ce),R5.iL,R5.iC,R5.cl]
   have ez:t+N.size+1+w.size=t+(Sk.put (n:Int) hs w N).size:=by rw[s7];omega
   rw[ez]at R7 l5 t5 W
   refine fE (kk - (w.size+1)) _ _ Lo #[_,u2,_,m,Sk.put (n:Int) hs w N,R++[.ref O],L',Z,s8 _ _ w',(wD (t3 _ _ e6) (B _ _ h6) (hw.mono t2) w3 (w2.mono B)).mono t8,YQ o1 w3,?_,g1,R7.same s8,l5,t5,?_,by rw[s7];omega,W,Lo]
   ·have:=YR (n:=(n:Int)) (hs:=hs) (w:=w) (j:=j) d1 w3 Lo
    omega
   ·intro b o n1 n2 e
    exact s8 _ _ (b7 _ _ (jo e Y) (s6 _ _ (K5 _ _ n1 n2 (w9 _ _ n1 n2 e))))
  ·exact lT.next ((t4.imp (λz=>by rw[z]at W;exact W.symm) (λz=>by rw[z]at W;exact W.symm)).mono λH5 kk=>λb o n1 n2 nx e=>kk b o n1 n2 nx (s4 _ _ (w9 _ _ n1 n2 e)))
noncomputable def sq(T t N:Addr):Sp:=λv H Q E=>∃(b A c:Addr) (i:Nat) (C:a6) (d:Df) (D:List Df) (n:List Nat) (x:List V) (p:List fg) (I:List Int),v=[.ref b,.str d.f,.ref A,.ref c,.int 60]/\Ps H N b D n x p/\D[i]?=some d/\n[i]?=some I.length/\H A=some (.tup (I.map V.int))/\(∀z∈I,d9 z)/\H c=some (.dK C)/\GT C/\
 (∀(u:V) (s:Sk) (a:Int) (L:a6) (h:Hp),bG p C 16 d.f I [] 0= .ok s a L s.size->tF h d.f I s a u->s.ok true->s.dep<=15->s.size<=60->ae H h->Q u h)/\lT (bG p C 16 d.f I [] 0= .long) (bG p C 16 d.f I [] 0= .deep) E T t (Kp H)
theorem uQ(h:aP H (eh n d) v []):∃p r,v= .ref p/\H p=some (.tup (.str d.f:: .ref d.pa::r)):=by
 obtain⟨_,a,x,rfl,b,_,_,c,y,rfl,⟨rfl,_⟩,_,_,e,Y,rfl,⟨rfl,_⟩,_⟩:=h
 exact#[a,_,Z,b]
theorem xS:ai P w K mg base (eI P w) k f c ["self","part","args","deep"] (dX C T b N 0):=by
 have n:∀{V H Q E},¬dX C T b N 0 V H Q E:=by
  rintro V H Q E ⟨r,e,g,l,j,m,D,t,i,L,q,v,d,u,x,X,p,I,_,_,z,_⟩
  omega
 exact#[λV H Q E h=>(n h).elim,λA o s H a U V Q E y B F G h=>(n h).elim]
theorem AF(d:RK K C)(F:aN K "chain_of" "BookRun.chain_of" u7 k f)(B:aC K f ["self","part","args","deep"] [])(m:bV K C "chain_of" k)(l:aN K "what_of" "BookRun.what_of" ve D e)(o:aC K e ["self","deed","deep"] [])(M:bV K C "what_of" D)(p:Cl P w K mg base 9 Q E ["part","args"] (gn n) "first_of")(q:Cl P w K mg base 9 U H ["part","n","held"] (di n) "deed_at")(r:Cl P w K mg base 9 Y I ["part","step"] (iW n) "onward")(GT:ai P w K mg base (eI P w) 1 J g ["self"] (i5 C T))(s:aC K g ["self"] [])(a:bV K C "take_turn" J)(G:ai P w K mg base aD 1 L h ["self","cell"] (gq C))(t:aC K h ["self","cell"] [])(b:bV K C "number_in" L)(u:ai P w K mg base (eI P w) 1 v i ["deep"] (fb N))(x:aC K i ["deep"] [])(y:keepIn K (.ref v)=true)(z:mg "deeper"=some (.ref v))(A:Cl P w K mg base 2 fP O ["parts","f"] lG "part_of")(c:mg "tuple"=none):∀j,ai P w K mg base (eI P w) (2*j+12) k f ["self","part","args","deep"] (dX C T N n j)
 |0=>xS
 |j+1=>xY F d p q r (ya l d GT s a G t b u x y z A (AF d F B m l o M p q r GT s a G t b u x y z A c j) B m) o M c
theorem wI:am ["parts","f","args","cells","most","part"] ["parts","f","args","cells","most"] (aa yS):=bJ
theorem yj(F:aN K "run" "run" yS f fd)(ck:RK K C)(mk:Mk K C fI)(GI:ai P w K mg base aD 2 fI y ["self","parts","cells","most"] (mI C))(bI:aC K y ["self","parts","cells","most"] [])(mC:mg "BookRun"=some (.ref C))(cB:Cl P w K mg base 2 fB f0 ["ones","f","args"] iQ "begun")(GA:ai P w K mg base (eI P w) 44 fA B ["self","part","args","deep"] (dX C TL TD nA 16))(bA:aC K B ["self","part","args","deep"] [])(M:bV K C "chain_of" fA):ai P w K mg base (eI P w) 45 f fd ["parts","f","args","cells","most"] (sq TL TD nA):=by
 refine F.ok1 wI ?_ λc0 A O s H vs Q E G h=>?_
 ·rintro _ _ _ _ ⟨g,I,j,i,J,d,ds,ns,X,k,is,rfl,_⟩
  rfl
 obtain⟨g,I,j,i,J,d,ds,ns,X,k,is,rfl,x,L,hn,ha,R,t,T,q,U⟩:=h
 refine#[_,(jd (jB 5 wI.nd (cB.e G.m (ja (pv 0) (ja (pv 1) (ja (pv 2) jb))))) (jg (jm (kY (Yr mk GI G.m Z mC bI .nil bq (ja (pv 0) (ja (pv 3) (ja (pv 4) jb)))) ck.cl M GA G.m bA .nil zX (ja (pv 5) (ja (pv 2) (ja jf jb))))))),?_]
 obtain⟨v,hv,tv,h0,V⟩:=x.at L
 obtain⟨p,pr,rfl,hp⟩:=uQ tv
 obtain⟨ps,W,h1,_⟩:=x.pa.2 i d _ L hn
 refine af λF1 f1=>#[_,Z,_,Z,_,Z,g,I,d.f,X,_,i,.ref p,p,d.pa,pr,_,Z,x.at',hv,Z,hp,W,ha,by rw[Ef,Ef];omega,V,f1 _ _ ?_]
 clear f1
 refine#[_,Z,_,Z,_,Z,λr D N nd ne=>?_]
 have s0:ae H (ah (ah H D (.own r)) r (.ins C D [])):=λc o e=>by rw[jl (jo e N),jl (jo e nd)];exact e
 refine#[r,D,g,j,60,Z,jc,λl Y=>#[Z,?_]]
 have n0:l≠r:=λe=>by rw[e,jc]at Y;cases Y
 have n:H l=none:=by
  cases z:H l with
  |none=>rfl
  |some o=>have:=s0 _ _ z;rw[Y]at this;cases this
 have S:ae H (ah (ah (ah (ah H D (.own r)) r (.ins C D [])) l (.dK [])) r (.ins C D (gu j l g 60 0))):=λc o e=>by rw[jl (jo e N),jl (jo e n)];exact s0 _ _ e
 have R1:Rn (ah (ah (ah (ah H D (.own r)) r (.ins C D [])) l (.dK [])) r (.ins C D (gu j l g 60 0))) C r D j l g 60 0 [] J:=#[jc,by rw[jl n0];exact jc,S _ _ t,GT.nil,T,jo t n]
 generalize ah (ah (ah (ah H D (.own r)) r (.ins C D [])) l (.dK [])) r (.ins C D (gu j l g 60 0))=H1 at S R1
 have t0:=ae.tm S
 refine#[r,D,_,Z,R1.ins,Z,_,Z,_,Z,r,D,j,l,g,I,0,0,i,[],J,.ref p,d,ds,ns,X,k,is,Z,Z,Ln,R1,Eh _,Ln,x.mono t0,L,hn,hv,S _ _ ha,R,λu sk a L' H2 eq hc ok dp ia R2 l2 t2 k2=>?_,lT.next (U.mono λH' kk=>λb o nx e=>kk b o (jo e N) (jo e n) nx (S _ _ e))]
 exact q u sk a L' H2 (by rw[Nat.zero_add]at eq;exact eq) hc ok Lo Lo λc o e=>k2 c o (jo e N) (jo e n) (S _ _ e)
noncomputable abbrev Cz:Stmt:=bL 64
noncomputable def lF(K:Frag)(n:Nat):Sp:=λv H Q _=>∃(a d:Addr) (T:Tm) (y:List Str) (k:a6),v=[.ref a,.ref d]/\Cm K H T a/\T.depth < n/\T.Good y/\H d=some (.dK k)/\GT k/\∀h,ae H h->Q (.int (T.ev k)) h
theorem yV:am ["_law_term_here","_law_held","_law_one","_law_other"] ["_law_term_here","_law_held"] (aa Cz):=bJ
theorem Bj(F:aN K "_law_worth" "_law_worth" Cz f fd)(W:Cl P w K mg base (n+1) f fd ["_law_term_here","_law_held"] (lF K n) "_law_worth")(M:mg "int"=none)(mm:mg "max"=none):ai P w K mg base aD (n+2) f fd ["_law_term_here","_law_held"] (lF K (n+1)):=by
 refine F.ok yV ?_ λc0 A O s H vs Q E R h=>?_
 ·rintro _ _ _ _ ⟨a,d,T,Y,p,rfl,_⟩
  rfl
 obtain⟨a,d,T,Y,p,rfl,U,dp,G,C,B,q⟩:=h
 refine#[_,(jd (jx (jV (jw (pv 0))) (jg (jm (jw (pv 0)))) jp) (jd (jx (jV (jw (pv 0))) (jg (jm (@zR _ _ _ _ _ _ _ _ _ (kB R) (pv 1) (jw (pv 0)) jf #[Ls,Ls,Ls,Ls]))) jp) (jd (jB 2 yV.nd (W.e R (ja (jw (pv 0)) (ja (pv 1) jb)))) (jd (jB 3 yV.nd (W.e R (ja (jw (pv 0)) (ja (pv 1) jb)))) (jd (jx (jV (jw (pv 0))) (jg (jm (js jr (jL (ja (jv Jg (pv 2) (jF (Y3 Z) Z mm boot_max (ja jf (ja (pv 3) jb)))) (ja jf jb))) (jC kQ Z M HL (ja (j4 zw (pv 3) jf (aA _)) jb)) (λ_ _=>Z)))) jp) (jd (jx (jV (jw (pv 0))) (jg (jm (jC kQ Z M HL (ja (j4 J4 (pv 2) (pv 3) (aA _)) jb)))) jp) (jd (jx (jV (jw (pv 0))) (jg (jm (jC kQ Z M HL (ja (j4 zw (pv 2) (pv 3) (aA _)) jb)))) jp) (jg (jm (jv kX (js jr (jL (ja (jv jW (pv 2) (pv 3)) (ja (jv ky (pv 2) (pv 3)) (ja (jv zh (pv 2) (pv 3)) jb)))) (kU Hg PySem.F.slot_str_index PySem.F.type_str_index oY jk (ja (jw (pv 0)) jb)) (λ_ _=>Z)) (jv qJ jf jf))))))))))),?_]
 cases T with
 |num m=>
  have c:ar K H a [.str "num",.int m]:=U.elim (λh=>ar.of h) λz=>by cases z.1;exact z.2
  exact af λj b=>#[_,Z,a,_,_,_,Z,Z,c,Z,Z,_,Z,cj Lq #[_,Z,a,_,_,_,Z,Z,c,Z,q H (ae.refl H)]]
 |var x=>
  have c:H a=some (.tup [.str "var",.str x]):=U.resolve_right λz=>by cases z.1
  refine af λj b=>(jq c Z #[Z,_,Z,aG Lq (b _ _ ?_)])
  refine af λj b=>(jq c Z #[Z,_,Z,cj Lq #[_,Z,d,Z,.inl #[p,.inl C],jq c Z #[_,dN.k (k:=Sum.inr x) C,?_]]])
  rw[zU B]
  exact q H (ae.refl H)
 |op i D I=>
  obtain⟨p1,p2,c,h1,h2⟩:=U.resolve_right λz=>by cases z.1
  have d0:max D.depth I.depth+1 < n+1:=dp
  refine af λj b=>(jq c Z #[Z,_,Z,aG Lq (b _ _ ?_)])
  clear b
  refine af λj b=>(jq c Z #[Z,_,Z,aG Lq (b _ _ ?_)])
  clear b
  refine af λj b=>(jq c Z #[_,Z,p1,d,D,Y,p,Z,.inl h1,Lo,G.2.1,C,B,λH1 J=>b _ _ ?_])
  clear b
  refine af λj b=>(jq (J _ _ c) Z #[_,Z,p2,d,I,Y,p,Z,.inl (h2.same J),Lo,G.2.2,J _ _ C,B,λu s2=>b _ _ ?_])
  clear b
  have S:ae H u:=J.trans s2
  replace c:=S _ _ c
  have v:∀L,ae u L->Q (.int (jn i (D.ev p) (I.ev p))) L:=λL s=>q L (S.trans s)
  obtain⟨h0,h3⟩:=qh B G.2.1
  obtain⟨h4,h5⟩:=qh B G.2.2
  have hi:=G.1
  generalize D.ev p=x at*
  generalize I.ev p=y at*
  rcases(by omega:i=0∨i=1∨i=2∨i=3∨i=4∨i=5) with rfl |rfl |rfl |rfl |rfl |rfl
  ·refine af λj b=>(jq c Z #[Z,_,Z,aG Lq (b _ _ ?_)])
   clear b
   refine af λj b=>(jq c Z #[Z,_,Z,aG Lq (b _ _ ?_)])
   clear b
   refine af λj b=>(jq c Z #[Z,_,Z,aG Lq (b _ _ ?_)])
   clear b
   refine#[_,Z,_,Z,_,_,Z,Z,_,Z,_,Z,_,_,Z,Z,_,Z,_,Z,_,_,Z,Z,.inl #[Lo,Lo],dY,λl N=>?_]
   have r:=aq (o:=.lst [.int (x+y),.int (x - y),.int (x*y)]) c N
   refine#[Z,jq r Z #[_,_,0,[],Z,Z,Lq,l,_,_,_,Z,Z,aF.of jc,Z,_,_,Z,Z,#[Ln,Ln,Ln],_,_,Z,Z,(by show(0:Int) < (10:Int) ^ (18:Int).toNat;decide),?_]]
   rw[gW]
   exact v _ (je N)
  ·refine af λj b=>(jq c Z #[Z,_,Z,aG Lq (b _ _ ?_)])
   clear b
   refine af λj b=>(jq c Z #[Z,_,Z,aG Lq (b _ _ ?_)])
   clear b
   refine af λj b=>(jq c Z #[Z,_,Z,aG Lq (b _ _ ?_)])
   clear b
   refine#[_,Z,_,Z,_,_,Z,Z,_,Z,_,Z,_,_,Z,Z,_,Z,_,Z,_,_,Z,Z,.inl #[Lo,Lo],dY,λl N=>?_]
   have r:=aq (o:=.lst [.int (x+y),.int (x - y),.int (x*y)]) c N
   refine#[Z,jq r Z #[_,_,1,[],Z,Z,Lq,l,_,_,_,Z,Z,aF.of jc,Z,_,_,Z,Z,#[Ln,Ln,Ln],_,_,Z,Z,(by show(0:Int) < (10:Int) ^ (18:Int).toNat;decide),?_]]
   rw[gW]
   exact v _ (je N)
  ·refine af λj b=>(jq c Z #[Z,_,Z,aG Lq (b _ _ ?_)])
   clear b
   refine af λj b=>(jq c Z #[Z,_,Z,aG Lq (b _ _ ?_)])
   clear b
   refine af λj b=>(jq c Z #[Z,_,Z,aG Lq (b _ _ ?_)])
   clear b
   refine#[_,Z,_,Z,_,_,Z,Z,_,Z,_,Z,_,_,Z,Z,_,Z,_,Z,_,_,Z,Z,.inl #[Lo,Lo],dY,λl N=>?_]
   have r:=aq (o:=.lst [.int (x+y),.int (x - y),.int (x*y)]) c N
   refine#[Z,jq r Z #[_,_,2,[],Z,Z,Lq,l,_,_,_,Z,Z,aF.of jc,Z,_,_,Z,Z,#[Ln,Ln,Ln],_,_,Z,Z,(by show(0:Int) < (10:Int) ^ (18:Int).toNat;decide),?_]]
   rw[gW]
   exact v _ (je N)
  ·refine af λj b=>(jq c Z #[Z,_,Z,cj Lq ?_])
   refine#[_,Z,_,Z,_,_,Z,_,_,Z,Z,#[by split<;>omega,by split<;>omega],bj,λl N=>?_]
   have t:=v _ (je (o:=.lst [.int (x / (if (y:Int) > 1 then y else 1)),.int 0]) N)
   have q2:Q (.int (if y=0 then 0 else x / y)) (ah u l (.lst [.int (x / (if (y:Int) > 1 then y else 1)),.int 0])):=t
   refine#[_,Z,Z,.inr #[_,Z,l,_,_,_,Z,Z,aF.of jc,(?_:dC _ _=some (.int (if y=0 then 0 else x / y))),q2]]
   by_cases e:y=0
   ·rw[e];rfl
   ·rw[Ew e,EH (λz=>e (by injection z))]
    show some (V.int (x / (if (y:Int) > 1 then y else 1)))=_
    by_cases g:(y:Int) > 1
    ·rw[Er g]
    ·rw[Ew g,show y=1 by omega]
  ·refine af λj b=>(jq c Z #[Z,_,Z,aG Lq (b _ _ ?_)])
   clear b
   refine af λj b=>(jq c Z #[Z,_,Z,cj Lq ?_])
   have t:Q (.int (if x < y then 1 else 0)) u:=v _ (ae.refl u)
   refine#[_,Z,_,Z,_,_,Z,Z,.inr #[_,Z,?_]]
   by_cases e:x < y
   ·rw[Er e]at t;rw[EN e];exact t
   ·rw[Ew e]at t;rw[EH e];exact t
  ·refine af λj b=>(jq c Z #[Z,_,Z,aG Lq (b _ _ ?_)])
   clear b
   refine af λj b=>(jq c Z #[Z,_,Z,aG Lq (b _ _ ?_)])
   clear b
   refine af λj b=>(jq c Z #[Z,_,Z,cj Lq ?_])
   have t:Q (.int (if x=y then 1 else 0)) u:=v _ (ae.refl u)
   refine#[_,Z,_,Z,Z,.inr #[_,Z,?_]]
   by_cases e:x=y
   ·rw[Er e]at t;rw[EN (by rw[e])];exact t
   ·rw[Ew e]at t;rw[EH (λz=>e (by injection z))];exact t
theorem Bf:ai P w K mg base aD 1 f e ["_law_term_here","_law_held"] (lF K 0):=by
 have n:∀v H Q E,¬lF K 0 v H Q E:=λv H Q E h=>by
  obtain⟨a,d,T,y,k,_,_,c,_⟩:=h
  exact absurd c (Gy _)
 exact#[λv H Q E h=>absurd h (n v H Q E),λA o s H b u v Q E _ _ _ _ h=>absurd h (n v H Q E)]
theorem Am(F:aN K "_law_worth" "_law_worth" Cz f a)(b:aC K a ["_law_term_here","_law_held"] [])(m:mg "_law_worth"=some (.ref f))(M:mg "int"=none)(c:mg "max"=none):
  ∀n:Nat,ai P w K mg base aD (n+1) f a ["_law_term_here","_law_held"] (lF K n)
 |0=>Bf
 |n+1=>Bj F #[(Am F b m M c n),b,F.kp,m] M c
noncomputable abbrev vj:Stmt:=bL 65
noncomputable def ij(n:Addr):Sp:=λa H Q _=>∃(v W:V) (D:Addr) (d:Df) (y:List Str) (w:WD) (k:a6),a=[v,W,.ref D]/\i' H n d y v/\aP H (ff (w.wy n)) W []/\oe H y d.b.cuts d.b.size w/\H D=some (.dK k)/\GT k/\k.length<=200/\
 ∀(u:V) (h:Hp),aP h (nO (dh n d) (bM w.sets k) w.goal) u []->ae H h->Q u h
inductive LI(dd:Addr)(σ0:_L.St)(ss:List (Str×Addr×Tm))(k:a6)(H:Hp)(i:Nat)(σ:_L.St)(H':Hp):Prop
 |mk (o3 o4:Option V) (e0:σ=σ0++[o3,o4]) (e1:H' dd=some (.dK (bM (ss.take i) k))) (e2:ax dd H H'):LI dd σ0 ss k H i σ H'
theorem nk:am ["_law_part","_law_way","_law_known","_law_x","_law_term_here"] ["_law_part","_law_way","_law_known"] (aa vj):=bJ
noncomputable def Yg:Scope:=#[.function,[(".0",.local),("_law_x",.local),("_law_known",.free)],false,false,[]]
theorem uk:(["_law_x","_law_known"]:List Str).Nodup:=by decide+kernel
theorem tR:aZ ["_law_part","_law_way","_law_known","_law_x","_law_term_here"] (aa vj) Yg ["_law_x","_law_known"] 1 [2]:=mO
theorem ye(F:aN K "_law_led" "_law_led" vj f fd)(cW:Cl P w K mg base 7 fW f2 ["_law_term_here","_law_held"] (lF K 6) "_law_worth")(m0:mg "tuple"=none)(m1:mg "dict"=none)(no:io K U):ai P w K mg base aD 8 f fd ["_law_part","_law_way","_law_known"] (ij U):=by
 refine F.ok nk ?_ λc0 A o1 s H vs Q E hr h=>?_
 ·rintro _ _ _ _ ⟨v,w1,d0,d,ys,N,k,rfl,_⟩
  rfl
 obtain⟨v,w1,d0,d,ys,N,k,rfl,hp,hw,Y,h0,gk,hk,q⟩:=h
 refine#[_,(jd (kr (i:=2) nk.nd Z (Or.inr Z) (jC qA Z m1 boot_dict (ja (pv 2) jb))) (jd (kO EZ Z (zb (jw (pv 1))) (zO (n:=2) Z (jD (jy (i:=3) nk.nd Z (Or.inl Z)) (jD (jy (i:=4) nk.nd Z (Or.inl Z)) kh))) (jg (zk (kB hr) (pv 2) (pv 3) (cW.e hr.m (ja (pv 4) (ja (pv 2) jb))) Z))) (jd (jx (jV (jw (js jJ (pv 1) jf (λ_ _=>Z)))) (jg (jm (ji (ja jk (ja (cW.e hr.m (ja (jw (js jJ (pv 1) jf (λ_ _=>Z))) (ja (pv 2) jb))) jb))))) jp) (jg (jm (ji (ja jk (ja (jw (js jJ (pv 1) jf (λ_ _=>Z))) (ja (jC jI Z m0 Ft (ja (@kJ _ _ _ _ _ _ _ (["_law_x","_law_known"]) (1) ([2]) _ _ _ _ Z (zb (js jJ (js jJ (jw (pv 0)) (jw (js jJ (pv 1) jf (λ_ _=>Z))) (λ_ _=>Z)) jf (λ_ _=>Z))) tR (λ_ _ _ _ _=>(jy (i:=0) uk Z (Or.inl Z))) (λ_ _ _ _ _=>(@zi _)) (λ_ _ _ _ _=>(@zR _ _ _ _ _ _ _ _ _ (kB hr) (pv 1) (pv 0) jf #[Ls,Ls,Ls,Ls])) (by intro _;rfl)) jb)) jb))))))))),?_]
 have b0:=aH
 obtain⟨wa,sa,ga,ss,wd,u,rfl,W⟩:=YN hw
 have h5:=hp.sz
 have h6:=Y.len
 obtain⟨a,ca,p0,cs,rfl,ha,_,h2,h3⟩:=hp.parts
 refine af λF1 G=>#[_,Z,d0,k,Z,h0,λD n0=>G _ _ ?_]
 clear G
 have s0:ae H (ah H D (.dK k)):=je n0
 have hd:ah H D (.dK k) D=some (.dK k):=jc
 generalize ah H D (.dK k)=H0 at s0 hd
 have up:∀g,ax D H0 g->ae H g:=λg k' c o e=>k' c o (jo e n0) (s0 _ _ e)
 refine af λF1 G=>eO λJ j=>(jq (s0 _ _ W.at') c7 #[sa,Z,#[_,ar.of (s0 _ _ W.sat)],j _ _ ?_])
 clear j
 refine qu (K:=K) (xs:=ss) (LI D [some (.ref a),some (.ref wa),some (.ref D)] N.sets k H0) #[_,_,Z,hd,ax.refl] (λi σ g _ h=>?_) ?_ (λσ g h=>G _ _ ?_)
 ·obtain⟨_,_,_,_,O⟩:=h
  exact ar.of (up _ O _ _ W.sat)
 ·intro E _ i x σ H1 R f0 Gq X h
  obtain⟨o3,o4,rfl,I,O⟩:=h
  clear G
  obtain⟨s,p,hs,rfl,h4⟩:=W.sets i x R
  have S:=up _ O
  have tv:=(Y.sets s (EA hs)).mono (ae.tm S)
  have g1:GT (bM (N.sets.take i) k):=zp (H:=H) (ys:=ys) (λs hs=>Y.sets s (Fe hs)) gk
  have l1:=Kj (ss:=N.sets.take i) (k:=k)
  rw[ED]at l1
  refine X ?_
  clear X
  refine#[p,_,Z,ar.of (S _ _ h4),Z,_,_,Z,_,_,Z,Z,?_]
  refine#[_,Z,_,Z,s.2.1,D,s.2.2,ys,_,Z,.inl tv.1,tv.2.2,tv.2.1,I,g1,λH2 s2=>#[_,Z,_,Z,D,_,Z,.inl #[_,.inr s.1,s2 _ _ I,Z,Lo,Z],f0 _ _ #[_,_,Z,?_,λc o nc e=>by rw[jl nc];exact s2 _ _ (O c o nc e)]]]
  rw[Qr hs]
  exact jc
 ·obtain⟨o3,o4,rfl,I,O⟩:=h
  rw[W.len,Fc]at I
  have S:=up _ O
  have g1:GT (bM N.sets k):=zp (H:=H) (ys:=ys) Y.sets gk
  have z:=Y.goal
  have b:=W.goal
  generalize bM N.sets k=L at I g1 q
  have B:=S _ _ W.at'
  have C:=S _ _ W.gat
  refine af λF1 G=>tq λG1 k3 k0=>(jq B dW #[ga,_,_,_,Z,Z,ar.of C,c7,Z,_,Z,?_])
  have give:∀(t:Addr) (T:Tm),wd="give"->u= .ref t->Cm K g T t->cQ ys T->(∀(u':V) (H9:Hp),aP H9 (aK [a7 "give",aI (T.ev L)]) u' []->ae H H9->Q u' H9)->G1 (decide (V.str wd=V.str "give")) g:=by
   intro t T e1 e2 x1 x2 x3
   subst e1
   subst e2
   rw[EN Z]
   refine k3 _ (jq B dW #[ga,_,_,_,Z,Z,ar.of C,dW,_,Z,t,D,T,ys,L,Z,x1,x2.2,x2.1,I,g1,λH2 s2=>#[bj,λr nr=>?_]])
   exact x3 _ _ (jA jc (jh Z jG (jh Z jN jz))) (S.trans (s2.trans (je nr)))
  cases hg:N.goal with
  |give t T=>
   rw[hg]at z b q
   exact give t T b.1 b.2 (.inl (z.1.mono (ae.tm S))) z.2 q
  |nought=>
   rw[hg]at b q
   exact give U (.num 0) b.1 b.2 (.inr #[Z,no _]) #[#[Ln,Ln],Ln] q
  |go n=>
   rw[hg]at z b q
   clear give k3
   obtain⟨e1,e2⟩:=b
   subst e1
   subst e2
   have hn:n < (bh U d).length:=by rw[QF];exact z
   obtain⟨c,hc⟩:∃c,(bh U d)[n]?=some c:=#[_,Ed hn]
   obtain⟨ka,na,w2,dv,w3,R,cu⟩:=hp.cut h3 hc
   have e0:decide (V.str "go"=V.str "give")=false:=by decide+kernel
   rw[e0]
   refine k0 _ (G _ _ ?_)
   clear k0 G
   have cl:=Es (zW cu.v.mem) hp.y20
   have q:∀(u:V) (g:Hp),aP g (aK [a7 "go",aI (n:Int),aK ((dh U d n).map λx=>aI (look L (.inr x) 0))]) u []->ae H g->Q u g:=q
   rw[XB hc]at q
   refine(jq B dW #[ga,_,_,_,Z,Z,ar.of C,dW,_,Z,a,_,_,_,Z,Z,ar.of (S _ _ ha),ju (j:=3) Z,jq B dW #[ga,_,_,_,Z,Z,ar.of C,dW,ca,_,_,_,Z,Z,ar.of (S _ _ h2),ju R,ka,_,_,_,Z,Z,ar.of (S _ _ cu.at'),c7,na,Z,#[_,ar.of (S _ _ cu.nms)],?_]])
   refine zu (K:=K) (xs:=(canon c.M).map V.str) (by rw[Ef];omega) (λi zs Hx=>zs=((canon c.M).take i).map (λx=>V.int (look L (.inr x) 0))/\Hx=g) #[Z,Z] (λi zs Hx h=>?_) (λi x zs Hx R h=>?_) (λzs Hx h l nl=>?_)
   ·obtain⟨rfl,rfl⟩:=h
    exact#[ar.of (S _ _ cu.nms),by rw[Ef,ED];omega]
   ·obtain⟨rfl,rfl⟩:=h
    rw[Eo]at R
    obtain⟨y,hy,rfl⟩:=Option.map_eq_some_iff.mp R
    refine#[_,Z,D,Z,.inl #[L,.inl I],_,Z,_,dN.k (k:=Sum.inr y) I,?_,Z]
    rw[zU g1,FK,hy,EK]
    rfl
   ·obtain⟨rfl,rfl⟩:=h
    rw[Ef,Fc]
    refine#[l,_,Z,.inl #[aF.of jc,λtl n1=>#[dY,λr nr=>?_]]]
    refine q _ _ (jA jc (jh Z jG (jh Z jN (jh Z (jA (aq jc nr) ?_) jz)))) (S.trans ((je nl).trans ((je n1).trans (je nr))))
    have:=qy (H:=ah (ah (ah Hx l (.lst ((canon c.M).map (λx=>V.int (look L (.inr x) 0))))) tl (.tup ((canon c.M).map (λx=>V.int (look L (.inr x) 0))))) r (.tup [.str "go",.int (n:Int),.ref tl])) (is:=(canon c.M).map λx=>look L (.inr x) 0)
    rw[FS,FS]at this
    exact this
noncomputable abbrev iA:Stmt:=bL 66
theorem iN:am ["_law_part","_law_n","_law_held","_law_deed_here","_law_known"] ["_law_part","_law_n","_law_held"] (aa iA):=bJ
noncomputable def Xv:Scope:=#[.function,[(".0",.local),("_law_term_here",.local),("_law_worth",.globalImplicit),("_law_known",.free)],false,false,[]]
theorem pe:(["_law_term_here","_law_known"]:List Str).Nodup:=by decide+kernel
theorem ou:aZ ["_law_part","_law_n","_law_held","_law_deed_here","_law_known"] (aa iA) Xv ["_law_term_here","_law_known"] 1 [4]:=mO
theorem pw(F:aN K "_law_deed" "_law_deed" iA f fd)(W:Cl P w K mg base 7 fW f0 ["_law_term_here","_law_held"] (lF K 6) "_law_worth")(mi:mg "int"=none)(m0:mg "tuple"=none)(m1:mg "dict"=none)(m2:mg "zip"=none):ai P w K mg base aD 8 f fd ["_law_part","_law_n","_law_held"] (di nA):=by
 refine F.ok iN ?_ λc0 A o1 s H vs Q E X h=>?_
 ·rintro _ _ _ _ ⟨v,n,hv,d,Y,c,is,e,rfl,_⟩
  rfl
 obtain⟨v,n,hv,d,Y,c,is,e,rfl,hp,hc,hh,hl,h1,h2,h3,q⟩:=h
 refine#[_,(jd (jB 3 iN.nd (jw (js jJ (js jJ (pv 0) jf (λ_ _=>Z)) (pv 1) (λ_ _=>Z)))) (jd (kr (i:=4) iN.nd Z (Or.inr Z) (@qY _ _ _ _ _ _ _ _ Z m1 Z m2 Z (ja (jw (js jJ (js jJ (pv 0) jf (λ_ _=>Z)) (pv 1) (λ_ _=>Z))) (ja (pv 2) jb)) Ls Ls Ls Ls)) (jd (jx (jV (jw (pv 3))) (jg (jm (ji (ja jk (ja (W.e X.m (ja (jw (pv 3)) (ja (pv 4) jb))) jb))))) jp) (jd (jx (jV (jw (pv 3))) (jg (jm (ji (ja jk (ja (W.e X.m (ja (jw (pv 3)) (ja (pv 4) jb))) (ja (W.e X.m (ja (jw (pv 3)) (ja (pv 4) jb))) jb)))))) jp) (jd (jx (jV (jw (pv 3))) (jg (jm (ji (ja jk (ja (jC kQ Z mi HL (ja (j4 qS (W.e X.m (ja (jw (pv 3)) (ja (pv 4) jb))) jf (aA _)) jb)) jb))))) jp) (jg (jm (ji (ja jk (ja (jw (pv 3)) (ja (jC jI Z m0 Ft (ja (@kJ _ _ _ _ _ _ _ (["_law_term_here","_law_known"]) (1) ([4]) _ _ _ _ Z (zb (jw (pv 3))) ou (λ_ _ _ _ _=>(jy (i:=0) pe Z (Or.inl Z))) (λ_ _ _ _ _=>(@zi _)) (λ_ _ _ _ _=>(W.e X.m (ja (pv 0) (ja (pv 1) jb)))) (by intro _;rfl)) jb)) jb))))))))))),?_]
 have b0:=aH
 obtain⟨a,ca,p0,cs,rfl,ha,_,h0,h4⟩:=hp.parts
 obtain⟨ka,na,wa,dv,w0,hx,cu⟩:=hp.cut h4 hc
 have D:=cu.deed
 rw[<- h2]at D
 refine af λB g=>#[_,Z,a,_,_,_,Z,Z,ar.of ha,ju (j:=3) Z,_,Z,ca,_,_,_,Z,Z,ar.of h0,ju hx,ka,_,_,_,Z,Z,ar.of cu.at',dW,g _ _ ?_]
 clear g
 refine af λB g=>#[_,Z,a,_,_,_,Z,Z,ar.of ha,ju (j:=3) Z,_,Z,ca,_,_,_,Z,Z,ar.of h0,ju hx,ka,_,_,_,Z,Z,ar.of cu.at',c7,_,Z,na,hv,(canon c.M).map Sum.inr,_,Z,by rw[Jc];exact ar.of cu.nms,ar.of hh,by rw[Ef,Ef,hl],λC n0=>g _ _ ?_]
 clear g
 have G:ae H (ah H C (.dK (aw (canon c.M) is))):=je n0
 have I:ah H C (.dK (aw (canon c.M) is)) C=some (.dK (aw (canon c.M) is)):=jc
 show dJ _ _ _ _ (ah H C (.dK (aw (canon c.M) is)))
 generalize ah H C (.dK (aw (canon c.M) is))=H1 at G I
 have O:GT (aw (canon c.M) is):=zY h1
 generalize aw (canon c.M) is=k at I O q
 have dk:=h3.mono (ae.tm G)
 cases e with
 |ask t T=>
  obtain⟨_,p,xs,rfl,h5,_,_,y0,z0,rfl,⟨rfl,_⟩,_,_,y1,z1,rfl,⟨rfl,_⟩,e⟩:=D
  have e:z1=[]:=e
  subst e
  have b:=G _ _ h5
  refine af λB g=>(jq b c7 #[Z,_,Z,aG Lq (g _ _ ?_)])
  clear g
  refine af λB g=>(jq b c7 #[Z,_,Z,aG Lq (g _ _ ?_)])
  clear g
  refine af λB g=>(jq b c7 #[Z,_,Z,cj Lq (jq b dW #[_,Z,t,C,T,Y,k,Z,.inl dk.1,dk.2.2,dk.2.1,I,O,λH2 S=>#[Z,.inr #[_,Z,bj,λr N=>?_]]])])
  refine q _ _ (jA jc (jh Z jG (jh Z #[?_,Z] jz))) (G.trans (S.trans (je N)))
  by_cases z:T.ev k=0
  ·rw[Er z,z];rfl
  ·rw[Ew z,Er (by simp [z])]
 |st p l=>
  have ed:dv= .ref p:=D.1
  subst ed
  obtain⟨vs,b,J,o,h6⟩:=dk
  cases l with
  |rd x t T=>
   obtain⟨rfl,ht⟩:=J
   refine af λB g=>(jq b c7 #[Z,_,Z,cj Lq #[_,Z,p,_,_,_,Z,Z,ar.of b,ju (j:=2) Z,_,Z,t,C,T,Y,k,Z,.inl ht,o.2.2,o.2.1,I,O,λH2 S=>#[bj,λr N=>?_]]])
   exact q _ _ (jA jc (jh Z jG (jh Z jN jz))) (G.trans (S.trans (je N)))
  |wr t u T U=>
   obtain⟨rfl,ht,hu⟩:=J
   refine af λB g=>(jq b c7 #[Z,_,Z,aG Lq (g _ _ ?_)])
   clear g
   refine af λB g=>(jq b c7 #[Z,_,Z,cj Lq (jq b dW #[_,Z,t,C,T,Y,k,Z,.inl ht,o.1.2,o.1.1,I,O,λH2 S=>#[_,Z,p,_,_,_,Z,Z,ar.of (S _ _ b),ju (j:=2) Z,_,Z,u,C,U,Y,k,Z,.inl (hu.same S),o.2.2,o.2.1,S _ _ I,O,λH3 s3=>#[dY,λr N=>?_]]])])
   exact q _ _ (jA jc (jh Z jG (jh Z jN (jh Z jN jz)))) (G.trans (S.trans (s3.trans (je N))))
  |cl x f' qa R=>
   obtain⟨rfl,hq,h7⟩:=J
   refine af λB g=>(jq b c7 #[Z,_,Z,aG Lq (g _ _ ?_)])
   clear g
   refine af λB g=>(jq b c7 #[Z,_,Z,aG Lq (g _ _ ?_)])
   clear g
   refine af λB g=>(jq b c7 #[Z,_,Z,aG Lq (g _ _ ?_)])
   clear g
   have l6:R.length<=6:=o.2.1
   refine#[_,Z,p,_,_,_,Z,Z,ar.of b,ju (j:=2) Z,_,Z,p,_,_,_,Z,Z,ar.of b,ju (j:=3) Z,qa,Z,#[_,ar.of hq],?_]
   refine zu (K:=K) (xs:=R.map λc=>V.ref c.1) (by rw[Ef];omega) (λi zs Hx=>zs=(R.take i).map (λc=>V.int (c.2.ev k))/\ae H1 Hx) #[Z,ae.refl _] (λi zs Hx h=>?_) (λi x zs Hx hx h=>?_) (λzs Hx h l nl=>?_)
   ·obtain⟨rfl,L⟩:=h
    exact#[ar.of (L _ _ hq),by rw[Ef,ED];omega]
   ·obtain⟨rfl,L⟩:=h
    rw[Eo]at hx
    obtain⟨y,hy,rfl⟩:=Option.map_eq_some_iff.mp hx
    have ym:=EA hy
    refine#[_,Z,_,Z,y.1,C,y.2,Y,k,Z,.inl ((h7 y ym).same L),(o.2.2 y ym).2,(o.2.2 y ym).1,L _ _ I,O,λH2 S=>#[?_,L.trans S]]
    rw[FK,hy,EK]
    rfl
   ·obtain⟨rfl,L⟩:=h
    rw[Ef,Fc]
    refine#[l,_,Z,.inl #[aF.of jc,λtl n1=>#[dY,λr N=>?_]]]
    refine q _ _ (jA jc (jh Z jG (jh Z jG (jh Z (jA (aq jc N) ?_) jz)))) (G.trans (L.trans ((je nl).trans ((je n1).trans (je N)))))
    have:=qy (H:=ah (ah (ah Hx l (.lst (R.map (λc=>V.int (c.2.ev k))))) tl (.tup (R.map (λc=>V.int (c.2.ev k))))) r (.tup [.str "call",.str f',.ref tl])) (is:=R.map λc=>c.2.ev k)
    rw[FS,FS]at this
    exact this
  |st x t T |gv t T=>cases h6
noncomputable abbrev yP:Stmt:=bL 67
theorem lE:am ["_law_part","_law_step","_law_n","_law_held","_law_what","_law_known"] ["_law_part","_law_step"] (aa yP):=bJ
theorem yg(F:aN K "_law_onward" "_law_onward" yP f fd)(cL:Cl P w K mg base 8 fL f0 ["_law_part","_law_way","_law_known"] (ij nA) "_law_led")(mi:mg "int"=none)(m0:mg "dict"=none)(m1:mg "zip"=none):ai P w K mg base aD 9 f fd ["_law_part","_law_step"] (iW nA):=by
 refine F.ok lE ?_ λc0 A o1 s H vs Q E hr h=>?_
 ·rintro _ _ _ _ ⟨v,uw,sa,hv,n,d,ys,c,is,wh,e,wd,rfl,_⟩
  rfl
 obtain⟨v,uw,sa,hv,n,d,ys,c,is,wh,e,wd,rfl,y,q⟩:=h
 refine#[_,(jd (za (pv 1) (zO (n:=3) Z (jD (jy (i:=2) lE.nd Z (Or.inl Z)) (jD (jy (i:=3) lE.nd Z (Or.inl Z)) (jD (jy (i:=4) lE.nd Z (Or.inl Z)) kh))))) (jd (jB 5 lE.nd (@qY _ _ _ _ _ _ _ _ Z m0 Z m1 Z (ja (jw (js jJ (js jJ (pv 0) jf (λ_ _=>Z)) (pv 2) (λ_ _=>Z))) (ja (pv 3) jb)) Ls Ls Ls Ls)) (jd (jx (jV (jw (pv 4))) (jg (zk (kB hr) (pv 5) (js jJ (jw (js jJ (js jJ (pv 0) jf (λ_ _=>Z)) (pv 2) (λ_ _=>Z))) jf (λ_ _=>Z)) (jw (pv 4)) Z)) jp) (jd (jx (jV (jw (pv 4))) (jg (zk (kB hr) (pv 5) (js jJ (jw (js jJ (js jJ (pv 0) jf (λ_ _=>Z)) (pv 2) (λ_ _=>Z))) jf (λ_ _=>Z)) (jw (js jJ (pv 4) jf (λ_ _=>Z))) Z)) jp) (jg (jm (cL.e hr.m (ja (pv 0) (ja (js jJ (jw (js jJ (js jJ (pv 0) jf (λ_ _=>Z)) (pv 2) (λ_ _=>Z))) (jC kQ Z mi HL (ja (j4 (Z9 (kB hr)) (pv 4) (ji (ja jk (ja jf jb))) (aA _)) jb)) (λ_ _=>Z)) (ja (pv 5) jb)))))))))),?_]
 have b0:=aH
 obtain⟨a,Y,p0,cs,rfl,ha,_,B,h5⟩:=y.prt.parts
 obtain⟨ka,na,wa,dv,w0,hx,cu⟩:=y.prt.cut h5 y.cut
 have C:=cu.at'
 have I:=cu.wat
 refine af λV g=>#[_,Z,sa,_,Z,ar.of y.at',Z,_,_,Z,_,_,Z,_,_,Z,Z,g _ _ ?_]
 clear g
 refine af λV g=>#[_,Z,a,_,_,_,Z,Z,ar.of ha,ju (j:=3) Z,_,Z,Y,_,_,_,Z,Z,ar.of B,ju hx,ka,_,_,_,Z,Z,ar.of C,c7,_,Z,na,hv,(canon c.M).map Sum.inr,_,Z,by rw[Jc];exact ar.of cu.nms,ar.of y.hat,by rw[Ef,Ef,y.hl],λD n0=>g _ _ ?_]
 clear g
 have S:ae H (ah H D (.dK (aw (canon c.M) is))):=je n0
 have O:ah H D (.dK (aw (canon c.M) is)) D=some (.dK (aw (canon c.M) is)):=jc
 show dJ (g9 _ _ _) _ _ [some (.ref a),some (.ref sa),some (.int (n:Int)),some (.ref hv),some uw,some (.ref D)] (ah H D (.dK (aw (canon c.M) is)))
 generalize ah H D (.dK (aw (canon c.M) is))=H1 at S O
 have g0:GT (aw (canon c.M) is):=zY y.hin
 have z0:=JZ (ns:=canon c.M) (is:=is)
 have z1:=zW cu.v.mem
 have z2:=y.prt.y20
 unfold Cu at q
 generalize aw (canon c.M) is=R at O g0 z0 q
 have h0:=kL cu.ways
 rw[Ef]at h0
 have G:∃x,w0[wh.side]?=some x/\aP H (ff (wd.wy nA)) x []:=by
  have hj:wh.side < w0.length:=by rw[h0];exact(List.getElem?_eq_some_iff.mp y.way).1
  obtain⟨tr,ht,tx⟩:=qr cu.ways wh.side _ (Ed hj)
  rw[Eo,y.way]at ht
  cases ht
  exact#[_,Ed hj,tx]
 obtain⟨wx,G,t1⟩:=G
 have wk:=y.whv.mono (ae.tm S)
 have dk:=y.dv.mono (ae.tm S)
 have fk:=y.fit
 have d0:=cu.deed
 rw[<- y.ed]at d0
 have l3:=YO (e:=e) (wh:=wh) (k:=R)
 have J:∀(H3 H4:Hp),H3 D=some (.dK (lU e wh R))->ax D H1 H3->ae H3 H4->ij nA [.ref a,wx,.ref D] H4 Q E:=λH3 H4 h3 L s4=>by
  have W:ae H H4:=λc o x=>s4 _ _ (L c o (jo x n0) (S _ _ x))
  exact#[.ref a,wx,D,d,ys,wd,_,Z,y.prt.mono (ae.tm W),t1.mono (ae.tm W),y.wdv.mono (ae.tm W),s4 _ _ h3,Qy y.fit g0,Lo,λu H' tu k=>q u H' tu (W.trans k)]
 have sK:∀H3,ax D H1 H3->ae H H3:=λH3 k c o x=>k c o (jo x n0) (S _ _ x)
 cases e with
 |ask t0 T=>
  cases wh with
  |ask b=>
   obtain⟨p,rfl,r⟩:=wk
   refine af λV g=>(jq r c7 #[Z,_,Z,aG Lq (g _ _ ?_)])
   clear g
   refine af λV g=>(jq r c7 #[Z,_,Z,aG Lq (g _ _ ?_)])
   clear g
   have hb:b=0∨b=1:=fk
   rcases hb with rfl |rfl
   ·exact#[_,Z,_,Z,a,_,_,_,Z,Z,ar.of (S _ _ ha),ju (j:=3) Z,_,Z,Y,_,_,_,Z,Z,ar.of (S _ _ B),ju hx,ka,_,_,_,Z,Z,ar.of (S _ _ C),ju (j:=2) Z,_,Z,bj,λt N=>#[p,t,_,_,Z,Z,ar.of (je N _ _ (r)),ar.of jc,.inl #[Z,Z,.inr #[_,Z,wa,_,_,_,Z,Z,ar.of (je N _ _ (S _ _ I)),(by rw[show ip [.str "ask",.int 0] [.str "ask",.int 0]=true from by decide+kernel];exact ju (j:=1) G),_,Z,J _ _ (O) (λ_ _ _ z=>z) (je N)]]]]
   ·exact#[_,Z,_,Z,a,_,_,_,Z,Z,ar.of (S _ _ ha),ju (j:=3) Z,_,Z,Y,_,_,_,Z,Z,ar.of (S _ _ B),ju hx,ka,_,_,_,Z,Z,ar.of (S _ _ C),ju (j:=2) Z,_,Z,bj,λt N=>#[p,t,_,_,Z,Z,ar.of (je N _ _ (r)),ar.of jc,.inl #[Z,Z,.inr #[_,Z,wa,_,_,_,Z,Z,ar.of (je N _ _ (S _ _ I)),(by rw[show ip [.str "ask",.int 1] [.str "ask",.int 0]=false from by decide+kernel];exact ju (j:=0) G),_,Z,J _ _ (O) (λ_ _ _ z=>z) (je N)]]]]
  |_=>exact fk.elim
 |st p' l=>
  obtain⟨vs,h1,h4,_⟩:=dk
  have ed:dv= .ref p':=d0.1
  subst ed
  cases l with
  |rd x t0 T=>
   cases wh with
   |rd b i=>
    obtain⟨p,rfl,r⟩:=wk
    obtain⟨rfl,_⟩:=h4
    refine af λV g=>(jq r c7 #[Z,_,Z,cj Lq #[_,Z,p,_,_,_,Z,Z,ar.of r,ju (j:=2) Z,_,Z,_,Z,a,_,_,_,Z,Z,ar.of (S _ _ ha),ju (j:=3) Z,_,Z,Y,_,_,_,Z,Z,ar.of (S _ _ B),ju hx,ka,_,_,_,Z,Z,ar.of (S _ _ C),dW,p',_,_,_,Z,Z,ar.of h1,dW,D,_,Z,.inl #[R,.inr x,O,Z,Lo,Z],g _ _ ?_]])
    clear g
    have L:ax D H1 (ah H1 D (.dK (aQ R (.inr x) (.int i)))):=λc o nc z=>by rw[jl nc];exact z
    have X:=sK _ L
    have d3:ah H1 D (.dK (aQ R (.inr x) (.int i))) D=some (.dK (aQ R (.inr x) (.int i))):=jc
    have np:p≠D:=λz=>by rw[z,O]at r;cases r
    refine af λV g=>(jq (L _ _ np r) c7 #[Z,_,Z,aG Lq (g _ _ ?_)])
    clear g
    exact#[_,Z,_,Z,a,_,_,_,Z,Z,ar.of (X _ _ ha),ju (j:=3) Z,_,Z,Y,_,_,_,Z,Z,ar.of (X _ _ B),ju hx,ka,_,_,_,Z,Z,ar.of (X _ _ C),ju (j:=2) Z,_,Z,bj,λt N=>#[p,t,_,_,Z,Z,ar.of (je N _ _ (L _ _ np r)),ar.of jc,.inl #[Z,Z,.inr #[_,Z,wa,_,_,_,Z,Z,ar.of (je N _ _ (X _ _ I)),(by rw[show ip [.str "read",.int b,.int i] [.str "ask",.int 0]=false from Hs _];exact ju (j:=0) G),_,Z,J _ _ (d3) (L) (je N)]]]]
   |_=>exact fk.elim
  |wr t0 u T U=>
   cases wh with
   |wr b i=>
    obtain⟨p,rfl,r⟩:=wk
    refine af λV g=>(jq r c7 #[Z,_,Z,aG Lq (g _ _ ?_)])
    clear g
    refine af λV g=>(jq r c7 #[Z,_,Z,aG Lq (g _ _ ?_)])
    clear g
    exact#[_,Z,_,Z,a,_,_,_,Z,Z,ar.of (S _ _ ha),ju (j:=3) Z,_,Z,Y,_,_,_,Z,Z,ar.of (S _ _ B),ju hx,ka,_,_,_,Z,Z,ar.of (S _ _ C),ju (j:=2) Z,_,Z,bj,λt N=>#[p,t,_,_,Z,Z,ar.of (je N _ _ (r)),ar.of jc,.inl #[Z,Z,.inr #[_,Z,wa,_,_,_,Z,Z,ar.of (je N _ _ (S _ _ I)),(by rw[show ip [.str "write",.int b,.int i] [.str "ask",.int 0]=false from Hs _];exact ju (j:=0) G),_,Z,J _ _ (O) (λ_ _ _ z=>z) (je N)]]]]
   |_=>exact fk.elim
  |cl x f' q' ts=>
   cases wh with
   |cl f2 i0 i=>
    obtain⟨p,c2,g2,e2,rfl,r,h2,h3⟩:=wk
    obtain⟨rfl,_⟩:=h4
    refine af λV g=>(jq r c7 #[Z,_,Z,aG Lq (g _ _ ?_)])
    clear g
    refine af λV g=>(jq r c7 #[Z,_,Z,cj Lq (jq r dW #[c2,_,_,_,Z,Z,ar.of h2,ju (j:=3) Z,_,Z,_,Z,a,_,_,_,Z,Z,ar.of (S _ _ ha),ju (j:=3) Z,_,Z,Y,_,_,_,Z,Z,ar.of (S _ _ B),ju hx,ka,_,_,_,Z,Z,ar.of (S _ _ C),dW,p',_,_,_,Z,Z,ar.of h1,dW,D,_,Z,.inl #[R,.inr x,O,Z,Lo,Z],g _ _ ?_])])
    clear g
    have L:ax D H1 (ah H1 D (.dK (aQ R (.inr x) (.int i)))):=λc o nc z=>by rw[jl nc];exact z
    have X:=sK _ L
    have d3:ah H1 D (.dK (aQ R (.inr x) (.int i))) D=some (.dK (aQ R (.inr x) (.int i))):=jc
    have np:p≠D:=λz=>by rw[z,O]at r;cases r
    have n1:c2≠D:=λz=>by rw[z,O]at h2;cases h2
    exact#[_,Z,_,Z,a,_,_,_,Z,Z,ar.of (X _ _ ha),ju (j:=3) Z,_,Z,Y,_,_,_,Z,Z,ar.of (X _ _ B),ju hx,ka,_,_,_,Z,Z,ar.of (X _ _ C),ju (j:=2) Z,_,Z,bj,λt N=>#[p,t,_,_,Z,Z,ar.of (je N _ _ (L _ _ np r)),ar.of jc,.inr #[_,c2,_,_,_,Z,ar.of (je N _ _ (L _ _ n1 h2)),Z,.inr #[_,Z,wa,_,_,_,Z,Z,ar.of (je N _ _ (X _ _ I)),ju (j:=0) G,_,Z,J _ _ (d3) (L) (je N)]]]]
   |_=>exact fk.elim
  |st x t0 T |gv t0 T=>cases wh<;>exact fk.elim
noncomputable abbrev gB:Stmt:=bL 68
noncomputable def _root_._L.Tr.len:Tr->Nat
 | .cons _ t=>t.len+1
 |_=>0
noncomputable def _root_._L.Tr.Pl:Tr->Prop
 | .lf v=>(∃i,v= .int i)∨∃s,v= .str s
 | .tp l=>l.Pl/\l.len<=1000
 | .nil=>True
 | .cons h t=>h.Pl/\t.Pl
theorem XD:∀{l:Tr} {x:List V},l.isL=true->aP H l .non x->x.length=l.len
 | .nil,x,_,h=>by have e:x=[]:=h;rw[e];rfl
 | .cons h t,x,_,k=>by
  obtain⟨_,E,y,Y,rfl,_,a⟩:=k
  show Y.length+1=t.len+1
  rw[XD E a]
 | .lf _,_,e,_=>Bool.noConfusion e
 | .tp _,_,e,_=>Bool.noConfusion e
theorem sI:∀{l:Tr} {X Y:List V},l.isL=true->l.Pl->aP H l .non X->aP H l .non Y->∀(i:Nat) (x y:V),X[i]?=some x->Y[i]?=some y->∃t:Tr,t.isL=false/\t.Pl/\t.dep<=l.dep/\aP H t x []/\aP H t y []
 | .nil,X,Y,_,_,h,_,i,x,y,c,_=>by have e:X=[]:=h;rw[e]at c;simp at c
 | .cons h t,X,Y,_,p,k,f,i,x,y,c,d=>by
  obtain⟨E,j,a,A,rfl,m,n⟩:=k
  obtain⟨_,_,b,B,rfl,g,G⟩:=f
  cases i with
  |zero=>
   cases c
   cases d
   exact#[h,E,p.1,IP _ _,m,g]
  |succ i=>
   obtain⟨u,q,Q,o,r⟩:=sI j p.2 n G i x y (by simpa using c) (by simpa using d)
   exact#[u,q,Q,Es o (IL _ _),r]
 | .lf _,_,_,e,_,_,_,_,_,_,_,_=>Bool.noConfusion e
 | .tp _,_,_,e,_,_,_,_,_,_,_,_=>Bool.noConfusion e
structure Kt(K:Frag):Prop where
 tt:kitOne K (.type "tuple") (.type "tuple")=some true
 it:kitOne K (.type "int") (.type "tuple")=some false
 il:kitOne K (.type "int") (.type "list")=some false
 ii:kitOne K (.type "int") (.type "int")=some true
 ib:kitOne K (.type "int") (.type "bool")=some false
 st:kitOne K (.type "str") (.type "tuple")=some false
 sl:kitOne K (.type "str") (.type "list")=some false
 si:kitOne K (.type "str") (.type "int")=some false
 ss:kitOne K (.type "str") (.type "str")=some true
theorem wZ{K:Frag}(h:kitOne K t a=some true):kitAny K t [a,b]=some true:=by
 unfold kitAny
 rw[h]
noncomputable def cq(n:Nat):Sp:=λv H Q _=>∃(x y:V) (t:Tr),v=[x,y]/\aP H t x []/\aP H t y []/\t.isL=false/\t.Pl/\t.dep < n/\∀h,ae H h->Q (.bl true) h
theorem vq:am ["_law_one","_law_other"] ["_law_one","_law_other"] (aa gB):=bJ
noncomputable def ZK:Scope:=#[.function,[(".0",.local),("_law_mine",.local),("_law_yours",.local),("_law_alike",.globalImplicit)],false,false,[]]
theorem oZ:(["_law_mine","_law_yours"]:List Str).Nodup:=by decide+kernel
theorem xj:aZ ["_law_one","_law_other"] (aa gB) ZK ["_law_mine","_law_yours"] 2 []:=mO
theorem pj(F:aN K "_law_alike" "_law_alike" gB f U)(cF:Cl P w K mg base (n+1) f U ["_law_one","_law_other"] (cq n) "_law_alike")(W:mg "len"=none)(M:mg "tuple"=none)(j:mg "list"=none)(X:mg "int"=none)(J:mg "bool"=none)(L:mg "str"=none)(m:mg "isinstance"=none)(N:mg "all"=none)(mz:mg "zip"=none)(k:Kt K):ai P w K mg base aD (n+2) f U ["_law_one","_law_other"] (cq (n+1)):=by
 refine F.ok vq ?_ λc0 A O s H vs Q E hr h=>?_
 ·rintro _ _ _ _ ⟨x,y,Y,rfl,_⟩
  rfl
 obtain⟨x,y,Y,rfl,g,C,hL,R,hd,q⟩:=h
 refine#[_,(jd (jx (PW.pt (qj (zz (jF jS Z m FM (ja (pv 0) (ja (kG (v:=.ty "tuple") Z M Ft Z) jb)))) (ql (zz (jF jS Z m FM (ja (pv 0) (ja (kG (v:=.ty "list") Z j boot_list Z) jb))))))) (jd (jx (PW.pt (qj (jE qS (jF jS Z m FM (ja (pv 0) (ja (kG (v:=.ty "tuple") Z M Ft Z) jb))) (jF jS Z m FM (ja (pv 1) (ja (kG (v:=.ty "tuple") Z M Ft Z) jb))) (aA _)) (ql (qm (zz (jF KO Z m FM (ja (pv 1) (ja (ji (ja (kG (v:=.ty "tuple") Z M Ft Z) (ja (kG (v:=.ty "list") Z j boot_list Z) jb))) jb)))))))) (jg (jm (@J3 _ _ _ _))) jp) (jg (jm (qo (j4 zw (jF jH Z W Fd (ja (pv 0) jb)) (jF jH Z W Fd (ja (pv 1) jb)) (aA _)) (Js (jF (oi Z) Z N boot_all (ja (@kJ _ _ _ _ _ _ _ (["_law_mine","_law_yours"]) (2) ([]) _ _ _ _ Z (@yC _ _ _ _ _ _ _ _ _ (false) (false) Z mz boot_zip (ja (pv 0) (ja (pv 1) jb)) Ls Ls) xj (λ_ _ _ _ _=>YH (K:=K) (n:=2) Z Z (jD (jy (i:=0) oZ Z (Or.inl Z)) (jD (jy (i:=1) oZ Z (Or.inl Z)) kh)) Z Z) (λ_ _ _ _ _=>(@zi _)) (λ_ _ _ _ _=>(cF.e hr (ja (pv 0) (ja (pv 1) jb)))) (by intro _;rfl)) jb))))))) jp) (jd (jx (zz (jF jS Z m FM (ja (pv 0) (ja (kG (v:=.ty "int") Z X HL Z) jb)))) (jg (jm (qo (jF jS Z m FM (ja (pv 1) (ja (kG (v:=.ty "int") Z X HL Z) jb))) (qo (yA (jF jS Z m FM (ja (pv 1) (ja (kG (v:=.ty "bool") Z J boot_bool Z) jb)))) (Js (j4 zw (pv 0) (pv 1) (aA _))))))) jp) (jg (jm (qo (jF jS Z m FM (ja (pv 1) (ja (kG (v:=.ty "str") Z L boot_str Z) jb))) (Js (j4 zw (pv 0) (pv 1) (aA _)))))))),?_]
 have b0:=aH
 cases Y with
 |nil |cons h t=>cases hL
 |lf v=>
  obtain⟨rfl,_⟩:=g
  obtain⟨rfl,_⟩:=C
  rcases R with ⟨i,rfl⟩ | ⟨s',rfl⟩
  ·refine af λD c=>#[_,Z,_,_,_,_,_,Z,Z,b8.int _,k.it,_,Z,eQ #[_,Z,_,_,_,_,_,Z,Z,b8.int _,k.il,_,Z,eQ (c _ _ ?_)]]
   clear c
   refine af λD c=>#[_,Z,_,_,_,_,_,Z,Z,b8.int _,k.ii,_,Z,eS #[_,Z,_,_,_,_,_,Z,Z,b8.int _,k.ii,_,Z,eS #[_,Z,_,_,_,_,_,Z,Z,b8.int _,k.ib,_,Z,_,Z,eS #[_,Z,_,Z,Z,?_]]]]
   rw[EN Z]
   exact q _ (ae.refl _)
  ·refine af λD c=>#[_,Z,_,_,_,_,_,Z,Z,b8.str _,k.st,_,Z,eQ #[_,Z,_,_,_,_,_,Z,Z,b8.str _,k.sl,_,Z,eQ (c _ _ ?_)]]
   clear c
   refine af λD c=>#[_,Z,_,_,_,_,_,Z,Z,b8.str _,k.si,_,Z,eQ (c _ _ ?_)]
   clear c
   refine#[_,Z,_,_,_,_,_,Z,Z,b8.str _,k.ss,_,Z,eS #[_,Z,_,Z,Z,?_]]
   rw[EN Z]
   exact q _ (ae.refl _)
 |tp l=>
  obtain⟨T,a,xs,rfl,r,u⟩:=g
  obtain⟨_,b,ys,rfl,z,B⟩:=C
  have lx:=XD T u
  have ly:=XD T B
  have hw:=R.2
  have dp:l.dep+1 < n+1:=hd
  refine af λD c=>#[_,Z,_,_,_,_,_,Z,Z,b8.tup r,k.tt,_,Z,eS (eS ?_)]
  refine af λF2 f2=>#[_,Z,_,_,_,_,_,Z,Z,b8.tup r,k.tt,_,Z,_,_,_,_,_,Z,Z,b8.tup z,k.tt,Z,_,Z,eQ #[_,Z,bj,λt nt=>#[b,t,ys,["tuple","list"],true,Z,aq z nt,jc,wZ k.tt,_,Z,eQ (f2 _ _ ?_)]]]
  clear f2
  have S:ae H (ah H t (.tup [.ty "tuple",.ty "list"])):=je nt
  show gV _ _ _ (ah H t (.tup [.ty "tuple",.ty "list"]))
  generalize ah H t (.tup [.ty "tuple",.ty "list"])=H1 at S
  refine#[_,Z,a,_,Z,.inr (ar.of (S _ _ r)),_,Z,b,_,Z,.inr (ar.of (S _ _ z)),Z,_,Z,?_]
  rw[EN (show V.int (xs.length:Int)=V.int (ys.length:Int) by rw[lx,ly])]
  refine eS #[_,Z,_,Z,a,b,Z,#[_,ar.of (S _ _ r)],#[_,ar.of (S _ _ z)],?_]
  refine Zt (K:=K) (xs:=xs) (ys:=ys) Lo Lo (λi G I=>G=(List.replicate i true).map V.bl/\ae H1 I) #[Z,ae.refl _] (λi G I h=>?_) (λi x y G I p g C h np=>?_) (λG I h l nl=>?_)
  ·obtain⟨rfl,d⟩:=h
   exact#[ar.of (d _ _ (S _ _ r)),ar.of (d _ _ (S _ _ z)),by rw[Ef,Hk];exact Eh _]
  ·obtain⟨rfl,d⟩:=h
   have s2:=(S.trans d).trans (je (o:=.tup [x,y]) np)
   obtain⟨t',q1,q2,q3,q4,q5⟩:=sI T R.1 u B i x y g C
   exact#[_,Z,_,Z,x,y,t',Z,q4.mono (ae.tm s2),q5.mono (ae.tm s2),q1,q2,Lo,λH3 s3=>#[by rw[List.replicate_succ',EK];rfl,(d.trans (je np)).trans s3]]
  ·obtain⟨rfl,d⟩:=h
   refine#[l,List.replicate xs.length true,Z,aF.of jc,?_]
   have e1:(List.replicate xs.length true).all id=true:=List.all_eq_true.mpr λx g=>(List.mem_replicate.mp g).2
   rw[e1]
   exact q _ (S.trans (d.trans (je nl)))
theorem pf:ai P w K mg base aD 1 f c ["_law_one","_law_other"] (cq 0):=by
 have n:∀v H Q E,¬cq 0 v H Q E:=λv H Q E h=>by
  obtain⟨x,y,t,_,_,_,_,_,b,_⟩:=h
  exact absurd b (Gy _)
 exact#[λv H Q E h=>absurd h (n v H Q E),λA o s H a u v Q E _ _ _ _ h=>absurd h (n v H Q E)]
theorem oh(F:aN K "_law_alike" "_law_alike" gB f e)(B:aC K e ["_law_one","_law_other"] [])(g:mg "_law_alike"=some (.ref f))(h:mg "len"=none)(m:mg "tuple"=none)(M:mg "list"=none)(i:mg "int"=none)(a:mg "bool"=none)(b:mg "str"=none)(c:mg "isinstance"=none)(d:mg "all"=none)(j:mg "zip"=none)(k:Kt K):
  ∀n:Nat,ai P w K mg base aD (n+1) f e ["_law_one","_law_other"] (cq n)
 |0=>pf
 |n+1=>pj F #[(oh F B g h m M i a b c d j k n),B,F.kp,g] h m M i a b c d j k
noncomputable abbrev rF:Stmt:=bL 69
noncomputable def mv:Sk->Tr
 | .nil=>.nil
 | .st n h w r=>.cons (aK [aI n,aK (h.map aI),mv w]) (mv r)
 | .ask b=>aK [a7 "ask",aI b]
 | .rd c i=>aK [a7 "read",aI c,aI i]
 | .wr c i=>aK [a7 "write",aI c,aI i]
 | .cl f I s a=>aK [a7 "call",aK [a7 f,aK (I.map aI),.tp (mv s),aI a]]
theorem Yl:∀{b:Bool} {s:Sk},s.ok b->(mv s).isL=b
 |true,.nil,_=>rfl
 |true,.st _ _ _ _,_=>rfl
 |false,.cl _ _ _ _,_=>rfl
 |false,.ask _,_=>rfl
 |false,.rd _ _,_=>rfl
 |false,.wr _ _,_=>rfl
theorem zZ{H:Hp}{a:List Int}(e:H h=some (.tup (a.map V.int))):aP H (aK (a.map aI)) (.ref h) []:=jA e qy
theorem Ym:∀{b:Bool} {s:Sk} {u:V} {X:List V},s.ok b->hG H s u X->(b=false->X=[])->(b=true->u= .non)->aP H (mv s) u X
 |true,.nil,_,_,_,h,_,_=>h
 |true,.st n t w r,_,_,o,q,_,z=>by
  obtain⟨p,h,u,y,e,d,j,k,l⟩:=q
  rw[e,z Z]
  exact#[Z,Yl o.2,_,_,Z,jA d (jh Z jN (jh Z (zZ j) (jh (Yl o.1) (Ym o.1 k (λ_=>Z) (λx=>nomatch x)) jz))),Ym o.2 l (λx=>nomatch x) (λ_=>Z)]
 |false,.ask b,_,_,_,q,z,_=>by obtain⟨p,e,h⟩:=q;rw[e,z Z];exact jA h (jh Z jG (jh Z jN jz))
 |false,.rd c i,_,_,_,q,z,_=>by obtain⟨p,e,h⟩:=q;rw[e,z Z];exact jA h (jh Z jG (jh Z jN (jh Z jN jz)))
 |false,.wr c i,_,_,_,q,z,_=>by obtain⟨p,e,h⟩:=q;rw[e,z Z];exact jA h (jh Z jG (jh Z jN (jh Z jN jz)))
 |false,.cl f I s a,_,_,o,q,z,_=>by
  obtain⟨p,c,g,e,S,E,d,j,k,l,m⟩:=q
  rw[E,z Z]
  exact jA d (jh Z jG (jh Z (jA j (jh Z jG (jh Z (zZ k) (jh Z #[Yl o,e,S,Z,l,Ym (b:=true) o m (λx=>nomatch x) (λ_=>Z)] (jh Z jN jz))))) jz))
theorem zJ:∀i:List Int,(aE (i.map aI)).dep=0
 | []=>rfl
 |_::i=>by show max 0 (aE (i.map aI)).dep=0;rw[zJ i];rfl
theorem QA:∀{b:Bool} {s:Sk},s.ok b->(mv s).dep<=4*s.dep+(if b=true then 2 else 1)
 |true,.nil,_=>Eu _
 |true,.st n H w r,o=>by
  have h:=QA (b:=false) (s:=w) o.1
  have c:=QA (b:=true) (s:=r) o.2
  have d:=zJ H
  have h:(mv w).dep<=4*w.dep+1:=h
  have c:(mv r).dep<=4*r.dep+2:=c
  show max (max 0 (max ((aE (H.map aI)).dep+1) (max (mv w).dep 0))+1) (mv r).dep<=4*max w.dep r.dep+2
  omega
 |false,.ask _,_=>Eh 1
 |false,.rd _ _,_=>Eh 1
 |false,.wr _ _,_=>Eh 1
 |false,.cl f i s a,o=>by
  have h:=QA (b:=true) (s:=s) o
  have d:=zJ i
  have h:(mv s).dep<=4*s.dep+2:=h
  show max 0 (max (max 0 (max ((aE (i.map aI)).dep+1) (max ((mv s).dep+1) (max 0 0)))+1) 0)+1<=4*(s.dep+1)+1
  omega
noncomputable def Cq(f:Str)(i:List Int)(s:Sk)(a:Int):Tr:=aE [a7 f,aK (i.map aI),.tp (mv s),aI a]
theorem Yn(h:tF H f i s a u)(o:s.ok true):aP H (.tp (Cq f i s a)) u []:=by
 obtain⟨c,g,e,S,rfl,d,j,k,l⟩:=h
 exact jA d (jh Z jG (jh Z (zZ j) (jh Z #[Yl o,e,S,Z,k,Ym (b:=true) o l (λx=>nomatch x) (λ_=>Z)] (jh Z jN jz))))
theorem om{s:Sk}(o:s.ok true)(d:s.dep<=15):(Cq f i s a).dep < 100:=by
 have h:=QA (b:=true) (s:=s) o
 have H:=zJ i
 have h:(mv s).dep<=4*s.dep+2:=h
 show max 0 (max ((aE (i.map aI)).dep+1) (max ((mv s).dep+1) (max 0 0))) < 100
 omega
theorem YW:∀I:List Int,(aE (I.map aI)).Pl
 | []=>EE
 |i::I=>#[.inl #[i,Z],YW I]
theorem YX:∀i:List Int,(aE (i.map aI)).len=i.length
 | []=>rfl
 |_::i=>FE (·+1) (YX i)
theorem QH{i:List Int}(h:i.length<=1000):(aK (i.map aI)).Pl:=#[YW i,by rw[YX];exact h]
theorem qN:(aI i).Pl:=.inl #[i,Z]
theorem qO:(a7 x).Pl:=.inr #[x,Z]
theorem yx{p:List Str}{v:V}(h:i' H N d y v)(g:H d.pa=some (.tup (p.map V.str))):∃q,tM H N d y q:=by
 obtain⟨W,E,i⟩:=h.way
 obtain⟨a,J,L,O,rfl,Q,m,r,j⟩:=h.parts
 obtain⟨C,s,t⟩:=tO (R:=λc u=>Ar H y N d c u) (bh N d) λc k=>by
  obtain⟨n,x,z⟩:=List.mem_iff_getElem.mp k
  obtain⟨S,T,U,X,A,_,o⟩:=h.cut j (n:=n) (c:=c) (by rw[<- z];exact Ed x)
  obtain⟨e,B,D,F⟩:=AS o.v.deed
  obtain⟨G,I,l⟩:=tO (R:=λ(w:Wy) (W:WD)=>W.wy N=w/\oe H y d.b.cuts d.b.size W) c.ws λw m=>o.v.ways w m
  exact#[#[canon c.M,e,G],Z,B,D,F,I,l]
 exact#[#[d.f,p,W,C],Z,g,E,i,s,t]
theorem Bt{H:Hp}{D:List Df}(a:H l=some (.tup x))(T:aP H (aE (D.map (eh n))) .non x)(g:∃z,cf H D z)(o:nY D N)(j:lg H D N):∃p,Ps H n l D N x p:=by
 have L:=kL T
 rw[Ef]at L
 obtain⟨p,m,q⟩:=tO (R:=λd c=>∃y,(d.b.Ok y/\y.length<=20)/\tM H n d y c) D λd e=>by
  obtain⟨i,r,E⟩:=List.mem_iff_getElem.mp e
  have h:D[i]?=some d:=by rw[<- E];exact Ed r
  have s:x[i]?=some (x[i]'Lo):=Ed _
  obtain⟨t,k,u⟩:=qr T i _ s
  rw[Eo,h]at k
  cases k
  obtain⟨z,A⟩:=g
  obtain⟨⟨y,Y,o⟩,_,S⟩:=(o.1 d e).1
  obtain⟨C,f,_⟩:=j.v d e
  obtain⟨c,B⟩:=yx (v:=x[i]'Lo) #[u,ZS A h,o,Y,S] f
  exact#[c,y,#[o,Y],B]
 exact#[p,a,T,g,o,j,m,q]
theorem Xe{call:nJ}(h:j' call C p m (.give b) L t= .ok r a l T):r= .nil/\a=b/\l=L:=by
 cases m with
 |zero=>cases h
 |succ m=>cases h;exact#[Z,Z,Z]
theorem oO{call:nJ}(h:j' call C p m (.go n H) L t= .ok d a g i):∃c w l T r M,p.cs[n]?=some c/\gY call C (aw c.nm H) L t c.e= .ok w l T/\d= .st (n:Int) H w r/\j' call C p M (wB p c H w.wh) l T= .ok r a g i:=by
 cases m with
 |zero=>cases h
 |succ m=>
  unfold j' at h
  cases e:p.cs[n]? with
  |none=>rw[e]at h;cases h
  |some c=>
   rw[e]at h
   dsimp only at h
   cases E:gY call C (aw c.nm H) L t c.e with
   |long |deep=>rw[E]at h;cases h
   |ok w l T=>
    rw[E]at h
    dsimp only at h
    cases f:j' call C p m (wB p c H w.wh) l T with
    |long |deep=>rw[f]at h;cases h
    |ok r b _L j=>rw[f]at h;cases h;exact#[c,w,l,T,r,m,Z,E,Z,f]
theorem AT{call:nJ}{w:Sk}(h:gY call C k L t e= .ok w l T):t < 60:=by
 by_cases z:t < 60
 ·exact z
 ·rw[YT z]at h;cases h
noncomputable def wT(L C K:a6):Prop:=∀c:Int,look K (.inl c) 0=look L (.inl c) (look C (.inl c) 0)
theorem ww(a:a6)(k j:bo)(i z:Int):look (aQ a k (.int i)) j z=if j=k then i else look a j z:=by
 unfold look
 rw[sP]
 by_cases e:j=k
 ·rw[Er e,Er e]
 ·rw[Ew e,Ew e]
theorem wT.put{K:a6}(h:wT L C K)(c i:Int):wT (aQ L (.inl c) (.int i)) C (aQ K (.inl c) (.int i)):=λa=>by rw[ww,ww,h]
noncomputable def gR(N:Addr)(j:Nat):Sp:=λv H Q _=>∃(e h:Addr) (i t T:Nat) (k L C l:a6) (d:Df) (D:List Df) (n:List Nat) (x:List V) (p:List fg) (I:List Int) (s:Sk) (a:Int) (u:V),v=[.ref e,u,.ref h]/\Ps H N e D n x p/\x.length<=1000/\D[i]?=some d/\n[i]?=some I.length/\(∀z∈I,d9 z)/\tF H d.f I s a u/\s.ok true/\H h=some (.dK k)/\GT k/\k.length+s.size<=1000/\wT L C k/\bG p C j d.f I L t= .ok s a l T/\
 ∀(b:a6) (c:Hp),c h=some (.dK b)->GT b->b.length<=k.length+s.size->wT l C b->d9 a->ax h H c->Q (.bl true) c
inductive DI(call:nJ)(pd:fg)(nA pA hA c:Addr)(v:V)(d:Df)(ss:List V)(Cs L':a6)(t' N:Nat)(a:Int)(H:Hp)(i:Nat)(σ:_L.St)(H':Hp):Prop
 |mk (o5 o6 o7:Option V) (at':V) (g:Gd) (m tr:Nat) (rest:Sk) (Lr K:a6) (e0:σ=[some (.ref pA),some (.ref c),some (.ref hA),some v,some at',o5,o6,o7]) (e1:Av H' nA d at' g) (e2:j' call Cs pd m g Lr tr= .ok rest a L' t') (e3:hG H' rest .non (ss.drop i)) (e4:rest.ok true) (e5:H' hA=some (.dK K)) (e6:GT K) (e7:K.length+rest.size<=N) (e8:wT Lr Cs K) (e9:ax hA H H'):DI call pd nA pA hA c v d ss Cs L' t' N a H i σ H'
theorem ZL{K:Frag}{a:Addr}{X:List V}{I:Nat}{v:V}{t:TT}{T:TE}{q:List V->Hp->Prop}{b:_L.St}{H:Hp}(d:ar K H a X)(D:X.length<=1000)(l:X[I]?=some v)
  (p:∀i x (Q:Bool->Hp->Prop),X[i]?=some x->Q (decide (i=I)) H->t (some x::b) H Q)
  (r:∀x (Q:VK),Q x H->T (some x::b) H Q) (s:q [v] H):dM (sW K a) 1 b (a8 0) t T q H:=by
 have B:=zf
 have u:I < X.length:=(List.getElem?_eq_some_iff.mp l).1
 refine#[λi m n f=>m=X.length - i/\i<=X.length/\n=(if i<=I then [] else [v])/\f=H,#[X.length,Lp,Eu _,by rw[Er (Eu _)],Z],?_]
 rintro i m n f ⟨rfl,E,rfl,rfl⟩
 by_cases h:i < X.length
 ·refine .inr #[#[X,X[i],d,Ed h],by split<;>simp<;>omega,λc g=>c=(if i+1<=I then [] else [v])/\g=f,λc g #[A,C]=>#[X.length - (i+1),Lo,Z,h,A,C],λw g F j y=>?_]
  obtain⟨e,y⟩:=y
  subst e
  have k:=y X d
  obtain⟨_,rfl⟩:=oW j
  refine#[#[[some _],Z,Z],p i w _ k ?_]
  by_cases z:i=I
  ·subst z
   rw[l]at k
   cases k
   refine cj (EN Z) (r _ _ #[?_,Z])
   rw[Er (Eh _),Ew Lo]
   rfl
  ·refine aG (EH z) #[?_,Z]
   by_cases o:i<=I
   ·rw[Er o,Er Lo]
   ·rw[Ew o,Ew Lo]
 ·have e:i=X.length:=by omega
  subst e
  refine .inl #[#[X,d,Eh _],?_]
  rw[Ew Lo]
  exact s
theorem Cp{w:V}:dC (v::u::w::y) 2=some w:=ju (j:=2) Z
theorem DR{w:V}:dC (v::u::w::z::y) 3=some z:=ju (j:=3) Z
theorem tX{X:List V}{i:Nat}{x:V}(h:X[i]?=some x):X.drop i=x::X.drop (i+1):=by
 obtain⟨H,e⟩:=List.getElem?_eq_some_iff.mp h
 rw[<- e,HQ]
theorem fX:am ["_law_parts","_law_chain","_law_holds","_law_part","_law_at","_law_step","_law_deed_here","_law_what"] ["_law_parts","_law_chain","_law_holds"] (aa rF):=bJ
noncomputable def ZM:Scope:=#[.function,[(".0",.local),("_law_one",.local),("_law_chain",.free)],false,false,[]]
theorem xR:(["_law_one","_law_chain"]:List Str).Nodup:=by decide+kernel
theorem xo:aZ ["_law_parts","_law_chain","_law_holds","_law_part","_law_at","_law_step","_law_deed_here","_law_what"] (aa rF) ZM ["_law_one","_law_chain"] 1 [1]:=mO
theorem yn(F:aN K "_law_walked" "_law_walked" rF f fd)(cL:Cl P w K mg base 8 fL j2 ["_law_part","_law_way","_law_known"] (ij nA) "_law_led")(cD:Cl P w K mg base 8 fD k0 ["_law_part","_law_n","_law_held"] (di nA) "_law_deed")(cO:Cl P w K mg base 9 fO k5 ["_law_part","_law_step"] (iW nA) "_law_onward")(cK:Cl P w K mg base 5 fK k6 ["_law_one","_law_other"] (cq 4) "_law_alike")(cS:Cl P w K mg base (j+10) fS k7 ["_law_parts","_law_chain","_law_holds"] (gR nA j) "_law_walked")(ml:mg "len"=none)(m0:mg "dict"=none)(m1:mg "zip"=none)(m2:mg "tuple"=none)(m3:mg "isinstance"=none)(kt:Kt K):ai P w K mg base aD (j+11) f fd ["_law_parts","_law_chain","_law_holds"] (gR nA (j+1)):=by
 refine F.ok fX ?_ λk8 A o4 s H vs Q E hr h=>?_
 ·rintro _ _ _ _ ⟨pA,Y,i,t,t',K0,L,X,L',d,ds,ns,xs,S,is,s,a,u,rfl,_⟩
  rfl
 obtain⟨pA,Y,i,t,t',K0,L,X,L',d,ds,ns,xs,S,is,s,a,u,rfl,hP,b7,hd,hn,c',hc,d1,a1,gK,j1,r6,b9,q⟩:=h
 refine#[_,(jd (jB 3 fX.nd (js jr (@kJ _ _ _ _ _ _ _ (["_law_one","_law_chain"]) (1) ([1]) _ _ _ _ Z (zb (pv 0)) xo (λ_ _ _ _ _=>(jy (i:=0) xR Z (Or.inl Z))) (λ_ _ _ _ _=>(@Z1 _ _ _ (jE zw (js (r:=eu K) jJ (pv 0) jf (λ_ _=>Z)) (js (r:=eu K) jJ (pv 1) jf (λ_ _=>Z)) (aA _)))) (λ_ _ _ _ _=>(pv 0)) (by intro _;rfl)) jf (λ_ _=>Z))) (jd (jB 4 fX.nd (cL.e hr.m (ja (pv 3) (ja (jw (pv 3)) (ja (@qY _ _ _ _ _ _ _ _ Z m0 Z m1 Z (ja (jw (pv 3)) (ja (jw (pv 1)) jb)) Ls Ls Ls Ls) jb))))) (jd (kO EZ Z (zb (jw (pv 1))) (jy (i:=5) fX.nd Z (Or.inl Z)) (jd (jx (PW.pt (qj (qm (zz (cK.e hr.m (ja (jv ki (ji (ja jk jb)) (jO zd (pv 5) j5 (jK jf))) (ja (pv 4) jb))))) (ql (jE qS (jF jH Z ml Fd (ja (pv 5) jb)) jf (aA _))))) (jg (jm (@J3 _ _ _ _))) jp) (jd (jB 6 fX.nd (cD.e hr.m (ja (pv 3) (ja (jw (pv 5)) (ja (jw (pv 5)) jb))))) (jd (jB 7 fX.nd (jw (pv 5))) (jd (jx (jV (jw (pv 6))) (jg (jB 6 fX.nd (jv ki (pv 6) (ji (ja (@zR _ _ _ _ _ _ _ _ _ (kB hr) (pv 2) (jw (pv 6)) jf #[Ls,Ls,Ls,Ls]) jb))))) jp) (jd (jx (jV (jw (pv 6))) (jg (zk (kB hr) (pv 2) (jw (pv 6)) (jw (pv 6)) Z)) jp) (jd (jx (jV (jw (pv 6))) (jd (jx (PW.pt (qj (jE qS (jw (pv 7)) jk (aA _)) (qj (jE qS (jF jH Z ml Fd (ja (pv 7) jb)) jf (aA _)) (qj (qm (zz (cK.e hr.m (ja (jO zd (pv 6) (jK jf) j5) (ja (jO zd (jw (pv 7)) j5 (jK jf)) jb))))) (ql (jE qS (jF jH Z ml Fd (ja (jw (pv 7)) jb)) jf (aA _))))))) (jg (jm (@J3 _ _ _ _))) jp) (jg (jx (qm (zz (cS.e hr.m (ja (pv 0) (ja (jw (pv 7)) (ja (pv 2) jb)))))) (jg (jm (@J3 _ _ _ _))) jp))) (jg (jx (qm (zz (cK.e hr.m (ja (pv 6) (ja (pv 7) jb))))) (jg (jm (@J3 _ _ _ _))) jp))) (jg (jB 4 fX.nd (cO.e hr.m (ja (pv 3) (ja (pv 5) jb)))))))))))) (jg (jm (qo (cK.e hr.m (ja (pv 4) (ja (ji (ja jk (ja (jw (pv 1)) jb))) jb))) (Js (jF jS Z m3 FM (ja (jw (pv 1)) (ja (kG (v:=.ty "tuple") Z m2 Ft Z) jb)))))))))),?_]
 have k9:=aH
 obtain⟨c,g,e,ss,rfl,h1,h2,h3,h4⟩:=id hc
 obtain⟨v,hv,tv,k',l1⟩:=hP.at hd
 obtain⟨ys,N,b2,l2,pr,d3⟩:=hP.part hd hv
 obtain⟨ps,b',d4,d5⟩:=hP.pa.2 i d _ hd hn
 have e9:ps=N.ps:=by
  have z:=b'.symm.trans pr.ps
  injection z with z
  injection z with z
  exact(List.map_inj_right λa b e=>by injection e).mp z
 subst e9
 have e6:j' (bG S X j) X N 62 (gf (nQ N) (bM N.way.sets (aw N.ps is)) N.way.goal) L t= .ok s a L' t':=by
  have z:(match gg S d.f with |none=>OC.long |some N=>j' (bG S X j) X N 62 (gf (nQ N) (bM N.way.sets (aw N.ps is)) N.way.goal) L t)= .ok s a L' t':=b9
  rw[d3]at z
  exact z
 have n1:∀(k:Nat) (x:V),xs[k]?=some x->∃g,wR H x g/\(g=d.f↔k=i):=λk x hx=>by
  have lx:=kL hP.tr
  rw[Ef]at lx
  have hk:k < ds.length:=by rw[<- lx];exact(List.getElem?_eq_some_iff.mp hx).1
  obtain⟨v',a3,_,c2,_⟩:=hP.at (Ed hk)
  rw[hx]at a3
  cases a3
  refine#[_,c2,λe=>?_,λe=>?_]
  ·have q1:(ds.map Df.f)[k]?=some d.f:=by rw[Eo,Ed hk,<- e];rfl
   have q2:(ds.map Df.f)[i]?=some d.f:=by rw[Eo,hd];rfl
   exact(IF (by rw[Ef];exact hk) hP.ok.2.1).mp (q1.trans q2.symm)
  ·subst e
   rw[Ed hk]at hd
   exact FE Df.f (EU hd)
 refine af λW C=>#[_,Z,pA,Z,#[_,ar.of hP.at'],ZL (ar.of hP.at') b7 hv (λk x Q' hx hq=>?_) (λx Q' hq=>#[_,Z,hq]) λl nl=>?_]
 ·obtain⟨g',⟨p',r',rfl,d6⟩,i0⟩:=n1 k x hx
  refine(jq d6 c7 (jq h1 c7 #[Z,_,Z,?_]))
  by_cases z:k=i
  ·rw[EN z]at hq
   rw[i0.mpr z,EN Z]
   exact hq
  ·rw[EH z]at hq
   rw[EH λe=>z (i0.mp (by injection e))]
   exact hq
 have s1:ae H (ah H l (.lst [v])):=je nl
 refine#[l,_,_,_,Z,Z,aF.of jc,c7,C _ _ ?_]
 clear C
 generalize ah H l (.lst [v])=H1 at s1 ⊢
 have t7:=ae.tm s1
 obtain⟨pa,ca,wv,cs,ev,b3,hw,d7,c4⟩:=(b2.mono t7).parts
 rw[<- pr.wy]at hw
 refine af λW C=>#[_,Z,_,Z,pa,_,_,_,ev,Z,ar.of b3,Cp,_,Z,pa,_,_,_,ev,Z,ar.of b3,dW,jq (s1 _ _ h1) dW #[d.pa,g,N.ps.map Sum.inr,_,Z,by rw[Jc];exact ar.of (s1 _ _ b'),ar.of (s1 _ _ h2),by rw[Ef,Ef,d4],λdl n2=>?_]]
 have s2:ae H1 (ah H1 dl (.dK (aw N.ps is))):=je n2
 have zl:=JZ (ns:=N.ps) (is:=is)
 have gz:GT (aw N.ps is):=zY c'
 have d2:ah H1 dl (.dK (aw N.ps is)) dl=some (.dK (aw N.ps is)):=jc
 have S2:=s1.trans s2
 have t4:=ae.tm S2
 refine#[v,wv,dl,d,ys,N.way,aw N.ps is,Z,b2.mono t4,hw.mono (ae.tm s2),pr.wv.mono t4,d2,gz,Lo,λd8 H3 d' s3=>C _ _ ?_]
 clear C
 have S3:=S2.trans s3
 have g0:=Qz (H:=H) d' (zp pr.wv.sets gz) pr.wv.goal
 rw[pr.nms]at g0
 refine af λW C=>eO λJ jj=>(jq (S3 _ _ h1) Cp #[e,Z,#[_,ar.of (S3 _ _ h3)],jj _ _ ?_])
 clear jj
 have e7:e≠Y:=jQ h3 a1 (by intro z;cases z)
 refine qu (K:=K) (a:=e) (xs:=ss) (DI (bG S X j) N nA pA Y c v d ss X L' t' (K0.length+s.size) a H) #[none,none,none,d8,_,62,t,s,L,K0,Z,g0,e6,h4.mono (ae.tm S3),d1,S3 _ _ a1,gK,Eh _,r6,ax.of_same S3] (λk σ H' _ h=>?_) ?_ (λσ H' h=>C _ _ ?_)
 ·obtain⟨_,_,_,_,_,_,_,_,_,_,_,_,_,_,_,_,_,_,_,b⟩:=h
  exact ar.of (b _ _ e7 h3)
 ·intro E rt k x σ H4 e' fE Gq kq h
  clear C
  obtain⟨o5,o6,o7,c5,gd,m,tr,r0,Lr,K4,rfl,w1,w2,w3,w4,w5,w6,w7,w8,b4⟩:=h
  refine kq ?_
  clear kq
  show dJ (g9 _ _ _) (dJ _ _) E [some (.ref pA),some (.ref c),some (.ref Y),some v,some c5,some x,o6,o7] H4
  have t3:aj H H4:=λb ys e=>b4 _ _ (jQ e a1 (by intro z;cases z)) e
  rw[tX e']at w3
  cases w1 with
  |give p b ee h5 ib=>
   obtain⟨er,_,_⟩:=Xe w2
   rw[er]at w3
   have w3:_::_=[]:=w3
   cases w3
  |go p a3 n D B ee h5 h6 h7 hl hi=>
   subst ee
   obtain⟨cd,w,L1,t1,r,m',f0,G,er,f3⟩:=oO w2
   subst er
   obtain⟨p',h',u',y3,ex,k1,k2,k3,k4⟩:=w3
   injection ex with ex ey
   subst ex
   subst ey
   have cr:=(pr.cs n D cd h7 f0).mono t3
   obtain⟨f4,ed,c1⟩:=cd
   obtain⟨e0,e4,d0,e5,Am,f5⟩:=cr
   have e0:f4=canon D.M:=e0
   subst e0
   have P0:=b2.mono t3
   have P4:=hP.mono t3
   obtain⟨pa,ca,wv,cs,ev,b3,hw,d7,c4⟩:=P0.parts
   obtain⟨ka,na,wa,dv,w9,hx,cu⟩:=P0.cut c4 h7
   have G:gY (bG S X j) X (aw (canon D.M) B) Lr tr ed= .ok w L1 t1:=G
   have l0:=AT G
   have gk:GT (aw (canon D.M) B):=zY hi
   have b5:B.length<=1000:=by
    have:=P0.y20
    have:=zW cu.v.mem
    omega
   refine af λW C=>#[mM,λq1 n0=>#[_,Z,_,Z,p',_,Z,aq k1 n0,λq2 H5 a4 s5=>?_]]
   have a4:H5 q2=some (.tup [.int (n:Int),.ref h']):=a4
   have s4:ae H4 H5:=(je n0).trans s5
   refine#[q1,q2,_,_,Z,Z,s5 _ _ jc,a4,dY,λq3 H6 a' s6=>?_]
   have a':H6 q3=some (.tup [.str "go",.int (n:Int),.ref h']):=a'
   have s0:=s4.trans s6
   refine#[_,Z,.ref q3,.ref p,DU (.go n B),Z,jA a' (jh Z jG (jh Z jN (jh Z (zZ (s0 _ _ k2)) jz))),jA (s0 _ _ h5) (jh Z jG (jh Z jN (jh Z (zZ (s0 _ _ h6)) jz))),Z,#[#[qO,qN,QH b5,EE],FN Z],by show max 0 (max 0 (max ((aE (B.map aI)).dep+1) 0))+1 < 4;rw[zJ];decide,λH7 s7=>#[_,Z,eQ #[_,Z,p',_,Z,.inr (ar.of (s7 _ _ (s0 _ _ k1))),Z,_,Z,aG Lp (C _ _ ?_)]]]
   clear C
   have S7:=s0.trans s7
   generalize H7=H8 at S7
   clear a' a4
   have t5:=ae.tm S7
   refine af λW C=>#[_,Z,jq (S7 _ _ k1) c7 (jq (S7 _ _ k1) dW #[v,n,h',d,ys,D,B,ed,Z,P0.mono t5,h7,S7 _ _ k2,hl,hi,e4,d0.mono t5,λud H9 b0 s9=>C _ _ ?_])]
   clear C
   have S9:=S7.trans s9
   refine af λW C=>(jq (S9 _ _ k1) Cp (C _ _ ?_))
   clear C
   have t8:=ae.tm S9
   have kw:=k3.mono t8
   have I:=S9 _ _ w5
   have o1:∀(K5:a6) (HX:Hp) (u0:V),ax Y H4 HX->HX Y=some (.dK K5)->GT K5->K5.length+r.size<=K0.length+s.size->wT L1 X K5->At ed w.wh->w.ok false->dA (dB (iW nA) [] E0 (al (aW 3) (al (aW 5) aL))) (a8 4) E [some (.ref pA),some (.ref c),some (.ref Y),some v,some (.ref p),some (.ref p'),some u0,some u'] HX:=λK5 HX u0 bX hX gX lX rX ft o3=>by
    have t0:aj H4 HX:=λb ys e=>bX _ _ (jQ e w5 (by intro z;cases z)) e
    have h0:w.wh.side < D.ws.length:=by
     rw[cu.v.len,<- e4]
     cases ed with
     |ask ta T=>show _ < 2;unfold Wh.side;split<;>(try split)<;>omega
     |st p0 l=>
      show _ < 1
      cases w<;>first |exact Nat.one_pos |exact o3.elim | (cases l<;>exact ft.elim)
    obtain⟨w0,b1⟩:∃w0,c1[w.wh.side]?=some w0:=#[_,Ed (by rw[Am];exact h0)]
    obtain⟨e8,c6⟩:=f5 _ _ w0 (Ed h0) b1
    have sv:hV HX nA d ys v p' n h' u' D B w.wh ed w0:=#[P0.mono t0,t0 _ _ k1,h7,t0 _ _ k2,hl,hi,(B0 o3 k3).mono t0,e4,d0.mono t0,ft,by rw[e8];exact Ed h0,c6.mono t0]
    refine#[_,Z,_,Z,v,u',p',h',n,d,ys,D,B,w.wh,ed,w0,Z,sv,λu2 HY f6 sY=>fE _ _ ?_]
    have g2:=Qz (H:=HX) f6 (zp sv.wdv.sets (Qy ft gk)) sv.wdv.goal
    have f7:wB N #[canon D.M,ed,c1] B w.wh=gf (nQ N) (bM w0.sets (lU ed w.wh (aw (canon D.M) B))) w0.goal:=by
     show(match c1[w.wh.side]? with |some wd=>gf (nQ N) (bM wd.sets (lU ed w.wh (aw (canon D.M) B))) wd.goal |none=>Gd.give 0)=_
     rw[b1]
    rw[pr.nms,<- f7]at g2
    exact#[_,_,_,u2,_,m',t1,r,L1,K5,Z,g2,f3,k4.mono (t0.trans (ae.tm sY)),w4.2,sY _ _ hX,gX,lX,rX,(b4.trans bX).trans (ax.of_same sY)]
   have s':w.size+r.size+1=(Sk.st (n:Int) B w r).size:=rfl
   cases ed with
   |ask ta T=>
    rw[oF l0]at G
    cases G
    obtain⟨p2,rfl,O⟩:=Jx b0
    obtain⟨p3,rfl,g3⟩:=kw
    refine af λW C=>(jq O Z #[Z,_,Z,aG Lq (C _ _ ?_)])
    clear C
    refine af λW C=>(jq O Z #[Z,_,Z,aG Lq (C _ _ ?_)])
    clear C
    refine af λW C=>(jq O Z #[Z,_,Z,aG Lq #[_,Z,_,Z,_,_,aK [a7 "ask",aI (if T.ev (aw (canon D.M) B)=0 then 0 else 1)],Z,jA O (jh Z jG (jh Z jN jz)),jA g3 (jh Z jG (jh Z jN jz)),Z,#[#[qO,qN,EE],FN Z],by show max 0 (max 0 0)+1 < 4;decide,λHA sA=>#[_,Z,aG Z (C _ _ ?_)]]])
    clear C
    refine o1 _ _ _ (ax.of_same (S9.trans sA)) (sA _ _ I) w6 ?_ w8 ?_ EE
    ·have:0+r.size+1=(Sk.st (n:Int) B (.ask (if T.ev (aw (canon D.M) B)=0 then 0 else 1)) r).size:=rfl
     omega
    ·show(if T.ev (aw (canon D.M) B)=0 then (0:Int) else 1)=0∨(if T.ev (aw (canon D.M) B)=0 then (0:Int) else 1)=1
     split
     ·exact .inl Z
     ·exact .inr Z
   |st p0 lf=>
    obtain⟨v1,_,l3,o2,f9⟩:=d0
    cases lf with
    |gv ta T |st x ta T=>cases f9
    |rd x ta T=>
     rw[vZ l0]at G
     cases G
     obtain⟨p2,rfl,O⟩:=Jx b0
     obtain⟨p3,rfl,g3⟩:=kw
     have i1:d9 (look K4 (.inl (T.ev (aw (canon D.M) B))) 0):=Ja w6 Jb
     refine af λW C=>(jq O Z #[Z,_,Z,cj Lq #[_,Z,_,Z,Y,Z,.inl #[_,.inl I],jq O Z #[_,dN.k (k:=.inl (T.ev (aw (canon D.M) B))) I,?_]]])
     rw[zU w6,w8]
     rw[w8]at i1
     refine#[mM,λq4 n3=>?_]
     have sA:ae H9 (ah H9 q4 (.tup [.int (look Lr (.inl (T.ev (aw (canon D.M) B))) (look X (.inl (T.ev (aw (canon D.M) B))) 0))])):=je n3
     refine#[p2,q4,_,_,Z,Z,sA _ _ O,jc,dY,λq5 HB R sB=>C _ _ ?_]
     clear C
     have R:HB q5=some (.tup [.str "read",.int (T.ev (aw (canon D.M) B)),.int (look Lr (.inl (T.ev (aw (canon D.M) B))) (look X (.inl (T.ev (aw (canon D.M) B))) 0))]):=R
     have SB:=sA.trans sB
     refine af λW C=>(jq R Z #[Z,_,Z,aG Lq (C _ _ ?_)])
     clear C
     refine af λW C=>(jq R Z #[Z,_,Z,aG Lq #[_,Z,_,Z,_,_,aK [a7 "read",aI (T.ev (aw (canon D.M) B)),aI (look Lr (.inl (T.ev (aw (canon D.M) B))) (look X (.inl (T.ev (aw (canon D.M) B))) 0))],Z,jA R (jh Z jG (jh Z jN (jh Z jN jz))),jA (SB _ _ g3) (jh Z jG (jh Z jN (jh Z jN jz))),Z,#[#[qO,qN,qN,EE],FN Z],by show max 0 (max 0 (max 0 0))+1 < 4;decide,λHA sA=>#[_,Z,aG Z (C _ _ ?_)]]])
     clear C
     have SA:=(S9.trans SB).trans sA
     refine o1 _ _ _ (ax.of_same SA) (SA _ _ w5) w6 ?_ w8 i1 EE
     have:0+r.size+1=(Sk.st (n:Int) B (.rd (T.ev (aw (canon D.M) B)) (look Lr (.inl (T.ev (aw (canon D.M) B))) (look X (.inl (T.ev (aw (canon D.M) B))) 0))) r).size:=rfl
     omega
    |wr ta ub T U=>
     rw[v0 l0]at G
     cases G
     obtain⟨p2,y,rfl,O,hy⟩:=XC b0
     rw[Je hy]at O
     obtain⟨p3,rfl,g3⟩:=kw
     have g5:d9 (U.ev (aw (canon D.M) B)):=qh gk o2.2.1
     have pl:=zI (kvs:=K4) (k:=.inl (T.ev (aw (canon D.M) B))) (v:=.int (U.ev (aw (canon D.M) B)))
     have l4:0+r.size+1=(Sk.st (n:Int) B (.wr (T.ev (aw (canon D.M) B)) (U.ev (aw (canon D.M) B))) r).size:=rfl
     refine af λW C=>(jq O Z #[Z,_,Z,aG Lq (C _ _ ?_)])
     clear C
     refine af λW C=>(jq O Z #[Z,_,Z,cj Lq (jq O Z #[_,Z,jq O Z #[Y,_,Z,le.k (k:=.inl (T.ev (aw (canon D.M) B))) I Lo,C _ _ ?_]])])
     clear C
     have bA:ax Y H9 (ah H9 Y (.dK (aQ K4 (.inl (T.ev (aw (canon D.M) B))) (.int (U.ev (aw (canon D.M) B)))))):=λb o nb e=>by rw[jl nb];exact e
     have eA:ah H9 Y (.dK (aQ K4 (.inl (T.ev (aw (canon D.M) B))) (.int (U.ev (aw (canon D.M) B))))) Y=some (.dK (aQ K4 (.inl (T.ev (aw (canon D.M) B))) (.int (U.ev (aw (canon D.M) B))))):=jc
     generalize ah H9 Y (.dK (aQ K4 (.inl (T.ev (aw (canon D.M) B))) (.int (U.ev (aw (canon D.M) B)))))=HA at bA eA
     have g4:=bA _ _ (jQ O I (by intro z;cases z)) O
     have g6:=bA _ _ (jQ g3 I (by intro z;cases z)) g3
     refine af λW C=>(jq g4 Z #[Z,_,Z,aG Lq #[_,Z,_,Z,_,_,aK [a7 "write",aI (T.ev (aw (canon D.M) B)),aI (U.ev (aw (canon D.M) B))],Z,jA g4 (jh Z jG (jh Z jN (jh Z jN jz))),jA g6 (jh Z jG (jh Z jN (jh Z jN jz))),Z,#[#[qO,qN,qN,EE],FN Z],by show max 0 (max 0 (max 0 0))+1 < 4;decide,λHB sB=>#[_,Z,aG Z (C _ _ ?_)]]])
     clear C
     exact o1 _ _ _ (((ax.of_same S9).trans bA).trans (ax.of_same sB)) (sB _ _ eA) (w6.put _ g5) Lo (w8.put _ _) EE EE
    |cl x f' q' ts=>
     rw[QT l0]at G
     cases h8:bG S X j f' (ts.map λc=>c.2.ev (aw (canon D.M) B)) Lr (tr+1) with
     |long |deep=>rw[h8]at G;cases G
     |ok s2 a2 _L t2=>
      rw[h8]at G
      cases G
      obtain⟨p2,y5,rfl,O,hy⟩:=J2 b0
      obtain⟨y1,y',rfl,e1,hy⟩:=zq hy
      obtain⟨y2,y0,rfl,e2,hy⟩:=zq hy
      have e3:y0=[]:=hy
      subst e3
      rw[QG e1]at O
      obtain⟨ag,g7,rfl,ha,a0⟩:=Jd e2
      have a0:aP H9 (aE ((ts.map λc=>c.2.ev (aw (canon D.M) B)).map aI)) .non g7:=by rw[FS];exact a0
      rw[Jj a0]at ha
      obtain⟨p3,c3,g3,e3,s8,rfl,r1,r2,r3,r4,r5⟩:=kw
      have e5:(f',ts.length)∈(ds.map Df.f).zip ns:=hP.cs hd _ e5
      obtain⟨i2,d2,g8,i3,rfl⟩:=hP.find e5
      have l5:ts.length<=6:=o2.2.1
      refine af λW C=>(jq O Z #[Z,_,Z,aG Lq (C _ _ ?_)])
      clear C
      refine af λW C=>(jq O Z #[Z,_,Z,aG Lq (C _ _ ?_)])
      clear C
      refine af λW C=>(jq O Z #[Z,_,Z,cj Lq ?_])
      refine af λF2 f2=>(jq r1 Z #[Z,_,Z,aG Lq #[_,Z,p3,_,Z,.inr (ar.of r1),Z,_,Z,aG Lp #[_,Z,_,Z,p2,_,Z,O,λq4 HA b6 sA=>?_]]])
      have b6:HA q4=some (.tup [.str d2.f,.ref ag]):=b6
      refine(jq (sA _ _ r1) dW #[_,Z,c3,_,Z,sA _ _ r2,λq5 HB R sB=>?_])
      have R:HB q5=some (.tup [.str d2.f,.ref g3]):=R
      have SB:=sA.trans sB
      have tl:((ts.map λc=>c.2.ev (aw (canon D.M) B))).length<=1000:=by rw[Ef];omega
      refine#[_,_,aK [a7 d2.f,aK ((ts.map λc=>c.2.ev (aw (canon D.M) B)).map aI)],Z,jA (sB _ _ b6) (jh Z jG (jh Z (zZ (SB _ _ ha)) jz)),jA R (jh Z jG (jh Z (zZ (SB _ _ r3)) jz)),Z,#[#[qO,QH tl,EE],FN Z],by show max 0 (max ((aE ((ts.map λc=>c.2.ev (aw (canon D.M) B)).map aI)).dep+1) 0)+1 < 4;rw[zJ];decide,λHC sC=>#[_,Z,eQ (jq (sC _ _ (SB _ _ r1)) dW #[c3,_,Z,.inr (ar.of (sC _ _ (SB _ _ r2))),Z,_,Z,aG Lp (f2 _ _ ?_)])]]
      clear f2
      have SC:=SB.trans sC
      have S0:=S9.trans SC
      have l6:s2.size+r.size+1=(Sk.st (n:Int) B (.cl d2.f (ts.map λc=>c.2.ev (aw (canon D.M) B)) s2 a2) r).size:=rfl
      refine#[_,Z,jq (SC _ _ r1) dW #[_,Z,pA,Y,i2,_,_,K4,Lr,X,_,d2,ds,ns,xs,S,ts.map λc=>c.2.ev (aw (canon D.M) B),s2,a2,.ref c3,Z,P4.mono (ae.tm S0),b7,g8,by rw[Ef];exact i3,λz hz=>?_,#[c3,g3,e3,s8,Z,SC _ _ r2,SC _ _ r3,SC _ _ r4,r5.mono (ae.tm SC)],w4.1,S0 _ _ w5,w6,Lo,w8,h8,λK5 HX hX gX lX rX ia bX=>#[_,Z,aG Z (C _ _ ?_)]]]
      ·obtain⟨c0,i4,rfl⟩:=List.mem_map.mp hz
       exact qh gk (o2.2.2 c0 i4).1
      ·clear C
       exact o1 _ _ _ ((ax.of_same S0).trans bX) hX gX Lo rX ia w4.1
 ·obtain⟨o5,o6,o7,c5,gd,m,tr,r0,Lr,K4,rfl,w1,w2,w3,w4,w5,w6,w7,w8,b4⟩:=h
  rw[List.drop_length]at w3
  cases r0 with
  |st n B w r=>obtain⟨_,_,_,_,z,_⟩:=w3;cases z
  |ask b |rd b c |wr b c |cl f is s a=>exact w4.elim
  |nil=>
  cases w1 with
  |go p a3 n D B ee h5 h6 h7 hl hi=>
   obtain⟨_,_,_,_,_,_,_,_,z,_⟩:=oO w2
   cases z
  |give p b ee h5 ib=>
   subst ee
   obtain⟨_,j0,eL⟩:=Xe w2
   subst j0
   subst eL
   have c9:=b4 _ _ (jQ h1 a1 (by intro z;cases z)) h1
   refine#[_,Z,jq c9 DR #[bj,λq1 n0=>?_]]
   have s5:ae H' (ah H' q1 (.tup [.str "give",.int a])):=je n0
   refine#[_,_,aK [a7 "give",aI a],Z,jA (s5 _ _ h5) (jh Z jG (jh Z jN jz)),jA jc (jh Z jG (jh Z jN jz)),Z,#[#[qO,qN,EE],FN Z],by show max 0 (max 0 0)+1 < 4;decide,λH6 s6=>#[true,Z,eS (jq (s6 _ _ (s5 _ _ c9)) Cp #[_,_,_,_,_,Z,Z,b8.tup (s6 _ _ (s5 _ _ (b4 _ _ e7 h3))),kt.tt,?_])]]
   have S6:=s5.trans s6
   exact q K4 H6 (S6 _ _ w5) w6 (by have:(0:Nat)=Sk.nil.size:=rfl;omega) w8 ib (b4.trans (ax.of_same S6))
noncomputable abbrev l9:Stmt:=bL 62
noncomputable abbrev yN:Stmt:=bL 63
noncomputable abbrev rf:Stmt:=bL 70
noncomputable abbrev mf:Stmt:=bL 71
noncomputable abbrev me:Stmt:=bL 72
noncomputable def iR:Sp:=λv H Q _=>∃p:Addr,v=[.ref p]/\ap H p/\∀(l:Addr) (C:a6) (h:Hp),H l=none->h l=some (.dK C)->GT C->C.length<=13->ap h p->ax p H h->Q (.ref l) h
inductive CL(p l:Addr)(H:Hp)(i:Nat)(σ:_L.St)(H':Hp):Prop
 |mk (o2 o3:Option V) (C:a6) (e0:σ=[some (.ref p),some (.ref l),o2,o3]) (e1:H' l=some (.dK C)) (e2:GT C) (e3:C.length<=i) (e4:ap H' p) (e5:ax p H H'):CL p l H i σ H'
theorem uZ(a:a6)(k:bo)(v:V):(aQ a k v).length<=a.length+1:=zI
theorem xV:NX (.lst x):=λa z=>by cases z
theorem xW:NX (.tup x):=λa z=>by cases z
theorem Kp.tm(k:Kp H h):aj H h:=λb x e=>k b _ xW e
theorem Kp.seq{K:Frag}(e:Kp H b)(h:aF K H a x):aF K b a x:=by
 rcases h with (h | ⟨o,h⟩) |h
 ·exact .inl (.inl (e _ _ xV h))
 ·exact .inl (.inr #[o,e _ _ (by intro c z;cases z) h])
 ·exact .inr h
structure Xs(K:Frag)(mg:Str->Option Value)(TL TD:Addr):Prop where
 gL:mg "TooLong"=some (.ref TL)
 hL:clsIn K TL≠none
 tL:typeIn K (.ref TL)=some (.type "type")
 mL:mroIn K TL (.type "BaseException")=some true
 gD:mg "TooDeep"=some (.ref TD)
 hD:clsIn K TD≠none
 tD:typeIn K (.ref TD)=some (.type "type")
 mD:mroIn K TD (.type "BaseException")=some true
 LL:mroIn K TL (.ref TL)=some true
 DL:mroIn K TD (.ref TL)=some false
 DD:mroIn K TD (.ref TD)=some true
theorem yu{H:Hp}{D:List Df}{n:List Nat}(h:lg H D n){i:Nat}{d:Df}{p:List Str}(a:D[i]?=some d)(c:H d.pa=some (.tup (p.map V.str))):n[i]?=some p.length:=by
 have f:i < D.length:=(List.getElem?_eq_some_iff.mp a).1
 have b:n[i]?=some (n[i]'(by rw[<- h.1];exact f)):=Ed _
 obtain⟨g,e,l,_⟩:=h.2 i d _ a b
 rw[c]at e
 injection e with e
 injection e with e
 have:=FE List.length e
 rw[Ef,Ef]at this
 rw[b,<- l,this]
theorem ZT:NX (.dK x):=λa z=>by cases z
theorem tF.same(h:tF H f i s a u)(k:aj H b):tF b f i s a u:=by
 obtain⟨c,g,e,S,E,d,j,l,m⟩:=h
 exact#[c,g,e,S,E,k _ _ d,k _ _ j,k _ _ l,m.mono k]
noncomputable def n9(H:Hp)(X:List V):Prop:=∀x∈X,∃(q:Addr) (c i:Int),x= .ref q/\H q=some (.tup [.int c,.int i])/\d9 i
theorem n9.mono(k:aj H a)(h:n9 H b):n9 a b:=λx d=>let #[q,c,i,e,f,g]:=h x d;#[q,c,i,e,k _ _ f,g]
noncomputable def sf:Sp:=λv H Q _=>∃(p:Addr) (m:Int),v=[.ref p,.int m]/\ap H p/\0 < m/\m<=100/\∀(l:Addr) (x:List V) (h:Hp),H l=none->h l=some (.lst x)->n9 h x->x.length<=100->ap h p->ax p H h->Q (.ref l) h
inductive Dy(p l:Addr)(m:Int)(H:Hp)(i:Nat)(σ:_L.St)(H':Hp):Prop
 |mk (o3 o4:Option V) (xs:List V) (e0:σ=[some (.ref p),some (.int m),some (.ref l),o3,o4]) (e1:H' l=some (.lst xs)) (e2:n9 H' xs) (e3:xs.length<=i) (e4:ap H' p) (e5:ax p H H'):Dy p l m H i σ H'
noncomputable def Db(r R:R2):R2:=λx y H Q=>r x y H Q∨R x y H Q
theorem yq{X:Cx}(b:eJ X o c)(d:eJ X o e):eJ X o (Db c e):=λp s a H x y v u Q I r R h=>h.elim (b p s a H x y v u Q I r R) (d p s a H x y v u Q I r R)
theorem wo(h:bE k A):A.units+100 < cLine:=by have:=h.un;omega
structure wP(H:Hp)(nA pA ag cA:Addr)(i:Nat)(Cs:a6)(d:Df)(ds:List Df)(ns:List Nat)(xs:List V)(pds:List fg)(is:List Int):Prop where
 ps:Ps H nA pA ds ns xs pds
 xl:xs.length<=1000
 hd:ds[i]?=some d
 hn:ns[i]?=some is.length
 ag:H ag=some (.tup (is.map V.int))
 hi:∀z∈is,d9 z
 il:is.length<=100
 ce:H cA=some (.dK Cs)
 gc:GT Cs
theorem wP.kp(h:wP H n a A c i C d D N x p I)(k:Kp H b):wP b n a A c i C d D N x p I:=#[h.ps.mono k.tm,h.xl,h.hd,h.hn,k.tm _ _ h.ag,h.hi,h.il,k _ _ ZT h.ce,h.gc]
noncomputable def iV(n:Addr):Sp:=λv H Q _=>∃(b A e:Addr) (i:Nat) (C:a6) (d:Df) (D:List Df) (N:List Nat) (x:List V) (p:List fg) (I:List Int),v=[.ref b,.str d.f,.ref A,.ref e]/\wP H n b A e i C d D N x p I/\
 (∀(c:Addr) (s:Sk) (a:Int) (L:a6) (h:Hp),bG p C 16 d.f I [] 0= .ok s a L s.size->tF h d.f I s a (.ref c)->s.ok true->s.dep<=15->s.size<=60->Kp H h->Q (.ref c) h)/\((∀s a L t,bG p C 16 d.f I [] 0≠ .ok s a L t)->∀h,Kp H h->Q .non h)
noncomputable def iY(n:Addr):Sp:=λv H Q _=>∃(a A c:Addr) (i:Nat) (C:a6) (d:Df) (D:List Df) (N:List Nat) (x:List V) (p:List fg) (I:List Int),v=[.ref a,.str d.f,.ref A,.ref c]/\wP H n a A c i C d D N x p I/\C.length<=200/\∀h,Kp H h->Q (.bl true) h
noncomputable def nE(K:Frag):Sp:=λv H Q _=>∃(a:Addr) (n:List Int),v=[.ref a]/\aF K H a (n.map V.int)/\n.length<=63/\∀h,Q (.bl true) h
theorem xU:ai P w K mg base aD k f c ["_law_parts","_law_chain","_law_holds"] (gR N 0):=by
 have n:∀{v H Q E},¬gR N 0 v H Q E:=by
  rintro v H Q E ⟨e,g,i,t,T,j,L,C,l,d,D,m,x,p,I,s,a,u,_,_,_,_,_,_,_,_,_,_,_,_,z,_⟩
  cases z
 exact#[λv H Q E h=>(n h).elim,λA o s H b U v Q E q r y B h=>(n h).elim]
theorem Ca(F:aN K "_law_walked" "_law_walked" rF f c)(B:aC K c ["_law_parts","_law_chain","_law_holds"] [])(d:mg "_law_walked"=some (.ref f))(C:Cl P w K mg base 8 r l ["_law_part","_law_way","_law_known"] (ij n) "_law_led")(e:Cl P w K mg base 8 s o ["_law_part","_law_n","_law_held"] (di n) "_law_deed")(g:Cl P w K mg base 9 t p ["_law_part","_law_step"] (iW n) "_law_onward")(h:Cl P w K mg base 5 u q ["_law_one","_law_other"] (cq 4) "_law_alike")(i:mg "len"=none)(m:mg "dict"=none)(M:mg "zip"=none)(a:mg "tuple"=none)(b:mg "isinstance"=none)(k:Kt K):∀j,ai P w K mg base aD (j+10) f c ["_law_parts","_law_chain","_law_holds"] (gR n j)
 |0=>xU
 |j+1=>yn F C e g h #[(Ca F B d C e g h i m M a b k j),B,F.kp,d] i m M a b k
theorem eW:am ["_law_box_here","_law_cells_here","_law_k","_law_cell"] ["_law_box_here"] (aa l9):=bJ
theorem pp(F:aN K "_law_cells" "_law_cells" l9 f fd)(r:Cl P w K mg base 1 fT f0 ["_law_box_here","_law_wide"] aX "_law_take")(cU:Cl P w K mg base 2 fU f2 ["_law_box_here"] gQ "_law_number")(mr:mg "range"=none):ai P w K mg base aD 3 f fd ["_law_box_here"] iR:=by
 refine F.ok eW ?_ λc0 A O s H vs Q E g h=>?_
 ·rintro _ _ _ _ ⟨p,rfl,_⟩
  rfl
 obtain⟨p,rfl,B,q⟩:=h
 refine#[_,(jd (jB 1 eW.nd QY) (jd (kO EZ Z (kP Z mr (ja (r.e g.m (ja (pv 0) (ja jf jb))) jb)) (jy (i:=2) eW.nd Z (Or.inl Z)) (jd (jB 3 eW.nd (r.e g.m (ja (pv 0) (ja jf jb)))) (jd (jx (ze (r.e g.m (ja (pv 0) (ja jf jb)))) (jg (jB 3 eW.nd (jv ky (jv ky (jv qJ jf jf) jf) (r.e g.m (ja (pv 0) (ja jf jb)))))) jp) (jg (zk (kB g) (pv 1) (pv 3) (cU.e g.m (ja (pv 0) jb)) Z))))) (jg (jm (pv 1))))),?_]
 have b0:=aH
 have t0:=gW
 refine af λt a=>λl N=>a _ _ ?_
 clear a
 have S:ae H (ah H l (.dK [])):=je N
 have I:ah H l (.dK []) l=some (.dK []):=jc
 generalize ah H l (.dK [])=H1 at S I
 have L:l≠p:=B.ne N
 have B1:=B.same S
 refine af λt a=>eO λJ j=>#[_,Z,p,14,Z,B1,Ln,Ln,λd H2 d0 d1 B2 M=>#[_,Z,Lo,Lo,j _ _ ?_]]
 clear j
 refine zL (lo:=0) (CL p l H) #[none,none,[],Z,by rw[M l L];exact I,_K.GT.nil,Eh _,B2,(ax.of_same S).trans (ax.of_eq M)] ?_ (λσ H' h=>a _ _ ?_)
 ·clear a
  intro E0 _ i σ H3 hi fE Gq o h
  obtain⟨o2,o3,C,rfl,x,G,lC,y,D⟩:=h
  refine o ?_
  clear o
  show dJ (dA _ _) _ E0 _ _
  refine af λt a=>#[_,Z,p,14,Z,y,Ln,Ln,λc4 H4 d2 d3 B4 R=>a _ _ ?_]
  clear a
  refine af λt a=>?_
  have c:∀(u:Int) (v:Hp),ap v p->(∀b,b≠p->v b=H3 b)->t [some (.ref p),some (.ref l),some (.int (0+(i:Int))),some (.int u)] v:=λu v BH T=>a _ _ (by
   refine#[_,Z,p,Z,BH,λm H7 m0 m1 B7 U=>?_]
   have h7:H7 l=some (.dK C):=by rw[U l L,T l L];exact x
   have pl:=uZ C (.inl u) (.int m)
   exact#[_,Z,_,Z,l,_,Z,le.k (k:=.inl u) h7 Lo,fE _ _ #[_,_,_,Z,jc,G.put _ #[m0,m1],Lo,B7.eq (jl (ES L)),(D.trans ((ax.of_eq T).trans (ax.of_eq U))).upd_own N]])
  refine tq λG1 yT yF=>#[_,Z,p,8,Z,B4,Ln,Ln,λd5 H5 d4 d7 W X=>#[Z,_,Z,?_]]
  by_cases Y:d5=0
  ·rw[Y,EN (Z:V.int 0=V.int 0)]
   refine yT _ #[_,_,Z,Z,#[Ln,Ln,Ln],_,_,Z,Z,_,Z,p,4,Z,W,Ln,Ln,λd6 H6 d8 d' B6 e6=>#[_,_,Z,Z,c _ H6 B6 λb n=>(e6 b n).trans ((X b n).trans (R b n))]]
  ·rw[EH (λz=>Y (by injection z))]
   exact yF _ (c _ H5 W λb n=>(X b n).trans (R b n))
 ·obtain⟨o2,o3,C,rfl,x,G,lC,y,D⟩:=h
  exact#[_,Z,q l C H' N x G Lo y D]
theorem lB:am ["_law_box_here","_law_most","_law_found","_law_k","_law_cell"] ["_law_box_here","_law_most"] (aa yN):=bJ
theorem yb(F:aN K "_law_changes" "_law_changes" yN f fd)(D:Cl P w K mg base 1 fT f0 ["_law_box_here","_law_wide"] aX "_law_take")(cN:Cl P w K mg base 2 fN f2 ["_law_box_here"] gQ "_law_number")(mr:mg "range"=none):ai P w K mg base aD 3 f fd ["_law_box_here","_law_most"] sf:=by
 refine F.ok lB ?_ λc0 A O s H vs Q E g h=>?_
 ·rintro _ _ _ _ ⟨p,m,rfl,_⟩
  rfl
 obtain⟨p,m,rfl,B,m0,m1,q⟩:=h
 refine#[_,(jd (jB 2 lB.nd (jL jb)) (jd (kO EZ Z (kP Z mr (ja (jv jW jf (D.e g.m (ja (pv 0) (ja (pv 1) jb)))) jb)) (jy (i:=3) lB.nd Z (Or.inl Z)) (jd (jB 4 lB.nd (D.e g.m (ja (pv 0) (ja jf jb)))) (jd (jx (ze (D.e g.m (ja (pv 0) (ja jf jb)))) (jg (jB 4 lB.nd (jv ky (jv ky (jv qJ jf jf) jf) (D.e g.m (ja (pv 0) (ja jf jb)))))) jp) (jg (jX (kU EF EQ EO jT (pv 2) (ja (ji (ja (pv 4) (ja (cN.e g.m (ja (pv 0) jb)) jb))) jb))))))) (jg (jm (pv 2))))),?_]
 have b0:=aH
 have t0:=gW
 refine af λG a=>#[nV,λl I=>a _ _ ?_]
 clear a
 have R:ae H (ah H l (.lst [])):=je I
 have e1:ah H l (.lst []) l=some (.lst []):=jc
 generalize ah H l (.lst [])=H1 at R e1
 have L:l≠p:=B.ne I
 have B1:=B.same R
 refine af λG a=>eO λJ j=>#[_,Z,_,Z,p,m,Z,B1,m0,Lo,λd H2 d0 d1 B2 e2=>#[_,_,Z,Z,_,Z,Lo,Lo,j _ _ ?_]]
 clear j
 refine zL (lo:=0) (Dy p l m H) #[none,none,[],Z,by rw[e2 l L];exact e1,(λ_ h=>nomatch h),Eh _,B2,(ax.of_same R).trans (ax.of_eq e2)] ?_ (λσ H' h=>a _ _ ?_)
 ·clear a
  intro E0 _ i σ H3 hi fE Gq k h
  obtain⟨o3,o4,X,rfl,U,W,lV,M,Y⟩:=h
  refine k ?_
  clear k
  show dJ (dA _ _) _ E0 _ _
  refine af λG a=>#[_,Z,p,15,Z,M,Ln,Ln,λc4 H4 d2 d3 B4 e4=>a _ _ ?_]
  clear a
  refine af λG a=>?_
  have c:∀(C:Int) (r:Hp),ap r p->(∀b,b≠p->r b=H3 b)->G [some (.ref p),some (.int m),some (.ref l),some (.int (0+(i:Int))),some (.int C)] r:=λC r BH eH=>a _ _ (by
   have u:r l=some (.lst X):=by rw[eH l L];exact U
   refine#[_,Z,.inl #[Z,_,aF.of u],_,Z,_,Z,p,Z,BH,λn v n0 n1 B7 e7=>#[bj,λt nt=>?_]]
   have h7:v l=some (.lst X):=by rw[e7 l L];exact u
   have S:ae v (ah v t (.tup [.int C,.int n])):=je nt
   have t8:ah v t (.tup [.int C,.int n]) t=some (.tup [.int C,.int n]):=jc
   refine#[l,_,_,Z,Z,S _ _ h7,Lo,fE _ _ ?_]
   generalize ah v t (.tup [.int C,.int n])=y at S t8
   have k8:ax p H3 y:=((ax.of_eq eH).trans (ax.of_eq e7)).trans (ax.of_same S)
   have l8:=S _ _ h7
   have kl:ax l y (ah y l (.lst (X++[.ref t]))):=λb o N e=>by rw[jl N];exact e
   have T:aj y (ah y l (.lst (X++[.ref t]))):=λb ys e=>kl _ _ (jQ e l8 (by intro z;cases z)) e
   refine#[_,_,X++[.ref t],Z,jc,?_,by rw[Ei];show X.length+1<=_;omega,(B7.same S).eq (jl (ES L)),(Y.trans k8).upd_own I]
   intro x hx
   rcases List.mem_append.mp hx with z |z
   ·exact((W.mono (k8.tm M)).mono T) x z
   ·rw[List.mem_singleton.mp z]
    exact#[t,C,n,Z,T _ _ t8,n0,n1])
  refine tq λG1 yT yF=>#[_,Z,p,8,Z,B4,Ln,Ln,λd5 H5 d4 d7 B5 e5=>#[Z,_,Z,?_]]
  by_cases h3:d5=0
  ·rw[h3,EN (Z:V.int 0=V.int 0)]
   refine yT _ #[_,_,Z,Z,#[Ln,Ln,Ln],_,_,Z,Z,_,Z,p,4,Z,B5,Ln,Ln,λd6 H6 d8 d' B6 e6=>#[_,_,Z,Z,c _ H6 B6 λb N=>(e6 b N).trans ((e5 b N).trans (e4 b N))]]
  ·rw[EH (λz=>h3 (by injection z))]
   exact yF _ (c _ H5 B5 λb N=>(e5 b N).trans (e4 b N))
 ·obtain⟨o3,o4,X,rfl,U,W,lV,M,Y⟩:=h
  exact#[_,Z,q l X H' I U W Lo M Y]
theorem gH:am ["_law_parts","_law_f","_law_args","_law_cells_here","_law_chain"] ["_law_parts","_law_f","_law_args","_law_cells_here"] (aa rf):=bJ
theorem uD(F:aN K "_law_run" "_law_run" rf f Y)(V:ai P w K mg base (eI P w) 45 D k ["parts","f","args","cells","most"] (sq TL TD nA))(W:aC K k ["parts","f","args","cells","most"] [])(kR:keepIn K (.ref D)=true)(mR:mg "run"=some (.ref D))(X:Xs K mg TL TD):ai P w K mg base aD 46 f Y ["_law_parts","_law_f","_law_args","_law_cells_here"] (iV nA):=by
 refine F.ok gH ?_ λc0 A O s H vs Q E hr h=>?_
 ·rintro _ _ _ _ ⟨l,q,r,i,G,d,I,J,L,p,M,rfl,_⟩
  rfl
 obtain⟨l,q,r,i,G,d,I,J,L,p,M,rfl,c,q1,S⟩:=h
 refine#[_,(jd (jB 4 gH.nd (@Xw _ _ _)) (jd (@uX _ _ _ _ _ _ _ _ _ _ _ _ _ _ _ _ _ _ Z Z (@uY _ _ _ _ (4) _ _ gH.nd Z (Or.inl Z) (@pO _ _ _ _ _ _ _ _ _ _ _ _ _ _ V hr.m Z mR kR W .nil (ja (pv 0) (ja (pv 1) (ja (pv 2) (ja (pv 3) (ja jf jb))))) Ln Ls Ls) Ls (by first |exact .inl Z |exact .inr Z)) Z X.gL X.hL X.tL X.mL Z X.gD X.hD X.tD X.mD (λ_=>(jg (jB 4 gH.nd (@Xw _ _ _)))) (λ_=>(jg (jB 4 gH.nd (@Xw _ _ _)))) Ln Ln) (jg (jm (pv 4))))),?_]
 refine af λF1 g=>g _ _ ?_
 clear g
 refine af λF1 g=>?_
 show wM _ _ _ _ _ _ _ [some (.ref l),some (.str d.f),some (.ref q),some (.ref r),some .non] H
 refine#[_,Z,_,Z,_,Z,_,Z,l,q,r,i,G,d,I,J,L,p,M,Z,c.ps,c.hd,c.hn,c.ag,c.hi,c.ce,c.gc,λu sk a L' H2 j U ok dp sz s2=>?_,λj=>?_,λj=>?_]
 ·obtain⟨c',z⟩:=id U
  obtain⟨_,_,_,rfl,_⟩:=z
  exact g _ _ #[_,Z,q1 c' sk a L' H2 j U ok dp sz (Kp.of_same s2)]
 ·intro _ H7 t x C T v y hT B
  cases v
  refine .inl #[X.LL,λT' n=>g _ _ #[_,Z,S (λ_ _ _ _ z=>by rw[j]at z;cases z) _ ?_]]
  exactλb o N e=>J1 (H:=H) (t _ _ N e) N y n
 ·intro _ H7 t x C T v y hT B
  cases v
  refine .inr #[X.DL,X.DD,λT' n=>g _ _ #[_,Z,S (λ_ _ _ _ z=>by rw[j]at z;cases z) _ ?_]]
  exactλb o N e=>J1 (H:=H) (t _ _ N e) N y n
theorem iO:am ["_law_parts","_law_f","_law_args","_law_cells_here","_law_kept","_law_chain"] ["_law_parts","_law_f","_law_args","_law_cells_here"] (aa mf):=bJ
theorem pH(F:aN K "_law_right" "_law_right" mf f fd)(cU:Cl P w K mg base 46 fU f0 ["_law_parts","_law_f","_law_args","_law_cells_here"] (iV nA) "_law_run")(cK:Cl P w K mg base 5 fK f2 ["_law_one","_law_other"] (cq 4) "_law_alike")(cW:Cl P w K mg base 26 fW f3 ["_law_parts","_law_chain","_law_holds"] (gR nA 16) "_law_walked")(ml:mg "len"=none)(M:mg "dict"=none)(m0:mg "tuple"=none)(m1:mg "isinstance"=none)(kt:Kt K):ai P w K mg base aD 47 f fd ["_law_parts","_law_f","_law_args","_law_cells_here"] (iY nA):=by
 refine F.ok iO ?_ λc0 A o1 s H vs Q E l h=>?_
 ·rintro _ _ _ _ ⟨U,ag,n,i,C,d,V,W,X,k,I,rfl,_⟩
  rfl
 obtain⟨U,ag,n,i,C,d,V,W,X,k,I,rfl,r,cl,q⟩:=h
 refine#[_,(jd (jB 4 iO.nd (jC qA Z M boot_dict (ja (pv 3) jb))) (jd (jB 5 iO.nd (cU.e l.m (ja (pv 0) (ja (pv 1) (ja (pv 2) (ja (pv 3) jb)))))) (jd (jx (ZU (@yw _ _ _ _ _ (pv 5))) (jg (jm (j4 (Z2 (Hu (kB l))) (pv 3) (pv 4) (aA _)))) jp) (jd (jx (PW.pt (qj (qm (zz (jF jS Z m1 FM (ja (pv 5) (ja (kG (v:=.ty "tuple") Z m0 Ft Z) jb))))) (qj (jE qS (jF jH Z ml Fd (ja (pv 5) jb)) jf (aA _)) (ql (qm (zz (cK.e l.m (ja (ji (ja (pv 1) (ja (pv 2) jb))) (ja (jO zd (pv 5) j5 (jK jf)) jb))))))))) (jg (jm (@J3 _ _ _ _))) jp) (jg (jm (qo (cW.e l.m (ja (pv 0) (ja (pv 5) (ja (jC qA Z M boot_dict (ja (pv 3) jb)) jb)))) (qo (j4 (Z2 (Hu (kB l))) (pv 3) (pv 4) (aA _)) (Js (j4 (Yy (d:=100) (wo l)) (cU.e l.m (ja (pv 0) (ja (pv 1) (ja (pv 2) (ja (pv 3) jb))))) (pv 5) (aA _))))))))))),?_]
 have b0:=aH
 refine af λY j=>#[_,Z,n,C,Z,r.ce,λt n0=>j _ _ ?_]
 clear j
 have s1:ae H (ah H t (.dK C)):=je n0
 have e1:ah H t (.dK C) t=some (.dK C):=jc
 generalize ah H t (.dK C)=H1 at s1 e1 ⊢
 have k1:Kp H H1:=Kp.of_same s1
 have nC:∀p∈C,∃i,p.2= .int i:=λp hp=>let #[i,e,_]:=r.gc p hp;#[i,e]
 refine af λY j=>#[_,Z,_,Z,_,Z,_,Z,U,ag,n,i,C,d,V,W,X,k,I,Z,r.kp k1,λc sk a L' H2 eq hc ok dp sz G=>j _ _ ?_,λno H2 G=>j _ _ ?_]
 ·clear j
  have J:=k1.trans G
  obtain⟨c',g,e,ss,ec,h1,h2,h3,h4⟩:=id hc
  cases ec
  refine af λY j=>#[_,Z,_,Z,aG (EH (by intro z;cases z)) (j _ _ ?_)]
  clear j
  refine af λY j=>#[_,Z,_,_,_,_,_,Z,Z,b8.tup h1,kt.tt,_,Z,eQ #[_,Z,c,_,Z,.inr (ar.of h1),Z,_,Z,aG Lp #[_,Z,_,Z,bj,λq1 N=>#[_,Z,_,Z,c,_,Z,aq h1 N,λq2 H3 u s3=>?_]]]]
  have u:H3 q2=some (.tup [.str d.f,.ref g]):=u
  have x:ae H2 H3:=(je N).trans s3
  have il:=r.il
  refine#[.ref q1,.ref q2,aK [a7 d.f,aK (I.map aI)],Z,jA (s3 _ _ jc) (jh Z jG (jh Z (zZ (x _ _ (J.tm _ _ r.ag))) jz)),jA u (jh Z jG (jh Z (zZ (x _ _ h2)) jz)),Z,#[#[qO,QH Lo,EE],FN Z],by show max 0 (max ((aE (I.map aI)).dep+1) 0)+1 < 4;rw[zJ];decide,λy s4=>#[_,Z,aG Z (j _ _ ?_)]]
  clear j
  have B:=x.trans s4
  have K4:Kp H y:=J.trans (Kp.of_same B)
  have A4:=r.kp K4
  have k0:y t=some (.dK C):=B _ _ (G _ _ ZT e1)
  have L:=hc.same (ae.tm B)
  refine#[_,Z,_,Z,_,Z,n,C,Z,A4.ce,λO R=>?_]
  have s5:ae y (ah y O (.dK C)):=je R
  have e5:ah y O (.dK C) O=some (.dK C):=jc
  generalize ah y O (.dK C)=H5 at s5 e5 ⊢
  have D:=A4.kp (Kp.of_same s5)
  refine#[U,O,i,0,_,C,[],C,_,d,V,W,X,k,I,sk,a,.ref c,Z,D.ps,D.xl,D.hd,D.hn,D.hi,L.same (ae.tm s5),ok,e5,D.gc,Lo,(λc'=>(Qq sO _).symm),eq,λK1 H6 h6 g6 l6 r6 ia b6=>#[true,Z,eS ?_]]
  have S:ae y H6:=λb o e=>b6 _ _ (jo e R) (s5 _ _ e)
  have A6:=A4.kp (Kp.of_same S)
  refine#[_,Z,_,Z,n,t,_,Z,Z,A6.ce,S _ _ k0,nC,true,Z,eS #[_,Z,_,Z,_,Z,_,Z,U,ag,n,i,C,d,V,W,X,k,I,Z,A6,λc2 s0 a2 _L H7 T h0 o2 d0 bj k7=>?_,λno _ _=>(no _ _ _ _ eq).elim]]
  rw[eq]at T
  injection T with z1 z2 z3 z4
  subst z1
  subst z2
  have h5:=(L.same (ae.tm S)).same k7.tm
  exact#[_,Z,Cq d.f I sk a,om ok dp,aP.at (Yn h0 ok),aP.at (Yn h5 ok),q H7 ((K4.trans (Kp.of_same S)).trans k7)]
 ·clear j
  have J:=k1.trans G
  refine af λY j=>#[_,Z,_,Z,cj (EN Z) ?_]
  exact#[_,Z,_,Z,n,t,_,Z,Z,(r.kp J).ce,G _ _ ZT e1,nC,q H2 J]
inductive DC(a p r pA cA ta ot:Addr)(f:Str)(fi:V)(H:Hp)(i:Nat)(σ:_L.St)(H':Hp):Prop
 |mk (o9 o10:Option V) (D:a6) (e0:σ=[some (.ref a),some (.ref p),some (.ref r),some (.str f),some (.ref ta),some (.ref pA),some (.ref cA),some fi,some (.ref ot),o9,o10]) (e1:H' ot=some (.dK D)) (e2:GT D) (e3:D.length<=13+i) (e4:ax ot H H'):DC a p r pA cA ta ot f fi H i σ H'
theorem dS:am ["_law_script","_law_box_here","_law_program","_law_f","_law_args","_law_parts","_law_cells_here","_law_first","_law_other","_law_cell","_law_number_here"] ["_law_script"] (aa me):=bJ
theorem yd(F:aN K "law" "law" me f fd)(cB:Cl P w K mg base 1 fB f2 ["_law_script","_law_k"] (se K) "_law_box")(cK:Cl P w K mg base 23 fK f3 ["_law_box_here"] my "_law_case")(cM:Cl P w K mg base 65 fM f4 ["program"] (mE K nA) "made")(cC:Cl P w K mg base 3 fC f5 ["_law_box_here"] iR "_law_cells")(cU:Cl P w K mg base 46 fU f6 ["_law_parts","_law_f","_law_args","_law_cells_here"] (iV nA) "_law_run")(cR:Cl P w K mg base 47 fR f7 ["_law_parts","_law_f","_law_args","_law_cells_here"] (iY nA) "_law_right")(cG:Cl P w K mg base 3 fG f9 ["_law_box_here","_law_most"] sf "_law_changes")(m0:mg "dict"=none):ai P w K mg base aD 66 f fd ["_law_script"] (nE K):=by
 refine F.ok dS ?_ λc0 A o1 s H vs Q E u h=>?_
 ·rintro _ _ _ _ ⟨a,ns,rfl,_⟩
  rfl
 obtain⟨a,ns,rfl,hS,b3,q⟩:=h
 refine#[_,(jd (jB 1 dS.nd (cB.e u.m (ja (pv 0) (ja jf jb)))) (jd (za (cK.e u.m (ja (pv 1) jb)) (zO (n:=3) Z (jD (jy (i:=2) dS.nd Z (Or.inl Z)) (jD (jy (i:=3) dS.nd Z (Or.inl Z)) (jD (jy (i:=4) dS.nd Z (Or.inl Z)) kh))))) (jd (jB 5 dS.nd (cM.e u.m (ja (pv 2) jb))) (jd (jB 6 dS.nd (cC.e u.m (ja (cB.e u.m (ja (pv 0) (ja jf jb))) jb))) (jd (jB 7 dS.nd (cU.e u.m (ja (pv 5) (ja (pv 3) (ja (pv 4) (ja (pv 6) jb)))))) (jd (jx (qm (zz (cR.e u.m (ja (pv 5) (ja (pv 3) (ja (pv 4) (ja (pv 6) jb))))))) (jg (jm (@J3 _ _ _ _))) jp) (jd (jB 8 dS.nd (jC qA Z m0 boot_dict (ja (pv 6) jb))) (jd (kO EZ Z (qW (cG.e u.m (ja (cB.e u.m (ja (pv 0) (ja jf jb))) (ja jf jb)))) (zO (n:=2) Z (jD (jy (i:=9) dS.nd Z (Or.inl Z)) (jD (jy (i:=10) dS.nd Z (Or.inl Z)) kh))) (jg (zk (kB u) (pv 8) (pv 9) (pv 10) Z))) (jg (jm (qo (cR.e u.m (ja (pv 5) (ja (pv 3) (ja (pv 4) (ja (pv 8) jb))))) (Js (j4 (yq zw (Yy (d:=100) (wo u))) (cU.e u.m (ja (pv 5) (ja (pv 3) (ja (pv 4) (ja (pv 6) jb))))) (pv 7) (aA _)))))))))))))),?_]
 have b4:=aH
 refine af λN g=>#[_,Z,a,ns,1,Z,hS,Ln,Ln,λp H1 np B1 e1=>g _ _ ?_]
 clear g
 have s1:ae H H1:=λb o e=>by rw[e1 b (jo e np)];exact e
 refine af λN g=>#[_,Z,p,Z,B1,λt r v2 v3 R x0 H3 ht u hD h1 h8 nl hN h3 h7 B3 k3=>#[t,_,Z,ar.of ht,Z,_,_,Z,_,_,Z,_,_,Z,Z,g _ _ ?_]]
 clear g
 have s3:ae H H3:=λb o e=>k3 _ _ (jo e np) (s1 _ _ e)
 obtain⟨d,ps,T,I,hd,rfl,h',rfl,a0,a1,h0,a2⟩:=h7
 show dJ (dA _ _) _ _ [some (.ref a),some (.ref p),some (.ref r),some (.str d.f),some (.ref T),none,none,none,none,none,none] H3
 refine af λN g=>#[_,Z,r,R,x0,Z,u,hD,Lo,λd hd=>(hN.1 d hd).1,λv H4 hv s4=>g _ _ ?_]
 clear g
 obtain⟨U,X,rfl,a3,a4⟩:=Jd hv
 have S4:=s3.trans s4
 refine af λN g=>#[_,Z,a,ns,2,Z,S4.seq hS,Ln,Ln,λp5 H5 n0 B5 e5=>#[p5,Z,B5,λcA C H6 n2 a' gC lC B6 k6=>g _ _ ?_]]
 clear g
 have s6:ae H4 H6:=λb o e=>k6 _ _ (jo e n0) (by rw[e5 b (jo e n0)];exact e)
 have S6:=S4.trans s6
 have T0:=ae.tm (s4.trans s6)
 obtain⟨i,hi,ei⟩:=List.mem_iff_getElem.mp hd
 have h4:R[i]?=some d:=by rw[<- ei];exact Ed hi
 have h5:=yu h3 h4 h'
 rw[<- a1]at h5
 obtain⟨l,hP⟩:=Bt (s6 _ _ a3) (a4.mono (ae.tm s6)) #[x0,hD.mono T0] hN (h3.mono T0)
 have lx:=kL hP.tr
 rw[Ef]at lx
 have ak:wP H6 nA U T cA i C d R nl X l I:=#[hP,Lo,h4,h5,T0 _ _ a0,a2,h0,a',gC]
 have kS:Kp H H6:=Kp.of_same S6
 refine af λN g=>?_
 suffices go:∀(fi:V) (L:Hp),Kp H6 L->(∀(x:V) (W y:Hp),((∀(c:Addr) (G:Sk) (b:Int) (L':a6),bG l C 16 d.f I [] 0= .ok G b L' G.size->tF y d.f I G b (.ref c)->G.ok true->G.dep<=15->x= .ref c->Kp L y->Db yG (pT K 100 true) x fi y Q)/\((∀G b L' t',bG l C 16 d.f I [] 0≠ .ok G b L' t')->x= .non->Db yG (pT K 100 true) x fi y Q)))->N [some (.ref a),some (.ref p),some (.ref r),some (.str d.f),some (.ref T),some (.ref U),some (.ref cA),some fi,none,none,none] L by
  clear g
  refine#[_,Z,_,Z,_,Z,_,Z,U,T,cA,i,C,d,R,nl,X,l,I,Z,ak,λc G b L' L eq hc ok dp sz k7=>go (.ref c) L k7 λx W y=>#[λc2 s0 b2 _L M b0 o3 d0 ex k8=>?_,λno _=>(no _ _ _ _ eq).elim],λno L k7=>go .non L k7 λx W y=>#[λc2 s0 b2 _L M _ _ _ _ _=>(no _ _ _ _ M).elim,λ_ ex=>?_]]
  ·subst ex
   rw[eq]at M
   injection M with z1 z2 z3 z4
   subst z1
   subst z2
   exact .inr #[Cq d.f I G b,om ok dp,aP.at (Yn b0 ok),aP.at (Yn (hc.same k8.tm) ok),q _]
  ·subst ex
   refine .inl #[Z,?_]
   rw[EN Z]
   exact q _
 intro fi L k7 f0
 refine g _ _ ?_
 clear g
 have A7:=ak.kp k7
 refine af λN g=>#[_,Z,_,Z,_,Z,_,Z,U,T,cA,i,C,d,R,nl,X,l,I,Z,A7,Lo,λH8 k8=>#[_,Z,aG Z (g _ _ ?_)]]
 clear g
 have A8:=A7.kp k8
 refine af λN g=>#[_,Z,cA,C,Z,A8.ce,λO not=>g _ _ ?_]
 clear g
 have s9:ae H8 (ah H8 O (.dK C)):=je not
 have e9:ah H8 O (.dK C) O=some (.dK C):=jc
 generalize ah H8 O (.dK C)=H9 at s9 e9
 have k9:Kp H6 H9:=(k7.trans k8).trans (Kp.of_same s9)
 refine af λN g=>eO λJ j=>#[_,Z,a,ns,3,Z,(kS.trans k9).seq hS,Ln,Ln,λpB HA n1 BA eA=>#[pB,2,Z,BA,Ln,Ln,λll x1 HB n3 h2 pV lV BB k0=>#[ll,Z,#[_,aF.of h2],j _ _ ?_]]]
 clear j
 have S:ae H9 HB:=λb o e=>k0 _ _ (jo e n1) (by rw[eA b (jo e n1)];exact e)
 have k4:Kp H6 HB:=k9.trans (Kp.of_same S)
 have lo:ll≠O:=jQ h2 (S _ _ e9) (by intro z;cases z)
 refine Qk (K:=K) (a:=ll) (xs:=x1) (DC a p r U cA T O d.f fi HB) #[none,none,C,Z,S _ _ e9,gC,Lo,ax.refl] (λk σ W _ h=>?_) ?_ (λσ W h=>g _ _ ?_)
 ·obtain⟨_,_,_,_,_,_,_,b⟩:=h
  exact aF.of (b _ _ lo h2)
 ·clear g
  intro E rt k x σ HC h6 fE Gq kq h
  obtain⟨o9,o2,D,rfl,w1,w2,w3,B⟩:=h
  refine kq ?_
  clear kq
  obtain⟨qq,cc,ii,rfl,hq,b1⟩:=pV x (EA h6)
  have hq:=B _ _ (jQ hq (S _ _ e9) (by intro z;cases z)) hq
  have b5:=(List.getElem?_eq_some_iff.mp h6).1
  have pl:=zI (kvs:=D) (k:=.inl cc) (v:=.int ii)
  refine#[qq,_,Z,ar.of hq,Z,_,_,Z,_,_,Z,Z,?_]
  exact#[_,Z,_,Z,_,Z,O,_,Z,le.k (k:=.inl cc) w1 Lo,fE _ _ #[_,_,_,Z,jc,w2.put _ b1,Lo,λb o Y e=>by rw[jl Y];exact B _ _ Y e]]
 ·obtain⟨o9,o2,D,rfl,w1,w2,w3,B⟩:=h
  have k5:∀b o,b≠O->HB b=some o->W b=some o:=λb o Y e=>B _ _ Y e
  have oN:H8 O=none:=not
  have k1:Kp H6 W:=λb o nx e=>by
   have e8:=(k7.trans k8) _ _ nx e
   have Y:b≠O:=jo e8 not
   exact B _ _ Y (S _ _ (s9 _ _ e8))
  have k2:Kp L W:=λb o nx e=>by
   have e8:=k8 _ _ nx e
   have Y:b≠O:=jo e8 not
   exact B _ _ Y (S _ _ (s9 _ _ e8))
  have AC:=ak.kp k1
  have AO:wP W nA U T O i D d R nl X l I:=#[AC.ps,AC.xl,AC.hd,AC.hn,AC.ag,AC.hi,AC.il,w1,w2]
  refine#[_,Z,_,Z,_,Z,_,Z,U,T,O,i,D,d,R,nl,X,l,I,Z,AO,Lo,λHD kD=>#[true,Z,eS ?_]]
  have AD:=AC.kp kD
  refine#[_,Z,_,Z,_,Z,_,Z,U,T,cA,i,C,d,R,nl,X,l,I,Z,AD,λc G b L' HE eq hc ok dp sz kE=>#[_,Z,(f0 (.ref c) HE HE).1 c G b L' eq hc ok dp Z ((k2.trans kD).trans kE)],λno HE kE=>#[_,Z,(f0 .non HE HE).2 no Z]]
@[elab_as_elim] theorem D7{P:List Value->Prop}(u:List Value)(h:u.length=1)(q:∀a,P [a]):P u:=by
 cases u with
 |nil=>cases h
 |cons a r=>
  cases r with
  |nil=>exact q a
  |cons _ _=>cases h
theorem _root_._L.aN.b1{K:Frag}{st:Stmt}{p:List Str}(F:aN K x q st f g)(h:∀(kV d b:Value) (A:Option Addr) (c C a:Value),bindArgs (fnOf x q (bp st) (be st) (aa st) .none kV d b A c C) #[[a],[]]=pure (p.zip [a]):=by intros;rfl)(e:p.length=1:=by rfl):aC K g p []:=F.binds λkV d b A c C u H=>D7 u (H.trans e) λa=>h kV d b A c C a
@[elab_as_elim] theorem D8{P:List Value->Prop}(u:List Value)(h:u.length=2)(q:∀a b,P [a,b]):P u:=by
 cases u with
 |nil=>cases h
 |cons a r=>
  cases r with
  |nil=>cases h
  |cons b R=>
   cases R with
   |nil=>exact q a b
   |cons _ _=>cases h
theorem _root_._L.aN.b2{K:Frag}{st:Stmt}{p:List Str}(F:aN K x q st f i)(h:∀(kV d g:Value) (A:Option Addr) (c C a b:Value),bindArgs (fnOf x q (bp st) (be st) (aa st) .none kV d g A c C) #[[a,b],[]]=pure (p.zip [a,b]):=by intros;rfl)(e:p.length=2:=by rfl):aC K i p []:=F.binds λkV d g A c C u H=>D8 u (H.trans e) λa b=>h kV d g A c C a b
@[elab_as_elim] theorem D9{P:List Value->Prop}(u:List Value)(h:u.length=3)(q:∀a b c,P [a,b,c]):P u:=by
 cases u with
 |nil=>cases h
 |cons a r=>
  cases r with
  |nil=>cases h
  |cons b R=>
   cases R with
   |nil=>cases h
   |cons c d=>
    cases d with
    |nil=>exact q a b c
    |cons _ _=>cases h
theorem _root_._L.aN.b3{K:Frag}{st:Stmt}{p:List Str}(F:aN K x q st f j)(h:∀(kV d g:Value) (A:Option Addr) (C i a b c:Value),bindArgs (fnOf x q (bp st) (be st) (aa st) .none kV d g A C i) #[[a,b,c],[]]=pure (p.zip [a,b,c]):=by intros;rfl)(e:p.length=3:=by rfl):aC K j p []:=F.binds λkV d g A C i u H=>D9 u (H.trans e) λa b c=>h kV d g A C i a b c
@[elab_as_elim] theorem Ea{P:List Value->Prop}(u:List Value)(h:u.length=4)(q:∀a b c d,P [a,b,c,d]):P u:=by
 cases u with
 |nil=>cases h
 |cons a r=>
  cases r with
  |nil=>cases h
  |cons b R=>
   cases R with
   |nil=>cases h
   |cons c e=>
    cases e with
    |nil=>cases h
    |cons d f=>
     cases f with
     |nil=>exact q a b c d
     |cons _ _=>cases h
theorem _root_._L.aN.b4{K:Frag}{st:Stmt}{p:List Str}(F:aN K x q st f j)(h:∀(kV D g:Value) (A:Option Addr) (C i a b c d:Value),bindArgs (fnOf x q (bp st) (be st) (aa st) .none kV D g A C i) #[[a,b,c,d],[]]=pure (p.zip [a,b,c,d]):=by intros;rfl)(e:p.length=4:=by rfl):aC K j p []:=F.binds λkV D g A C i u H=>Ea u (H.trans e) λa b c d=>h kV D g A C i a b c d
@[elab_as_elim] theorem Eb{P:List Value->Prop}(u:List Value)(h:u.length=5)(q:∀a b c d e,P [a,b,c,d,e]):P u:=by
 cases u with
 |nil=>cases h
 |cons a r=>
  cases r with
  |nil=>cases h
  |cons b R=>
   cases R with
   |nil=>cases h
   |cons c f=>
    cases f with
    |nil=>cases h
    |cons d g=>
     cases g with
     |nil=>cases h
     |cons e i=>
      cases i with
      |nil=>exact q a b c d e
      |cons _ _=>cases h
theorem _root_._L.aN.b5{K:Frag}{st:Stmt}{p:List Str}(F:aN K x q st f j)(h:∀(kV D g:Value) (A:Option Addr) (C i a b c d e:Value),bindArgs (fnOf x q (bp st) (be st) (aa st) .none kV D g A C i) #[[a,b,c,d,e],[]]=pure (p.zip [a,b,c,d,e]):=by intros;rfl)(e:p.length=5:=by rfl):aC K j p []:=F.binds λkV D g A C i u H=>Eb u (H.trans e) λa b c d e=>h kV D g A C i a b c d e
noncomputable def el(K:Frag)(p q:Str)(st:Stmt)(f:Addr):Prop:=∃(o:Value) (O:Option Addr) (kV d a:Value) (A:Option Addr) (c C:Value) (s:Array (Option Value)),K.lookup f=some #[o,O,.func (fnOf p q (bp st) (be st) (aa st) .none kV d a A c C),s]/\codeIn K c q=true/\keepIn K (.ref f)=true
noncomputable def bZ(K:Frag)(p:Str)(st:Stmt)(f:Addr):Prop:=nsIn K mainGlobals p=some (some (.ref f))/\el K p p st f
section
variable {K:Frag}{py q:Str}{st:Stmt}{f:Addr}{oc:Value}{od:Option Addr}{kV dc pm:Value}{an:Option Addr}{cd ct:Value}{sl:Array (Option Value)}
theorem DK(l:K.lookup f=some #[oc,od,.func (fnOf py q (bp st) (be st) (aa st) .none kV dc pm an cd ct),sl])(c:codeIn K cd q=true)(k:keepIn K (.ref f)=true):el K py q st f:=#[_,_,_,_,_,_,_,_,_,l,c,k]
theorem Dv(a:nsIn K mainGlobals py=some (some (.ref f)))(l:K.lookup f=some #[oc,od,.func (fnOf py py (bp st) (be st) (aa st) .none kV dc pm an cd ct),sl])(c:codeIn K cd py=true)(k:keepIn K (.ref f)=true):bZ K py st f:=#[a,DK l c k]
theorem el.go(h:el K py q st f):∃F,aN K py q st f F/\keepIn K (.ref f)=true:=by
 obtain⟨oc,od,kV,dc,pm,an,cd,ct,sl,l,c,k⟩:=h
 exact#[_,Z0 l c k,k]
theorem bZ.go{mg:Str->Option Value}(t:bZ K py st f)(X:K.In h)(G:h.Ns mainGlobals mg):∃a,aN K py py st f a/\keepIn K (.ref f)=true/\mg py=some (.ref f):=by
 obtain⟨a,F,k⟩:=t.2.go
 exact#[a,F,k,mg_of X G t.1]
end
theorem wY{l:PySem.W.OpenLaw}{w:World}{K:Frag}{mg:Str->Option Value}(X:K.In h)(G:h.Ns mainGlobals mg)(l8:mg "law"=some (.ref fa))
             
  (t2:bZ K "names_in" dR f0)
  (t3:bZ K "own_terms" yQ l')
  (t4:bZ K "used_behind_terms" rE U')
  (t5:bZ K "used_ahead_of" vo f1)
  (t7:bZ K "used_ahead" vm V0)
  (t8:bZ K "bodies_in" yL n4)
  (t':bZ K "many_cuts" rg n5)
  (n7:bZ K "deed_of" p8 n')
  (o1:bZ K "place_of_give" iK f2)
  (o2:bZ K "place_of_set" rj o3)
  (o4:bZ K "part_made" rh o5)
  (o6:bZ K "made" mZ o7)
  (o8:bZ K "_law_box" yM o9)
  (tw:bZ K "_law_take" rC o')
  (p0:bZ K "_law_number" iH p1)
  (p2:bZ K "_law_names" gG p3)
  (p4:bZ K "_law_term" ni p5)
  (p6:bZ K "_law_spot" rn p9)
  (p':bZ K "_law_statement" rq V1)
  (q0:bZ K "_law_body" mX q1)
  (q2:bZ K "_law_any" yK q3)
  (dF:bZ K "_law_op" Dh q4)
  (q5:bZ K "_law_inner" md q6)
  (q7:bZ K "_law_looped" gj q')
  (r0:bZ K "_law_ticking" eV r1)
  (r2:bZ K "_law_busy" pZ r3)
  (r4:bZ K "_law_case" mY r5)
  (r6:bZ K "joined" iF r7)
  (r8:bZ K "worth" iM r')
  (s0:bZ K "named" iG s1)
  (s2:bZ K "begun" l7 s3)
  (s4:bZ K "deeper" iB s5)
  (s6:bZ K "part_of" iJ s7)
  (s8:bZ K "cut_at" ma s9)
  (s':bZ K "held_at" iE u0)
  (u1:bZ K "worths" gm u2)
  (u3:bZ K "deed_at" iz u4)
  (u8:bZ K "found_in" gF u9)
  (u':bZ K "end_of" iD v2)
  (v3:bZ K "first_of" gE v4)
  (v5:bZ K "onward" iI v7)
  (v8:bZ K "run" yS v9)
  (v':bZ K "_law_cells" l9 w0)
  (w1:bZ K "_law_changes" yN w2)
  (w3:bZ K "_law_worth" Cz w4)
  (w5:bZ K "_law_led" vj w6)
  (w7:bZ K "_law_deed" iA w8)
  (w9:bZ K "_law_onward" yP w')
  (x0:bZ K "_law_alike" gB x1)
  (x2:bZ K "_law_walked" rF x3)
  (x4:bZ K "_law_run" rf x5)
  (x7:bZ K "_law_right" mf x8)
  (tZ:bZ K "law" me fZ)
  (x9:nsIn K mainGlobals "NOUGHT"=some (some (.ref q))) (x':K.lookup q=some #[.type "tuple",V2,.seq (List.toArray [.str "num" V3,.int 0 V4]) nN,V5]) (y0:nsIn K mainGlobals "Cutting"=some (some (.ref C))) (v1:nsIn K mainGlobals "TOP"=some (some (.int 1000000000000000000 U1))) (vD:nsIn K mainGlobals "DEEPEST"=some (some (.int 15 tD))) (vR:nsIn K mainGlobals "BookRun"=some (some (.ref c))) (vT:nsIn K mainGlobals "Turns"=some (some (.ref c0)))
  (y1:nsIn K mainGlobals "TooLong"=some (some (.ref x)))
  (y2:nsIn K mainGlobals "TooDeep"=some (some (.ref y)))
  (y3:K.lookup x=some #[U2,U3,.cls U4,U5]) (t0:typeIn K (.ref x)=some (.type "type")) (m8:mroIn K x (.type "BaseException")=some true) (k2:keepIn K (.ref x)=true)
  (y5:K.lookup y=some #[U6,U7,.cls U8,U9]) (t1:typeIn K (.ref y)=some (.type "type")) (m9:mroIn K y (.type "BaseException")=some true) (k3:keepIn K (.ref y)=true)
  (y':mroIn K x (.ref x)=some true) (A4:mroIn K y (.ref x)=some false) (A5:mroIn K y (.ref y)=some true)
  (e0:excIn K x nL "ValueError.__new__"=true) (e1:excIn K y nL "ValueError.__new__"=true)
  (X':og K x) (a4:og K y)
  (rk:RK K c) (A6:Mk K c f3) (tm:wQ K c0 "__init__" f4) (m':bV K c "take_turn" f5) (a':bV K c "number_in" f6) (m3:bV K c "chain_of" A7) (b0:bV K c "what_of" A8)
  (ck:CK K C) (mk:Mk K C f7) (b6:bV K C "place_of_body" f9) (A':bV K C "place_of" B1) (B2:bV K C "place_of_cut" B3) (B4:bV K C "ways_of" B5)
  (B6:el K "__init__" "Cutting.__init__" re f7)
  (B7:el K "place_of_body" "Cutting.place_of_body" vf f9)
  (B8:el K "place_of" "Cutting.place_of" vk B1)
  (B9:el K "place_of_cut" "Cutting.place_of_cut" vg B3)
  (B':el K "ways_of" "Cutting.ways_of" vp B5)
  (C':el K "__init__" "Turns.__init__" rA f4)
  (D':el K "take_turn" "Turns.take_turn" mh f5)
  (E1:el K "number_in" "Turns.number_in" rB f6)
  (E2:el K "__init__" "BookRun.__init__" pY f3)
  (E3:el K "chain_of" "BookRun.chain_of" u7 A7)
  (E4:el K "what_of" "BookRun.what_of" ve A8)
  (z3:nsIn K mainGlobals "len"=some none)
  (z4:nsIn K mainGlobals "int"=some none)
  (L:nsIn K mainGlobals "range"=some none)
  (z0:nsIn K mainGlobals "list"=some none)
  (r:nsIn K mainGlobals "reversed"=some none)
  (p:nsIn K mainGlobals "isinstance"=some none)
  (O:nsIn K mainGlobals "tuple"=some none)
  (A:nsIn K mainGlobals "sorted"=some none)
  (z5:nsIn K mainGlobals "set"=some none)
  (z6:nsIn K mainGlobals "zip"=some none)
  (z1:nsIn K mainGlobals "dict"=some none)
  (z7:nsIn K mainGlobals "max"=some none)
  (z8:nsIn K mainGlobals "str"=some none)
  (z2:nsIn K mainGlobals "bool"=some none)
  (z':nsIn K mainGlobals "all"=some none)
  (kt:Kt K)
  :∃fd:FuncData,(∀(s:Shared) (v:Value),BindsTo s fd #[[v],[]] [("_law_script",v)])/\∀base:Heap,K.In base->base.Ns mainGlobals mg->ai l.prog w K mg base aD 66 fa fd ["_law_script"] (nE K):=by
 have e:=l8.symm.trans (mg_of X G tZ.1)
 cases e
 obtain⟨E5,t,Q,M⟩:=t2.go X G
 obtain⟨V6,b7,E6,E7⟩:=t3.go X G
 obtain⟨V7,b9,V8,E8⟩:=t4.go X G
 obtain⟨V9,R,k4,m4⟩:=t5.go X G
 obtain⟨V',b',W0,E9⟩:=t7.go X G
 obtain⟨W1,c1,E',H0⟩:=t8.go X G
 obtain⟨W2,F2,k5,c2⟩:=t'.go X G
 obtain⟨W3,c3,H1,H2⟩:=n7.go X G
 obtain⟨W4,S,k6,c4⟩:=o1.go X G
 obtain⟨W5,c5,H3,H4⟩:=o2.go X G
 obtain⟨W6,c6,H5,H6⟩:=o4.go X G
 obtain⟨W7,c9,H7,H8⟩:=o6.go X G
 obtain⟨W8,c',H9,H'⟩:=o8.go X G
 obtain⟨W9,F,k,m⟩:=tw.go X G
 obtain⟨W',B,T,U⟩:=p0.go X G
 obtain⟨Y',F3,k7,d0⟩:=p2.go X G
 obtain⟨Z',V,k8,m5⟩:=p4.go X G
 obtain⟨dPo,d1,I1,I2⟩:=p6.go X G
 obtain⟨dSt,d2,kSt,I3⟩:=p'.go X G
 obtain⟨dBo,F4,I4,d3⟩:=q0.go X G
 obtain⟨dAn,d4,I5,I6⟩:=q2.go X G
 obtain⟨dOp,D,Y,m0⟩:=dF.go X G
 obtain⟨dIn,d5,I7,I'⟩:=q5.go X G
 obtain⟨dLo,d6,J0,K0⟩:=q7.go X G
 obtain⟨dTi,d7,K1,K2⟩:=r0.go X G
 obtain⟨dBu,d8,K3,K4⟩:=r2.go X G
 obtain⟨dCa,d',K5,L0⟩:=r4.go X G
 obtain⟨dJo,e2,L1,L3⟩:=r6.go X G
 obtain⟨dWo,E,k1,m1⟩:=r8.go X G
 obtain⟨dNd,F5,k9,e3⟩:=s0.go X G
 obtain⟨dBe,e4,L4,L5⟩:=s2.go X G
 obtain⟨dDp,e5,L6,L7⟩:=s4.go X G
 obtain⟨dPf,e6,L8,L9⟩:=s6.go X G
 obtain⟨dCu,I,k0,m2⟩:=s8.go X G
 obtain⟨dHe,F6,k',e7⟩:=s'.go X G
 obtain⟨dWs,e8,L',M0⟩:=u1.go X G
 obtain⟨dDa,e9,M1,M3⟩:=u3.go X G
 obtain⟨dFo,e',M4,M5⟩:=u8.go X G
 obtain⟨dEn,F7,f',g0⟩:=u'.go X G
 obtain⟨dFi,g1,M6,M7⟩:=v3.go X G
 obtain⟨dOn,g2,M8,M9⟩:=v5.go X G
 obtain⟨dRu,g4,M',N0⟩:=v8.go X G
 obtain⟨dCe,g5,N1,N2⟩:=v'.go X G
 obtain⟨dCg,g6,N3,N4⟩:=w1.go X G
 obtain⟨dLw,F0,g7,m6⟩:=w3.go X G
 obtain⟨dLe,F9,g8,g'⟩:=w5.go X G
 obtain⟨dDl,h1,N5,N6⟩:=w7.go X G
 obtain⟨dOl,h2,N7,N8⟩:=w9.go X G
 obtain⟨dAk,F1,h3,m7⟩:=x0.go X G
 obtain⟨dWk,a0,N9,h4⟩:=x2.go X G
 obtain⟨dLr,a1,h5,h6⟩:=x4.go X G
 obtain⟨dRt,h7,N',O0⟩:=x7.go X G
 obtain⟨dmI,h8,kmI⟩:=B6.go
 obtain⟨dmB,a2,kmB⟩:=B7.go
 obtain⟨dmO,h',kmO⟩:=B8.go
 obtain⟨dmC,i0,kmC⟩:=B9.go
 obtain⟨dmW,i1,kmW⟩:=B'.go
 obtain⟨dTI,i2,kTI⟩:=C'.go
 obtain⟨dTT,i3,kTT⟩:=D'.go
 obtain⟨dTN,i4,kTN⟩:=E1.go
 obtain⟨dRI,j0,kRI⟩:=E2.go
 obtain⟨dRC,a3,kRC⟩:=E3.go
 obtain⟨dRW,j1,kRW⟩:=E4.go
 obtain⟨ocZ,odZ,O1,O2,O3,O4,O5,O6,slZ,lZ,cZ,kZ⟩:=tZ.2
 have FZ:=Z0 (st:=me) lZ cZ kZ
 have b:=FT X G z3
 have i:=FT X G z4
 have f:=FT X G L
 have u:=FT X G z0
 have d:=FT X G r
 have N:=FT X G p
 have n:=FT X G O
 have j:=FT X G A
 have J:=FT X G z5
 have o:=FT X G z6
 have a:=FT X G z1
 have n1:=FT X G z7
 have n2:=FT X G z8
 have n0:=FT X G z2
 have n3:=FT X G z'
 have h0:io K q:=λH=>.inr #[_,_,_,x',Z,Z,bj,(.cons #[_,Z] (.cons #[_,Z] .nil))]
 refine#[fnOf "law" "law" (bp me) (be me) (aa me) .none O1 O2 O3 O4 O5 O6,λs v=>.of_eq Z,λbase _ _=>?_]
 have g:ai l.prog w K mg base aD 1 o' _ _ aX:=uL F
 have O7:ai l.prog w K mg base aD 1 o9 _ _ (se K):=x6 c' b i
 have G0:ai l.prog w K mg base aD 2 p1 _ _ gQ:=Zx B #[g,F.b2,k,m]
 have G4:ai l.prog w K mg base aD 2 p3 _ _ gp:=pF F3 g F.b2 k m f
 have G5:ai l.prog w K mg base aD 6 p5 _ _ (cX 4):=wN (P:=l.prog) (w:=w) (base:=base) V V.b3 m5 #[g,F.b2,k,m] #[G0,B.b1,T,U] b 4
 have O8:ai l.prog w K mg base aD 7 p9 _ _ iZ:=uK d1 #[g,F.b2,k,m] #[G5,V.b3,k8,m5]
 have SS:=BK (P:=l.prog) (w:=w) (base:=base) d2 F4 #[g,F.b2,k,m] #[G5,V.b3,k8,m5] #[O8,d1.b2,I1,I2] d2.b5 I3 F4.b5 d3 b n f
 have O9:ai l.prog w K mg base aD 21 q1 _ _ (gN 6):=(SS 6).2
 have O':ai l.prog w K mg base aD 22 q3 _ _ sd:=xX d4 #[g,F.b2,k,m] #[G4,F3.b2,k7,d0] #[O9,F4.b5,I4,d3] b f n i
 have G1:ai l.prog w K mg base aD 2 q4 _ _ mG:=Bk D #[g,F.b2,k,m]
 have P0:ai l.prog w K mg base aD 3 q6 _ _ (dn 2):=pE d5 #[g,F.b2,k,m] #[G1,D.b3,Y,m0]
 have P1:ai l.prog w K mg base aD 3 q' _ _ (dn 1):=ZA d6 #[g,F.b2,k,m] #[G1,D.b3,Y,m0] i n
 have P4:ai l.prog w K mg base aD 3 r1 _ _ (dn 1):=Yc d7 #[g,F.b2,k,m] #[G1,D.b3,Y,m0] i n
 have P5:ai l.prog w K mg base aD 4 r3 _ _ mx:=uA d8 #[g,F.b2,k,m] #[G1,D.b3,Y,m0] #[G4,F3.b2,k7,d0] #[P1,d6.b4,J0,K0] #[P4,d7.b4,K1,K2] #[P0,d5.b4,I7,I']
 have P6:ai l.prog w K mg base aD 23 r5 _ _ my:=uB d' #[g,F.b2,k,m] #[G0,B.b1,T,U] #[P5,d8.b1,K3,K4] #[O',d4.b3,I5,I6] b n
 have NS:=wA (P:=l.prog) (w:=w) (base:=base) t t.b1 M J j
 have G6:ai l.prog w K mg base aD 7 f0 _ _ (dq 6):=NS 6
 have P7:ai l.prog w K mg base aD 7 f0 _ _ (sh K):=yf (fN:=f0) (fdN:=E5) t #[NS 5,t.b1,Q,M] J j
 have P8:ai l.prog w K mg base aD 1 l' _ _ nF:=yh b7
 have US:=BY (P:=l.prog) (w:=w) (base:=base) b' b9 R b'.b2 E9 b9.b2 E8 R.b2 m4 #[P8,b7.b1,E6,E7] #[G6,t.b1,Q,M] u J j d
 have P9:ai l.prog w K mg base aD 31 f1 _ _ (f8 7):=(US 7).2
 have P':ai l.prog w K mg base aD 10 f1 _ _ (f8 0):=(US 0).2
 have Q':ai l.prog w K mg base aD 1 n4 _ _ nB:=xZ c1
 have G9:ai l.prog w K mg base aD 2 n5 _ _ gO:=uF F2 #[Q',c1.b1,E',H0] u
 have R0:ai l.prog w K mg base aD 1 n' _ _ iS:=uC c3
 have R1:ai l.prog w K mg base aD 8 f2 _ _ gr:=pG S #[G6,t.b1,Q,M]
 have R3:ai l.prog w K mg base aD 8 f2 _ _ (sj K):=yi S #[P7,t.b1,Q,M]
 have R4:ai l.prog w K mg base aD 11 o3 _ _ iX:=uJ c5 #[P',R.b2,k4,m4]
 have R5:ai l.prog w K mg base aD 63 f9 _ _ (mH C 8):=DN (P:=l.prog) (w:=w) (base:=base) ck a2 h' i0 i1 a2.b3 b6 h'.b3 A' i0.b3 B2 i1.b4 B4 #[G9,F2.b1,k5,c2] #[P9,R.b2,k4,m4] #[R0,c3.b1,H1,H2] #[R1,S.b1,k6,c4] #[R4,c5.b2,H3,H4] b n d 8 (Eh _)
 have R6:ai l.prog w K mg base aD 3 f7 _ _ (sg C):=yc h8 ck #[G9,F2.b1,k5,c2]
 have R7:ai l.prog w K mg base aD 64 o5 _ _ (mJ K q):=uH c6 ck mk R6 h8.b2 (mg_of X G y0) (mg_of X G x9) h0 R5 a2.b3 b6 #[R3,S.b1,k6,c4] n d
 have R8:ai l.prog w K mg base aD 65 o7 _ _ (mE K q):=uE c9 #[R7,c6.b3,H5,H6] n
 have R9:ai l.prog w K mg base aD 1 r7 _ _ iU:=ZC e2 (mg_of X G v1)
 have G3:ai l.prog w K mg base aD 7 r' _ _ (cw K 6):=sU (P:=l.prog) (w:=w) (base:=base) E E.b2 m1 #[R9,e2.b3,L1,L3] 6
 have G2:ai l.prog w K mg base aD 1 s9 _ _ (ig q):=pq I
 have G':ai l.prog w K mg base aD 2 u0 _ _ (iT q):=ZD F6 #[G2,I.b2,k0,m2] a o
 have R':ai l.prog w K mg base aD 8 u2 _ _ gU:=ZF e8 #[G3,E.b2,k1,m1] n
 have S0:ai l.prog w K mg base aD 9 u4 _ _ (di q):=ZG e9 #[G',F6.b3,k',e7] #[G2,I.b2,k0,m2] #[G3,E.b2,k1,m1] #[R',e8.b2,L',M0]
 have S1:ai l.prog w K mg base aD 1 u9 _ _ fc:=pC e'
 have j2:ai l.prog w K mg base aD 8 v2 _ _ (nD q):=px F7 #[G2,I.b2,k0,m2] #[G3,E.b2,k1,m1] n h0
 have S2:ai l.prog w K mg base aD 9 v4 _ _ (gn q):=Ye g1 #[j2,F7.b3,f',g0] a o
 have S3:ai l.prog w K mg base aD 9 v7 _ _ (iW q):=ZE g2 #[G2,I.b2,k0,m2] #[G',F6.b3,k',e7] #[S1,e'.b1,M4,M5] #[j2,F7.b3,f',g0]
 have S4:clsIn K x≠none:=by
  unfold clsIn
  rw[y3]
  intro z
  cases z
 have S5:clsIn K y≠none:=by
  unfold clsIn
  rw[y5]
  intro z
  cases z
 have l0:=mg_of X G y1
 have l1:=mg_of X G y2
 have S6:XM K mg "TooLong" x:=#[e0,k2,X',t0,l0]
 have S7:XM K mg "TooDeep" y:=#[e1,k3,a4,t1,l1]
 have l2:ai l.prog w K mg base aD 1 s1 _ _ lG:=ZH F5
 have S8:ai l.prog w K mg base aD 2 s7 _ _ lG:=ZI e6 #[l2,F5.b2,k9,e3]
 have S9:ai l.prog w K mg base aD 2 s3 _ _ iQ:=pk e4 #[l2,F5.b2,k9,e3] b
 have S':ai l.prog w K mg base (eI l.prog w) 1 s5 _ _ (fb y):=ZJ e5 (mg_of X G vD) S7
 have T0:ai l.prog w K mg base aD 1 f4 _ _ (mK c):=uN i2 rk
 have T1:ai l.prog w K mg base (eI l.prog w) 1 f5 _ _ (i5 c x):=pI i3 rk S6
 have T2:ai l.prog w K mg base aD 1 f6 _ _ (gq c):=uO i4 rk
 have T3:ai l.prog w K mg base aD 2 f3 _ _ (mI c):=uI j0 rk T0 i2.b3 (mg_of X G vT) tm
 have T4:=AF (P:=l.prog) (w:=w) (base:=base) rk a3 a3.b4 m3 j1 j1.b3 b0 #[S2,g1.b2,M6,M7] #[S0,e9.b3,M1,M3] #[S3,g2.b2,M8,M9] T1 i3.b1 m' T2 i4.b2 a' (S') e5.b1 L6 L7 #[S8,e6.b2,L8,L9] n 16
 have T5:ai l.prog w K mg base (eI l.prog w) 45 v9 _ _ (sq x y q):=yj g4 rk A6 T3 j0.b4 (mg_of X G vR) #[S9,e4.b3,L4,L5] T4 a3.b4 m3
 have T6:ai l.prog w K mg base aD 3 w0 _ _ iR:=pp g5 #[g,F.b2,k,m] #[G0,B.b1,T,U] f
 have T7:ai l.prog w K mg base aD 3 w2 _ _ sf:=yb g6 #[g,F.b2,k,m] #[G0,B.b1,T,U] f
 have l3:ai l.prog w K mg base aD 7 w4 _ _ (lF K 6):=Am (P:=l.prog) (w:=w) (base:=base) F0 F0.b2 m6 i n1 6
 have l4:ai l.prog w K mg base aD 8 w6 _ _ (ij q):=ye F9 #[l3,F0.b2,g7,m6] n a h0
 have T8:ai l.prog w K mg base aD 8 w8 _ _ (di q):=pw h1 #[l3,F0.b2,g7,m6] i n a o
 have T9:ai l.prog w K mg base aD 9 w' _ _ (iW q):=yg h2 #[l4,F9.b3,g8,g'] i a o
 have l5:ai l.prog w K mg base aD 5 x1 _ _ (cq 4):=oh (P:=l.prog) (w:=w) (base:=base) F1 F1.b2 m7 b n u i n0 n2 N n3 o kt 4
 have T':ai l.prog w K mg base aD 26 x3 _ _ (gR q 16):=Ca (P:=l.prog) (w:=w) (base:=base) a0 a0.b3 h4 #[l4,F9.b3,g8,g'] #[T8,h1.b3,N5,N6] #[T9,h2.b2,N7,N8] #[l5,F1.b2,h3,m7] b a o n N kt 16
 have l6:ai l.prog w K mg base aD 46 x5 _ _ (iV q):=uD a1 (T5) g4.b5 M' N0 #[l0,S4,t0,m8,l1,S5,t1,m9,y',A4,A5]
 have U0:ai l.prog w K mg base aD 47 x8 _ _ (iY q):=pH h7 #[l6,a1.b4,h5,h6] #[l5,F1.b2,h3,m7] #[T',a0.b3,N9,h4] b a n N kt
 exact yd FZ #[O7,c'.b2,H9,H'] #[P6,d'.b1,K5,L0] #[R8,c9.b1,H7,H8] #[T6,g5.b1,N1,N2] #[l6,a1.b4,h5,h6] #[U0,h7.b4,N',O0] #[T7,g6.b2,N3,N4] a
theorem Dx{l:PySem.W.OpenLaw}{Y:World->Heap->Prop}{d:DefRec}{K:Params->Frag}(e:l.most=some 63)(H:d.params.defaults=[])
  (g:∀(w:World) (h:Heap),Y w h->(K w.params).In h)
  (F:∀(w:World) (mg:Str->Option Value) (b:Addr) (h:Heap),(K w.params).In h->h.Ns mainGlobals mg->mg d.name=some (.ref b)->
   ∃c:FuncData,(∀(s:Shared) (u:Value),BindsTo s c #[[u],[]] [("_law_script",u)])/\∀base:Heap,(K w.params).In base->base.Ns mainGlobals mg->ai l.prog w (K w.params) mg base aD 66 b c ["_law_script"] (nE (K w.params))):
  PySem.W.WalkO q L m Y l.row.toRowW d [] (λf v=>PySem.call f v):=
 _L.vM (n:=63) (k:=66) (x:="_law_script") (CX:=λ_=>aD) (sp:=λw=>nE (K w.params)) e Ln H #[Z,Ln,Ln] g F (λ_ _ a N i _ j=>#[a,N,Z,j,i,λ_=>Z]) λ_ _ _ _ _ z=>z
end _K
namespace PySem.W.Fast
noncomputable def tw3370527685439151461:=0
noncomputable def tw17844788093709076618:=0
noncomputable def tw15429454630312592673:=0
noncomputable def tw18184562238793440461:=0
noncomputable def tw701481292731664262:=0
noncomputable def tw12296039099025602622:=0
noncomputable def tw13375149279173383608:=0
noncomputable def tw4059629891906140714:=0
noncomputable def tw2367960086151283342:=0
noncomputable def tw1317898465187181603:=0
noncomputable def tw5118233624621370104:=0
noncomputable def tw12855277661102501890:=0
noncomputable def tw14993170296329913557:=0
noncomputable def tw3296731611255194013:=0
noncomputable def tw14486512307922984974:=0
noncomputable def tw7019187938517445792:=0
noncomputable def tw15482488809900602321:=0
noncomputable def tw2313164576714123181:=0
noncomputable def tw16435835817724007899:=0
noncomputable def tw9267278087811666382:=0
noncomputable def tw5072977515642044393:=0
noncomputable def tw17346612207137848831:=0
noncomputable def tw11628347186909086319:=0
noncomputable def tw13658638884805671154:=0
noncomputable def tw12282190256866635426:=0
noncomputable def tw18084103973785455163:=0
noncomputable def tw14300398684162671732:=0
noncomputable def tw4586733120575639815:=0
noncomputable def tw2541180076492886286:=0
noncomputable def tw5266680920582639759:=0
noncomputable def tw1786043395381154276:=0
noncomputable def tw12782827473232916279:=0
noncomputable def tw3004399821353668672:=0
noncomputable def tw5505395687636835384:=0
noncomputable def tw2056364572509154114:=0
noncomputable def tw11282748077938107270:=0
noncomputable def tw2396072136755658507:=0
noncomputable def tw1405237547482529741:=0
noncomputable def tw3711094463841279166:=0
noncomputable def tw5239479349727250232:=0
noncomputable def tw17886182204807500451:=0
noncomputable def tw15912890437672976136:=0
noncomputable def tw10168314969963528051:=0
noncomputable def tw10573356370270518333:=0
noncomputable def tw221156510944535844:=0
noncomputable def tw10183836951364974143:=0
noncomputable def tw2267198358409322671:=0
noncomputable def tw14217978901326849934:=0
noncomputable def tw9631567952170065032:=0
noncomputable def tw9495123882284247944:=0
noncomputable def tw5702431584175416757:=0
noncomputable def tw6369176947651984143:=0
noncomputable def tw3041957230663984184:=0
noncomputable def tw3573648806664432390:=0
noncomputable def tw18206898561434321743:=0
noncomputable def tw11728336945123908726:=0
noncomputable def tw7109205960041047406:=0
noncomputable def tw11750373172825401034:=0
noncomputable def tw10002463056165669988:=0
noncomputable def tw5836483615095731334:=0
noncomputable def tw2312630255739148836:=0
noncomputable def tw17590480973967801568:=0
noncomputable def tw7422871384287589145:=0
noncomputable def tw10813740333604313440:=0
noncomputable def tw10688260506963313889:=0
noncomputable def tw11782813629611456301:=0
noncomputable def tw17141949280405423378:=0
noncomputable def tw2058863815194948117:=0
noncomputable def tw14754450528347751790:=0
noncomputable def tw8691862359542674755:=0
noncomputable def tw14465029950517104071:=0
noncomputable def tw5828829635367436781:=0
noncomputable def tw4455695109583474265:=0
noncomputable def tw1610886493769534623:=0
noncomputable def tw6428319904182191856:=0
noncomputable def tw6167017790679277584:=0
noncomputable def tw14178614562414172597:=0
noncomputable def tw488488903701691660:=0
noncomputable def tw7504938347592624052:=0
noncomputable def tw8190806453732301096:=0
noncomputable def tw13633906944292487784:=0
noncomputable def tw13042651800796195140:=0
noncomputable def tw14244536004451376133:=0
noncomputable def tw9486448881749276467:=0
noncomputable def tw6035480560720331034:=0
noncomputable def tw15367585240207955301:=0
noncomputable def tw8096574289787986530:=0
noncomputable def tw12937018949765342612:=0
noncomputable def tw14764341554115913108:=0
noncomputable def tw9240826237301500458:=0
noncomputable def tw15470628629316708118:=0
noncomputable def tw6568875933421596148:=0
noncomputable def tw16632976970806349474:=0
noncomputable def tw9909185149418209787:=0
noncomputable def tw1458338479722522417:=0
noncomputable def tw2425447130179713544:=0
noncomputable def tw5504268624461876155:=0
noncomputable def tw3594637898389132579:=0
noncomputable def tw7525533624713191879:=0
noncomputable def tw7430670919140835913:=0
noncomputable def tw1388599871970830100:=0
noncomputable def tw9074062510184574200:=0
noncomputable def tw16226629286612525014:=0
noncomputable def tw10825042630616245431:=0
noncomputable def tw4073385599260036143:=0
noncomputable def tw11776512851209932792:=0
noncomputable def tw12422098893745619664:=0
noncomputable def tw17041592779200217397:=0
noncomputable def tw7379343544990154003:=0
noncomputable def tw17795859290069197931:=0
noncomputable def tw16280997201958650806:=0
noncomputable def tw13967059172466927299:=0
noncomputable def tw3104158505629840554:=0
noncomputable def tw9610467572460437396:=0
noncomputable def tw13259440264443306318:=0
noncomputable def tw2453111453806486822:=0
noncomputable def tw17170068601751010957:=0
noncomputable def tw11289233934618795391:=0
noncomputable def tw11111336362737675888:=0
noncomputable def tw3766652738385818294:=0
noncomputable def tw15750844277933486128:=0
noncomputable def tw2016492146484683303:=0
noncomputable def tw6976315866603906039:=0
noncomputable def tw14441807502729188286:=0
noncomputable def tw1768247895885242898:=0
noncomputable def tw8645632331784230210:=0
noncomputable def tw14024044315079062663:=0
noncomputable def tw18126113407038609324:=0
noncomputable def tw13311298110125638092:=0
noncomputable def tw6588122641222201879:=0
noncomputable def tw10235218152160223788:=0
noncomputable def tw14333530165008807377:=0
noncomputable def tw4609480918296547543:=0
noncomputable def tw10903151512400293226:=0
noncomputable def tw8179848758773855246:=0
noncomputable def tw15564614089736226641:=0
noncomputable def tw2156508475710667676:=0
noncomputable def tw10392402549894613699:=0
noncomputable def tw1422181396546953346:=0
noncomputable def tw3749484230668837397:=0
noncomputable def tw3817109484382567240:=0
noncomputable def tw15241736258866488154:=0
noncomputable def tw12582779066263673806:=0
noncomputable def tw245050608179778288:=0
noncomputable def tw10280725056719423583:=0
noncomputable def tw7093455787367867046:=0
noncomputable def tw18016959666051819261:=0
noncomputable def tw5771205402305282195:=0
noncomputable def tw18135312466721605732:=0
noncomputable def tw10073565144575738329:=0
noncomputable def tw11021385341400795583:=0
noncomputable def tw1705357961311578251:=0
noncomputable def tw3552466666938417245:=0
noncomputable def tw13504465626064881560:=0
noncomputable def tw9908856097703920940:=0
noncomputable def tw15778165257295426414:=0
noncomputable def tw9091612684735578159:=0
noncomputable def tw4261938320182793645:=0
noncomputable def tw16765969899576346896:=0
noncomputable def tw11943413824004987176:=0
noncomputable def tw14034900596971605087:=0
noncomputable def tw2888741207074101511:=0
noncomputable def tw8455660728935442163:=0
noncomputable def tw16401996924765602088:=0
noncomputable def tw617471731761656152:=0
noncomputable def tw584563309576754239:=0
noncomputable def tw5854736423828523233:=0
noncomputable def tw8360317140668013782:=0
noncomputable def tw9330570750967505822:=0
noncomputable def tw14676617641158467977:=0
noncomputable def tw11412240942485402599:=0
noncomputable def tw9292287275336772680:=0
noncomputable def tw13418371618098683819:=0
noncomputable def tw2260997837095563961:=0
noncomputable def tw8347151663432698051:=0
noncomputable def tw12439957075508108705:=0
noncomputable def tw5245318269943688146:=0
noncomputable def tw3743861455268212496:=0
noncomputable def tw14971484868798942580:=0
noncomputable def tw9733213963913720340:=0
noncomputable def tw10640188168662499359:=0
noncomputable def tw13003861601584878136:=0
noncomputable def tw14539754141261833532:=0
noncomputable def tw17871354895132261121:=0
noncomputable def tw16019269414682238770:=0
noncomputable def tw16576066114064329959:=0
noncomputable def tw9741281789242343768:=0
noncomputable def tw5889953416083891200:=0
noncomputable def tw10925832708797992171:=0
noncomputable def tw710056426291044695:=0
noncomputable def tw10607452694340810944:=0
noncomputable def tw10200101506753991533:=0
noncomputable def tw5987597255668317834:=0
noncomputable def tw1434272090186542381:=0
noncomputable def tw2686669800000824374:=0
noncomputable def tw9302224866894161399:=0
noncomputable def tw17534565419803137402:=0
noncomputable def tw2569817073539010864:=0
noncomputable def tw5599338911487143550:=0
noncomputable def tw15471868050834244256:=0
noncomputable def tw13470714247058538303:=0
noncomputable def tw9298603323739921772:=0
noncomputable def tw354864680541507882:=0
noncomputable def tw2112807608612619922:=0
noncomputable def tw6012626010341457227:=0
noncomputable def tw8609875662105673705:=0
noncomputable def tw3945984667145668020:=0
noncomputable def tw9266373590450358946:=0
noncomputable def tw5827579710068365522:=0
noncomputable def tw3750026756497350395:=0
noncomputable def tw6694456213810861967:=0
noncomputable def tw7238075445636645552:=0
noncomputable def tw11970678095698247168:=0
noncomputable def tw15128615560897082622:=0
noncomputable def tw3668701729488526317:=0
noncomputable def tw13495345889252133803:=0
noncomputable def tw4511245526916634827:=0
noncomputable def tw5093073995713038503:=0
noncomputable def tw13443112544108242604:=0
noncomputable def tw11185988344382598275:=0
noncomputable def tw4606917492973877889:=0
noncomputable def tw8851395120214416063:=0
noncomputable def tw9475952501053182873:=0
noncomputable def tw11093513786289346506:=0
noncomputable def tw1478856490334562786:=0
noncomputable def tw7599907178154560777:=0
noncomputable def tw18258576151170809422:=0
noncomputable def tw10898745450649734442:=0
noncomputable def tw2713241963816948542:=0
noncomputable def tw13163966766331827773:=0
noncomputable def tw2113354695605600090:=0
noncomputable def tw199011747469247200:=0
noncomputable def tw15507538833650102770:=0
noncomputable def tw13970253508290002345:=0
noncomputable def tw9067461136991955768:=0
noncomputable def tw15610524210052012284:=0
noncomputable def tw10692372162915917936:=0
noncomputable def tw142364739034208783:=0
noncomputable def tw1752284777212691895:=0
noncomputable def tw8866226534471291083:=0
noncomputable def tw10162660630040368961:=0
noncomputable def tw13790783034748477382:=0
noncomputable def tw1001487206689050301:=0
noncomputable def tw17018508020338038001:=0
noncomputable def tw13976696208374875226:=0
noncomputable def tw17617261214625451862:=0
noncomputable def tw13541002733347719987:=0
noncomputable def tw11994541853964683399:=0
noncomputable def tw17787529396464249550:=0
noncomputable def tw4601969906189632260:=0
noncomputable def tw92968942882842330:=0
noncomputable def tw17038028560273032083:=0
noncomputable def tw11079143297548530094:=0
noncomputable def tw4749043136571253736:=0
noncomputable def tw11113254454333222736:=0
noncomputable def tw14297512729935852146:=0
noncomputable def tw14231107463878592795:=0
noncomputable def tw6391361678854645247:=0
noncomputable def tw18386299623500954168:=0
noncomputable def tw4213759586427262174:=0
noncomputable def tw6457831706970081836:=0
noncomputable def tw18143142046125649830:=0
noncomputable def tw104372064908292156:=0
noncomputable def tw7363340409476531765:=0
noncomputable def tw5235257509904089956:=0
noncomputable def tw617647810549905362:=0
noncomputable def tw17821923663815594910:=0
noncomputable def tw16815382442160240960:=0
noncomputable def tw15273290558692347794:=0
noncomputable def tw3486250368400430320:=0
noncomputable def tw8851253625947075645:=0
noncomputable def tw270758647999470868:=0
noncomputable def tw6324415329955898719:=0
noncomputable def tw2715122624238472787:=0
noncomputable def tw12447672019647028566:=0
noncomputable def tw849792959009853763:=0
noncomputable def tw5005147888227096204:=0
noncomputable def tw6037164324547593885:=0
noncomputable def tw13774612655556786171:=0
noncomputable def tw515686585717721282:=0
noncomputable def tw4565767269540073953:=0
noncomputable def tw17334018634287427548:=0
noncomputable def tw9456746741808693921:=0
noncomputable def tw13991776215616830241:=0
noncomputable def tw2197852419304383629:=0
noncomputable def tw961538672219012778:=0
noncomputable def tw10410142004002992665:=0
noncomputable def tw3702499511006419676:=0
noncomputable def tw10034357306742995596:=0
noncomputable def tw9239297078077567784:=0
noncomputable def tw11382054637206798492:=0
noncomputable def tw10610642600442199279:=0
noncomputable def tw7883428455151458364:=0
noncomputable def tw14151139271121022834:=0
noncomputable def tw8125123537181079622:=0
noncomputable def tw14976510475871119499:=0
noncomputable def tw9161033813000816210:=0
noncomputable def tw9005653726301408792:=0
noncomputable def tw72332454424109926:=0
noncomputable def tw9050816560173719252:=0
noncomputable def tw8665182552111014705:=0
noncomputable def tw1040190442545670698:=0
noncomputable def tw15842133529212850873:=0
noncomputable def tw4427297138158401528:=0
noncomputable def tw3825654821306266105:=0
noncomputable def tw16687445828568639036:=0
noncomputable def tw4853237289753206842:=0
noncomputable def tw16969067463992821620:=0
noncomputable def tw13192930757443446846:=0
noncomputable def tw169255861282534666:=0
noncomputable def tw7517418578532881101:=0
noncomputable def tw11673985327311781821:=0
noncomputable def tw15060396344230489118:=0
noncomputable def tw215009982017377145:=0
noncomputable def tw7961039128309975978:=0
noncomputable def tw6624390635816450295:=0
noncomputable def tw670688592152913605:=0
noncomputable def tw3921949689106338717:=0
noncomputable def tw2809729564250650634:=0
noncomputable def tw2040400698940740859:=0
noncomputable def tw2848871052616786234:=0
noncomputable def tw4029284602484428753:=0
noncomputable def tw5646142155332640658:=0
noncomputable def tw312474803056060383:=0
noncomputable def tw13931969448100655631:=0
noncomputable def tw15882606369902329885:=0
noncomputable def tw960315998655299241:=0
noncomputable def tw13304448078319267595:=0
noncomputable def tw3542398778608135277:=0
noncomputable def tw15999837328578682198:=0
noncomputable def tw2941634645518247066:=0
noncomputable def tw6201609338733756608:=0
noncomputable def tw16748908849436279123:=0
noncomputable def tw9990759524720761014:=0
noncomputable def tw1766052482954360642:=0
noncomputable def tw6623100544968774287:=0
noncomputable def tw5169216316530017605:=0
noncomputable def tw17474136791912279781:=0
noncomputable def tw15527192596820226985:=0
noncomputable def tw1346161806963897471:=0
noncomputable def tw13554779378752514706:=0
noncomputable def tw6867078416069276207:=0
noncomputable def tw13295959515215742753:=0
noncomputable def tw8849917090054972656:=0
noncomputable def tw15163741460430235890:=0
noncomputable def tw15585538736814346472:=0
noncomputable def tw7299214601723857212:=0
noncomputable def tw18420670620494431411:=0
noncomputable def tw5769452931544530324:=0
noncomputable def tw6298096375013677579:=0
noncomputable def tw10185375841494578656:=0
noncomputable def tw1019989100038922785:=0
noncomputable def tw11567610836287342794:=0
noncomputable def tw9513636941299481674:=0
noncomputable def tw15460695700204227660:=0
noncomputable def tw7454995718357971582:=0
noncomputable def tw10055688777490668335:=0
noncomputable def tw13155077476877372116:=0
noncomputable def tw177212903635099024:=0
noncomputable def tw15695491603600306582:=0
noncomputable def tw1757211938390204595:=0
noncomputable def tw17158670834494577607:=0
noncomputable def tw7152866492740080796:=0
noncomputable def tw16276772928947953151:=0
noncomputable def tw7000035777773853029:=0
noncomputable def tw8942049558346795430:=0
end PySem.W.Fast
open PySem PySem.W PyProof.Rows PySem.W.X
theorem _K.BZ {q : Program} {loose : List PySem.Str} {XP : (PySem.Str → Option Value) → Heap → Prop} {K : Params → Frag} {as : List Addr} {n t : Nat} {r : RowW} {d : DefRec} {kwd : List (PySem.Str × PySem.Expr)} {run : Value → List Value → Sem Value}
    (e : ∀ P, as = (K P).map (·.1)) (h : WalkO q loose XP (InK K) r d kwd run) : WalkX q loose XP (obsZ as) (valZ K n t) r d kwd run :=
  fun w s₀ s₁ mg mb G Y a o pm cd doc dV kV h1 h2 h3 h4 h5 h6 args vals as' L => h w s₀ s₁ mg mb G (InK.keeps w _ _ (z_facts e Y).2.1 L.keeps) a o pm cd doc dV kV h1 h2 h3 h4 h5 h6 args vals as'
set_option maxRecDepth 100000 in
set_option maxHeartbeats 0 in
theorem PySem.Challenge.cw_againbook_k22_chains_by_hand_holds : PySem.Challenge.rw_againbook_k22_chains_by_hand.Holds := by
  w_on; o_law; z_head; (case hw => w_witness2)
  refine _K.BZ (fun _ => by rfl) (_K.Dx (l := PySem.Challenge.rw_againbook_k22_chains_by_hand) rfl rfl (fun w h Y => Y) ?F)
  case F =>
    intro w mg fa h KX G hmg
    apply _K.wY KX G hmg
    iterate 53 (apply _K.Dv;iterate 4 k_is)
    iterate 20 k_is
    iterate 2 k_exc
    iterate 2 (constructor<;>k_is)
    refine ⟨⟨?_,?_,?_,?_⟩,?_,?_,?_,?_,?_⟩;iterate 4 k_is
    iterate 5 (unfold _L.bu;k_is)
    iterate 2 (constructor;iterate 4 k_is)
    iterate 4 (constructor;iterate 3 k_is)
    refine ⟨⟨?_,?_,?_,?_⟩,?_,?_⟩;iterate 4 k_is
    iterate 2 (unfold _L.bu;k_is)
    constructor;iterate 4 k_is
    iterate 4 (constructor;iterate 3 k_is)
    iterate 11 (apply _K.DK;iterate 3 k_is)
    iterate 15 k_is
    constructor;iterate 9 kit_is
