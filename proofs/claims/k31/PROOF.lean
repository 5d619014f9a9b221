import PyProof.Rows.All
import Wide.All
import OpenK.AllK
import Wide.FinOn
import Lean
import PyProof.EqAt
import PyProof.EqKinds
import PyProof.TupleCall
import PySem.Challenge.RW_againbook_k31_likes_in_one_chain
set_option Elab.async false
set_option linter.all false
set_option maxRecDepth 100000
set_option genSizeOf false
theorem eY:0≤PySem.sizeLine:=by decide
theorem h8:1≤PySem.sizeLine:=by decide
theorem cg:2≤PySem.sizeLine:=by decide
theorem m9:3≤PySem.sizeLine:=by decide
theorem Aa:4≤PySem.sizeLine:=by decide
set_option Elab.async false
set_option linter.all false
set_option maxRecDepth 100000
set_option maxHeartbeats 4000000
open PySem.W (keepIn Frag nsIn kitOne fnOf mg_of codeIn findIn mroIn isFn mg_none_of kia_one typeIn emptyDict clsIn instObj hasDictIn kitAny specialIn callWith_K excIn lookIn plainGet notCls tailIn)
theorem Pm{p:Prop}(h:p:=by decide):p:=h
theorem Pn{p:Prop}(h:p:=by omega):p:=h
theorem Po{p:Prop}(h:p:=by simp):p:=h
theorem Pp{p:Prop}(h:p:=by decide +kernel):p:=h
theorem Pq{p:Prop}(h:p:=by rfl):p:=h
theorem Z{α:Sort u}{a:α}:a=a:=rfl
open PySem renaming wpAny_bind->IF,wpAny_pure->II,wpAny_holding->Lj,wpAny_field->Lk,wpAny_call_entry->Ls,wpAny_newObj_type->Lv,wpAny_callSpecial?_slot->Lw,builtinLookup_eq_fast->LI,wpAny_setField->LJ,wpAny_Call_Name_kw->LM,wpAny_mono->LS,wpAny_seqItems->Ma,boot_len->Mf,typeLookup_type->Mn,codeAny_builtin->Mo,mem_of_lookup->Mq,isSubtype_type->Mw,wpAny_setState_of->Mx,wpAny_specialOf->MM,plainId_quiet->MO,wpAny_isInstance->MQ,sizeLine_eq->MU,wpAny_typeOf->MV,wpAny_setField_rec->MW,wpAny_rule->MX,wpAny_passesOwn->MY,wpAny_askSetting->M7,codeAny_mono->M8,wpAny_setEntries_of->Nf,wpAny_newList->Nh,wpAny_attempt->Ni,wpAny_execs_nil->Nn,wpAny_pyIter_tuple->No,wpAny_newTuple->Nw,wpAny_standAt->NC,tupleKind_room_in1->NR,wpAny_truthy_bool->Oe,wpAny_pyIter_list->Of,fits_of_scanBound->Og,entryFor_of_tree->Ot,call_meets->Oy,wpAny_of_eq->OG,wpAny_fieldsOf->OH,isSubtype_stop->OJ,entryFor_alias->OK,wpAny_pyIter_slot->O0,wpAny_execs_cons->O8,noFill_tuple_add->O9
open List renaming getElem?_eq_getElem->IG,length_map->IJ,length_append->IL,size_toArray->IN,mem_append_right->La,mem_of_getElem?->Lb,getElem?_map->Lc,mem_cons_of_mem->Le,append_nil->Lh,mem_cons_self->Li,not_mem_nil->Ll,length_cons->Lm,map_append->Ln,length_take->Lo,take_length->LA,take_add_one->LP,lookup_cons->LU,getElem?_eq_none->LV,getD_eq_getElem?_getD->LZ,map_cons->Mi,mem_append_left->Ml,length_drop->Mm,getElem_cons_drop->Mp,mem_cons->My,mem_append->ME,getElem?_set_ne->MH,append_assoc->MJ,drop_zero->MN,forIn_cons->MR,take_append_drop->MS,length_singleton->MT,map_map->M1,find?_cons->M6,filter_append->M',getElem?_set_self->Nl,length_filter_le->Np,getElem?_reverse->Nq,getElem_mem->Nt,any_cons->Nu,mem_of_mem_take->Nz,mem_singleton->NE,getElem?_drop->NF,getElem?_append_right->NG,forIn_nil->NH,getElem?_append_left->NJ,reverse_cons->NN,length_range->NO,append_cancel_right->NQ,filter_cons_of_pos->N0,filter_cons_of_neg->N4,ext_getElem->N5,append_cancel_left->N6,all_eq_true->N7,take_of_length_le->Oc,of_mem_zip->Oj,length_replicate->Oq,nodup_nil->Ou,getElem?_of_mem->Ov,filterMap_cons->OD,eraseIdx_eq_take_drop_succ->OQ,length_zip->OT,length_set->OU,length_nil->OV,length_eraseIdx_of_lt->O2,getElem?_zip_eq_some->O7,map_take->Pa,drop_nil->Pb,all_cons->Pd,getElem?_replicate->Pl
open PySem.Heap renaming get?_push_of_some->IH,get?_push_size->IM,lt_size->IP,get?_update_other->K',get?_update_self->Lu,size_push->LL,size_update->Pe
open Nat renaming le_refl->IK,zero_le->IS,ne_of_lt->IY,le_trans->IZ,lt_of_lt_of_le->I0,le_succ->LH,ne_of_gt->LN,lt_irrefl->LO,succ_le_succ->Ms,lt_succ_self->Mt,lt_of_le_of_lt->Mu,lt_succ_of_lt->MF,le_of_lt->MG,zero_add->MZ,le_max_right->M0,le_max_left->M5,lt_of_succ_lt->Nk,le_add_right->Nr,min_eq_left->NA,le_of_not_lt->NZ,sub_zero->Oa,lt_or_ge->Ob,not_lt_zero->Oi,sub_self->OL,le_succ_of_le->OM,le_of_eq->ON,min_le_left->OS
open PySem.F renaming plainAttrs_list->IR,type_list_append->I9,slot_list_append->J',slot_tuple_iterator_next->LW,slot_zip_next->Me,type_list_extend->Mg,slot_list_extend->Mh,args_tuple_iterator_next_1->M9,plain_list_iadd->Na,args_zip_next_1->Nb,entry_tuple_iterator_next->Ng,entry_zip_next->Nj,args_object_init_2->ND,args_tuple_add_2->NP,entry_tuple_add->NY,slot_tuple_add->N8,plainAttrs_str->N9,type_str_join->On,slot_str_join->Oo,slot_dict_get->Op,plain_proto_collect->OY,entry_proto_collect->OZ,plain_extend_loop->O6,plain_tuple_new->Pg,plainAttrs_dict->Ph,entry_list_iadd->Pj,args_dict_get_3->Pk
open Bool renaming false_ne_true->IW,false_eq_true->I8,and_eq_true->L9,not_true->Nv,eq_iff_iff->Ol,and_false->Ox,or_false->Pf
open Array renaming length_toList->Ld,getElem?_toList->Mr,getElem?_eq_getElem->MD,getElem?_eq_none->Od
open PySem.PassesOwn renaming never->Lp
open PySem.Obj renaming data_mapFields->Lq,isFreed_of_fields->LX,cls_mapFields->Ny
open PyProof.Rows renaming callWith_type1->Lx,slot_tuple_getitem->ML,boot_tuple->NB,listUpdate_at->NT,seqEpoch_at->OF,entry_list_sort->OR,slot_list_sort->O3,boot_sorted->O4,args_list_sort->O5
open Option.some renaming inj->LB
open Int renaming emod_lt_of_pos->LC,emod_nonneg->LQ,toNat_natCast->Md
open PySem.Around renaming under_plainId->LR
open PySem.AutoSeq1 renaming wpAny_loadPart'->Mv
open PySem.Heap.SameBut renaming update->Mz
open PySem.Calls renaming spliced_cons->MK,spliced_nil->M3,call_function_entry->Nc,callWith_builtin->OE
open PySem.W renaming mg_none_of->MP,kia_one->NV,methodCall_KW->Om,plainGet_of->Oz,callWith_K0->OA,mg_of->OX,callWith_K->O1
open PyProof.Rows.F renaming plain_set_update_loop->M4,entry_set_update_loop->OB
open PySem.Value renaming isStrOf_shape->NM
open Option renaming map_some->Oh
noncomputable def IQ:=@decide_eq_false
noncomputable def IU:=@if_pos
noncomputable def IV:=@decide_eq_true
noncomputable def IX:=@if_neg
noncomputable def Lr:=@Ne.symm
noncomputable def LY:=@congrArg
noncomputable def Mb:=@of_decide_eq_true
noncomputable def Mc:=@bne_self_eq_false
noncomputable def Mj:=@if_false
noncomputable def Nx:=@or_false
noncomputable def NK:=@if_true
noncomputable def NW:=@beq_self_eq_true
noncomputable def OP:=@Iff.rfl
local macro_rules|`(#[$x,*])=>`(⟨$x,*⟩)
local macro_rules|`(tactic|omega)=>`(tactic|lia)
namespace _L
open PySem PySem.Spec PyProof.Rows
abbrev bo:=Sum Int Str
noncomputable def iT:bo->Value->Bool
 | .inl k,v=>Value.isInt k v
 | .inr x,v=>Value.isStrOf x v
noncomputable def G3(w:World):bo->Int
 | .inl k=>hashInt k
 | .inr x=>hashStr w x
theorem jW:∀{k:bo} {v:Value},iT k v=true->(∃i t,k=Sum.inl i/\v=Value.int i t)∨(∃x t,k=Sum.inr x/\v=Value.str x t)
 | .inl i,v,h=>by
  obtain⟨t,e⟩:=Value.isInt_shape (k:=i) (v:=v) h
  exact .inl #[i,t,Z,e]
 | .inr x,v,h=>by
  obtain⟨t,e⟩:=NM (x:=x) (v:=v) h
  exact .inr #[x,t,Z,e]
theorem ZG(i:Int)(t:Tok):iT (.inl i) (.int i t)=true:=by simp [iT,Value.isInt]
theorem ZH(x:Str)(t:Tok):iT (.inr x) (.str x t)=true:=by simp [iT,Value.isStrOf]
theorem BP(a b:Int):decide ((Sum.inl a:bo)=Sum.inl b)=(a==b):=by
 by_cases e:a=b
 ·subst e;simp
 ·have h:¬(Sum.inl a:bo)=Sum.inl b:=λq=>e (Sum.inl.inj q)
  rw[IQ h]
  exact(beq_eq_false_iff_ne.mpr e).symm
theorem BS(a b:Str):decide ((Sum.inr a:bo)=Sum.inr b)=decide (a=b):=by
 by_cases e:a=b
 ·subst e;simp
 ·have h:¬(Sum.inr a:bo)=Sum.inr b:=λq=>e (Sum.inr.inj q)
  rw[IQ h,IQ e]
theorem BQ(a:Int)(b:Str):decide ((Sum.inl a:bo)=Sum.inr b)=false:=IQ (λq=>nomatch q)
theorem BR(a:Str)(b:Int):decide ((Sum.inr a:bo)=Sum.inl b)=false:=IQ (λq=>nomatch q)
noncomputable def aS(p:Program)(w:World):PySem.KeyKind p w bo where
 is:=iT
 hash:=G3 w
 inj:=λv a b d c=>by
  rcases jW d with ⟨i,t,rfl,rfl⟩ | ⟨x,t,rfl,rfl⟩
  ·rcases jW c with ⟨j,u,rfl,e⟩ | ⟨y,u,rfl,e⟩
   ·injection e with E _;rw[E]
   ·exact nomatch e
  ·rcases jW c with ⟨j,u,rfl,e⟩ | ⟨y,u,rfl,e⟩
   ·exact nomatch e
   ·injection e with E _;rw[E]
 byValue:=λk v h=>by
  rcases jW h with ⟨i,t,rfl,rfl⟩ | ⟨x,t,rfl,rfl⟩<;>rfl
 pyHash:=λH h=>by
  rcases jW H with ⟨i,t,rfl,rfl⟩ | ⟨x,t,rfl,rfl⟩
  ·exact wpAny_pyHash_int h
  ·exact wpAny_pyHash_str h
 eqBool:=λf H h=>by
  rcases jW f with ⟨i,t,rfl,rfl⟩ | ⟨x,t,rfl,rfl⟩
  ·rcases jW H with ⟨j,u,rfl,rfl⟩ | ⟨y,u,rfl,rfl⟩
   ·rw[BP]at h;exact wpAny_eqBool_int h
   ·rw[BQ]at h;exact SeqAt.EqAt.int_str i t y u _ _ _ _ h
  ·rcases jW H with ⟨j,u,rfl,rfl⟩ | ⟨y,u,rfl,rfl⟩
   ·rw[BR]at h;exact SeqAt.EqAt.str_int x t j u _ _ _ _ h
   ·rw[BS]at h;exact wpAny_eqBool_str h
 «strs»:=λk x t v h=>by
  rcases jW h with ⟨i,u,rfl,e⟩ | ⟨y,u,rfl,e⟩
  ·exact nomatch e
  ·injection e with E _
   subst E
   cases v<;>rfl
theorem XS(p:Program)(w:World)(i:Int)(t:Tok):(aS p w).is (.inl i) (.int i t)=true:=ZG i t
theorem XT(p:Program)(w:World)(x:Str)(t:Tok):(aS p w).is (.inr x) (.str x t)=true:=ZH x t
end _L
namespace _L
open PySem PySem.Spec PyProof.Rows
inductive V where
 |non |bl (b:Bool) |int (i:Int) |str (x:Str) |byt (b:Array UInt8) |flt (b:UInt64) |ref (a:Addr) |ty (n:String)
 deriving DecidableEq
set_option genInjectivity false
def aD:V->Value->Prop
 | .non,u=>u=Value.none
 | .bl b,u=>u=Value.bool b
 | .int i,u=>∃t,u=Value.int i t
 | .str x,u=>∃t,u=Value.str x t
 | .byt b,u=>∃t,u=Value.bytes b t
 | .flt b,u=>∃t,u=Value.float b t
 | .ref a,u=>u=Value.ref a
 | .ty n,u=>u=Value.type n
abbrev aB:List V->List Value->Prop:=Paired aD
theorem aB.length(r:aB x u):x.length=u.length:=Paired.length r
theorem aB.get:∀{X:List V} {U:List Value} {i:Nat} {x:V},aB X U->X[i]?=some x->∃u,U[i]?=some u/\aD x u
 |_,_,_,_,.nil,e=>by simp at e
 |_,_,0,_,.cons r _,e=>by simp at e;subst e;exact#[_,Z,r]
 |_,_,i+1,x,.cons _ t,e=>by
  obtain⟨u,h,H⟩:=aB.get (i:=i) (x:=x) t (by simpa using e)
  exact#[u,by simpa using h,H]
theorem aB.set(r:aD x u):∀{X:List V} {U:List Value} (i:Nat),aB X U->aB (X.set i x) (U.set i u)
 |_,_,_,.nil=>.nil
 |_,_,0,.cons _ t=>.cons r t
 |_,_,i+1,.cons q t=>.cons q (aB.set r i t)
theorem aB.append:∀{x y:List V} {u w:List Value},aB x u->aB y w->aB (x++y) (u++w)
 |_,_,_,_,.nil,s=>s
 |_,_,_,_,.cons r t,s=>.cons r (aB.append t s)
theorem aB.take:∀{x:List V} {u:List Value} (n:Nat),aB x u->aB (x.take n) (u.take n)
 |_,_,0,_=>.nil
 |_,_,_+1,.nil=>.nil
 |_,_,n+1,.cons r t=>.cons r (aB.take n t)
theorem aB.drop:∀{x:List V} {u:List Value} (n:Nat),aB x u->aB (x.drop n) (u.drop n)
 |_,_,0,r=>r
 |_,_,_+1,.nil=>.nil
 |_,_,n+1,.cons _ t=>aB.drop n t
def dJ:Option V->Option Value->Prop
 |some v,some u=>aD v u
 |none,none=>True
 |_,_=>False
def KV{a:Type}:List (a×V)->List (a×Value)->Prop:=Paired λ(p:a×V) (q:a×Value)=>p.1=q.1/\aD p.2 q.2
noncomputable def kV:bo->V
 | .inl i=>.int i
 | .inr x=>.str x
inductive HO where
 |lst (xs:List V)
 |tup (xs:List V)
 |dK (kvs:List (bo×V)) |dT (kvs:List (List bo×V))
 |set (S:Int->Bool) (n:Nat)
 |ins (C dx:Addr) (fs:List (Str×V))
 |own (x:Addr)
 |xd (fs:List (Str×V))
 |met (f x:Addr)
 |rng (lo hi:Int)
 |frz (o:Obj) (u:HO)
 |tbl (ps:Array Value)
 |ext (φ:Heap->Prop)
abbrev Hp:=Addr->Option HO
noncomputable def ah(H:Hp)(a:Addr)(o:HO):Hp:=λb=>if b=a then some o else H b
theorem jc:ah H a o a=some o:=by unfold ah;rw[IU Z]
theorem jh(h:b≠a):ah H a o b=H b:=by unfold ah;rw[IX h]
theorem jS{H:Hp}(h:H a=some o)(c:H b=some u)(d:o≠u):a≠b:=by
 intro e;subst e;rw[h]at c;exact d (LB c)
theorem ji{H:Hp}(h:H a=some o)(c:H b=none):a≠b:=by
 intro e;subst e;rw[h]at c;cases c
section
variable (P:Program)(w:World)
def aL(H:Hp)(h:Heap)(a:Addr):HO->Prop
 | .lst X=>X.length<=sizeLine/\∃(i:List Value) (n:Nat),aB X i/\h.get? a=some { cls:=.type "list",data:=.seq i.toArray n }
 | .tup X=>X.length<=sizeLine/\∃i:List Value,aB X i/\IsTup h a i.toArray
 | .dK k=>k.length<=sizeLine/\(a==sysModules)=false/\∃c,KV k c/\h.DictOf (aS P w) a c
 | .dT k=>k.length<=sizeLine/\(a==sysModules)=false/\∃X:List (List bo×Addr×Value),
   Paired (λ(p:List bo×V) (q:List bo×Addr×Value)=>p.1=q.1/\H q.2.1=some (.tup (p.1.map kV))/\aD p.2 q.2.2) k X/\
   ∃o e E,h.get? a=some o/\o.ExactDict/\o.data= .dict e E/\e.toList=X.map (entryOfKey (tupleKind (aS P w)))/\(X.map (·.1)).Nodup
 | .set S n=>h.SetOf (intKind P w) a S n
 | .ins C d F=>H d=some (.own a)/\F.length<=1000/\d≠a/\h.get? a=some (instObj C d)/\
   ∃m,h.Ns1 d m/\(∀f,dJ (F.lookup f) (m f))/\PySem.Within m (F.map (·.1))
 | .own _=>∃o,h.get? a=some o
 | .xd F=>∃m,h.Ns1 a m/\∀f,dJ (F.lookup f) (m f)
 | .rng lo l=>∃t u v,h.get? a=some { cls:=.type "range",data:=.fields (List.toArray [.int lo t,.int l u,.int 1 v]) }
 | .frz o u=>h.get? a=some o/\aL H h a u
 | .tbl r=>h.get? a=some { cls:=.none,data:=.fields r }
 | .met f x=>h.get? a=some (PySem.W.methodObj (.ref f) (.ref x))
 | .ext b=>b h/\(∃o,h.get? a=some o)/\∀g j:Heap,b g->(∀o,g.get? a=some o->j.get? a=some o)->b j
def fb(H:Hp)(h:Heap):Prop:=∀a o,H a=some o->aL P w H h a o
end
section
variable {P:Program}{w:World}{H H':Hp}{h h':Heap}{a:Addr}{o:HO}
theorem aL.lt(x:aL P w H h a o):a < h.objs.size:=by
 cases o with
 |lst X=>obtain⟨_,_,_,_,e⟩:=x;exact IP e
 |tup X=>obtain⟨_,_,_,p⟩:=x;exact p.lt
 |dK k=>obtain⟨_,_,_,_,o,_,_,e,_⟩:=x;exact IP e
 |dT k=>obtain⟨_,_,_,_,o,_,_,e,_⟩:=x;exact IP e
 |set S n=>obtain⟨o,_,_,_,e,_⟩:=x;exact IP e
 |ins C d F=>obtain⟨_,_,_,e,_⟩:=x;exact IP e
 |own y=>obtain⟨_,e⟩:=x;exact IP e
 |xd F=>obtain⟨_,⟨_,_,_,e,_⟩,_⟩:=x;exact IP e
 |rng lo b=>obtain⟨_,_,_,e⟩:=x;exact IP e
 |frz O u=>obtain⟨e,_⟩:=x;exact IP e
 |tbl c=>exact IP (show h.get? a=some _ from x)
 |met f y=>exact IP (show h.get? a=some _ from x)
 |ext g=>obtain⟨_,⟨_,e⟩,_⟩:=x;exact IP e
theorem Paired.mapP{c d:Type}{F G:c->d->Prop}:∀{l:List c} {L:List d},Paired F l L->(∀a b,F a b->G a b)->Paired G l L
 |_,_,.nil,_=>.nil
 |_,_,.cons r t,f=>.cons (f _ _ r) (Paired.mapP t f)
theorem aL.stay(x:aL P w H h a o)(k:∀b u,(b=a∨H b=some (.own a))->h.get? b=some u->h'.get? b=some u)
  (s:∀b,H b=some (.own a)->H' b=some (.own a)) (A:∀b X,H b=some (.tup X)->H' b=some (.tup X)):aL P w H' h' a o:=by
 induction o with
 |lst X=>obtain⟨z,i,n,r,e⟩:=x;exact#[z,i,n,r,k _ _ (.inl Z) e]
 |tup X=>obtain⟨z,i,r,O,e,c⟩:=x;exact#[z,i,r,O,k _ _ (.inl Z) e,c]
 |dK K=>obtain⟨z,y,V,r,O,E,g,e,c⟩:=x;exact#[z,y,V,r,O,E,g,k _ _ (.inl Z) e,c]
 |dT K=>
  obtain⟨z,y,X,r,O,E,g,e,c⟩:=x
  exact#[z,y,X,Paired.mapP r λp q z=>#[z.1,A _ _ z.2.1,z.2.2],O,E,g,k _ _ (.inl Z) e,c]
 |set S n=>obtain⟨O,E,g,t,e,c⟩:=x;exact#[O,E,g,t,k _ _ (.inl Z) e,c]
 |ins C D F=>
  obtain⟨d,z,N,e,m,⟨j,E,g,B,c⟩,r⟩:=x
  exact#[s _ d,z,N,k _ _ (.inl Z) e,m,#[j,E,g,k _ _ (.inr d) B,c],r]
 |own y=>obtain⟨O,e⟩:=x;exact#[O,k _ _ (.inl Z) e]
 |xd F=>obtain⟨m,⟨j,E,g,e,c⟩,r⟩:=x;exact#[m,#[j,E,g,k _ _ (.inl Z) e,c],r]
 |rng lo G=>obtain⟨t,u,v,e⟩:=x;exact#[t,u,v,k _ _ (.inl Z) e]
 |frz O u I=>obtain⟨e,q⟩:=x;exact#[k _ _ (.inl Z) e,I q]
 |tbl l=>
  have e:h.get? a=some { cls:=.none,data:=.fields l }:=x
  show h'.get? a=some { cls:=.none,data:=.fields l }
  exact k a _ (.inl Z) e
 |met f y=>
  have e:h.get? a=some (PySem.W.methodObj (.ref f) (.ref y)):=x
  show h'.get? a=some (PySem.W.methodObj (.ref f) (.ref y))
  exact k a _ (.inl Z) e
 |ext J=>obtain⟨p,⟨o,e⟩,st⟩:=x;exact#[st _ _ p λo q=>k _ _ (.inl Z) q,#[o,k _ _ (.inl Z) e],st]
theorem fb.lt(x:fb P w H h)(e:H a=some o):a < h.objs.size:=(x a o e).lt
theorem fb.fresh(x:fb P w H h)(e:h.objs.size<=a):H a=none:=by
 cases q:H a with
 |none=>rfl
 |some u=>exact absurd (I0 (x.lt q) e) (LO _)
theorem fb.kept(x:fb P w H h)(k:∀b u,h.get? b=some u->h'.get? b=some u):fb P w H h':=λa o e=>
 (x a o e).stay (λb u _ q=>k b u q) (λ_ q=>q) λ_ _ q=>q
theorem fb.laid(x:fb P w H h)(k:∀b u,h.get? b=some u->h'.get? b=some u)(g:h.objs.size<=a)(n:aL P w (ah H a o) h' a o):fb P w (ah H a o) h':=λb u e=>by
 have d:=x.fresh g
 by_cases f:b=a
 ·subst f;rw[jc]at e;cases e;exact n
 ·rw[jh f]at e
  exact(x b u e).stay (λc v _ q=>k c v q) (λc q=>by rw[jh (ji q d)];exact q) λc X q=>by rw[jh (ji q d)];exact q
end
def Rd(H:Hp)(a:Addr)(u:HO):Prop:=H a=some u∨∃o,H a=some (.frz o u)
theorem Rd.ok{P:Program}(r:Rd H a u)(x:fb P w H h):aL P w H h a u:=by
 rcases r with r | ⟨o,r⟩
 ·exact x a u r
 ·obtain⟨_,q⟩:=x a _ r
  exact q
def Ee:Option HO->Prop
 |some (.lst _)=>True
 |some (.dK _)=>True
 |some (.dT _)=>True
 |some (.set _ _)=>True
 |some (.ins _ _ _)=>True
 |some (.ext _)=>True
 |_=>False
section
variable {P:Program}{w:World}{H:Hp}{h h':Heap}{x e:Addr}{o':HO}
theorem fb.write(o:fb P w H h)(m:Ee (H x))(i:e=x∨H e=some (.own x))(k:∀b u,b≠e->h.get? b=some u->h'.get? b=some u)(f:∃u,h'.get? e=some u)
  (g:aL P w (ah H x o') h' x o'):fb P w (ah H x o') h':=λb u q=>by
 have n:∀c y,H c=some (.own y)->c≠x:=λc y r z=>by subst z;rw[r]at m;exact m
 have N:∀c X,H c=some (.tup X)->c≠x:=λc X r z=>by subst z;rw[r]at m;exact m
 by_cases d:b=x
 ·subst d;rw[jc]at q;cases q;exact g
 ·rw[jh d]at q
  by_cases a:b=e
  ·have Q:H b=some (.own x):=by
    rcases i with z |z
    ·exact absurd (a.trans z) d
    ·rw[a];exact z
   rw[q]at Q;cases Q
   obtain⟨v,j⟩:=f
   exact#[v,by rw[a];exact j]
  ·refine(o b u q).stay (λc v hc r=>k c v ?_ r) (λc r=>by rw[jh (n c b r)];exact r) λc X r=>by rw[jh (N c X r)];exact r
   rcases hc with rfl |hc
   ·exact a
   ·rintro rfl
    rcases i with z |z
    ·exact n c b hc z
    ·rw[hc]at z;cases z;exact d Z
end
structure Un(fs ex:List Addr)(H H':Hp)(h h':Heap):Prop where
 keep:∀b o,h.get? b=some o->H b=none->b∉fs->b∉ex->h'.get? b=some o
 slot:∀b o,h.get? b=some o->H b=none->b∈fs->b∉ex->∃sl,h'.get? b=some { o with slots:=sl }
 free:∀b o,h.get? b=some o->H b=none->b∉ex->H' b=none
 there:∀b o,h.get? b=some o->b∉ex->∃o',h'.get? b=some o'
 tups:∀b xs,H b=some (.tup xs)->H' b=some (.tup xs)
 frzs:∀b o u,H b=some (.frz o u)->H' b=some (.frz o u)
 tbls:∀b ps,H b=some (.tbl ps)->∃more,H' b=some (.tbl (ps++more))
section
variable {fs fs' ex ex':List Addr}{H H1 H2:Hp}{h h1 h2 h':Heap}{a x e:Addr}{o:HO}
theorem Un.any(u:Un fs ex H H1 h h1)(q:h.get? b=some O)(n:H b=none)(c:b∉ex):∃s,h1.get? b=some { O with slots:=s }:=by
 by_cases d:b∈fs
 ·exact u.slot b O q n d c
 ·exact#[O.slots,u.keep b O q n d c]
theorem Un.kept(k:∀b u,h.get? b=some u->h'.get? b=some u):Un fs ex H H h h':=
 #[λb O q _ _ _=>k b O q,λb O q _ _ _=>#[O.slots,k b O q],λ_ _ _ n _=>n,λb O q _=>#[O,k b O q],λ_ _ q=>q,λ_ _ _ q=>q,λ_ p q=>#[(List.toArray []),by rw[q];simp]]
theorem Un.refl:Un fs ex H H h h:=Un.kept λ_ _ q=>q
theorem Un.laid(k:∀b u,h.get? b=some u->h'.get? b=some u)(d:h.objs.size<=a)(c:H a=none):Un fs ex H (ah H a o) h h' where
 keep:=λb u q _ _ _=>k b u q
 slot:=λb u q _ _ _=>#[u.slots,k b u q]
 free:=λb u q n _=>by rw[jh (IY (I0 (IP q) d))];exact n
 there:=λb u q _=>#[u,k b u q]
 tups:=λb X q=>by rw[jh (ji q c)];exact q
 frzs:=λb u X q=>by rw[jh (ji q c)];exact q
 tbls:=λb p q=>#[(List.toArray []),by rw[jh (ji q c),q];simp]
theorem Un.write(m:Ee (H x))(j:e=x∨H e=some (.own x))(k:∀b u,b≠e->h.get? b=some u->h'.get? b=some u)(d:∃u,h'.get? e=some u):Un fs ex H (ah H x o) h h':=by
 have g:∀b,H b=none->b≠x:=λb n z=>by subst z;rw[n]at m;exact m
 have i:∀b,H b=none->b≠e:=λb n z=>by
  subst z
  rcases j with r |r
  ·exact g b n r
  ·rw[n]at r;cases r
 have f:∀b u,H b=some u->¬Ee (some u)->b≠x:=λb u q N z=>by subst z;rw[q]at m;exact N m
 refine#[λb u q n _ _=>k b u (i b n) q,λb u q n _ _=>#[u.slots,k b u (i b n) q],λb u q n _=>by rw[jh (g b n)];exact n,λb u q _=>?_,
  λb X q=>by rw[jh (f b _ q λz=>z)];exact q,λb u X q=>by rw[jh (f b _ q λz=>z)];exact q,λb p q=>#[(List.toArray []),by rw[jh (f b _ q λz=>z),q];simp]]
 by_cases c:b=e
 ·subst c;exact d
 ·exact#[u,k b u c q]
end
noncomputable def Gm(h:Heap)(H:Hp):List Addr:=(List.range h.objs.size).filter λa=>(H a).isSome
noncomputable def i8(h:Heap)(H:Hp):Heap:=PySem.W.hideAll h (Gm h H)
theorem ZI(h:Heap)(H:Hp):(i8 h H).objs.size=h.objs.size:=PySem.W.hideAll_size _ _
theorem sH{h:Heap}{H:Hp}(e:h.get? b=some o)(n:H b=none):(i8 h H).get? b=some o:=
 PySem.W.hideAll_get _ e λa=>by
  have q:(H b).isSome=true:=(List.mem_filter.mp a).2
  rw[n]at q;simp at q
theorem xT(e:(i8 h H).get? b=some o):h.get? b=some o/\H b=none:=by
 have E:h.get? b=some o:=PySem.W.of_hideAll (Gm h H) e
 refine#[E,?_]
 cases q:H b with
 |none=>rfl
 |some x=>
  have a:b∈Gm h H:=List.mem_filter.mpr #[List.mem_range.mpr (IP E),by simp [q]]
  have z:(i8 h H).get? b=none:=PySem.W.hideAll_none (Gm h H) a
  rw[z]at e;cases e
end _L
namespace _L
open PySem PySem.Spec PyProof.Rows
structure Mod(K:Frag)(mg:Str->Option Value)(base:Heap):Prop where
 kin:K.In base
 glob:base.Ns mainGlobals mg
 blt:∃mb,base.Ns builtinsNs mb/\∀x:Str,x≠"__name__"->mb x=bootBuiltins x
 nolimit:base.NoLimit
structure Cx where
 prog:Program
 w:World
 K:Frag
 mg:Str->Option Value
 base:Heap
 A:Around
 N:List Str
 s₀:Shared
 H₀:Hp
 env:Env
 outer:List Env
 stack:List Env
 ex:List Addr
 fn:Str->Bool
 calm:Bool
 pn:List (Addr×Obj)
 xe:Value->Shared->Prop
noncomputable def iQ(l:List Env):List Addr:=l.filterMap (·.frame)
noncomputable abbrev Cx.fs(X:Cx):List Addr:=iQ X.outer
def Gf(s:Scope)(x:Str):Prop:=s.names.lookup x=some .local∨s.names.lookup x=some .cell∨s.names.lookup x=some .free
def Ar(s:Scope)(x:Str):Prop:=s.names.lookup x=some .local∨s.names.lookup x=some .cell
def Gu(e:Env)(h:Heap)(m:Str->Option Value)(x:Str)(u:Value):Prop:=
 (e.kindOf x=some .local/\m x=some u)∨((e.kindOf x=some .cell∨e.kindOf x=some .free)/\∃c,e.cells.lookup x=some c/\h.IsCell c (some u))
structure Cx.Ok(X:Cx):Prop where
 mod:Mod X.K X.mg X.base
 kind:X.env.scope.kind= .function
 glob:X.env.globals=mainGlobals
 blt:X.env.builtins=builtinsNs
 above:X.s₀.heap.objs.size<=X.env.locals
 inj:∀x y c,X.env.cells.lookup x=some c->X.env.cells.lookup y=some c->x=y
 has:∀x,(X.env.kindOf x=some .cell∨X.env.kindOf x=some .free)->∃c,X.env.cells.lookup x=some c
 cab:∀x c,X.fn x=true->X.env.cells.lookup x=some c->X.s₀.heap.objs.size<=c
 hd:X.calm=true->X.A.handled=none
 frames:X.A.frames=some X.stack
 stk:X.stack=X.outer∨(X.stack=X.env::X.outer/\X.env.frame=some X.env.locals)
 exf:∀b∈X.ex,b≠X.env.locals/\∀x c,X.env.cells.lookup x=some c->c≠b
 bs:∀b o,X.base.get? b=some o->X.s₀.heap.get? b=some o/\X.H₀ b=none
 bsz:X.base.objs.size<=X.s₀.heap.objs.size
 noex:∀b o,X.base.get? b=some o->b∉X.ex
 exfs:∀b∈X.ex,b∉X.fs
 funs:X.s₀.heap.FunFrames X.base X.outer
 frf:∀b∈X.fs,X.H₀ b=none
structure aq(X:Cx)(pins:List (Addr×Obj))(σ:List (Option V))(H:Hp)(s:Shared):Prop where
 ok:X.Ok
 os:s.os=X.s₀.os
 bare:AllBare s.gens
 base:Un X.fs X.ex X.H₀ H X.s₀.heap s.heap
 loc:∃m,s.heap.Ns X.env.locals m/\∀(i:Nat) (x:Str) (v:V),X.N[i]?=some x->σ[i]?=some (some v)->Gf X.env.scope x->∃u,aD v u/\Gu X.env s.heap m x u
 cell:∀x c,X.env.cells.lookup x=some c->∃v,s.heap.IsCell c v
 free:H X.env.locals=none
 freeC:∀x c,X.env.cells.lookup x=some c->H c=none
 pin:∀p∈X.pn++pins,s.heap.get? p.1=some p.2/\H p.1=none/\p.1≠X.env.locals/\p.1∉X.fs/\∀v,p.2.data≠ .cell v
 hok:fb X.prog X.w H s.heap
 len:σ.length=X.N.length
section
variable {X:Cx}{pins:List (Addr×Obj)}{σ:List (Option V)}{H H':Hp}{s:Shared}{h':Heap}
theorem Cx.Ok.nofr(O:X.Ok)(e:X.base.get? b=some o):b∉X.fs:=λh=>by
 have:=(O.funs.mem h).1
 rw[e]at this;cases this
theorem aq.bs(I:aq X pins σ H s):∀b o,X.base.get? b=some o->s.heap.get? b=some o/\H b=none:=λb o e=>
 #[I.base.keep b o (I.ok.bs b o e).1 (I.ok.bs b o e).2 (I.ok.nofr e) (I.ok.noex b o e),I.base.free b o (I.ok.bs b o e).1 (I.ok.bs b o e).2 (I.ok.noex b o e)]
theorem aq.bk(I:aq X pins σ H s):∀b o,X.base.get? b=some o->s.heap.get? b=some o:=λb o e=>(I.bs b o e).1
theorem aq.mod(I:aq X pins σ H s):Mod X.K X.mg X.base:=I.ok.mod
theorem aq.kIn(I:aq X pins σ H s):X.K.In s.heap:=I.ok.mod.kin.keeps I.bk
theorem aq.lt(I:aq X pins σ H s):X.env.locals < s.heap.objs.size:=let #[_,h,_]:=I.loc;h.lt
theorem aq.sz(I:aq X pins σ H s):X.s₀.heap.objs.size<=s.heap.objs.size:=IZ I.ok.above (MG I.lt)
theorem aq.nofs(I:aq X pins σ H s)(h:s.heap.objs.size<=a):a∉X.fs:=λb=>by
 obtain⟨_,o,c,_⟩:=I.ok.funs.mem b
 exact absurd (I0 (IP c) (IZ I.sz h)) (LO _)
theorem aq.cne(I:aq X pins σ H s):∀x c,X.env.cells.lookup x=some c->c≠X.env.locals:=λx c e z=>by
 obtain⟨v,o,b,d⟩:=I.cell x c e
 obtain⟨m,⟨O,E,f,h,a,_⟩,_⟩:=I.loc
 rw[z,h]at b;cases b;rw[a]at d;cases d
theorem aq.funs(I:aq X pins σ H s):s.heap.FunFrames X.base X.outer:=by
 have all:∀(l:List Env),(∀b∈iQ l,b∈X.fs)->X.s₀.heap.FunFrames X.base l->s.heap.FunFrames X.base l:=by
  intro l
  induction l with
  |nil=>intro _ _;trivial
  |cons E r i=>
   intro d f
   obtain⟨g,⟨L,o,h,j,k,m⟩,n⟩:=f
   have a:L∈X.fs:=d L (by unfold iQ;rw[List.filterMap_cons,h];exact List.mem_cons_self)
   obtain⟨S,e⟩:=I.base.slot L o k (I.ok.frf L a) a λz=>I.ok.exfs L z a
   exact#[g,#[L,_,h,j,e,m],i (λb c=>d b (by unfold iQ;rw[List.filterMap_cons,h];exact List.mem_cons_of_mem _ c)) n]
 exact all X.outer (λ_ c=>c) I.ok.funs
theorem aq.stack(I:aq X pins σ H s):s.heap.FunFrames X.base X.stack:=by
 rcases I.ok.stk with e | ⟨e,h⟩
 ·rw[e];exact I.funs
 ·rw[e]
  obtain⟨m,a,_⟩:=I.loc
  refine .cons (by rw[I.ok.kind];decide) h a ?_ I.funs
  exact Heap.get?_none_of_le (IZ I.ok.bsz I.ok.above)
theorem aq.stkSub(I:aq X pins σ H s):∀b∈iQ X.stack,b∈X.env.locals::X.fs:=λb h=>by
 rcases I.ok.stk with e | ⟨e,a⟩
 ·rw[e]at h;exact Le _ h
 ·rw[e]at h
  unfold iQ at h
  rw[OD,a]at h
  exact h
theorem aq.stkFree(I:aq X pins σ H s):∀b∈iQ X.stack,H b=none:=λb hb=>by
 rcases List.mem_cons.mp (I.stkSub b hb) with e |hb
 ·rw[e];exact I.free
 ·obtain⟨_,o,h,_⟩:=I.ok.funs.mem hb
  exact I.base.free b o h (I.ok.frf b hb) λz=>I.ok.exfs b z hb
theorem aq.step{g':Array GenState}{d':Drawn}{ch:List Addr}(I:aq X pins σ H s)
  (a:∀b∈ch,(b∈X.ex∨X.s₀.heap.objs.size<=b)/\b≠X.env.locals/\(∀x c,X.env.cells.lookup x=some c->c≠b)/\∀p∈X.pn++pins,p.1≠b)
  (K:∀b o,b≠X.env.locals->b∉X.fs->b∉ch->s.heap.get? b=some o->H b=none->h'.get? b=some o)
  (S:∀b o,b≠X.env.locals->b∈X.fs->b∉ch->s.heap.get? b=some o->H b=none->∃J,h'.get? b=some { o with slots:=J }) (f:∀b o,b∉ch->s.heap.get? b=some o->H b=none->H' b=none)
  (t:∀b o,b∉ch->s.heap.get? b=some o->∃O,h'.get? b=some O)
  (T:∀b j,H b=some (.tup j)->H' b=some (.tup j)) (F:∀b o u,H b=some (.frz o u)->H' b=some (.frz o u)) (B:∀b P,H b=some (.tbl P)->∃M,H' b=some (.tbl (P++M)))
  (ns:∀m,s.heap.Ns X.env.locals m->h'.Ns X.env.locals m) (L:fb X.prog X.w H' h') (hg:AllBare g'):
  aq X pins σ H' { s with heap:=h',gens:=g',drawn:=d',toks:=t' }:=by
 have D:∀b o,X.s₀.heap.get? b=some o->b≠X.env.locals:=λb o e=>IY (I0 (IP e) I.ok.above)
 have g:∀b o,X.s₀.heap.get? b=some o->b∉X.ex->b∉ch:=λb o e h y=>by
  rcases(a b y).1 with z |z
  ·exact h z
  ·exact absurd (I0 (IP e) z) (LO _)
 have C:∀x c,X.env.cells.lookup x=some c->∀v,s.heap.IsCell c v->h'.IsCell c v:=λx c e v #[o,A,Q]=>by
  have N:c∉ch:=λz=>(a c z).2.2.1 x c e Z
  by_cases U:c∈X.fs
  ·obtain⟨J,q⟩:=S c o (I.cne x c e) U N A (I.freeC x c e)
   exact#[_,q,Q]
  ·exact#[o,K c o (I.cne x c e) U N A (I.freeC x c e),Q]
 refine#[I.ok,I.os,hg,#[λb o e n y h=>?_,λb o e n y h=>?_,λb o e n h=>?_,λb o e h=>?_,λb j e=>T b j (I.base.tups b j e),λb o j e=>F b o j (I.base.frzs b o j e),λb P e=>?_],?_,λx c e=>?_,?_,λx c e=>?_,λp W=>?_,L,I.len]
 ·exact K b o (D b o e) y (g b o e h) (I.base.keep b o e n y h) (I.base.free b o e n h)
 ·obtain⟨J,E⟩:=I.base.slot b o e n y h
  obtain⟨R,G⟩:=S b _ (D b o e) y (g b o e h) E (I.base.free b o e n h)
  exact#[R,G]
 ·obtain⟨O,E⟩:=I.base.there b o e h
  exact f b O (g b o e h) E (I.base.free b o e n h)
 ·obtain⟨O,E⟩:=I.base.there b o e h
  exact t b O (g b o e h) E
 ·obtain⟨m1,E⟩:=I.base.tbls b P e
  obtain⟨m2,G⟩:=B b _ E
  exact#[m1++m2,by rw[G,Array.append_assoc]]
 ·obtain⟨m,hn,hl⟩:=I.loc
  refine#[m,ns m hn,λi x v E G e3=>?_]
  obtain⟨u,r,l⟩:=hl i x v E G e3
  refine#[u,r,?_]
  rcases l with l | ⟨k,c,e,z⟩
  ·exact .inl l
  ·exact .inr #[k,c,e,C x c e _ z]
 ·obtain⟨v,z⟩:=I.cell x c e
  exact#[v,C x c e v z]
 ·obtain⟨m,⟨o,_,_,A,_⟩,_⟩:=I.loc
  exact f _ o (λz=>(a _ z).2.1 Z) A I.free
 ·obtain⟨v,o,A,Q⟩:=I.cell x c e
  exact f c o (λz=>(a c z).2.2.1 x c e Z) A (I.freeC x c e)
 ·obtain⟨e,n,Y,nf,d⟩:=I.pin p W
  have N:p.1∉ch:=λz=>(a p.1 z).2.2.2 p W Z
  exact#[K p.1 p.2 Y nf N e n,f p.1 p.2 N e n,Y,nf,d]
theorem aq.un{t':Nat}(I:aq X pins σ H s)(u:Un X.fs [] H H' s.heap h')(a:fb X.prog X.w H' h'):aq X pins σ H' { s with heap:=h',toks:=t' }:=by
 obtain⟨m,⟨o,j,k,f,r⟩,_⟩:=id I.loc
 obtain⟨S,g⟩:=u.any f I.free Po
 exact I.step (g':=s.gens) (d':=s.drawn) (ch:=[]) (λ_ z=>nomatch z) (λb o _ c _ e n=>u.keep b o e n c Po) (λb o _ c _ e n=>u.slot b o e n c Po) (λb o _ e n=>u.free b o e n Po) (λb o _ e=>u.there b o e Po) u.tups u.frzs u.tbls (λM i=>by
  obtain⟨O,E,d,h,R⟩:=i
  rw[f]at h;cases h
  exact#[_,E,d,g,R]) a I.bare
theorem aq.call{g':Array GenState}{t':Nat}{d':Drawn}{ch:List Addr}(I:aq X pins σ H s)(u:Un (iQ X.stack) ch H H' s.heap h')(f:fb X.prog X.w H' h')(k:AllBare g')
  (a:∀b∈ch,(b∈X.ex∨X.s₀.heap.objs.size<=b)/\b≠X.env.locals/\(∀x c,X.env.cells.lookup x=some c->c≠b)/\∀p∈X.pn++pins,p.1≠b):
  aq X pins σ H' { s with heap:=h',gens:=g',drawn:=d',toks:=t' }:=by
 obtain⟨m,⟨o,t,v,j,r⟩,_⟩:=id I.loc
 obtain⟨S,g⟩:=u.any j I.free λz=>(a _ z).2.1 Z
 exact I.step (ch:=ch) a (λb o g l h e n=>u.keep b o e n (λz=>(List.mem_cons.mp (I.stkSub b z)).elim g l) h) (λb o _ _ h e n=>u.any e n h) (λb o h e n=>u.free b o e n h) (λb o h e=>u.there b o e h) u.tups u.frzs u.tbls (λM q=>by
  obtain⟨O,E,i,d,R⟩:=q
  rw[j]at d;cases d
  exact#[_,E,i,g,R]) f k
theorem aq.turned{t':Nat}{it:Addr}(I:aq X pins σ H s)(k:∀b o,b≠it->s.heap.get? b=some o->h'.get? b=some o)(d:H it=none)(a:it≠X.env.locals)
  (f:it∈X.ex∨X.s₀.heap.objs.size<=it) (g:∀x c,X.env.cells.lookup x=some c->c≠it) (i:∀p∈X.pn++pins,p.1≠it):aq X pins σ H { s with heap:=h',toks:=t' }:=by
 have N:∀b u,H b=some u->b≠it:=λb u e z=>by rw[z,d]at e;cases e
 refine I.step (g':=s.gens) (d':=s.drawn) (ch:=[it]) (λb j=>?_) (λb o _ _ h e _=>k b o (λz=>h (by simp [z])) e) (λb o _ _ h e _=>#[o.slots,k b o (λz=>h (by simp [z])) e]) (λ_ _ _ _ n=>n)
  (λb o h e=>#[o,k b o (λz=>h (by simp [z])) e]) (λ_ _ e=>e) (λ_ _ _ e=>e) (λb P e=>#[(List.toArray []),by rw[e];simp]) (λm l=>?_) (λb u e=>?_) I.bare
 ·have e:b=it:=by simpa using j
  subst e
  exact#[f,a,g,i]
 ·obtain⟨o,E,t,w,r⟩:=l
  exact#[o,E,t,k _ o (Lr a) w,r]
 ·refine(I.hok b u e).stay (λc v h q=>k c v ?_ q) (λ_ q=>q) λ_ _ q=>q
  rcases h with z |z
  ·rw[z];exact N b u e
  ·exact N c _ z
theorem aq.tok(I:aq X pins σ H s)(t:Nat):aq X pins σ H { s with toks:=t }:=I.un (h':=s.heap) (t':=t) Un.refl I.hok
theorem aq.kept{t':Nat}(I:aq X pins σ H s)(k:∀b u,s.heap.get? b=some u->h'.get? b=some u):aq X pins σ H { s with heap:=h',toks:=t' }:=I.un (Un.kept k) (I.hok.kept k)
theorem aq.laid{a:Addr}{o:HO}{t':Nat}(I:aq X pins σ H s)(k:∀b u,s.heap.get? b=some u->h'.get? b=some u)(h:s.heap.objs.size<=a)(n:aL X.prog X.w (ah H a o) h' a o):
  aq X pins σ (ah H a o) { s with heap:=h',toks:=t' }:=I.un (Un.laid k h (I.hok.fresh h)) (I.hok.laid k h n)
theorem aq.write{x e:Addr}{o:HO}{t':Nat}(I:aq X pins σ H s)(m:Ee (H x))(a:e=x∨H e=some (.own x))(k:∀b u,b≠e->s.heap.get? b=some u->h'.get? b=some u)(h:∃u,h'.get? e=some u)
  (n:aL X.prog X.w (ah H x o) h' x o):aq X pins σ (ah H x o) { s with heap:=h',toks:=t' }:=I.un (Un.write m a k h) (I.hok.write m a k h n)
theorem aq.pins_of{pins':List (Addr×Obj)}(I:aq X pins σ H s)(h:∀p∈pins',s.heap.get? p.1=some p.2/\H p.1=none/\p.1≠X.env.locals/\p.1∉X.fs/\∀v,p.2.data≠ .cell v):aq X pins' σ H s:=
 #[I.ok,I.os,I.bare,I.base,I.loc,I.cell,I.free,I.freeC,λp a=>(List.mem_append.mp a).elim (λz=>I.pin p (Ml _ z)) (h p),I.hok,I.len]
theorem Xf{N:List Str}(h:N.Nodup){i j:Nat}{x:Str}(a:N[i]?=some x)(b:N[j]?=some x):i=j:=by
 obtain⟨c,e⟩:=List.getElem?_eq_some_iff.mp a
 obtain⟨d,E⟩:=List.getElem?_eq_some_iff.mp b
 exact(List.getElem_inj h).mp (e.trans E.symm)
theorem Qa{v:V}{Q:Unit->Shared->Prop}(I:aq X pins σ H s)(hN:X.N.Nodup)(L:X.N[i]?=some x)(l:Ar X.env.scope x)(r:aD v u)
  (h:∀s',aq X pins (σ.set i (some v)) H s'->(∃a,Heap.SameBut a s.heap s'.heap/\(a=X.env.locals∨X.env.cells.lookup x=some a))->Q () s') (hf:X.fn x=true∨X.env.scope.names.lookup x=some .local:=by first |exact .inl Z |exact .inr Z |assumption):wpAny M A (storeName X.env x u) Q E s:=by
 obtain⟨m,hn,hl⟩:=id I.loc
 have O:(X.env.scope.kind== .class||(X.env.scope.kind== .module&&X.env.locals != X.env.globals))=false:=by rw[I.ok.kind];rfl
 have D:i < σ.length:=by rw[I.len];exact(List.getElem?_eq_some_iff.mp L).1
 have F:=I.cne
 have t:∀{a:Addr} {h':Heap},(∃o,s.heap.get? a=some o/\H a=none)->Heap.SameBut a s.heap h'->fb X.prog X.w H h':=λ{a h'} ha f b ob e=>by
  obtain⟨_,_,B⟩:=ha
  refine(I.hok b ob e).stay (λc W hc q=>(f.2 c ?_).trans q) (λ_ q=>q) λ_ _ q=>q
  rintro rfl
  rcases hc with rfl |hc
  ·rw[B]at e;cases e
  ·rw[B]at hc;cases hc
 rcases l with hk |hk
 ·refine wpAny_storeName_local hk hn (λh' h0 f=>?_) O
  obtain⟨oL,_,_,h1,_⟩:=id hn
  refine h _ #[I.ok,I.os,I.bare,#[λb o e n G l=>?_,λb o e n G l=>?_,I.base.free,λb o e l=>?_,I.base.tups,I.base.frzs,I.base.tbls],#[_,h0,λj y v' g C e3=>?_],λy c e=>?_,I.free,I.freeC,λp hp=>?_,t #[oL,h1,I.free] f,by simpa using I.len] #[_,f,.inl Z]
  ·exact(f.2 b (IY (I0 (IP e) I.ok.above))).trans (I.base.keep b o e n G l)
  ·obtain⟨sl,g⟩:=I.base.slot b o e n G l
   exact#[sl,(f.2 b (IY (I0 (IP e) I.ok.above))).trans g]
  ·obtain⟨o',g⟩:=I.base.there b o e l
   exact#[o',(f.2 b (IY (I0 (IP e) I.ok.above))).trans g]
  ·by_cases J:j=i
   ·subst J
    rw[L]at g;cases g
    rw[Nl D]at C
    cases C
    exact#[u,r,.inl #[hk,Po]]
   ·rw[MH (Lr J)]at C
    obtain⟨u',r',q⟩:=hl j y v' g C e3
    refine#[u',r',?_]
    rcases q with ⟨k,e⟩ | ⟨k,c,e,z⟩
    ·refine .inl #[k,?_]
     have:y≠x:=λe=>J (Xf hN g (e▸L))
     simp [this,e]
    ·exact .inr #[k,c,e,z.sameBut f (F y c e)]
  ·obtain⟨W,z⟩:=I.cell y c e
   exact#[W,z.sameBut f (F y c e)]
  ·obtain⟨e,n,U,nf,d⟩:=I.pin p hp
   exact#[(f.2 p.1 U).trans e,n,U,nf,d]
 ·have K:X.fn x=true:=by
   rcases hf with z |z
   ·exact z
   ·rw[z]at hk;cases hk
  obtain⟨c,hc⟩:=I.ok.has x (.inl hk)
  obtain⟨W,z⟩:=I.cell x c hc
  refine wpAny_storeName_cell I.ok.kind hk hc z (λh' P f=>?_)
  obtain⟨oc,R,S⟩:=id z
  refine h { s with heap:=h' } #[I.ok,I.os,I.bare,#[λb o e n G l=>?_,λb o e n G l=>?_,I.base.free,λb o e l=>?_,I.base.tups,I.base.frzs,I.base.tbls],#[m,hn.sameBut f (Lr (F x c hc)),λj y v' g C e3=>?_],λy Y e=>?_,I.free,I.freeC,λp hp=>?_,t #[oc,R,I.freeC x c hc] f,by simpa using I.len] #[c,f,.inr hc]
  ·exact(f.2 b (IY (I0 (IP e) (I.ok.cab x c K hc)))).trans (I.base.keep b o e n G l)
  ·obtain⟨sl,g⟩:=I.base.slot b o e n G l
   exact#[sl,(f.2 b (IY (I0 (IP e) (I.ok.cab x c K hc)))).trans g]
  ·obtain⟨o',g⟩:=I.base.there b o e l
   exact#[o',(f.2 b (IY (I0 (IP e) (I.ok.cab x c K hc)))).trans g]
  ·by_cases J:j=i
   ·subst J
    rw[L]at g;cases g
    rw[Nl D]at C
    cases C
    exact#[u,r,.inr #[.inl hk,c,hc,P]]
   ·rw[MH (Lr J)]at C
    obtain⟨u',r',q⟩:=hl j y v' g C e3
    refine#[u',r',?_]
    rcases q with q | ⟨k,Y,e,z'⟩
    ·exact .inl q
    ·refine .inr #[k,Y,e,z'.sameBut f ?_]
     rintro rfl
     exact J (Xf hN g (I.ok.inj _ _ _ e hc▸L))
  ·by_cases T:Y=c
   ·subst T;exact#[_,P]
   ·obtain⟨w2,z2⟩:=I.cell y Y e
    exact#[w2,z2.sameBut f T]
  ·obtain⟨e,n,U,nf,d⟩:=I.pin p hp
   refine#[(f.2 p.1 ?_).trans e,n,U,nf,d]
   intro q
   rw[q,R]at e
   have q':oc=p.2:=LB e
   exact d W (by rw[<- q'];exact S)
theorem qW{Q:Unit->Shared->Prop}(I:aq X pins σ H s)(a:X.N.Nodup)(b:X.N[i]?=some x)(c:Ar X.env.scope x)(r:aD v u)
  (h:∀S,aq X pins (σ.set i (some v)) H S->Q () S) (d:X.fn x=true∨X.env.scope.names.lookup x=some .local:=by first |exact .inl Z |exact .inr Z |assumption):wpAny M A (storeName X.env x u) Q E s:=
 Qa I a b c r (λS e _=>h S e) d
theorem aq.call'{S:Shared}{ch:List Addr}(I:aq X pins σ H s)(d:S.os=s.os)(u:Un (iQ X.stack) ch H H' s.heap S.heap)(h:fb X.prog X.w H' S.heap)(f:AllBare S.gens)
  (a:∀b∈ch,(b∈X.ex∨X.s₀.heap.objs.size<=b)/\b≠X.env.locals/\(∀x c,X.env.cells.lookup x=some c->c≠b)/\∀p∈X.pn++pins,p.1≠b):aq X pins σ H' S:=by
 obtain⟨h',g',d',t',o⟩:=S
 have e:o=s.os:=d
 subst e
 exact I.call (g':=g') (t':=t') (d':=d') u h f a
end
abbrev XK:=Value->Option Addr->Hp->Prop
abbrev St:=List (Option V)
abbrev VK:=V->Hp->Prop
abbrev TE:=St->Hp->VK->Prop
abbrev TT:=St->Hp->(Bool->Hp->Prop)->Prop
abbrev TA:=St->Hp->(List V->Hp->Prop)->Prop
structure bp where
 nx:St->Hp->Prop
 rt:VK
 bk:St->Hp->Prop:=λ_ _=>False
 ct:St->Hp->Prop:=λ_ _=>False
abbrev TS:=bp->St->Hp->Prop
inductive EP(X:Cx)(a:List (Addr×Obj))(d:St)(Q:VK)(u:Value)(c:Shared):Prop
 |mk(v b:_)(_:aq X a d b c)(_:aD v u)(_:Q v b)
inductive TP(X:Cx)(a:List (Addr×Obj))(e:St)(Q:Bool->Hp->Prop)(b:Bool)(d:Shared):Prop
 |mk(c:_)(_:aq X a e c d)(_:Q b c)
inductive AP(X:Cx)(a:List (Addr×Obj))(f:St)(Q:List V->Hp->Prop)(d:List Value)(c:Shared):Prop
 |mk(e b:_)(_:aq X a f b c)(_:aB e d)(_:Q e b)
def SP(X:Cx)(p:List (Addr×Obj))(D:bp)(f:Flow)(s:Shared):Prop:=
 match f with
 | .next=>∃a H,aq X p a H s/\D.nx a H
 | .brk=>∃a H,aq X p a H s/\D.bk a H
 | .cont=>∃a H,aq X p a H s/\D.ct a H
 | .ret u=>∃v a H,aq X p a H s/\aD v u/\D.rt v H
def PE(X:Cx)(e:Expr)(t:TE):Prop:=
 ∀(p:List (Addr×Obj)) (s:Shared) (a:St) (H:Hp) (Q:VK),aq X p a H s->t a H Q->wpAny (model X.prog X.w) X.A (eval e X.env) (EP X p a Q) X.xe s
def PT(X:Cx)(e:Expr)(t:TT):Prop:=
 ∀(p:List (Addr×Obj)) (s:Shared) (a:St) (H:Hp) (Q:Bool->Hp->Prop),aq X p a H s->t a H Q->wpAny (model X.prog X.w) X.A (isTrue e X.env (eval e X.env)) (TP X p a Q) X.xe s
def PW(X:Cx)(e:Expr)(t:TT):Prop:=
 ∀(W:Sem Value) (p:List (Addr×Obj)) (s:Shared) (a:St) (H:Hp) (Q:Bool->Hp->Prop),aq X p a H s->t a H Q->wpAny (model X.prog X.w) X.A (isTrue e X.env W) (TP X p a Q) X.xe s
theorem PW.pt{X:Cx}{e:Expr}{t:TT}(h:PW X e t):PT X e t:=h _
def PA(X:Cx)(e:List Expr)(t:TA):Prop:=
 ∀(P:Pos) (p:List (Addr×Obj)) (s:Shared) (a:St) (H:Hp) (Q:List V->Hp->Prop),aq X p a H s->t a H Q->wpAny (model X.prog X.w) X.A (spliced (backTo P (starEach e X.env))) (AP X p a Q) X.xe s
def PS(X:Cx)(st:Stmt)(t:TS):Prop:=
 ∀(p:List (Addr×Obj)) (s:Shared) (a:St) (H:Hp) (D:bp),aq X p a H s->t D a H->wpAny (model X.prog X.w) X.A (exec st X.env) (SP X p D) X.xe s
def mh(X:Cx)(st:List Stmt)(t:TS):Prop:=
 ∀(p:List (Addr×Obj)) (s:Shared) (a:St) (H:Hp) (D:bp),aq X p a H s->t D a H->wpAny (model X.prog X.w) X.A (execs st X.env) (SP X p D) X.xe s
theorem aU{b:Type}{t:Sem b}{Q q:b->Shared->Prop}{M:Model}{A:Around}{E:Value->Shared->Prop}{s:Shared}(h:wpAny M A t Q E s)(H:∀a s,Q a s->q a s):wpAny M A t q E s:=LS h H λ_ _ x=>x
section
variable {X:Cx}
inductive bV(i:Nat)(a:St)(H:Hp)(Q:VK):Prop
 |mk(v:_)(_:a[i]?=some (some v))(_:Q v H)
def tC(v:V):TE:=λ_ H Q=>Q v H
theorem C7(j:X.N[i]?=some x)(k:Gf X.env.scope x)(b:(x==("__debug__":Str))=false:=by decide)(d:(x==("__classdict__":Str))=false:=by decide):PE X (.Name x n) (bV i):=by
 intro p s o H Q I h
 obtain⟨v,e,h⟩:=h
 obtain⟨m,q,t⟩:=I.loc
 obtain⟨u,r,l⟩:=t i x v j e k
 have f:EP X p o Q u s:=#[v,H,I,r,h]
 rcases l with ⟨hk,w⟩ | ⟨hk,c,g,a⟩
 ·exact wpAny_Name (wpAny_loadName_local I.ok.kind hk q w f) b
 ·rcases hk with hk |hk
  ·exact wpAny_Name (wpAny_loadName_cell I.ok.kind hk g a f) b
  ·exact wpAny_Name (wpAny_loadName_free I.ok.kind hk g a f d) b
theorem jg{i j p}:PE X (.Constant (.int i) j p) (tC (.int i)):=λ_ _ _ H _ I h=>wpAny_Constant_int #[.int i,H,I.tok _,#[_,Z],h]
theorem J5{b j p}:PE X (.Constant (.bool b) j p) (tC (.bl b)):=λ_ _ _ H _ I h=>Constant_bool #[.bl b,H,I,Z,h]
theorem Kc{j p}:PE X (.Constant .none j p) (tC .non):=λ_ _ _ H _ I h=>Constant_none #[.non,H,I,Z,h]
theorem jo{x j p}:PE X (.Constant (.str x) j p) (tC (.str x)):=λ_ _ _ H _ I h=>Calls.Constant_str #[.str x,H,I.tok _,#[_,Z],h]
def Gl(X:Cx)(x:Str):Prop:=X.env.kindOf x=some .globalImplicit
theorem zC{Q:Value->Shared->Prop}(I:aq X p e H s)(a:Gl X x)(b:X.mg x=some u)(h:Q u s)
  (c:(x==("__debug__":Str))=false:=by decide):wpAny (model X.prog X.w) X.A (eval (.Name x d) X.env) Q E s:=
 Calls.Name_function_global I.ok.kind a (Calls.loadGlobal_global (by rw[I.ok.glob];exact I.mod.glob.keeps I.bk) b h) c
theorem zp{Q:Value->Shared->Prop}(I:aq X p j H s)(a:Gl X x)(b:X.mg x=none)(c:bootBuiltins x=some u)(h:Q u s)
  (d:x≠"__name__":=by decide) (e:(x==("__debug__":Str))=false:=by decide):wpAny (model X.prog X.w) X.A (eval (.Name x f) X.env) Q E s:=by
 obtain⟨m,g,i⟩:=I.mod.blt
 exact Calls.Name_function_global I.ok.kind a (Calls.loadGlobal_builtin (by rw[I.ok.glob];exact I.mod.glob.keeps I.bk) b (by rw[I.ok.blt];exact g.keeps I.bk) ((i x d).trans c) h) e
theorem qM{v:V}(a:Gl X x)(b:X.mg x=some u)(r:aD v u)(c:(x==("__debug__":Str))=false:=by decide):PE X (.Name x p) (tC v):=
 λ_ _ _ H _ I h=>zC I a b #[v,H,I,r,h] c
theorem Y3{v:V}(a:Gl X x)(b:X.mg x=none)(c:bootBuiltins x=some u)(r:aD v u)(d:x≠"__name__":=by decide)(e:(x==("__debug__":Str))=false:=by decide):PE X (.Name x p) (tC v):=
 λ_ _ _ H _ I h=>zp I a b c #[v,H,I,r,h] d e
variable {a b:Expr}{ta tb:TE}{pos:Pos}
def PC(X:Cx)(o:CmpOp)(a b:Expr)(t:TE):Prop:=
 ∀(p:List (Addr×Obj)) (s:Shared) (d:St) (H:Hp) (Q:VK),aq X p d H s->t d H Q->
  wpAny (model X.prog X.w) X.A (eval a X.env) (λv S=>wpAny (model X.prog X.w) X.A (eval b X.env) (λu c=>wpAny (model X.prog X.w) X.A (compareOp o v u) (EP X p d Q) X.xe c) X.xe S) X.xe s
def Hs(ta:TE):TE:=λc H Q=>ta c H λx h=>Q (.bl (decide (x= .non))) h
theorem aD.none_iff(r:aD x v):(v==Value.none)=decide (x= .non):=by
 cases x with
 |non=>cases r;rfl
 |bl _=>cases r;rfl
 |int _=>obtain⟨t,rfl⟩:=r;rfl
 |str _=>obtain⟨t,rfl⟩:=r;rfl
 |byt _=>obtain⟨t,rfl⟩:=r;rfl
 |flt _=>obtain⟨t,rfl⟩:=r;rfl
 |ref _=>cases r;rfl
 |ty _=>cases r;rfl
theorem QA{j p}(c:PE X a ta):PC X .Is a (.Constant .none j p) (Hs ta):=by
 intro P s d H Q I h
 refine aU (c P s d H _ I h) λv S z=>?_
 obtain⟨x,e,i,r,q⟩:=z
 exact Constant_none (is_none_gen #[.bl _,e,i,by rw[r.none_iff];rfl,q])
inductive Il(Q:Bool->Hp->Prop)(x:V)(a:Hp):Prop
 |mk(c:_)(_:x= .bl c)(_:Q c a)
def tB(t:TE):TT:=λc H Q=>t c H (Il Q)
theorem Kd(h:PC X o a b t)(e:behindInMarks o b=false:=by first |exact n _ Pm Pm |rfl):PT X (.Compare a [o] [b] pos) (tB t):=by
 intro p s f H Q I g
 refine wpAny_isTrue_Compare1 (aU (h p s f H _ I g) λv S e=>aU e λu m i=>aU i λc w z=>?_) e
 obtain⟨x,j,k,r,l⟩:=z
 obtain⟨d,rfl,q⟩:=l
 cases r
 exact Oe #[j,k,q]
theorem QB(h:PE X e t)(c:∀w,isTrue e X.env w=(do let v <- w;standAt e.pos;holding [v] (truthy v)):=by intro _;rfl):PT X e (tB t):=by
 intro p s f H Q I g
 refine isTrue_plain (aU (h p s f H _ I g) λv S z=>?_) (c _)
 obtain⟨x,i,j,r,k⟩:=z
 obtain⟨d,rfl,q⟩:=k
 cases r
 exact Oe #[i,j,q]
variable {tA tB':TT}{rest:List Expr}
def Hl(t u:TT):TT:=λd H Q=>t d H λc h=>if c=true then u d h Q else Q false h
def Ix(t u:TT):TT:=λd H Q=>t d H λc h=>if c=true then Q true h else u d h Q
def Ht(t:TT):TT:=λd H Q=>t d H λc h=>Q (!c) h
theorem QO(d:PT X a tA):PW X (.BoolOp .And [a] pos) tA:=by
 intro w p s f H Q I h
 refine isTrue_and (aU (d p s f H Q I h) λc S e=>?_)
 cases c with
 |true=>exact isTrue_and_nil e
 |false=>exact e
theorem X8(d:PT X a tA):PW X (.BoolOp .Or [a] pos) tA:=by
 intro w p s f H Q I h
 refine isTrue_or (aU (d p s f H Q I h) λc S e=>?_)
 cases c with
 |false=>exact isTrue_or_nil e
 |true=>exact e
theorem X9(f:PT X a tA)(g:PW X (.BoolOp .And (b::rest) pos) tB'):PW X (.BoolOp .And (a::b::rest) pos) (Hl tA tB'):=by
 intro w p s d H Q I h
 refine isTrue_and (aU (f p s d H _ I h) λc S z=>?_)
 obtain⟨e,i,q⟩:=z
 cases c with
 |true=>exact g w p S d e Q i q
 |false=>exact#[e,i,q]
theorem uy(f:PT X a tA)(g:PW X (.BoolOp .Or (b::rest) pos) tB'):PW X (.BoolOp .Or (a::b::rest) pos) (Ix tA tB'):=by
 intro w p s d H Q I h
 refine isTrue_or (aU (f p s d H _ I h) λc S z=>?_)
 obtain⟨e,i,q⟩:=z
 cases c with
 |true=>exact#[e,i,q]
 |false=>exact g w p S d e Q i q
theorem QC(e:PT X a tA):PT X (.UnaryOp .Not a pos) (Ht tA):=by
 intro p s f H Q I h
 exact isTrue_not (aU (e p s f H (λc d=>Q (!c) d) I h) λc S #[d,i,q]=>#[d,i,q])
def Iw(t:TT)(ta tb:TE):TE:=λd H Q=>t d H λc h=>if c=true then ta d h Q else tb d h Q
theorem kK(g:PT X c tA)(j:PE X a ta)(k:PE X b tb):PE X (.IfExp c a b pos) (Iw tA ta tb):=by
 intro p s e H Q I h
 refine wpAny_IfExp (aU (g p s e H _ I h) λd S z=>?_)
 obtain⟨f,i,q⟩:=z
 cases d with
 |true=>exact j p S e f Q i q
 |false=>exact k p S e f Q i q
end
def aJ(K:Frag)(H:Hp)(a:Addr)(x:List V):Prop:=
 Rd H a (.lst x)∨
  ∃(o:Obj) (i:Array Value) (n:Nat),K.lookup a=some o/\o.cls= .type "list"/\o.dict=none/\o.data= .seq i n/\i.size<=sizeLine/\aB x i.toList
def aA(K:Frag)(H:Hp)(a:Addr)(x:List V):Prop:=
 Rd H a (.tup x)∨
  ∃(o:Obj) (i:Array Value) (n:Nat),K.lookup a=some o/\o.cls= .type "tuple"/\o.data= .seq i n/\i.size<=sizeLine/\aB x i.toList
noncomputable def GH:Value->Option V
 | .none=>some .non
 | .bool b=>some (.bl b)
 | .int i _=>some (.int i)
 | .str x _=>some (.str x)
 | .bytes b _=>some (.byt b)
 | .float b _=>some (.flt b)
 | .ref a=>some (.ref a)
 | .type n=>some (.ty n)
 |_=>none
theorem aD.abs(r:aD x u):GH u=some x:=by
 cases x with
 |non=>cases r;rfl
 |bl _=>cases r;rfl
 |int _=>obtain⟨t,rfl⟩:=r;rfl
 |str _=>obtain⟨t,rfl⟩:=r;rfl
 |byt _=>obtain⟨t,rfl⟩:=r;rfl
 |flt _=>obtain⟨t,rfl⟩:=r;rfl
 |ref _=>cases r;rfl
 |ty _=>cases r;rfl
theorem aD.inj{x:V}(r:aD x u)(q:aD y u):x=y:=LB (r.abs.symm.trans q.abs)
theorem aB.inj:∀{x y:List V} {u:List Value},aB x u->aB y u->x=y
 |_,_,_,.nil,.nil=>rfl
 |_,_,_,.cons r t,.cons R T=>by rw[r.inj R,aB.inj t T]
section
variable {X:Cx}{pins:List (Addr×Obj)}{σ:St}{H:Hp}{s:Shared}{a:Addr}{xs ys:List V}
theorem aJ.of{K:Frag}(h:H a=some (.lst xs)):aJ K H a xs:=.inl (.inl h)
theorem aA.of{K:Frag}(h:H a=some (.tup xs)):aA K H a xs:=.inl (.inl h)
theorem aq.list(I:aq X pins σ H s)(h:aJ X.K H a xs):∃i:List Value,aB xs i/\PlainL s.heap a i.toArray/\xs.length<=sizeLine:=by
 rcases h with h | ⟨o,i,n,b,c,d,f,g,r⟩
 ·obtain⟨z,i,n,r,e⟩:=h.ok I.hok
  exact#[i,r,#[_,n,e,Z,Z,Z],z]
 ·refine#[i.toList,r,#[o,n,I.kIn a o b,c,d,by simpa using f],?_]
  have e:=r.length
  simp only[Ld]at e
  omega
theorem aq.tuple(I:aq X pins σ H s)(h:aA X.K H a xs):∃i:List Value,aB xs i/\IsTup s.heap a i.toArray/\xs.length<=sizeLine:=by
 rcases h with h | ⟨o,i,n,b,c,d,f,r⟩
 ·obtain⟨z,i,r,p⟩:=h.ok I.hok
  exact#[i,r,p,z]
 ·refine#[i.toList,r,#[o,I.kIn a o b,c,n,by simpa using d],?_]
  have e:=r.length
  simp only[Ld]at e
  omega
theorem aq.list_inj(I:aq X pins σ H s)(h:aJ X.K H a xs)(c:aJ X.K H a ys):xs=ys:=by
 obtain⟨b,r,⟨o,n,e,_,_,d⟩,_⟩:=I.list h
 obtain⟨i,R,⟨O,N,E,_,_,D⟩,_⟩:=I.list c
 rw[e]at E;cases E
 rw[d]at D
 injection D with f _
 have:b=i:=by simpa using LY Array.toList f
 subst this
 exact r.inj R
theorem aq.tuple_inj(I:aq X pins σ H s)(h:aA X.K H a xs)(c:aA X.K H a ys):xs=ys:=by
 obtain⟨b,r,⟨o,e,_,n,d⟩,_⟩:=I.tuple h
 obtain⟨i,R,⟨O,E,_,N,D⟩,_⟩:=I.tuple c
 rw[e]at E;cases E
 rw[d]at D
 injection D with f _
 have:b=i:=by simpa using LY Array.toList f
 subst this
 exact r.inj R
end
noncomputable abbrev Cx.wish(X:Cx)(E:Value->Shared->Prop):Cx:={ X with xe:=E }
noncomputable abbrev Cx.nox(X:Cx):Cx:=X.wish λ_ _=>False
theorem Cx.Ok.wish{X:Cx}(o:X.Ok)(E:Value->Shared->Prop):(X.wish E).Ok:=
 #[o.mod,o.kind,o.glob,o.blt,o.above,o.inj,o.has,o.cab,o.hd,o.frames,o.stk,o.exf,o.bs,o.bsz,o.noex,o.exfs,o.funs,o.frf]
theorem Cx.Ok.unwish{X:Cx}(o:(X.wish E).Ok):X.Ok:=
 #[o.mod,o.kind,o.glob,o.blt,o.above,o.inj,o.has,o.cab,o.hd,o.frames,o.stk,o.exf,o.bs,o.bsz,o.noex,o.exfs,o.funs,o.frf]
section
variable {X:Cx}{pins:List (Addr×Obj)}{σ:St}{H:Hp}{s:Shared}{E:Value->Shared->Prop}
theorem aq.wish(I:aq X pins σ H s)(E:Value->Shared->Prop):aq (X.wish E) pins σ H s:=#[I.ok.wish E,I.os,I.bare,I.base,I.loc,I.cell,I.free,I.freeC,I.pin,I.hok,I.len]
theorem aq.unwish(I:aq (X.wish E) pins σ H s):aq X pins σ H s:=#[I.ok.unwish,I.os,I.bare,I.base,I.loc,I.cell,I.free,I.freeC,I.pin,I.hok,I.len]
theorem SP.unwish(h:SP (X.wish E) pins D f c):SP X pins D f c:=by
 cases f with
 |next=>obtain⟨a,b,I,q⟩:=h;exact#[a,b,I.unwish,q]
 |brk=>obtain⟨a,b,I,q⟩:=h;exact#[a,b,I.unwish,q]
 |cont=>obtain⟨a,b,I,q⟩:=h;exact#[a,b,I.unwish,q]
 |ret u=>obtain⟨v,a,b,I,r,q⟩:=h;exact#[v,a,b,I.unwish,r,q]
theorem mh.nox{st:List Stmt}(h:mh X.nox st t):mh X st t:=λpins s σ H D I a=>
 LS (h pins s σ H D (I.wish _) a) (λ_ _ q=>q.unwish) λ_ _ z=>False.elim z
end
section
variable {X:Cx}{st:Stmt}{rest:List Stmt}{t u:TS}{e:Expr}{te:TE}{pos:Pos}
def vO:TS:=λD a H=>D.nx a H
def eP(t u:TS):TS:=λD a H=>t { D with nx:=u D } a H
theorem jr:mh X [] vO:=λ_ _ a H _ I h=>Nn #[a,H,I,h]
theorem jd(b:PS X st t)(c:mh X rest u):mh X (st::rest) (eP t u):=by
 intro p s d H D I h
 refine O8 (aU (b p s d H { D with nx:=u D } I h) λf S q=>?_)
 cases f with
 |next=>
  obtain⟨a,g,i,q⟩:=q
  exact c p S a g D i q
 |ret v=>exact q
 |brk=>exact q
 |cont=>exact q
theorem jf(a:PS X st t):mh X [st] t:=by
 intro p s b H D I h
 refine O8 (aU (a p s b H D I h) λf S q=>?_)
 cases f with
 |next=>exact Nn q
 |ret v=>exact q
 |brk=>exact q
 |cont=>exact q
theorem aq.quiet(I:aq X p a H s):interactive X.env=false:=by simp [interactive,I.ok.kind]
def oI(te:TE):TS:=λD a H=>te a H λ_ h=>D.nx a h
theorem jB(b:PE X e te)(c:swapsWith e none pos.line X.env=pure false:=by rfl):PS X (.Expr e pos) (oI te):=by
 intro p s a H D I h
 exact wpAny_Expr_any (aU (b p s a H _ I h) λv S #[x,d,i,r,q]=>#[a,d,i,q]) I.quiet c
def iM(te:TE):TS:=λD a H=>te a H D.rt
theorem jm(b:PE X e te):PS X (.Return (some e) pos) (iM te):=by
 intro p s a H D I h
 exact wpAny_Return_some (aU (b p s a H _ I h) λv S #[x,c,i,r,q]=>#[x,a,c,i,r,q])
def gD(c:TT)(t u:TS):TS:=λD a H=>c a H λb h=>if b=true then t D a h else u D a h
theorem jy{c:Expr}{a b:List Stmt}{T:TT}(j:PT X c T)(k:mh X a t)(l:mh X b u):PS X (.If c a b pos) (gD T t u):=by
 intro p s f H D I h
 refine wpAny_If (aU (j p s f H _ I h) λd S z=>?_)
 obtain⟨g,i,q⟩:=z
 cases d with
 |true=>exact k p S f g D i q
 |false=>exact l p S f g D i q
end
abbrev TG:=V->St->Hp->(St->Hp->Prop)->Prop
abbrev wN:=List V->St->Hp->(St->Hp->Prop)->Prop
def PG(X:Cx)(T:Expr)(t:TG):Prop:=
 ∀(p:List (Addr×Obj)) (s:Shared) (b:St) (H:Hp) (v:V) (u:Value) (Q:St->Hp->Prop),aq X p b H s->aD v u->t v b H Q->
  wpAny (model X.prog X.w) X.A (assign T X.env u) (λ_ S=>∃a h,aq X p a h S/\Q a h) X.xe s
def D2(X:Cx)(T:List Expr)(t:wN):Prop:=
 ∀(p:List (Addr×Obj)) (s:Shared) (b:St) (H:Hp) (v:List V) (u:List Value) (Q:St->Hp->Prop),aq X p b H s->aB v u->t v b H Q->
  wpAny (model X.prog X.w) X.A (assignInOrder ((assignEach T X.env).map (·.2)) u) (λ_ S=>∃a h,aq X p a h S/\Q a h) X.xe s
abbrev Bk:=V->V->V->Hp->(Hp->Prop)->Prop
def Eg(X:Cx)(t:Bk):Prop:=
 ∀(p:List (Addr×Obj)) (s:Shared) (a:St) (H:Hp) (o i v:V) (O I u:Value) (Q:Hp->Prop),aq X p a H s->aD o O->aD i I->aD v u->t o i v H Q->
  wpAny (model X.prog X.w) X.A (setItem O I u) (λ_ S=>∃h,aq X p a h S/\Q h) X.xe s
abbrev Gx:=V->V->Hp->VK->Prop
def Ia(X:Cx)(o:Operator)(t:Gx):Prop:=
 ∀(p:List (Addr×Obj)) (s:Shared) (a:St) (H:Hp) (x y:V) (v u:Value) (Q:VK),aq X p a H s->aD x v->aD y u->t x y H Q->
  wpAny (model X.prog X.w) X.A (inplaceOp o v u) (EP X p a Q) X.xe s
section
variable {X:Cx}{pos:Pos}
def bG(i:Nat):TG:=λv a H Q=>Q (a.set i (some v)) H
theorem jw{i:Nat}{x:Str}(a:X.N.Nodup)(b:X.N[i]?=some x)(c:Ar X.env.scope x)(d:X.fn x=true∨X.env.scope.names.lookup x=some .local:=by first |exact .inl Z |exact .inr Z |assumption):PG X (.Name x pos) (bG i):=by
 intro p s f H v u Q I r h
 exact wpAny_assign_Name (qW I a b c r (λS e=>#[_,H,e,h]) d)
def xq:wN:=λv a H Q=>v=[]/\Q a H
inductive eI(t:TG)(u:wN)(a:List V)(b:St)(H:Hp)(Q:St->Hp->Prop):Prop
 |mk(v r:_)(_:a=v::r)(_:t v b H λσ' H'=>u r σ' H' Q)
theorem kU:D2 X [] xq:=by
 intro p s a H v u Q I r h
 obtain⟨e,h⟩:=h
 subst e
 cases r
 exact assignInOrder_nil #[a,H,I,h]
theorem jF(b:PG X e t)(c:D2 X E u)
  (d:(assignEach (e::E) X.env).map (·.2)=assign e X.env::(assignEach E X.env).map (·.2):=by rfl):D2 X (e::E) (eI t u):=by
 intro p s f H V U Q I r h
 obtain⟨v,k,g,h⟩:=h
 subst g
 cases r with
 |cons r R=>
  rw[d]
  refine assignInOrder_cons (aU (b p s f H _ _ _ I r h) λ_ S z=>?_)
  obtain⟨a,i,j,q⟩:=z
  exact c p S a i _ _ Q j R q
inductive sj(K:Frag)(n:Nat)(t:wN)(v:V)(c:St)(H:Hp)(Q:St->Hp->Prop):Prop
 |mk(a b:_)(_:v= .ref a)(_:aA K H a b)(_:b.length=n)(_:t b c H Q)
theorem qf{n:Nat}(g:X.calm=true)(h:D2 X E t)
  (i:(assignEach E X.env).length=n:=by rfl) (c:(assignEach E X.env).findIdx? (·.1)=none:=by rfl):PG X (.Tuple E k pos) (sj X.K n t):=by
 intro p s f H v u Q I r d
 obtain⟨a,x,j,l,m,d⟩:=d
 subst j
 cases r
 obtain⟨q,R,w,B⟩:=I.tuple l
 refine assign_Tuple_tuple (I.ok.hd g) w (by simp [i,<- m,R.length]) c λy z=>?_
 have A:aq X p f H { s with heap:=y }:=I.kept (t':=s.toks) λb o e=>z b o (IY (IP e)) e
 exact h p _ f H x _ Q A (by simpa using R) d
def GY(T b:TE)(t:Bk):TG:=λv a H Q=>T a H λo h=>b a h λi c=>t o i v c λd=>Q a d
theorem Ya{o i:Expr}{T c:TE}{t:Bk}(d:PE X o T)(e:PE X i c)(f:Eg X t)
  (g:∀v,assign (.Subscript o i pos) X.env v=(do
   let O <- holding [v] (eval o X.env)
   let a <- holding [v,O] (eval i X.env)
   standAt pos
   holding [v,O,a] (setItem O a v)
   release [v,O,a] []):=by intro _;rfl):PG X (.Subscript o i pos) (GY T c t):=by
 intro p s b H v u Q I r h
 rw[g]
 refine IF (Lj (aU (d p s b H _ I h) λO S z=>?_))
 obtain⟨x,j,k,R,q⟩:=z
 refine IF (Lj (aU (e p S b j _ k q) λa l z=>?_))
 obtain⟨y,m,n,w,A⟩:=z
 refine IF (NC (IF (Lj (aU (f p l b m x y v O a u _ n R w r A) λ_ E z=>?_))))
 obtain⟨B,C,D⟩:=z
 exact wpAny_release #[b,B,C,D]
def fo(t:TE)(g:TG):TS:=λD a H=>t a H λx h=>g x a h D.nx
theorem Ke{t e:Expr}{T:TE}{g:TG}(b:PE X e T)(c:PG X t g)(d:swapsWithSole [t] e pos.line X.env=pure false:=by rfl)(f:swappedStores [t] e X.env=pure none:=by rfl)
  (i:(assignEach [t] X.env).map (·.2)=[assign t X.env]:=by rfl):PS X (.Assign [t] e pos) (fo T g):=by
 intro p s a H D I h
 refine wpAny_Assign_stores (aU (b p s a H _ I h) λv S z=>?_) d f
 obtain⟨x,j,k,r,Q⟩:=z
 rw[i]
 exact aU (c p S a j x v _ k r Q) λ_ l q=>q
theorem kO{i:Nat}{x:Str}{e:Expr}{t:TE}{p:Pos}(a:X.N.Nodup)(b:X.N[i]?=some x)(c:Ar X.env.scope x)(d:PE X e t)(f:swapsWith e (some (.Name x p)) pos.line X.env=pure false:=by rfl)(g:X.fn x=true∨X.env.scope.names.lookup x=some .local:=by first |exact .inl Z |exact .inr Z |assumption):
  PS X (.Assign [.Name x p] e pos) (fo t (bG i)):=by
 intro P s j H D I h
 refine wpAny_Assign_Name (aU (d P s j H _ I h) λv S z=>?_) f
 obtain⟨y,k,l,r,q⟩:=z
 exact qW l a b c r (λn m=>#[_,k,m,q]) g
inductive FG(i:Nat)(a:TE)(b:Gx)(D:bp)(c:St)(H:Hp):Prop
 |mk(x:_)(_:c[i]?=some (some x))(_:a c H λy H1=>b x y H1 λz H2=>D.nx (c.set i (some z)) H2)
theorem Db{i:Nat}(q:X.N.Nodup)(g:X.N[i]?=some x)(f:Ar X.env.scope x)(t:PE X e T)(B:Ia X o C)(E:X.fn x=true∨X.env.scope.names.lookup x=some .local:=by first |exact .inl Z |exact .inr Z |assumption):
  PS X (.AugAssign (.Name x j) o e pos) (FG i T C):=by
 intro p s n H D I h
 obtain⟨v,F,h⟩:=h
 obtain⟨m,J,K⟩:=I.loc
 have V:Gf X.env.scope x:=by rcases f with k |k;exact .inl k;exact .inr (.inl k)
 obtain⟨u,r,l⟩:=K i x v g F V
 refine wpAny_AugAssign_Name ?_
 have G:wpAny (model X.prog X.w) X.A (eval e X.env) (λw S=>wpAny (model X.prog X.w) X.A (inplaceOp o u w) (λr d=>wpAny (model X.prog X.w) X.A (storeName X.env x r) (λ_=>SP X p D .next) X.xe d) X.xe S) X.xe s:=by
  refine aU (t p s n H _ I h) λw L a=>?_
  obtain⟨y,M,O,R,Q⟩:=a
  refine aU (B p L n M v y u w _ O r R Q) λz s2 a=>?_
  obtain⟨zv,P,U,W,Y⟩:=a
  exact qW U q g f W (λs3 I3=>#[_,P,I3,Y]) E
 rcases l with ⟨hk,hm⟩ | ⟨hk,c,hc,b⟩
 ·exact wpAny_loadName_local I.ok.kind hk J hm G
 ·rcases hk with hk |hk
  ·exact wpAny_loadName_cell I.ok.kind hk hc b G
  ·rcases f with k |k
   ·have:X.env.scope.names.lookup x=some .free:=hk
    rw[k]at this;cases this
   ·have:X.env.scope.names.lookup x=some .free:=hk
    rw[k]at this;cases this
inductive Ih(f:Int->Int->Int)(x y:V)(H:Hp)(Q:VK):Prop
 |mk(i j:_)(_:x= .int i)(_:y= .int j)(_:Q (.int (f i j)) H)
theorem BN:Ia X .Add (Ih λi j=>i+j):=by
 intro p s a H x y v u Q I r R h
 obtain⟨i,j,e,E,q⟩:=h
 subst e;subst E
 obtain⟨t,rfl⟩:=r
 obtain⟨T,rfl⟩:=R
 exact iadd_int #[.int _,H,I.tok _,#[_,Z],q]
end
section
variable {X:Cx}{pos:Pos}
def vU(c:TT)(t:TS):TS:=λD a H=>∃W:Nat->St->Hp->Prop,(∃m,W m a H)/\∀m a H,W m a H->
 c a H λb h=>if b=true then ∃N:St->Hp->Prop,(∀d e,N d e->∃M,M < m/\W M d e)/\t { D with nx:=N,ct:=N,bk:=D.nx } a h else D.nx a h
theorem Xg(o:PassesOwn (model X.prog X.w) X.A X.env X.xe)(E:PT X c T)(F:mh X B G):PS X (.While c B [] pos) (vU T G):=by
 intro p s J H D I h
 obtain⟨W,⟨M,K⟩,t⟩:=h
 refine wpAny_While (codeAny_whileLoop (λn S=>∃e r,aq X p e r S/\W n e r) ?_ M #[J,H,I,K])
 rintro n L ⟨d,u,O,P⟩
 refine MY o (aU (E p L d u _ O (t n d u P)) λb R z=>?_)
 obtain⟨x,y,q⟩:=z
 cases b with
 |true=>
  obtain⟨N,C,q⟩:=q
  rw[IU Z]
  refine MY o (aU (F p R d x _ y q) λf U Q=>?_)
  cases f with
  |next=>
   obtain⟨a,g,i,j⟩:=Q
   obtain⟨m,k,l⟩:=C a g j
   exact#[m,k,a,g,i,l]
  |cont=>
   obtain⟨a,g,i,j⟩:=Q
   obtain⟨m,k,l⟩:=C a g j
   exact#[m,k,a,g,i,l]
  |brk=>exact Q
  |ret v=>exact Q
 |false=>
  rw[IX IW]
  exact Nn #[d,x,y,q]
end
structure It where
 go:Nat->Hp->Prop
 yld:Nat->Hp->V->Hp->Prop
 stop:Nat->Hp->Prop
def fQ(X:Cx)(P:List (Addr×Obj))(H:Hp)(b:Addr):Prop:=
 H b=none/\b≠X.env.locals/\b∉X.fs/\(b∈X.ex∨X.s₀.heap.objs.size<=b)/\(∀x c,X.env.cells.lookup x=some c->c≠b)/\∀p∈X.pn++P,p.1≠b
theorem aq.fpOk{X:Cx}{d:Hp}(I:aq X a i H s)(h:s.heap.objs.size<=b)(f:d b=none):fQ X a d b:=by
 refine#[f,LN (I0 I.lt h),I.nofs h,.inr (IZ I.sz h),λx c e z=>?_,λp g z=>?_]
 ·obtain⟨v,q⟩:=I.cell x c e
  exact absurd (I0 q.lt (by rw[z];exact h)) (LO _)
 ·exact absurd (I0 (IP (I.pin p g).1) (by rw[z];exact h)) (LO _)
structure nC(P:Program)(w:World)(K:Frag)(tg:Expr)(J:It)(fp:List Addr)(it:Addr)(tn:Nat->Heap->Prop):Prop where
 mem:it∈fp
 obj:∀i h,tn i h->∀b∈fp,∃o,h.get? b=some o/\∀v,o.data≠ .cell v
 keep:∀i h h',tn i h->(∀b∈fp,∀o,h.get? b=some o->h'.get? b=some o)->tn i h'
 item:∀(X:Cx),X.prog=P->X.w=w->X.K=K->X.calm=true->∀(i:Nat) (pins:List (Addr×Obj)) (s:Shared) (σ:St) (H:Hp) (E:Value->Shared->Prop),aq X pins σ H s->(∀b∈fp,fQ X pins H b)->tn i s.heap->J.go i H->
  wpAny (model P w) X.A (pyNext (.ref it)) (λr s1=>∃u,r=some u/\
   wpAny (model P w) X.A (letOwnedTupleGo tg (.ref it) u) (λ_ s2=>∃x H',aq X pins σ H' s2/\aD x u/\J.yld i H x H'/\tn (i+1) s2.heap/\∀b∈fp,H' b=none) E s1) E s
 done:∀(X:Cx),X.prog=P->X.w=w->X.K=K->X.calm=true->∀(i:Nat) (pins:List (Addr×Obj)) (s:Shared) (σ:St) (H:Hp) (E:Value->Shared->Prop),aq X pins σ H s->(∀b∈fp,fQ X pins H b)->tn i s.heap->J.stop i H->
  wpAny (model P w) X.A (pyNext (.ref it)) (λr s1=>r=none/\aq X pins σ H s1) E s
 self:∀(A:Around) (i:Nat) (s:Shared) (Q:Value->Shared->Prop) (E:Value->Shared->Prop),tn i s.heap->Q (.ref it) s->wpAny (model P w) A (pyIter (.ref it)) Q E s
abbrev TI:=St->Hp->(It->Hp->Prop)->Prop
def HZ(X:Cx)(p:List (Addr×Obj))(a:St)(T:Expr)(R:It->Hp->Prop)(i:Value)(s:Shared):Prop:=
 ∃(I:Addr) (f:List Addr) (t:Nat->Heap->Prop) (J:It) (H:Hp),i= .ref I/\aq X p a H s/\nC X.prog X.w X.K T J f I t/\t 0 s.heap/\(∀b∈f,fQ X p H b)/\R J H
def PI(X:Cx)(t iter:Expr)(W:TI):Prop:=
 ∀(p:List (Addr×Obj)) (s:Shared) (a:St) (H:Hp) (R:It->Hp->Prop),aq X p a H s->W a H R->
  wpAny (model X.prog X.w) X.A (eval iter X.env) (λv S=>wpAny (model X.prog X.w) X.A (pyIter v) (HZ X p a t R) X.xe S) X.xe s
theorem YY{s : Shared}{n : String}{Q : Unit -> Shared -> Prop}(a : s.heap.get? i = some o)(b : o.cls = .type n)(c : o.data = .fields v)
    (d : ["enumerate", "zip", "dict_itemiterator", "dict_reverseitemiterator", "odict_iterator", "itertools.zip_longest", "itertools.pairwise"].contains n = false) (H : Q () s) : wpAny M A (letOwnedTupleGo t (.ref i) u) Q E s := by
  unfold letOwnedTupleGo
  cases t <;> first
    | exact II H
    | (cases u <;> first
        | exact II H
        | (refine IF (wpAny_load a ?_)
           rw [b, c]
           show wpAny M A (if (["enumerate", "zip", "dict_itemiterator", "dict_reverseitemiterator", "odict_iterator", "itertools.zip_longest", "itertools.pairwise"].contains n && v[0]? == some (rawInt _)) = true then _ else _) Q E s
           rw [IX (by intro h; rw [d, Bool.false_and] at h; cases h)]
           exact II H))
noncomputable def wz(K:Frag)(a:Addr):It:=
 #[λi H=>∃X x,aJ K H a X/\X[i]?=some x,λi H x h=>h=H/\∀X,aJ K H a X->X[i]?=some x,λi H=>∃X,aJ K H a X/\X.length<=i]
noncomputable def Ap(K:Frag)(a:Addr):It:=
 #[λi H=>∃X x,aA K H a X/\X[i]?=some x,λi H x h=>h=H/\∀X,aA K H a X->X[i]?=some x,λi H=>∃X,aA K H a X/\X.length<=i]
noncomputable def pZ(lo:Int)(n:Nat):It:=#[λi _=>i < n,λi H x h=>h=H/\x= .int (lo+i),λi _=>n<=i]
theorem ZJ{P:Program}{K:Frag}(a g:Addr):nC P w K tg (wz K a) [g] g (λi h=>h.IsListIter g a i) where
 mem:=by simp
 obj:=λi h st b j=>by
  have e:b=g:=by simpa using j
  subst e
  obtain⟨o,e,c,d⟩:=st
  exact#[o,e,λv z=>by rw[d]at z;cases z]
 keep:=λi h l st k=>st.at λo e=>k g Po o e
 item:=by
  intro X q r t L i f s M H E I m st y
  subst q r t
  obtain⟨N,x,n,A⟩:=y
  obtain⟨B,R,p,O⟩:=I.list n
  obtain⟨u,Q,T⟩:=R.get A
  obtain⟨F,C,U,D,G,J⟩:=m g Po
  refine wpAny_pyNext_list_item st p.isList (x:=u) (by simpa using Q) λl S V=>?_
  have W:aq X f M H { s with heap:=l }:=I.turned (t':=s.toks) (λb o j e=>(V.2 b j).trans e) F C D G J
  obtain⟨o,e,c,d⟩:=id S
  exact#[u,Z,YY (s:={ s with heap:=l }) e c d Pm #[x,H,W,T,#[Z,λys Y=>by rw[I.list_inj Y n];exact A],S,λb j=>(m b j).1]]
 done:=by
  intro X q r t L i f s M H E I m st y
  subst q r t
  obtain⟨N,n,A⟩:=y
  obtain⟨B,R,p,O⟩:=I.list n
  obtain⟨F,C,U,D,G,J⟩:=m g Po
  have hl:=R.length
  exact wpAny_pyNext_list_end (I.ok.hd L) st p.isList (by simp;omega) λl eb=>#[Z,I.turned (t':=s.toks) (λb o j e=>eb b o j e) F C D G J]
 self:=λ_ _ _ _ _ st h=>wpAny_pyIter_listiter st h
theorem Yo{P:Program}{K:Frag}(a g:Addr):nC P w K tg (Ap K a) [g] g (λi h=>h.IsTupleIter g a i) where
 mem:=by simp
 obj:=λi h st b j=>by
  have e:b=g:=by simpa using j
  subst e
  obtain⟨o,e,c,d⟩:=st
  exact#[o,e,λv z=>by rw[d]at z;cases z]
 keep:=λi h m st k=>st.at λo e=>k g Po o e
 item:=by
  intro X r t y L i f s M H E I n st A
  subst r t y
  obtain⟨N,x,q,B⟩:=A
  obtain⟨l,R,p,O⟩:=I.tuple q
  obtain⟨u,Q,T⟩:=R.get B
  obtain⟨F,C,U,D,G,J⟩:=n g Po
  refine wpAny_pyNext_tuple_item st (show s.heap.IsTuple a l.toArray from p) (x:=u) (by simpa using Q) λm S V=>?_
  have W:aq X f M H { s with heap:=m }:=I.turned (t':=s.toks) (λb o j e=>(V.2 b j).trans e) F C D G J
  obtain⟨o,e,c,d⟩:=id S
  exact#[u,Z,YY (s:={ s with heap:=m }) e c d Pm #[x,H,W,T,#[Z,λys Y=>by rw[I.tuple_inj Y q];exact B],S,λb j=>(n b j).1]]
 done:=by
  intro X r t y L i f s M H E I n st A
  subst r t y
  obtain⟨N,q,B⟩:=A
  obtain⟨l,R,p,O⟩:=I.tuple q
  obtain⟨F,C,U,D,G,J⟩:=n g Po
  have hl:=R.length
  exact wpAny_pyNext_tuple_end (I.ok.hd L) st (show s.heap.IsTuple a l.toArray from p) (by simp;omega) λm eb=>#[Z,I.turned (t':=s.toks) (λb o j e=>eb b o j e) F C D G J]
 self:=λ_ _ _ _ _ st h=>wpAny_pyIter_tupleiter st h
theorem Yp{P:Program}{K:Frag}(a:Addr)(lo:Int)(n:Nat):nC P w K M (pZ lo n) [a] a (λi h=>IsRangeIter h a (lo+(i:Nat)*1) ((n:Int) - (i:Nat)) 1) where
 mem:=by simp
 obj:=λi h st b c=>by
  have e:b=a:=by simpa using c
  subst e
  exact#[_,st,λv z=>by
   have B:Data.fields _=Data.cell v:=z
   cases B]
 keep:=λi h d st k=>k a Po _ st
 item:=by
  intro X g j l m i p s A H E I f st q
  subst g j l
  obtain⟨F,r,C,u,x,y⟩:=f a Po
  have W:=Walks.range (prog:=X.prog) (w:=X.w) (I.ok.hd m) a lo 1 n
  refine W.item i s _ _ q st λv d T D S G=>?_
  obtain⟨t,rfl⟩:=D
  have J:aq X p A H { s with heap:=d,toks:=T }:=I.turned (λb o c e=>G b o (by simpa using c) e) F r u x y
  refine#[_,Z,YY (s:={ s with heap:=d,toks:=T }) (n:="range_iterator") S Z Z Pm #[.int (lo+i),H,J,#[t,?_],#[Z,Z],S,λb c=>(f b c).1]]
  rw[Int.mul_one]
 done:=by
  intro X g j l m i p s A H E I f st q
  subst g j l
  obtain⟨F,r,C,u,x,y⟩:=f a Po
  exact wpAny_pyNext_range_end (I.ok.hd m) st (by have:n<=i:=q;omega) λd L=>#[Z,I.turned (t':=s.toks) (λb o c e=>L b o c e) F r u x y]
 self:=λ_ _ _ _ _ st h=>wpAny_pyIter_rangeiter st h
section
variable {X:Cx}{tg:Expr}
inductive sJ(K:Frag)(R:It->Hp->Prop)(x:V)(b:Hp):Prop
 |mk(a:_)(_:x= .ref a)(_:∃xs,aJ K b a xs)(_:R (wz K a) b)
def AM(K:Frag)(t:TE):TI:=λa H R=>t a H (sJ K R)
inductive AO(K:Frag)(R:It->Hp->Prop)(x:V)(b:Hp):Prop
 |mk(a:_)(_:x= .ref a)(_:∃xs,aA K b a xs)(_:R (Ap K a) b)
def G2(K:Frag)(t:TE):TI:=λa H R=>t a H (AO K R)
theorem zh(c:PE X l t):PI X tg l (AM X.K t):=by
 intro P s d H R I h
 refine aU (c P s d H _ I h) λv S z=>?_
 obtain⟨x,f,i,r,Q⟩:=z
 obtain⟨a,e,⟨m,g⟩,q⟩:=Q
 subst e
 cases r
 obtain⟨j,n,p,u⟩:=i.list g
 refine Of p.isList ?_
 refine#[S.heap.objs.size,[S.heap.objs.size],_,_,f,Z,i.kept (t':=S.toks) λb o e=>IH _ e,ZJ a _,#[_,IM _ Z,Z,Z],λb k=>?_,q]
 have e:b=S.heap.objs.size:=by simpa using k
 subst e
 exact i.fpOk (IK _) (i.hok.fresh (IK _))
theorem qF(d:PE X l t):PI X tg l (G2 X.K t):=by
 intro P s f H R I h
 refine aU (d P s f H _ I h) λv S z=>?_
 obtain⟨x,g,i,r,Q⟩:=z
 obtain⟨a,e,⟨m,j⟩,q⟩:=Q
 subst e
 cases r
 obtain⟨c,n,p,u⟩:=i.tuple j
 refine No (show S.heap.IsTuple a c.toArray from p) ?_
 refine#[S.heap.objs.size,[S.heap.objs.size],_,_,g,Z,i.kept (t':=S.toks) λb o e=>IH _ e,Yo a _,#[_,IM _ Z,Z,Z],λb k=>?_,q]
 have e:b=S.heap.objs.size:=by simpa using k
 subst e
 exact i.fpOk (IK _) (i.hok.fresh (IK _))
theorem Xh{R:It->Hp->Prop}{lo:Int}(I:aq X p a H s)(c: -(2 ^ 62)<=lo)(d:lo < 2 ^ 62)(f: -(2 ^ 62)<=h)(g:h < 2 ^ 62)
  (q:R (pZ lo (h - lo).toNat) H):wpAny (model X.prog X.w) X.A (pyIter (.ref s.heap.objs.size)) (HZ X p a tg R) E { s with heap:=s.heap.push { cls:=.type "range",data:=.fields (List.toArray [.int lo t,.int h u,.int 1 v]) },toks:=T }:=by
 refine wpAny_pyIter_range (IsRange.new ..) (small_one c d f g) ?_
 have i:aq X p a H { s with heap:=s.heap.push { cls:=.type "range",data:=.fields (List.toArray [.int lo t,.int h u,.int 1 v]) },toks:=T }:=I.kept λb o e=>IH _ e
 refine#[(s.heap.push { cls:=.type "range",data:=.fields (List.toArray [.int lo t,.int h u,.int 1 v]) }).objs.size,[(s.heap.push { cls:=.type "range",data:=.fields (List.toArray [.int lo t,.int h u,.int 1 v]) }).objs.size],_,_,H,Z,
  i.kept (t':=T) λb o e=>IH _ e,Yp _ lo (h - lo).toNat,?_,λb j=>?_,q]
 ·have k:lo+((0:Nat):Int)*1=lo:=by simp
  have l:(((h - lo).toNat:Nat):Int) - ((0:Nat):Int)=Builtin.Range.rangeSize lo h 1:=by rw[rangeSize_one];split<;>omega
  show IsRangeIter _ _ (lo+((0:Nat):Int)*1) ((((h - lo).toNat:Nat):Int) - ((0:Nat):Int)) 1
  rw[k,l]
  exact IM _ Z
 ·have e:b=(s.heap.push { cls:=.type "range",data:=.fields (List.toArray [.int lo t,.int h u,.int 1 v]) }).objs.size:=by simpa using j
  subst e
  exact i.fpOk (IK _) (i.hok.fresh (IK _))
inductive sK(R:It->Hp->Prop)(b:List V)(a:Hp):Prop
 |mk(j:Int)(_:b=[.int j])(_:-(2 ^ 62)<=j)(_:j < 2 ^ 62)(_:R (pZ 0 j.toNat) a)
def EG(t:TA):TI:=λa H R=>t a H (sK R)
inductive sL(R:It->Hp->Prop)(b:List V)(a:Hp):Prop
 |mk(i j:Int)(_:b=[.int i,.int j])(_:-(2 ^ 62)<=i/\i < 2 ^ 62/\ -(2 ^ 62)<=j/\j < 2 ^ 62)(_:R (pZ i (j - i).toNat) a)
def EH(t:TA):TI:=λa H R=>t a H (sL R)
theorem zk{a:Expr}{T:TA}{p P:Pos}(c:Gl X "range")(d:X.mg "range"=none)(f:PA X [a] T)(g:starEach [a] X.env=[(false,eval a X.env)]:=by rfl):PI X tg (.Call (.Name "range" p) [a] [] P) (EG T):=by
 intro b s i H R I h
 refine Call_ (zp I c d boot_range (Lx (aU (f P b s i H _ I h) λu S z=>?_) g Z))
 obtain⟨v,o,k,l,Q⟩:=z
 obtain⟨j,e,Q,m,q⟩:=Q
 subst e
 cases l with
 |cons r n=>
  cases n
  obtain⟨t,rfl⟩:=r
  exact call_range_1 (Xh k Pn Pn Q m (by simpa using q))
theorem zQ(g:Gl X "range")(k:X.mg "range"=none)(l:PA X [a,b] T)(m:starEach [a,b] X.env=[(false,eval a X.env),(false,eval b X.env)]:=by rfl)(c:starEach [b] X.env=[(false,eval b X.env)]:=by rfl):
  PI X tg (.Call (.Name "range" p) [a,b] [] d) (EH T):=by
 intro P s n H R I h
 refine Call_ (zp I g k boot_range (Lx (aU (l d P s n H _ I h) λU S #[V,z,o,u,Q]=>?_) (by rw[m,c]) (by rw[c];rfl)))
 obtain⟨i,j,e,⟨Q,v,w,x⟩,q⟩:=Q
 subst e
 cases u with
 |cons r f=>
  cases f with
  |cons y f=>
   cases f
   obtain⟨t,rfl⟩:=r
   obtain⟨A,rfl⟩:=y
   exact call_range_2 (Xh o Q v w x q)
def FK(w:TI)(g:TG)(t:TS):TS:=λD a H=>w a H λJ d=>∃W:Nat->Nat->St->Hp->Prop,(∃m,W 0 m a d)/\∀i m a H,W i m a H->
 (J.stop i H/\D.nx a H)∨(J.go i H/\∃N:St->Hp->Prop,(∀b h,N b h->∃M,M < m/\W (i+1) M b h)/\∀x h,J.yld i H x h->g x a h λc e=>t { D with nx:=N,ct:=N,bk:=D.nx } c e)
noncomputable def lh(f:List Addr)(h:Heap):List (Addr×Obj):=f.filterMap λb=>(h.get? b).map λo=>(b,o)
theorem zc{h:Heap}(H:b∈f)(e:h.get? b=some o):(b,o)∈lh f h:=List.mem_filterMap.mpr #[b,H,by rw[e];rfl]
theorem ZK(H:p∈lh f h):p.1∈f/\h.get? p.1=some p.2:=by
 obtain⟨b,a,e⟩:=List.mem_filterMap.mp H
 cases q:h.get? b with
 |none=>rw[q]at e;cases e
 |some o=>
  rw[q]at e
  have E:(b,o)=p:=LB e
  subst E
  exact#[a,q]
theorem aq.pinned(I:aq X a c H s)(g:∀b∈f,fQ X a H b)(i:∀b∈f,∃o,s.heap.get? b=some o/\∀v,o.data≠ .cell v):aq X (a++lh f s.heap) c H s:=
 I.pins_of λp j=>(List.mem_append.mp j).elim (λz=>I.pin p (La _ z)) λz=>by
  obtain⟨h,e⟩:=ZK z
  obtain⟨F,k,l,_⟩:=g p.1 h
  obtain⟨o,E,d⟩:=i p.1 h
  rw[e]at E;cases E
  exact#[e,F,k,l,d]
theorem aq.unpinned(I:aq X (a++c) b H s):aq X a b H s:=I.pins_of λp h=>I.pin p (La _ (Ml _ h))
theorem j7{iter:Expr}{B:List Stmt}{wi:TI}{g:TG}{tb:TS}{P:Pos}(C:PassesOwn (model X.prog X.w) X.A X.env X.xe)(hc:X.calm=true)(hi:PI X tg iter wi)(hg:PG X tg g)(c:mh X B tb)
  (hs:∀x,foldedSetIterable iter X.env x=pure x:=by intro _;rfl):PS X (.For tg iter B [] P) (FK wi g tb):=by
 intro p s σ H D I h
 refine wpAny_For (aU (hi p s σ H _ I h) λv s1 h1=>aU h1 λi0 s2 h2=>?_) hs
 obtain⟨it,F,tn,J,H2,e,I2,T,O,f2,W,⟨m0,w0⟩,E⟩:=h2
 subst e
 have S:∀{t:Hp},(∀b∈F,t b=none)->∀b∈F,fQ X p t b:=λhn b c=>#[hn b c,(f2 b c).2]
 refine codeAny_forLoop_any (λn s'=>∃i j t,aq X p j t s'/\tn i s'.heap/\(∀b∈F,t b=none)/\W i n j t) ?_ m0 #[0,σ,H2,I2,O,λb c=>(f2 b c).1,w0]
 rintro n s3 ⟨i,k,M,I3,G,K,w3⟩
 rcases E i n k M w3 with ⟨stop,qn⟩ | ⟨go,N,hN,step⟩
 ·refine MY C (aU (T.done X Z Z Z hc i p s3 k M X.xe I3 (S K) G stop) λr s4 z=>?_)
  obtain⟨R,I4⟩:=z
  subst R
  exact Nn #[k,M,I4,qn]
 ·refine MY C (aU (T.item X Z Z Z hc i p s3 k M X.xe I3 (S K) G go) λr s4 z=>?_)
  obtain⟨u,R,h4⟩:=z
  subst R
  refine MY C (aU h4 λ_ s5 z=>?_)
  obtain⟨x,H5,I5,r5,y5,y,U⟩:=z
  have V:=I5.pinned (S U) (T.obj _ _ y)
  refine MY C (aU (hg _ s5 k H5 x u _ V r5 (step x H5 y5)) λ_ s6 z=>?_)
  obtain⟨Y,H6,I6,q6⟩:=z
  refine MY C (aU (c _ s6 Y H6 _ I6 q6) λf s7 Q=>?_)
  have again:∀{a:St} {l:Hp},aq X (p++lh F s5.heap) a l s7->N a l->∃m,m < n/\∃i j t,aq X p j t s7/\tn i s7.heap/\(∀b∈F,t b=none)/\W i m j t:=λ{a l} q L=>by
   obtain⟨m',hm,w7⟩:=hN a l L
   refine#[m',hm,i+1,a,l,q.unpinned,T.keep _ _ _ y λb c o e=>(q.pin (b,o) (La _ (La _ (zc c e)))).1,λb c=>?_,w7]
   obtain⟨o,e,d⟩:=T.obj _ _ y b c
   exact(q.pin (b,o) (La _ (La _ (zc c e)))).2.1
  cases f with
  |next=>obtain⟨a,l,q,L⟩:=Q;exact again q L
  |cont=>obtain⟨a,l,q,L⟩:=Q;exact again q L
  |brk=>obtain⟨a,l,q,Q⟩:=Q;exact#[a,l,q.unpinned,Q]
  |ret v=>obtain⟨x7,a,l,q,r7,Q⟩:=Q;exact#[x7,a,l,q.unpinned,r7,Q]
end
theorem sd{K:Frag}{a:Addr}{X:List V}{g:TG}{t:TS}{D:bp}{b:St}{H:Hp}(Pv:Nat->St->Hp->Prop)(k:Pv 0 b H)(l:∀i b H,i<=X.length->Pv i b H->aJ K H a X)
  (n:∀i x b H,X[i]?=some x->Pv i b H->g x b H λc j=>t { D with nx:=Pv (i+1),ct:=Pv (i+1),bk:=D.nx } c j) (o:∀b H,Pv X.length b H->D.nx b H):
  ∃W:Nat->Nat->St->Hp->Prop,(∃m,W 0 m b H)/\∀i m b H,W i m b H->
   ((wz K a).stop i H/\D.nx b H)∨((wz K a).go i H/\∃N:St->Hp->Prop,(∀d h,N d h->∃M,M < m/\W (i+1) M d h)/\∀x h,(wz K a).yld i H x h->g x b h λc j=>t { D with nx:=N,ct:=N,bk:=D.nx } c j):=by
 refine#[λi m b H=>m=X.length - i/\i<=X.length/\Pv i b H,#[X.length,Po,IS _,k],?_]
 rintro i m b H ⟨rfl,r,p⟩
 have q:=l i b H r p
 by_cases f:i < X.length
 ·refine .inr #[#[X,X[i],q,by simp [f]],Pv (i+1),λd h P=>#[X.length - (i+1),Pn,Z,f,P],λx h y=>?_]
  obtain⟨e,y⟩:=y
  subst e
  exact n i x b _ (y X q) p
 ·have e:i=X.length:=by omega
  subst e
  exact .inl #[#[X,q,IK _],o b H p]
theorem xj{K:Frag}{a:Addr}{X:List V}{g:TG}{t:TS}{D:bp}{b:St}{H:Hp}(Pv:Nat->St->Hp->Prop)(k:Pv 0 b H)(l:∀i b H,i<=X.length->Pv i b H->aA K H a X)
  (n:∀i x b H,X[i]?=some x->Pv i b H->g x b H λc j=>t { D with nx:=Pv (i+1),ct:=Pv (i+1),bk:=D.nx } c j) (o:∀b H,Pv X.length b H->D.nx b H):
  ∃W:Nat->Nat->St->Hp->Prop,(∃m,W 0 m b H)/\∀i m b H,W i m b H->
   ((Ap K a).stop i H/\D.nx b H)∨((Ap K a).go i H/\∃N:St->Hp->Prop,(∀d h,N d h->∃M,M < m/\W (i+1) M d h)/\∀x h,(Ap K a).yld i H x h->g x b h λc j=>t { D with nx:=N,ct:=N,bk:=D.nx } c j):=by
 refine#[λi m b H=>m=X.length - i/\i<=X.length/\Pv i b H,#[X.length,Po,IS _,k],?_]
 rintro i m b H ⟨rfl,r,p⟩
 have q:=l i b H r p
 by_cases f:i < X.length
 ·refine .inr #[#[X,X[i],q,by simp [f]],Pv (i+1),λd h P=>#[X.length - (i+1),Pn,Z,f,P],λx h y=>?_]
  obtain⟨e,y⟩:=y
  subst e
  exact n i x b _ (y X q) p
 ·have e:i=X.length:=by omega
  subst e
  exact .inl #[#[X,q,IK _],o b H p]
theorem ZL{lo:Int}{n:Nat}{g:TG}{t:TS}{D:bp}{a:St}{H:Hp}(Pv:Nat->St->Hp->Prop)(j:Pv 0 a H)
  (k:∀i a H,i < n->Pv i a H->g (.int (lo+i)) a H λb f=>t { D with nx:=Pv (i+1),ct:=Pv (i+1),bk:=D.nx } b f) (l:∀a H,Pv n a H->D.nx a H):
  ∃W:Nat->Nat->St->Hp->Prop,(∃m,W 0 m a H)/\∀i m a H,W i m a H->
   ((pZ lo n).stop i H/\D.nx a H)∨((pZ lo n).go i H/\∃N:St->Hp->Prop,(∀c h,N c h->∃M,M < m/\W (i+1) M c h)/\∀x h,(pZ lo n).yld i H x h->g x a h λb f=>t { D with nx:=N,ct:=N,bk:=D.nx } b f):=by
 refine#[λi m a H=>m=n - i/\i<=n/\Pv i a H,#[n,Po,IS _,j],?_]
 rintro i m a H ⟨rfl,o,p⟩
 by_cases d:i < n
 ·refine .inr #[d,Pv (i+1),λc h P=>#[n - (i+1),Pn,Z,d,P],λx h y=>?_]
  obtain⟨e,y⟩:=y
  subst e y
  exact k i a _ d p
 ·have e:i=n:=by omega
  subst e
  exact .inl #[IK _,l a H p]
abbrev R2:=V->V->Hp->VK->Prop
def eU(X:Cx)(f:Value->Value->Sem Value)(r:R2):Prop:=
 ∀(p:List (Addr×Obj)) (s:Shared) (a:St) (H:Hp) (x y:V) (v u:Value) (Q:VK),aq X p a H s->aD x v->aD y u->r x y H Q->
  wpAny (model X.prog X.w) X.A (f v u) (EP X p a Q) X.xe s
def GF(X:Cx)(f:Value->Sem Value)(r:V->Hp->VK->Prop):Prop:=
 ∀(p:List (Addr×Obj)) (s:Shared) (a:St) (H:Hp) (x:V) (v:Value) (Q:VK),aq X p a H s->aD x v->r x H Q->
  wpAny (model X.prog X.w) X.A (f v) (EP X p a Q) X.xe s
def dR(X:Cx)(f:Value)(r:List V->Hp->VK->Prop):Prop:=
 ∀(p:List (Addr×Obj)) (s:Shared) (a:St) (H:Hp) (x:List V) (u:List Value) (Q:VK),aq X p a H s->aB x u->r x H Q->
  wpAny (model X.prog X.w) X.A (call f u) (EP X p a Q) X.xe s
def Gz(X:Cx)(r:V->Hp->(Bool->Hp->Prop)->Prop):Prop:=
 ∀(p:List (Addr×Obj)) (s:Shared) (a:St) (H:Hp) (x:V) (v:Value) (Q:Bool->Hp->Prop),aq X p a H s->aD x v->r x H Q->
  wpAny (model X.prog X.w) X.A (truthy v) (TP X p a Q) X.xe s
def gE(r:R2)(t T:TE):TE:=λa H Q=>t a H λx h=>T a h λy b=>r x y b Q
def Iy(r:V->Hp->VK->Prop)(t:TE):TE:=λa H Q=>t a H λx h=>r x h Q
inductive rI(C:Int->Int->Prop)(g:Int->Int->V)(x y:V)(H:Hp)(Q:VK):Prop
 |mk(i j:_)(_:x= .int i)(_:y= .int j)(_:C i j)(_:Q (g i j) H)
inductive wE(g:Int->Int->V)(x y:V)(H:Hp)(Q:VK):Prop
 |mk(i j:_)(_:x= .int i)(_:y= .int j)(_:Q (g i j) H)
inductive rU(g:Int->V)(x:V)(H:Hp)(Q:VK):Prop
 |mk(i:_)(_:x= .int i)(_:Q (g i) H)
section
variable {X:Cx}{a b c:Expr}{ta tb tc:TE}{pos:Pos}
theorem Bq(k:PE X a ta)(l:PE X b tb){R:V->V->Hp->Prop}(I:aq X p e H s)
  (h:ta e H λx j=>tb e j λy d=>R x y d)  {f:Value->Value->Sem Value}
  (m:∀v u i x y d,aq X p e d i->aD x v->aD y u->R x y d->wpAny (model X.prog X.w) X.A (f v u) Q X.xe i):
  wpAny (model X.prog X.w) X.A (eval a X.env) (λv S=>wpAny (model X.prog X.w) X.A (eval b X.env) (λu g=>wpAny (model X.prog X.w) X.A (f v u) Q X.xe g) X.xe S) X.xe s:=by
 refine aU (k p s e H _ I h) λv n z=>?_
 obtain⟨x,j,o,r,q⟩:=z
 refine aU (l p n e j _ o q) λu i z=>?_
 obtain⟨y,d,t,B,C⟩:=z
 exact m v u i x y d t r B C
theorem jx{o:Operator}{r:R2}(d:eU X (binaryOp o) r)(e:PE X a ta)(f:PE X b tb):PE X (.BinOp a o b pos) (gE r ta tb):=by
 intro p s g H Q I h
 exact wpAny_BinOp (Bq e f I h λv u S x y i j R k q=>d p S g i x y v u Q j R k q)
theorem ul(e:GF X (unaryOp o) r)(f:PE X a ta):PE X (.UnaryOp o a pos) (Iy r ta):=by
 intro p s d H Q I h
 exact UnaryOp_ (aU (f p s d H _ I h) λv S #[x,g,i,R,q]=>e p S d g x v Q i R q)
theorem Gj{f:Value->Value->Sem Value}{C:Int->Int->Prop}{g:Int->Int->Int}
  (rule:∀(i j:Int) (t u:Tok) (s:Shared) (Q:Value->Shared->Prop) (E:Value->Shared->Prop),C i j->Q (.int (g i j) s.toks) { s with toks:=s.toks+1 }->wpAny (model X.prog X.w) X.A (f (.int i t) (.int j u)) Q E s):
  eU X f (rI C λi j=>.int (g i j)):=by
 intro p s e H x y v u Q I r R h
 obtain⟨i,j,rfl,rfl,d,q⟩:=h
 obtain⟨t,rfl⟩:=r
 obtain⟨T,rfl⟩:=R
 exact rule i j t T s _ _ d #[.int (g i j),H,I.tok _,#[_,Z],q]
theorem E6{f:Value->Value->Sem Value}{g:Int->Int->Int}
  (rule:∀(i j:Int) (t u:Tok) (s:Shared) (Q:Value->Shared->Prop) (E:Value->Shared->Prop),Q (.int (g i j) s.toks) { s with toks:=s.toks+1 }->wpAny (model X.prog X.w) X.A (f (.int i t) (.int j u)) Q E s):
  eU X f (wE λi j=>.int (g i j)):=by
 intro p s d H x y v u Q I r R h
 obtain⟨i,j,rfl,rfl,q⟩:=h
 obtain⟨t,rfl⟩:=r
 obtain⟨T,rfl⟩:=R
 exact rule i j t T s _ _ #[.int (g i j),H,I.tok _,#[_,Z],q]
theorem CV{f:Value->Value->Sem Value}{g:Int->Int->Bool}
  (rule:∀(i j:Int) (t u:Tok) (s:Shared) (Q:Value->Shared->Prop) (E:Value->Shared->Prop),Q (.bool (g i j)) s->wpAny (model X.prog X.w) X.A (f (.int i t) (.int j u)) Q E s):
  eU X f (wE λi j=>.bl (g i j)):=by
 intro p s d H x y v u Q I r R h
 obtain⟨i,j,rfl,rfl,q⟩:=h
 obtain⟨t,rfl⟩:=r
 obtain⟨T,rfl⟩:=R
 exact rule i j t T s _ _ #[.bl (g i j),H,I,Z,q]
def Gn(i j:Int):Prop:=0<=j/\j<=1000000/\i.natAbs < 2 ^ 64
def wG(i j:Int):Prop:=(-(2 ^ 64) < i/\i < 2 ^ 64)∨(-(2 ^ 64) < j/\j < 2 ^ 64)
theorem wG.ok(h:wG i j):IntMulOk i j:=by
 rcases h with ⟨H,d⟩ | ⟨H,d⟩
 ·exact .of_left (intBits_le_64 H d)
 ·exact .of_right (intBits_le_64 H d)
theorem j8:eU X (binaryOp .Add) (wE λi j=>.int (i+j)):=E6 λ_ _ _ _ _ _ _ q=>add_int q
theorem qG:eU X (binaryOp .Sub) (wE λi j=>.int (i - j)):=E6 λ_ _ _ _ _ _ _ q=>sub_int q
theorem zq:eU X (binaryOp .Mult) (rI wG λi j=>.int (i*j)):=Gj λ_ _ _ _ _ _ _ h q=>mul_int q h.ok
theorem za:eU X (binaryOp .Mod) (rI (λ_ j=>0 < j) λi j=>.int (i % j)):=Gj λi j _ _ _ _ _ h q=>by
 have H:(0:Int) < j:=h
 exact mod_int' Pn (by rw[Int.fmod_eq_emod_of_nonneg i Pn];exact q)
theorem Kf:eU X (binaryOp .Pow) (rI Gn λi j=>.int (i ^ j.toNat)):=Gj λ_ _ _ _ _ _ _ h q=>pow_int_small h.1 h.2.1 h.2.2 q
theorem Iz{f:Value->Sem Value}{g:Int->Int}
  (rule:∀(i:Int) (t:Tok) (s:Shared) (Q:Value->Shared->Prop) (E:Value->Shared->Prop),Q (.int (g i) s.toks) { s with toks:=s.toks+1 }->wpAny (model X.prog X.w) X.A (f (.int i t)) Q E s):
  GF X f (rU λi=>.int (g i)):=by
 intro p s d H x v Q I r h
 obtain⟨i,rfl,q⟩:=h
 obtain⟨t,rfl⟩:=r
 exact rule i t s _ _ #[.int (g i),H,I.tok _,#[_,Z],q]
theorem Yb:GF X (unaryOp .USub) (rU λi=>.int (-i)):=Iz λ_ _ _ _ _ q=>neg_int q
end
noncomputable def Fs:V->V->Bool
 | .non,.non=>true | .non,.int _=>true | .int _,.non=>true | .non,.bl _=>true | .bl _,.non=>true | .non,.str _=>true | .str _,.non=>true
 | .int _,.int _=>true | .bl _,.bl _=>true | .str _,.str _=>true | .byt _,.byt _=>true
 | .int _,.str _=>true | .str _,.int _=>true | .bl _,.str _=>true | .str _,.bl _=>true
 |_,_=>false
def Gk:R2:=λx y H Q=>Fs x y=true/\Q (.bl (decide (x=y))) H
def Ij:R2:=λx y H Q=>Fs x y=true/\Q (.bl (!decide (x=y))) H
theorem Y4:decide (V.int i=V.int j)=(i==j):=by
 rw[Ol]
 simp
theorem rJ:decide (V.bl i=V.bl j)=(i==j):=by
 rw[Ol]
 simp
theorem Y5:decide (V.str i=V.str j)=(i==j):=by
 rw[Ol]
 simp
theorem Y6:decide (V.byt i=V.byt j)=(i.toList==j.toList):=by
 rw[Ol]
 cases i
 cases j
 simp
section
variable {X:Cx}{a b c:Expr}{ta tb tc:TE}{pos:Pos}
theorem jM{Q:VK}(I:aq X p d H s)(q:Q (.bl k) H)(e:k=f):EP X p d Q (.bool f) s:=by
 subst e
 exact#[.bl k,H,I,Z,q]
theorem Jw:eU X (compareOp .Eq) Gk:=by
 intro p s e H x y v u Q I R r h
 obtain⟨d,q⟩:=h
 cases x with
 |non=>
  cases R
  cases y with
  |non=>cases r;exact PySem.EqNone.eq_none_none (jM I q Po)
  |bl j=>cases r;exact PySem.EqNone.eq_none_bool (jM I q Po)
  |int j=>obtain⟨T,rfl⟩:=r;exact PySem.EqNone.eq_none_int (jM I q Po)
  |str j=>obtain⟨T,rfl⟩:=r;exact PySem.EqNone.eq_none_str (jM I q Po)
  |_=>exact absurd (show false=true from d) IW
 |bl i=>
  cases R
  cases y with
  |non=>cases r;exact PySem.EqNone.eq_bool_none (jM I q Po)
  |bl j=>cases r;exact eq_bool (jM I q rJ)
  |str j=>obtain⟨T,rfl⟩:=r;exact PySem.EqMixed.eq_bool_str (jM I q Po)
  |_=>exact absurd (show false=true from d) IW
 |int i=>
  obtain⟨t,rfl⟩:=R
  cases y with
  |non=>cases r;exact PySem.EqNone.eq_int_none (jM I q Po)
  |int j=>obtain⟨T,rfl⟩:=r;exact eq_int (jM I q Y4)
  |str j=>obtain⟨T,rfl⟩:=r;exact PySem.EqMixed.eq_int_str (jM I q Po)
  |_=>exact absurd (show false=true from d) IW
 |str i=>
  obtain⟨t,rfl⟩:=R
  cases y with
  |non=>cases r;exact PySem.EqNone.eq_str_none (jM I q Po)
  |bl j=>cases r;exact PySem.EqMixed.eq_str_bool (jM I q Po)
  |int j=>obtain⟨T,rfl⟩:=r;exact PySem.EqMixed.eq_str_int (jM I q Po)
  |str j=>obtain⟨T,rfl⟩:=r;exact eq_str (jM I q Y5)
  |_=>exact absurd (show false=true from d) IW
 |byt i=>
  obtain⟨t,rfl⟩:=R
  cases y with
  |byt j=>obtain⟨T,rfl⟩:=r;exact PySem.W.eq_bytes (jM I q Y6)
  |_=>exact absurd (show false=true from d) IW
 |_=>cases y<;>exact absurd (show false=true from d) IW
theorem Xa:eU X (compareOp .NotEq) Ij:=by
 intro p s e H x y v u Q I R r h
 obtain⟨d,q⟩:=h
 cases x with
 |non=>
  cases R
  cases y with
  |non=>cases r;exact PySem.EqNone.ne_none_none (jM I q Po)
  |bl j=>cases r;exact PySem.EqNone.ne_none_bool (jM I q Po)
  |int j=>obtain⟨T,rfl⟩:=r;exact PySem.EqNone.ne_none_int (jM I q Po)
  |str j=>obtain⟨T,rfl⟩:=r;exact PySem.EqNone.ne_none_str (jM I q Po)
  |_=>exact absurd (show false=true from d) IW
 |bl i=>
  cases R
  cases y with
  |non=>cases r;exact PySem.EqNone.ne_bool_none (jM I q Po)
  |bl j=>cases r;exact ne_bool (jM I q (LY not rJ))
  |str j=>obtain⟨T,rfl⟩:=r;exact PySem.EqMixed.ne_bool_str (jM I q Po)
  |_=>exact absurd (show false=true from d) IW
 |int i=>
  obtain⟨t,rfl⟩:=R
  cases y with
  |non=>cases r;exact PySem.EqNone.ne_int_none (jM I q Po)
  |int j=>obtain⟨T,rfl⟩:=r;exact ne_int (jM I q (LY not Y4))
  |str j=>obtain⟨T,rfl⟩:=r;exact PySem.EqMixed.ne_int_str (jM I q Po)
  |_=>exact absurd (show false=true from d) IW
 |str i=>
  obtain⟨t,rfl⟩:=R
  cases y with
  |non=>cases r;exact PySem.EqNone.ne_str_none (jM I q Po)
  |bl j=>cases r;exact PySem.EqMixed.ne_str_bool (jM I q Po)
  |int j=>obtain⟨T,rfl⟩:=r;exact PySem.EqMixed.ne_str_int (jM I q Po)
  |str j=>obtain⟨T,rfl⟩:=r;exact ne_str (jM I q (LY not Y5))
  |_=>exact absurd (show false=true from d) IW
 |byt i=>
  obtain⟨t,rfl⟩:=R
  cases y with
  |byt j=>obtain⟨T,rfl⟩:=r;exact PySem.W.ne_bytes (jM I q (LY not Y6))
  |_=>exact absurd (show false=true from d) IW
 |_=>cases y<;>exact absurd (show false=true from d) IW
theorem AV:eU X (compareOp .Lt) (wE λi j=>.bl (decide (i < j))):=CV λ_ _ _ _ _ _ _ q=>lt_int q
theorem uf:eU X (compareOp .Gt) (wE λi j=>.bl (decide (j < i))):=CV λ_ _ _ _ _ _ _ q=>gt_int q
theorem ue:eU X (compareOp .GtE) (wE λi j=>.bl (decide (j<=i))):=CV λ_ _ _ _ _ _ _ q=>ge_int q
theorem aN(b:Expr)(h:o≠ .In:=by decide)(H:o≠ .NotIn:=by decide):behindInMarks o b=false:=by
 have e:(o==CmpOp.In)=false:=by cases o<;>first |rfl |exact absurd Z h
 have E:(o==CmpOp.NotIn)=false:=by cases o<;>first |rfl |exact absurd Z H
 cases b<;>simp [behindInMarks,e,E]
theorem Y7(d:eU X (compareOp o) r)(e:PE X a ta)(f:PE X b tb)(g:behindInMarks o b=false):PE X (.Compare a [o] [b] pos) (gE r ta tb):=by
 intro p s i H Q I h
 exact wpAny_Compare1 (Bq e f I h λv u S x y j k R l q=>d p S i j x y v u Q k R l q) g
inductive vS(Q:Bool->Hp->Prop)(x:V)(a:Hp):Prop
 |mk(k:_)(_:x= .bl k)(_:Q k a)
def iY(t:TE):TT:=λd H Q=>t d H (vS Q)
theorem jC{o:CmpOp}{r:R2}(f:eU X (compareOp o) r)(g:PE X a ta)(i:PE X b tb)(j:behindInMarks o b=false):PT X (.Compare a [o] [b] pos) (iY (gE r ta tb)):=by
 intro p s d H Q I h
 refine wpAny_isTrue_Compare1 (aU (g p s d H _ I h) λv S #[x,l,m,R,q]=>aU (i p S d l _ m q) λu n #[y,t,w,A,B]=>
  aU (f p n d t x y v u _ w R A B) λc G #[z,C,D,E,k,e,F]=>?_) j
 subst e
 cases E
 exact Oe #[C,D,F]
def Ej(K:Frag)(x:V)(H:Hp)(k:Bool):Prop:=
 match x with
 | .non=>k=false
 | .bl b=>k=b
 | .int i=>k=(i != 0)
 | .str y=>y.length<=sizeLine/\k=((y.length:Int) != 0)
 | .byt y=>y.size<=sizeLine/\k=((y.size:Int) != 0)
 | .ref p=>(∃d,aJ K H p d/\k=!d.isEmpty)∨(∃d,aA K H p d/\k=!d.isEmpty)∨∃e,H p=some (.dK e)/\k=!e.isEmpty
 |_=>False
theorem Yq{d:Type}{k:List (d×V)}{v:List (d×Value)}(r:KV k v):(!v.isEmpty)=!k.isEmpty:=by
 cases r<;>rfl
theorem Kv(r:aB x i):(!i.toArray.isEmpty)=!x.isEmpty:=by
 cases r<;>simp
theorem eK:(sizeLine:Nat) < 2 ^ 63:=by rw[MU];decide
theorem DL:Gz X (λx H Q=>∃k,Ej X.K x H k/\Q k H):=by
 intro o s B H x v Q I R h
 obtain⟨k,e,q⟩:=h
 have C:=eK
 have D:sizeLine=16777216:=MU
 cases x with
 |non=>
  cases R
  have E:k=false:=e
  subst E
  exact truthy_none #[H,I,q]
 |bl b=>
  cases R
  have E:k=b:=e
  subst E
  exact Oe #[H,I,q]
 |int i=>
  obtain⟨t,rfl⟩:=R
  have E:k=(i != 0):=e
  subst E
  exact PySem.P.truthy_int #[H,I,q]
 |str y=>
  obtain⟨t,rfl⟩:=R
  obtain⟨z,E⟩:y.length<=sizeLine/\k=((y.length:Int) != 0):=e
  subst E
  exact PySem.P.truthy_str Pn #[H,I.tok _,q]
 |byt y=>
  obtain⟨t,rfl⟩:=R
  obtain⟨z,E⟩:y.size<=sizeLine/\k=((y.size:Int) != 0):=e
  subst E
  exact PySem.W.truthy_bytes Pn #[H,I.tok _,q]
 |ref p=>
  cases R
  have E:(∃g,aJ X.K H p g/\k=!g.isEmpty)∨(∃g,aA X.K H p g/\k=!g.isEmpty)∨∃d,H p=some (.dK d)/\k=!d.isEmpty:=e
  rcases E with ⟨g,j,E⟩ | ⟨g,j,E⟩ | ⟨d,j,E⟩
  ·subst E
   obtain⟨l,r,n,u⟩:=I.list j
   have f:=r.length
   exact wpAny_truthy_list n.isList (by simp only[IN];omega) #[H,I.tok _,by rw[Kv r];exact q]
  ·subst E
   obtain⟨l,r,n,u⟩:=I.tuple j
   have f:=r.length
   exact truthy_tuple n (by simp only[IN];omega) #[H,I.tok _,by rw[Kv r];exact q]
  ·subst E
   obtain⟨u,A,V,r,m⟩:d.length<=sizeLine/\(p==sysModules)=false/\∃V,KV d V/\s.heap.DictOf (aS X.prog X.w) p V:=I.hok p _ j
   have f:d.length=V.length:=Paired.length r
   exact wpAny_truthy_dict A m Pn #[H,I.tok _,by rw[Yq r];exact q]
 |_=>exact(show False from e).elim
theorem ux(f:PE X a ta)(g:∀w,isTrue a X.env w=(do let v <- w;standAt a.pos;holding [v] (truthy v))):
  PT X a (λd H Q=>ta d H λx e=>∃k,Ej X.K x e k/\Q k e):=by
 intro p s d H Q I h
 exact isTrue_plain (aU (f p s d H _ I h) λv S #[x,i,j,r,q]=>DL p S d i x v Q j r q) (g _)
theorem zA:eU X (binaryOp .Add) (λx y H Q=>∃i j,x= .str i/\y= .str j/\i.length+j.length<=sizeLine/\Q (.str (i++j)) H):=by
 intro p s e H x y v u Q I r R h
 obtain⟨i,j,rfl,rfl,d,q⟩:=h
 obtain⟨t,rfl⟩:=r
 obtain⟨T,rfl⟩:=R
 exact add_str (λT f=>#[.str (i++j),H,I.tok _,#[_,Z],q]) d
theorem eQ(r:aB [x] U):∃u,U=[u]/\aD x u:=by
 cases r with
 |cons R d=>cases d;exact#[_,Z,R]
theorem FT(r:aB [x,y] U):∃u w,U=[u,w]/\aD x u/\aD y w:=by
 cases r with
 |cons R d=>
  cases d with
  |cons e f=>cases f;exact#[_,_,Z,R,e]
theorem Qb:dR X (.type "int") (λx H Q=>(∃i,x=[.int i]/\Q (.int i) H)∨∃k,x=[.bl k]/\Q (.int (if k then 1 else 0)) H):=by
 intro p s d H x U Q I r h
 rcases h with ⟨i,rfl,q⟩ | ⟨k,rfl,q⟩
 ·obtain⟨u,rfl,t,rfl⟩:=eQ r
  exact call_int_int #[.int i,H,I,#[_,Z],q]
 ·obtain⟨u,rfl,R⟩:=eQ r
  cases R
  exact call_int_bool #[.int (if k then 1 else 0),H,I.tok _,#[_,Z],q]
end
structure nB(h:Heap)(x dx C:Addr)(mA:Str->Option Value):Prop where
 obj:h.get? x=some (instObj C dx)
 ns:h.Ns1 dx mA
 ne:dx≠x
theorem ZM{h:Heap}(n:h.Ns1 d m):∃O,h.get? d=some O/\∀name,lookIn name O=some (m name):=by
 obtain⟨o,E,j,b,c,f,_,g⟩:=n
 refine#[o,b,λname=>?_]
 have e:=g name
 unfold nsFind findBy at e
 rw[<- Array.find?_toList]at e
 unfold lookIn
 rw[c]
 dsimp only
 split
 ·rename_i y q
  rw[q]at e
  exact LY some e
 ·rename_i q
  rw[q]at e
  have a:E.toList.any (·.refKey)=false:=by
   rw[List.any_eq_false]
   intro y i
   obtain⟨z,t,H⟩:=f y (Array.mem_toList_iff.mp i)
   simp [DictEntry.refKey,H]
  have A:¬E.toList.any (·.refKey)=true:=by rw[a];exact IW
  rw[IX A]
  exact LY some e
theorem nB.look(I:nB h x d C m):∃o,PySem.W.InstAt h x (instObj C d) C (some o)/\∀name,lookIn name o=some (m name):=
 let #[o,H,a]:=ZM I.ns
 #[o,#[I.obj,Z,Z,H],a]
section
variable {prog:Program}{w:World}{A:Around}{E:Value->Shared->Prop}{s:Shared}{K:Frag}{x dx C f:Addr}{mA:Str->Option Value}{name:Str}{v:Value}
theorem xu{Q:Value->Shared->Prop}(X:K.In s.heap)(I:nB s.heap x dx C mA)(a:plainGet K C name=true)(b:hasDictIn K C=true)
  (c:findIn K (.ref C) name=some none) (d:mA name=some v) (H:PySem.W.handedIn v=true) (h:Q v { s with toks:=s.toks+1 }):
  wpAny (model prog w) A (getAttr (.ref x) name e) Q E s:=by
 obtain⟨o,J,g⟩:=I.look
 exact PySem.W.get_value X J (Oz a).1 (PySem.W.findObj_own b c Z (by rw[g,d])) H h
theorem sq{Q:Value×List Value->Shared->Prop}(X:K.In s.heap)(I:nB s.heap x dx C mA)(H:plainGet K C name=true)
  (a:findIn K (.ref C) name=some (some (.ref f))) (b:isFn K (.ref f)=true) (c:mA name=none) (h:Q (.ref f,[.ref x]) s):
  wpAny (model prog w) A (getMethod (.ref x) name p) Q E s:=by
 obtain⟨o,J,d⟩:=I.look
 exact PySem.W.method_fn X J (Oz H).1 (Oz H).2 a (beq_iff_eq.mp b) (by show(lookIn name o).map (·.isSome)=some false;rw[d,c];rfl) h
theorem yU{Q:Unit->Shared->Prop}(X:K.In s.heap)(I:nB s.heap x dx C mA)
  (k:findIn K (.ref C) "__setattr__"=some (some (.builtin "object.__setattr__"))) (l:PySem.W.plainOver K C=true) (m:PySem.W.takerIn K C name=some none) (n:hasDictIn K C=true)
  (o:PySem.Within mA N) (p:N.length<=sizeLine)
  (h:∀d,nB d x dx C (λy=>if y=name then some v else mA y)->Heap.SameBut dx s.heap d->Q () { s with heap:=d,toks:=s.toks+2 }):
  wpAny (model prog w) A (setAttr (.ref x) name v) Q E s:=by
 obtain⟨O,J,B⟩:=I.look
 refine PySem.W.set_plain X J k (PySem.W.osa_open (s:={ s with toks:=s.toks+1 }) (r:=none) X J l m λb=>?_)
 obtain⟨D,q,e⟩:=PySem.W.any_some n
 have t:s.heap.get? x=some #[.ref C,some dx,.plain,(List.toArray [])]:=I.obj
 refine IF (II (IF (IF (wpAny_loadPart t (IF (PySem.W.Looks.here (s:={ s with toks:=s.toks+1 }) (PySem.W.looks_clsIn X q) ?_))))))
 rw[e]
 refine II (a:=some dx) (IF (II (IF ?_)))
 refine wpAny_nsSet1 (s:={ s with toks:=s.toks+1 }) I.ns λd H c=>?_
 obtain⟨F,u,z,g,i,j⟩:=H.count (PySem.Within.cons name v o)
 refine IF (wpAny_lookBehind g (by rw[i];exact pastItsLine_dict (IZ j (by rw[Lm];omega))) ?_)
 exact II (h _ #[(c.2 _ (Lr I.ne)).trans I.obj,H,I.ne] c)
theorem sZ{R:Result->Shared->Prop}(X:K.In s.heap)(H:PySem.W.makesIn K C=true)
  (b:findIn K (.ref C) "__init__"=some (some (.ref f))) (c:typeIn K (.ref f)=some (.type "function"))
  (h:codeAny (model prog w) (A.under (.builtin "type.__call__" #[.ref C::a,k])) (.call (.ref f) #[.ref (s.heap.objs.size+1)::a,k]) (PySem.W.InitBack (s.heap.objs.size+1) R)
   { s with heap:=(s.heap.push emptyDict).push (instObj C s.heap.objs.size) }):
  codeAny (model prog w) A (.call (.ref C) #[a,k]) R s:=by
 obtain⟨e,g,d,t,os⟩:=s
 exact PySem.W.make_core (PySem.W.makes_of X H) (PySem.W.looks_findIn X b) (λS=>PySem.W.bind_fn X S c) (.inl Z) h
end
noncomputable def eL(f:Str)(v:V):List (Str×V)->List (Str×V)
 | []=>[(f,v)]
 | (g,x)::r=>if g=f then (g,v)::r else (g,x)::eL f v r
theorem Jy(f g:Str)(v:V):∀F:List (Str×V),(eL f v F).lookup g=if g=f then some v else F.lookup g
 | []=>by
  show List.lookup g [(f,v)]=_
  by_cases h:g=f
  ·have H:(g==f)=true:=beq_iff_eq.mpr h
   simp only[List.lookup,H,IU h]
  ·have H:(g==f)=false:=beq_eq_false_iff_ne.mpr h
   simp only[List.lookup,H,IX h]
 | (k,x)::r=>by
  have i:=Jy f g v r
  rw[show eL f v ((k,x)::r)=(if k=f then (k,v)::r else (k,x)::eL f v r) from Z]
  by_cases a:k=f
  ·rw[IU a]
   by_cases h:g=k
   ·have H:(g==k)=true:=beq_iff_eq.mpr h
    simp only[List.lookup,H,IU (h.trans a)]
   ·have H:(g==k)=false:=beq_eq_false_iff_ne.mpr h
    simp only[List.lookup,H,IX (λe:g=f=>h (e.trans a.symm))]
  ·rw[IX a]
   by_cases h:g=k
   ·have H:(g==k)=true:=beq_iff_eq.mpr h
    simp only[List.lookup,H,IX (λe:g=f=>a (h.symm.trans e))]
   ·have H:(g==k)=false:=beq_eq_false_iff_ne.mpr h
    simp only[List.lookup,H]
    exact i
theorem Jr(f:Str)(v:V):∀F:List (Str×V),f∈(eL f v F).map (·.1)/\∀g,g∈F.map (·.1)->g∈(eL f v F).map (·.1)
 | []=>#[by simp [eL],λg h=>by simp at h]
 | (k,x)::r=>by
  obtain⟨i,I⟩:=Jr f v r
  rw[show eL f v ((k,x)::r)=(if k=f then (k,v)::r else (k,x)::eL f v r) from Z]
  by_cases H:k=f
  ·rw[IU H]
   subst H
   exact#[Po,λg h=>by simpa using h]
  ·rw[IX H]
   refine#[?_,λg h=>?_]
   ·rw[Mi]
    exact Le _ i
   ·rw[Mi]at h ⊢
    rcases List.mem_cons.mp h with e |e
    ·exact List.mem_cons.mpr (.inl e)
    ·exact Le _ (I g e)
theorem Jz(f:Str)(v:V):∀F:List (Str×V),(eL f v F).length<=F.length+1
 | []=>by simp [eL]
 | (k,x)::r=>by
  have i:=Jz f v r
  rw[show eL f v ((k,x)::r)=(if k=f then (k,v)::r else (k,x)::eL f v r) from Z]
  by_cases h:k=f
  ·rw[IU h,Lm,Lm];omega
  ·rw[IX h,Lm,Lm];omega
theorem dJ.some_of{v:V}{o:Option Value}(r:dJ (some v) o):∃u,o=some u/\aD v u:=by
 cases o with
 |none=>exact(show False from r).elim
 |some u=>exact#[u,Z,r]
theorem dJ.none_of(r:dJ none o):o=none:=by
 cases o with
 |none=>rfl
 |some u=>exact(show False from r).elim
theorem ZN(r:aD v u):PySem.W.handedIn u=true:=by
 cases v with
 |non=>cases (show u=Value.none from r);rfl
 |bl b=>cases (show u=Value.bool b from r);rfl
 |int i=>obtain⟨t,e⟩:=(show ∃t,u=Value.int i t from r);cases e;rfl
 |str x=>obtain⟨t,e⟩:=(show ∃t,u=Value.str x t from r);cases e;rfl
 |byt b=>obtain⟨t,e⟩:=(show ∃t,u=Value.bytes b t from r);cases e;rfl
 |flt b=>obtain⟨t,e⟩:=(show ∃t,u=Value.float b t from r);cases e;rfl
 |ref a=>cases (show u=Value.ref a from r);rfl
 |ty n=>cases (show u=Value.type n from r);rfl
section
variable {P:Program}{w:World}{H H':Hp}{h h':Heap}{a C dx:Addr}{fs fs':List (Str×V)}
theorem JN(b:fb P w H h)(e:H a=some (.ins C dx fs)):∃m,nB h a dx C m/\(∀f,dJ (fs.lookup f) (m f))/\PySem.Within m (fs.map (·.1))/\fs.length<=1000/\H dx=some (.own a):=by
 obtain⟨d,z,N,o,m,n,r,q⟩:=(show aL P w H h a (.ins C dx fs) from b a _ e)
 exact#[m,#[o,n,N],r,q,z,d]
end
structure nR(K:Frag)(C:Addr):Prop where
 pg:plainGet K C Str.empty=true
 hd:hasDictIn K C=true
 po:PySem.W.plainOver K C=true
 sa:findIn K (.ref C) "__setattr__"=some (some (.builtin "object.__setattr__"))
theorem nR.get{K:Frag}(c:nR K C)(f:Str):plainGet K C f=true:=c.pg
def aX(K:Frag)(C:Addr)(f:Str):Prop:=findIn K (.ref C) f=some none
theorem aX.taker{K:Frag}(n:aX K C f):PySem.W.takerIn K C f=some none:=by
 unfold PySem.W.takerIn
 rw[show findIn K (.ref C) f=some none from n]
 rfl
structure ba(K:Frag)(C:Addr)(m:Str)(f:Addr):Prop where
 at_:findIn K (.ref C) m=some (some (.ref f))
 fn:isFn K (.ref f)=true
 kp:keepIn K (.ref f)=true
section
variable {X:Cx}{pins:List (Addr×Obj)}{σ:St}{H:Hp}{s:Shared}{a C dx:Addr}{fs:List (Str×V)}{f:Str}{v:V}{A:Around}{E:Value->Shared->Prop}
theorem Kw{Q:Value->Shared->Prop}(I:aq X pins σ H s)(e:H a=some (.ins C dx fs))(c:nR X.K C)(n:aX X.K C f)(l:fs.lookup f=some v)
  (h:∀u S,aq X pins σ H S->aD v u->Q u S):wpAny (model X.prog X.w) A (getAttr (.ref a) f b) Q E s:=by
 obtain⟨m,O,r,_,_,_⟩:=JN I.hok e
 obtain⟨u,d,R⟩:=dJ.some_of (v:=v) (o:=m f) (by rw[<- l];exact r f)
 exact xu I.kIn O (c.get f) c.hd n d (ZN R) (h u _ (I.tok _) R)
theorem Kx{Q:Value×List Value->Shared->Prop}(I:aq X pins σ H s)(e:H a=some (.ins C dx fs))(c:nR X.K C)(k:ba X.K C m g)(l:fs.lookup m=none)
  (h:Q (.ref g,[.ref a]) s):wpAny (model X.prog X.w) A (getMethod (.ref a) m p) Q E s:=by
 obtain⟨M,O,r,_,_,_⟩:=JN I.hok e
 have b:M m=none:=dJ.none_of (by rw[<- l];exact r m)
 exact sq I.kIn O (c.get m) k.at_ k.fn b h
theorem Ky{Q:Unit->Shared->Prop}(I:aq X pins σ H s)(e:H a=some (.ins C dx fs))(c:nR X.K C)(n:aX X.K C f)(F:fs.length < 1000)(R:aD y u)
  (h:∀S,aq X pins σ (ah H a (.ins C dx (eL f y fs))) S->Q () S):wpAny (model X.prog X.w) A (setAttr (.ref a) f u) Q E s:=by
 obtain⟨m,O,r,W,_,i⟩:=JN I.hok e
 have j:(fs.map (·.1)).length<=sizeLine:=by rw[IJ,MU];omega
 refine yU I.kIn O c.sa c.po n.taker c.hd W j λk d l=>h _ ?_
 have p:∃o,k.get? dx=some o:=let #[o,_,_,t,_]:=d.ns;#[o,t]
 refine I.write (x:=a) (e:=dx) (by rw[e];exact True.intro) (.inr i) (λb q B z=>(l.2 b B).trans z) p ?_
 refine#[by rw[jh O.ne];exact i,?_,O.ne,d.obj,_,d.ns,λg=>?_,λg D=>?_]
 ·have:=Jz f y fs;omega
 ·show dJ ((eL f y fs).lookup g) (if g=f then some u else m g)
  rw[Jy]
  by_cases q:g=f
  ·rw[IU q,IU q];exact R
  ·rw[IX q,IX q];exact r g
 ·by_cases q:g=f
  ·rw[q];exact(Jr f y fs).1
  ·refine(Jr f y fs).2 g (W g λz=>D ?_)
   show(if g=f then some u else m g)=none
   rw[IX q];exact z
theorem aq.made(I:aq X pins σ H s):aq X pins σ (ah (ah H s.heap.objs.size (.own (s.heap.objs.size+1))) (s.heap.objs.size+1) (.ins C s.heap.objs.size []))
  { s with heap:=(s.heap.push emptyDict).push (instObj C s.heap.objs.size) }:=by
 have c:(s.heap.push emptyDict).get? s.heap.objs.size=some emptyDict:=IM s.heap Z
 have d:((s.heap.push emptyDict).push (instObj C s.heap.objs.size)).get? (s.heap.objs.size+1)=some (instObj C s.heap.objs.size):=by
  have:=IM (s.heap.push emptyDict) (o:=instObj C s.heap.objs.size) Z
  rwa [LL]at this
 have g:(s.heap.push emptyDict).Ns s.heap.objs.size (λ_=>none):=#[emptyDict,(List.toArray []),_,c,Z,(λe h=>absurd h Po),λ_=>Z]
 have i:=I.laid (a:=s.heap.objs.size) (o:=.own (s.heap.objs.size+1)) (h':=s.heap.push emptyDict) (t':=s.toks) (λb u q=>IH _ q) (IK _) #[_,c]
 refine i.laid (a:=s.heap.objs.size+1) (o:=.ins C s.heap.objs.size []) (t':=s.toks) (λb u q=>IH _ q) (ON (LL _ _)) ?_
 have n:s.heap.objs.size≠s.heap.objs.size+1:=IY (Mt _)
 refine#[by rw[jh n,jc],IS _,n,d,λ_=>none,(Heap.Ns1.of_empty g).at λo q=>IH _ q,λ_=>True.intro,λy j=>absurd Z j]
theorem wR{f:Str}{s:Shared}(c:attributeBase e f b (eval e b)=eval e b)
  (h:wpAny (model p w) A (eval e b) (λo S=>wpAny (model p w) A (getAttr o f true) Q E S) E s):wpAny (model p w) A (eval (.Attribute e f d) b) Q E s:=
 Attribute_any_ h (by rw[arm_eval_Attribute,c])
end
inductive Bb(K:Frag)(f:Str)(Q:VK)(x:V)(b:Hp):Prop
 |mk(a C c d v:_)(_:x= .ref a)(_:b a=some (.ins C c d))(_:nR K C)(_:aX K C f)(_:d.lookup f=some v)(_:Q v b)
def Hr(K:Frag)(t:TE)(f:Str):TE:=λa H Q=>t a H (Bb K f Q)
inductive A1(K:Frag)(f:Str)(D:bp)(e:St)(y x:V)(b:Hp):Prop
 |mk(a C c d:_)(_:x= .ref a)(_:b a=some (.ins C c d))(_:nR K C)(_:aX K C f)(_:d.length < 1000)(_:D.nx e (ah b a (.ins C c (eL f y d))))
def Hf(K:Frag)(t T:TE)(f:Str):TS:=λD a H=>T a H λy h=>t a h (A1 K f D a y)
def Ec(X:Cx)(o:Operator)(r:V->V->Hp->VK->Prop):Prop:=
 ∀(p:List (Addr×Obj)) (s:Shared) (a:St) (H:Hp) (x y:V) (u v:Value) (Q:VK),aq X p a H s->aD x u->aD y v->r x y H Q->wpAny (model X.prog X.w) X.A (inplaceOp o u v) (EP X p a Q) X.xe s
inductive mv(K:Frag)(g:TE)(e:V->V->Hp->VK->Prop)(f:Str)(D:bp)(h:St)(x:V)(b:Hp):Prop
 |mk(a C c d v:_)(_:x= .ref a)(_:b a=some (.ins C c d))(_:nR K C)(_:aX K C f)(_:d.lookup f=some v)(_:g h b λy H2=>e v y H2 λz H3=>∃dx' fs',H3 a=some (.ins C dx' fs')/\fs'.length < 1000/\D.nx h (ah H3 a (.ins C dx' (eL f z fs'))))
def yC(K:Frag)(t T:TE)(r:V->V->Hp->VK->Prop)(f:Str):TS:=λD a H=>t a H (mv K T r f D a)
section
variable {X:Cx}{o e value:Expr}{f:Str}{pos pos' tpos:Pos}{ta tv:TE}
theorem jX(b:PE X e ta)(d:attributeBase e f X.env (eval e X.env)=eval e X.env):PE X (.Attribute e f pos) (Hr X.K ta f):=by
 intro p s g H Q I h
 refine wR d (aU (b p s g H _ I h) λu S z=>?_)
 obtain⟨x,i,j,r,a,C,D,F,v,E,k,c,n,l,q⟩:=z
 subst E
 obtain rfl:u=Value.ref a:=r
 exact Kw j k c n l λU t m R=>#[v,i,m,R,q]
theorem zr(d:PE X o ta)(g:PE X value tv)(i:swapsWith value (some (.Attribute o f pos')) pos.line X.env=pure false):PS X (.Assign [.Attribute o f pos'] value pos) (Hf X.K ta tv f):=by
 intro p s b H D I h
 refine plainObj_wpAny_Assign_Attribute (aU (g p s b H _ I h) λu S #[y,j,k,r,q]=>aU (d p S b j _ k q) λO w z=>?_) i
 obtain⟨x,A,m,R,a,C,B,F,E,t,c,n,l,Q⟩:=z
 subst E
 obtain rfl:O=Value.ref a:=R
 exact Ky m t c n l r λG v=>#[b,_,v,Q]
theorem ZO{O:Operator}{r:V->V->Hp->VK->Prop}(i:PE X o ta)(j:PE X value tv)(g:Ec X O r):PS X (.AugAssign (.Attribute o f tpos) O value pos) (yC X.K ta tv r f):=by
 intro p s d H D I h
 refine wpAny_AugAssign_AttributeAny (aU (i p s d H _ I h) λk s1 b=>?_)
 obtain⟨x,m,t,R,a,C,dx,fs,v,w,A,c,n,l,q⟩:=b
 subst w
 obtain rfl:k=Value.ref a:=R
 refine Kw t A c n l λu S B F=>aU (j p S d m _ B q) λW G #[y,J,L,M,Q]=>aU (g p G d J v y u W _ L F M Q) λw4 s4 b=>?_
 obtain⟨z,H3,N,P,T,U,E,Y,q4⟩:=b
 exact Ky N E c n Y P λs5 I5=>#[d,_,I5,q4]
inductive E9(x y:V)(H:Hp)(Q:VK):Prop
 |mk(i j:_)(_:x= .int i)(_:y= .int j)(_:Q (.int (i+j)) H)
theorem BM:Ec X .Add E9:=by
 rintro p s a H x y u v Q I r R ⟨i,j,rfl,rfl,q⟩
 obtain⟨t,rfl⟩:=(show ∃t,u=Value.int i t from r)
 obtain⟨T,rfl⟩:=(show ∃T,v=Value.int j T from R)
 exact PyProof.Rows.iadd_int #[.int (i+j),H,I.tok _,#[_,Z],q]
end
section
variable {X:Cx}{pins:List (Addr×Obj)}{σ:St}{H:Hp}{s:Shared}{A:Around}{E:Value->Shared->Prop}{Q:Value->Shared->Prop}{c:Value}{b:Bool}
inductive gI(K:Frag)(H:Hp):V->Value->Prop where
 |non:gI K H .non (.type "NoneType")
 |bl (x:Bool):gI K H (.bl x) (.type "bool")
 |int (i:Int):gI K H (.int i) (.type "int")
 |str (x:Str):gI K H (.str x) (.type "str")
 |flt (x:UInt64):gI K H (.flt x) (.type "float")
 |lst {a:Addr} {xs:List V} (e:H a=some (.lst xs)):gI K H (.ref a) (.type "list")
 |frz {a:Addr} {o:Obj} {xs:List V} (e:H a=some (.frz o (.lst xs))):gI K H (.ref a) (.type "list")
 |tup {a:Addr} {xs:List V} (e:H a=some (.tup xs)):gI K H (.ref a) (.type "tuple")
 |dK {a:Addr} {kvs:List (bo×V)} (e:H a=some (.dK kvs)):gI K H (.ref a) (.type "dict")
 |dT {a:Addr} {kvs:List (List bo×V)} (e:H a=some (.dT kvs)):gI K H (.ref a) (.type "dict")
 |ins {a C dx:Addr} {fs:List (Str×V)} (e:H a=some (.ins C dx fs)) (cl:nR K C) (ha:findIn K (.ref C) "__class__"=some (some (.builtin "object.__class__")))
   (hn:specialIn K (.builtin "object.__class__") "__get__"=some (some (.builtin "getset_descriptor.__get__"))) (htk:PySem.W.takesIn K (.builtin "object.__class__")=some true)
   (hm:mroIn K C (.type "object")=some true):gI K H (.ref a) (.ref C)
theorem ZP(I:aq X pins σ H s)(r:aD x u)(T:gI X.K H x t)(e:kitOne X.K t c=some b)(h:∀v,Q (.bool b) { s with toks:=v }):
  wpAny (model X.prog X.w) A (call (.builtin "isinstance") [u,c]) Q E s:=by
 cases T with
 |non=>cases (show u=Value.none from r);exact NV PySem.W.kitx_none I.kIn True.intro e (λz=>nomatch z) h
 |bl y=>cases (show u=Value.bool y from r);exact NV PySem.W.kitx_bool I.kIn True.intro e (λz=>nomatch z) h
 |int i=>obtain⟨t,q⟩:=(show ∃t,u=Value.int i t from r);cases q;exact NV PySem.W.kitx_int I.kIn True.intro e (λz=>nomatch z) h
 |str y=>obtain⟨t,q⟩:=(show ∃t,u=Value.str y t from r);cases q;exact NV PySem.W.kitx_str I.kIn True.intro e (λz=>nomatch z) h
 |flt y=>obtain⟨t,q⟩:=(show ∃t,u=Value.float y t from r);cases q;exact NV PySem.W.kitx_float I.kIn True.intro e (λz=>nomatch z) h
 | @lst a g d=>
  cases (show u=Value.ref a from r)
  obtain⟨_,_,n,_,f⟩:=(show aL X.prog X.w H s.heap a (.lst g) from I.hok a _ d)
  exact NV PySem.W.kitx_list I.kIn #[_,f,Z] e (λz=>nomatch z) h
 | @frz a B g d=>
  cases (show u=Value.ref a from r)
  obtain⟨_,_,_,n,_,f⟩:=(show aL X.prog X.w H s.heap a (.frz B (.lst g)) from I.hok a _ d)
  exact NV PySem.W.kitx_list I.kIn #[_,f,Z] e (λz=>nomatch z) h
 | @tup a g d=>
  cases (show u=Value.ref a from r)
  obtain⟨_,_,_,p⟩:=(show aL X.prog X.w H s.heap a (.tup g) from I.hok a _ d)
  obtain⟨o,f,j,_⟩:=p
  exact NV PySem.W.kitx_tuple I.kIn #[o,f,j] e (λz=>nomatch z) h
 | @dK a k d=>
  cases (show u=Value.ref a from r)
  obtain⟨_,_,V,_,p⟩:=(show aL X.prog X.w H s.heap a (.dK k) from I.hok a _ d)
  obtain⟨o,D,F,f,j,_⟩:=p
  exact NV PySem.W.kitx_dict I.kIn #[o,f,j.1] e (λz=>nomatch z) h
 | @dT a k d=>
  cases (show u=Value.ref a from r)
  obtain⟨_,_,g,_,o,D,F,f,j,_⟩:=(show aL X.prog X.w H s.heap a (.dT k) from I.hok a _ d)
  exact NV PySem.W.kitx_dict I.kIn #[o,f,j.1] e (λz=>nomatch z) h
 | @ins a C N P d m G L l M=>
  cases (show u=Value.ref a from r)
  obtain⟨R,O,_⟩:=JN I.hok d
  obtain⟨S,J,_⟩:=O.look
  exact NV (PySem.W.kitx_own (m.get _) m.hd G L l M) I.kIn J e (λz=>nomatch z) h
end
structure bq(k:Nat)(A:Around):Prop where
 hd:A.handled=none
 dp:A.depth+3*k+5 < recursionLimit
 un:A.units+16*k+200 < cLine
theorem bq.mono(r:bq k A)(h:j<=k):bq j A:=#[r.hd,by have:=r.dp;omega,by have:=r.un;omega]
theorem bq.deeper(r:bq (k+1) A)(e:Env):bq k (A.deeper e):=
 #[r.hd,by have:=r.dp;show A.depth+1+3*k+5 < _;omega,by have:=r.un;show A.units+3+16*k+200 < _;omega]
theorem Yr{A:Around}:(A.under (.builtin "type.__call__" #[.ref C::u,k])).depth=A.depth+1:=by
 first |rfl |simp [Around.under,Code.weight,Code.isCreation,Code.isGuard,Code.isCaller,Code.frames,Code.isFrame,guardIds]
theorem Ys{A:Around}:(A.under (.builtin "type.__call__" #[.ref C::u,k])).units=A.units+1:=by
 first |rfl |simp [Around.under,Code.cUnits,Code.frames,Code.isFrame]
theorem bq.make(r:bq (k+1) A)(C:Addr)(u:List Value)(K:List (Str×Value)):bq k (A.under (.builtin "type.__call__" #[.ref C::u,K])):=
 #[r.hd,by have:=r.dp;rw[Yr];omega,by have:=r.un;rw[Ys];omega]
theorem bq.depth(r:bq k A):A.depth < recursionLimit:=by have:=r.dp;omega
theorem bq.units(r:bq k A):A.units+64 < cLine:=by have:=r.un;omega
def bf:TA:=λ_ H Q=>Q [] H
def ar(t:TE)(T:TA):TA:=λa H Q=>t a H λx h=>T a h λX b=>Q (x::X) b
section
variable {X:Cx}{e:Expr}{es:List Expr}{te:TE}{t:TA}{pos:Pos}
theorem jb:PA X [] bf:=λ_ _ _ _ H Q I h=>M3 #[[],H,I,.nil,h]
theorem ja(b:PE X e te)(c:PA X es t)(d:starEach (e::es) X.env=(false,eval e X.env)::starEach es X.env:=by rfl):PA X (e::es) (ar te t):=by
 intro pos p s a H Q I h
 rw[d]
 show wpAny _ _ (spliced ((false,eval e X.env)::backTo pos (starEach es X.env))) _ _ s
 refine MK (aU (b p s a H _ I h) λu S z=>?_)
 obtain⟨x,f,i,r,q⟩:=z
 exact aU (c pos p S a f _ i q) λU m #[g,j,k,R,l]=>#[x::g,j,k,.cons r R,l]
def cV(t:TA):TE:=λa H Q=>t a H λx h=>x.length<=sizeLine/\∀p,h p=none->Q (.ref p) (ah h p (.tup x))
def vK(t:TA):TE:=λa H Q=>t a H λx h=>x.length<=sizeLine/\∀p,h p=none->Q (.ref p) (ah h p (.lst x))
theorem jl{x}(h:PA X es t):PE X (.Tuple es x pos) (cV t):=by
 intro p s c H Q I d
 refine wpAny_Tuple_spliced (aU (h pos p s c H _ I d) λU S #[f,a,i,r,z,q]=>#[by rw[<- r.length];exact z,?_])
 have g:a S.heap.objs.size=none:=i.hok.fresh (IK _)
 refine#[.ref S.heap.objs.size,ah a S.heap.objs.size (.tup f),i.laid (t':=S.toks) (λb u e=>IH _ e) (IK _) ?_,Z,q _ g]
 exact#[z,U,r,#[_,IM _ Z,Z,_,Z]]
theorem jJ(h:PA X es t):PE X (.List es pos) (vK t):=by
 intro p s c H Q I d
 refine wpAny_List_spliced (aU (h pos p s c H _ I d) λU S #[x,a,i,r,z,q]=>#[by rw[<- r.length];exact z,?_])
 have f:a S.heap.objs.size=none:=i.hok.fresh (IK _)
 refine#[.ref S.heap.objs.size,ah a S.heap.objs.size (.lst x),i.laid (t':=S.toks) (λb u e=>IH _ e) (IK _) ?_,Z,q _ f]
 exact#[z,U,0,r,IM _ Z]
end
abbrev Sp:=List V->Hp->VK->XK->Prop
abbrev oK:=List Env->Hp->Shared->XK->Value->Shared->Prop
structure nj(P:Program)(w:World)(K:Frag)(mg:Str->Option Value)(base:Heap)(A:Around)(outer:List Env)(s:Shared)(H:Hp):Prop where
 frames:A.frames=some outer
 mod:Mod K mg base
 bs:∀b o,base.get? b=some o->s.heap.get? b=some o/\H b=none
 bsz:base.objs.size<=s.heap.objs.size
 funs:s.heap.FunFrames base outer
 frf:∀b∈iQ outer,H b=none
 hok:fb P w H s.heap
 bare:AllBare s.gens
def CE(o:List Env)(P:Program)(w:World)(H:Hp)(s:Shared)(Q:VK)(u:Value)(S:Shared):Prop:=
 ∃v h,S.os=s.os/\AllBare S.gens/\Un (iQ o) [] H h s.heap S.heap/\fb P w h S.heap/\aD v u/\Q v h
def CR(C:oK)(o:List Env)(P:Program)(w:World)(H:Hp)(s:Shared)(Q:VK)(E:XK)(r:Result)(S:Shared):Prop:=
 match r with
 | .ok (.ret u)=>CE o P w H s Q u S
 | .ok _=>False
 | .error e=>C o H s E e S
structure af(P:Program)(w:World)(K:Frag)(mg:Str->Option Value)(base:Heap)(CX:oK)(k:Nat)(f:Addr)(fd:FuncData)(ps:List Str)(sp:Sp):Prop where
 len:∀vs H Q E,sp vs H Q E->vs.length=ps.length
 run:∀(A:Around) (outer:List Env) (s:Shared) (H:Hp) (args:Args) (us:List Value) (vs:List V) (Q:VK) (E:XK),bq k A->nj P w K mg base A outer s H->BindsTo s fd args (ps.zip us)->aB vs us->sp vs H Q E->
  codeAny (model P w) A (.call (.ref f) args) (CR CX outer P w H s Q E) s
theorem nj.make{P:Program}{K:Frag}(e:nj P w K m b A o s H)(C:Addr)(u:List Value)(k:List (Str×Value)):
  nj P w K m b (A.under (.builtin "type.__call__" #[.ref C::u,k])) o s H:=#[by first |exact e.frames | (simpa [Around.under,Code.envs,Code.isFrame,pushEnvs] using e.frames),e.mod,e.bs,e.bsz,e.funs,e.frf,e.hok,e.bare]
section
variable {X:Cx}{pins:List (Addr×Obj)}{σ:St}{H:Hp}{s s':Shared}
theorem aq.env0(I:aq X pins σ H s):nj X.prog X.w X.K X.mg X.base X.A X.stack s H:=
 #[I.ok.frames,I.ok.mod,I.bs,IZ I.ok.bsz I.sz,I.stack,I.stkFree,I.hok,I.bare]
theorem aq.after(I:aq X pins σ H s)(h:CE X.stack X.prog X.w H s Q u s'):EP X pins σ Q u s':=by
 obtain⟨v,c,os,B,U,a,r,q⟩:=h
 obtain⟨e,g,d,t,o⟩:=s'
 obtain rfl:o=s.os:=os
 exact#[v,c,I.call (h':=e) (g':=g) (d':=d) (t':=t) (ch:=[]) U a B (λb z=>absurd z Po),r,q]
end
def gQ(s:Sp)(d:List V)(E:XK)(t:TA):TE:=λa H Q=>t a H λv h=>s (v++d) h Q E
inductive vN(C:Addr)(m:Str)(f:Sp)(b:List V)(E:XK)(t:TA)(g:St)(Q:VK)(x:V)(c:Hp):Prop
 |mk(a d e:_)(_:x= .ref a)(_:c a=some (.ins C d e))(_:e.lookup m=none)(_:t g c λvs H2=>f (x::(vs++b)) H2 Q E)
def vM(C:Addr)(m:Str)(s:Sp)(d:List V)(E:XK)(T:TE)(t:TA):TE:=λa H Q=>T a H (vN C m s d E t a Q)
def Bc(C:Addr)(s:Sp)(D:List V)(E:XK)(t:TA):TE:=λa H Q=>t a H λb h=>∀x d,h x=none->h d=none->d≠x->
 s (.ref x::(b++D)) (ah (ah h d (.own x)) x (.ins C d [])) (λv c=>v= .non/\Q (.ref x) c) E
def aC(K:Frag)(f:FuncData)(p:List Str)(d:List Value):Prop:=
 ∀(s:Shared) (u:List Value),K.In s.heap->(u++d).length=p.length->BindsTo s f #[u,[]] (p.zip (u++d))
theorem aC.all{K:Frag}{p:List Str}(h:∀u:List Value,u.length=p.length->bindArgs f #[u,[]]=pure (p.zip u)):aC K f p []:=λs u _ H=>by
 rw[Lh]at H ⊢
 exact .of_eq (h u H)
def c7(C:oK)(X:Cx)(E:XK):Prop:=∀(p:List (Addr×Obj)) (a:St) (H:Hp) (s:Shared) (e:Value) (S:Shared),aq X p a H s->C X.stack H s E e S->X.xe e S
section
variable {X:Cx}{CX:oK}{k:Nat}{f C:Addr}{fd:FuncData}{ps:List Str}{sp:Sp}{dvs:List V}{ds:List Value}{E:XK}{x m:Str}{p pos apos:Pos}{e o:Expr}{es:List Expr}{ta:TE}{t:TA}
theorem QD{us:List Value}{vs:List V}(F:af X.prog X.w X.K X.mg X.base CX k f fd ps sp)(d:bq k X.A)(g:aC X.K fd ps ds)(i:aB dvs ds)(j:c7 CX X E)
  (I:aq X a c H s) (r:aB vs us) (h:sp (vs++dvs) H Q E):wpAny (model X.prog X.w) X.A (call (.ref f) us) (EP X a c Q) X.xe s:=by
 have R:aB (vs++dvs) (us++ds):=r.append i
 have l:(us++ds).length=ps.length:=by rw[<- R.length];exact F.len _ _ _ _ h
 refine wpAny_call (M8 (F.run X.A X.stack s H #[us,[]] (us++ds) (vs++dvs) Q E d I.env0 (g s us I.kIn l) R h) λr S b=>?_)
 cases r with
 |error e=>exact j a c H s e S I b
 |ok n=>
  cases n with
  |ret u=>exact I.after b
  |next=>exact False.elim b
  |brk=>exact False.elim b
  |cont=>exact False.elim b
theorem kL(F:af X.prog X.w X.K X.mg X.base CX k f fd ps sp)(c:bq k X.A)(d:Gl X x)(g:X.mg x=some (.ref f))(j:keepIn X.K (.ref f)=true)(l:aC X.K fd ps ds)(n:aB dvs ds)(u:c7 CX X E)
  (v:PA X (e::es) t) (a:(x==("__debug__":Str))=false:=by decide) (y:starEach (e::es) X.env=(false,eval e X.env)::starEach es X.env:=by rfl) (b:(backTo pos (starEach es X.env)).any (·.1)=false:=by rfl):
  PE X (.Call (.Name x p) (e::es) [] pos) (gQ sp dvs E t):=by
 intro P s z H Q I h
 refine LM (zC I d g ?_ a)
 refine O1 (h₀:=X.base) I.ok.mod.kin j (aU (v pos P s z H _ I h) λU S #[B,D,i,r,q]=>#[i.kIn,?_]) y b
 exact QD F c l n u i r q
theorem jZ(v:PE X o ta)(c:nR X.K C)(g:ba X.K C m f)(F:af X.prog X.w X.K X.mg X.base CX k f fd ps sp)(y:bq k X.A)(B:aC X.K fd ps ds)(D:aB dvs ds)(G:c7 CX X E)(J:PA X (e::es) t)
  (b:starEach (e::es) X.env=(false,eval e X.env)::starEach es X.env:=by rfl) (d:(backTo pos (starEach es X.env)).any (·.1)=false:=by rfl)
  (L:eval (.Call (.Attribute o m apos) (e::es) [] pos) X.env=(do
   let O <- eval o X.env
   standAt apos.atName
   let (f,first) <- holding [O] (getMethod O m pl)
   callWith pos f first (backTo pos (starEach (e::es) X.env)) (backToKw pos (keywordEach [] X.env))):=by rfl):
  PE X (.Call (.Attribute o m apos) (e::es) [] pos) (vM C m sp dvs E ta t):=by
 intro P s i H Q I h
 refine Om (pl:=pl) (aU (v P s i H _ I h) λu S z=>?_) L
 obtain⟨x,M,j,R,a,W,Y,N,T,l,q⟩:=z
 subst N
 obtain rfl:u=Value.ref a:=R
 refine Kx j T c g l ?_
 refine O1 (first:=[.ref a]) (h₀:=X.base) I.ok.mod.kin g.kp (aU (J pos P S i M _ j q) λus s2 #[vs,H2,n,r,U]=>#[n.kIn,?_]) b d
 exact QD (us:=.ref a::us) (vs:=.ref a::vs) F y B D G n (.cons Z r) U
theorem uk(d:PE X o ta)(c:nR X.K C)(b:ba X.K C m f)(F:af X.prog X.w X.K X.mg X.base CX k f fd ps sp)(g:bq k X.A)(j:aC X.K fd ps ds)(n:aB dvs ds)(r:c7 CX X E)
  (v:eval (.Call (.Attribute o m apos) [] [] pos) X.env=(do
   let O <- eval o X.env
   standAt apos.atName
   let (f,first) <- holding [O] (getMethod O m pl)
   callWith pos f first (backTo pos (starEach [] X.env)) (backToKw pos (keywordEach [] X.env))):=by rfl):
  PE X (.Call (.Attribute o m apos) [] [] pos) (vM C m sp dvs E ta bf):=by
 intro P s y H Q I h
 refine Om (pl:=pl) (aU (d P s y H _ I h) λu S z=>?_) v
 obtain⟨x,G,i,R,a,J,L,B,D,l,q⟩:=z
 subst B
 obtain rfl:u=Value.ref a:=R
 refine Kx i D c b l ?_
 exact OA (first:=[.ref a]) i.kIn b.kp (QD (us:=[.ref a]) (vs:=[.ref a]) F g j n r i (.cons Z .nil) q)
structure Mk(K:Frag)(C f:Addr):Prop where
 makes:PySem.W.makesIn K C=true
 init:findIn K (.ref C) "__init__"=some (some (.ref f))
 fn:isFn K (.ref f)=true
 kp:keepIn K (.ref C)=true
theorem Xi{us:List Value}(M:Mk X.K C f)(F:af X.prog X.w X.K X.mg X.base CX k f fd ps sp)(l:bq (k+1) X.A)(n:aC X.K fd ps ds)(q:aB dvs ds)
  (y:c7 CX X E) (I:aq X b c H s) (r:aB g us)
  (h:∀x d,H x=none->H d=none->d≠x->sp (.ref x::(g++dvs)) (ah (ah H d (.own x)) x (.ins C d [])) (λv z=>v= .non/\Q (.ref x) z) E):
  wpAny (model X.prog X.w) X.A (call (.ref C) us) (EP X b c Q) X.xe s:=by
 have j:=h (s.heap.objs.size+1) s.heap.objs.size (I.hok.fresh (LH _)) (I.hok.fresh (IK _)) (IY (Mt _))
 have i:=aq.made (C:=C) I
 have R:aB (V.ref (s.heap.objs.size+1)::(g++dvs)) (Value.ref (s.heap.objs.size+1)::(us++ds)):=.cons Z (r.append q)
 have B:(Value.ref (s.heap.objs.size+1)::us++ds).length=ps.length:=by
  have e:=R.length
  rw[F.len _ _ _ _ j]at e
  exact e.symm
 refine wpAny_call (sZ (f:=f) I.kIn M.makes M.init (beq_iff_eq.mp M.fn) (M8 (F.run _ X.stack _ _ #[Value.ref (s.heap.objs.size+1)::us,[]] (Value.ref (s.heap.objs.size+1)::(us++ds)) _ _ E (l.make C us [])
  (i.env0.make C us []) (n _ (Value.ref (s.heap.objs.size+1)::us) i.kIn B) R j) λr S a=>?_))
 cases r with
 |error e=>exact y b c _ _ e S i a
 |ok D=>
  cases D with
  |ret u=>
   obtain⟨v,G,J,L,N,O⟩:=i.after a
   subst N
   exact#[L,#[V.ref (s.heap.objs.size+1),G,J,Z,O]]
  |next=>exact False.elim a
  |brk=>exact False.elim a
  |cont=>exact False.elim a
theorem Y8(M:Mk X.K C f)(F:af X.prog X.w X.K X.mg X.base CX k f fd ps sp)(c:bq (k+1) X.A)(d:Gl X x)(g:X.mg x=some (.ref C))(j:aC X.K fd ps ds)(l:aB dvs ds)(n:c7 CX X E)
  (u:PA X (e::es) t) (a:(x==("__debug__":Str))=false:=by decide) (v:starEach (e::es) X.env=(false,eval e X.env)::starEach es X.env:=by rfl) (b:(backTo pos (starEach es X.env)).any (·.1)=false:=by rfl):
  PE X (.Call (.Name x p) (e::es) [] pos) (Bc C sp dvs E t):=by
 intro P s y H Q I h
 refine LM (zC I d g ?_ a)
 refine O1 (h₀:=X.base) I.ok.mod.kin M.kp (aU (u pos P s y H _ I h) λU S #[z,B,i,r,q]=>#[i.kIn,?_]) v b
 exact Xi M F c j l n i r q
theorem uj(M:Mk X.K C f)(F:af X.prog X.w X.K X.mg X.base CX k f fd ps sp)(b:bq (k+1) X.A)(c:Gl X x)(d:X.mg x=some (.ref C))(g:aC X.K fd ps ds)(i:aB dvs ds)(j:c7 CX X E)
  (a:(x==("__debug__":Str))=false:=by decide):PE X (.Call (.Name x p) [] [] pos) (Bc C sp dvs E bf):=by
 intro P s l H Q I h
 refine LM (zC I c d ?_ a)
 exact OA I.kIn M.kp (Xi (us:=[]) M F b g i j I .nil h)
end
structure ai(N P:List Str)(sc:Scope):Prop where
 kind:sc.kind= .function
 co:sc.isCoroutine=false
 gen:sc.isGenerator=false
 nd:N.Nodup
 pre:N.take P.length=P
 par:∀x∈P,sc.names.lookup x=some .local∨sc.names.lookup x=some .cell
 nofree:∀y∈sc.names,y.2≠ .free
theorem Qc{kindOf:Str->Option NameKind}:∀{b:List (Str×Value)} {m:Str->Option Value},(∀v,(x,v)∉b)->bindL kindOf b m x=m x
 | [],_,_=>rfl
 | (n,v)::r,m,h=>by
  unfold bindL
  rw[Qc λw H=>h w (Le _ H)]
  split
  ·have:x≠n:=by rintro rfl;exact h v Li
   simp [this]
  ·rfl
theorem Qd{kindOf:Str->Option NameKind}:∀{b:List (Str×Value)} {m:Str->Option Value},(∀v,(x,v)∉b)->bindC kindOf b m x=m x
 | [],_,_=>rfl
 | (n,v)::r,m,h=>by
  unfold bindC
  rw[Qd λw H=>h w (Le _ H)]
  split
  ·rfl
  ·have:x≠n:=by rintro rfl;exact h v Li
   simp [this]
theorem Qe{kindOf:Str->Option NameKind}:∀{P:List Str} {V:List Value} {i:Nat} {m:Str->Option Value},P.Nodup->P[i]?=some x->V[i]?=some v->kindOf x=some .local->
  bindL kindOf (P.zip V) m x=some v
 | [],_,_,_,_,h,_,_=>by simp at h
 |_::_,[],_,_,_,_,h,_=>by simp at h
 |p::P,w::V,0,m,n,H,a,b=>by
  simp at H a;subst H;subst a
  show bindL kindOf ((p,w)::P.zip V) m p=_
  unfold bindL
  rw[Qc λv c=>(List.nodup_cons.mp n).1 (Oj c).1,IU b]
  simp
 |p::P,w::V,i+1,m,n,H,a,b=>by
  show bindL kindOf ((p,w)::P.zip V) m x=_
  unfold bindL
  exact Qe (i:=i) (List.nodup_cons.mp n).2 (by simpa using H) (by simpa using a) b
theorem Qg{kindOf:Str->Option NameKind}:∀{P:List Str} {V:List Value} {i:Nat} {m:Str->Option Value},P.Nodup->P[i]?=some x->V[i]?=some v->kindOf x≠some .local->
  bindC kindOf (P.zip V) m x=some v
 | [],_,_,_,_,h,_,_=>by simp at h
 |_::_,[],_,_,_,_,h,_=>by simp at h
 |p::P,w::V,0,m,n,H,a,b=>by
  simp at H a;subst H;subst a
  show bindC kindOf ((p,w)::P.zip V) m p=_
  unfold bindC
  rw[Qd λv c=>(List.nodup_cons.mp n).1 (Oj c).1,IX b]
  simp
 |p::P,w::V,i+1,m,n,H,a,b=>by
  show bindC kindOf ((p,w)::P.zip V) m x=_
  unfold bindC
  exact Qg (i:=i) (List.nodup_cons.mp n).2 (by simpa using H) (by simpa using a) b
noncomputable def gB(N:List Str)(v:List V):St:=v.map some++List.replicate (N.length - v.length) none
noncomputable def fV(C:oK)(P:Program)(w:World)(K:Frag)(mg:Str->Option Value)(base:Heap)(N:List Str)(q:Str)(S:Scope)(f:Addr)(c:Value)(A:Around)(outer:List Env)(s:Shared)(H:Hp)(E:XK):Cx where
 prog:=P
 w:=w
 K:=K
 mg:=mg
 base:=base
 A:=A.deeper (envOfC q S s.heap.objs.size f c)
 N:=N
 s₀:=s
 H₀:=H
 env:=envOfC q S s.heap.objs.size f c
 outer:=outer
 stack:=envOfC q S s.heap.objs.size f c::outer
 ex:=[]
 calm:=true
 fn:=λ_=>true
 pn:=[]
 xe:=λe b=>wpAny (model P w) (A.deeper (envOfC q S s.heap.objs.size f c)) (leaving (envOfC q S s.heap.objs.size f c) e) (λ_ a=>C outer H s E e a) (λd a=>C outer H s E d a) b
theorem Xj{s:Scope}{n:Nat}(h:s.names.lookup x=some .cell):∃c,(cellsFrom n s.names []).lookup x=some c:=by
 have q:=PySem.W.cellsFrom_some s.names n [] (.inl h)
 exact Option.isSome_iff_exists.mp q
theorem ZQ{P:Program}{K:Frag}{A:Around}{l:List V}
  (S:ai N t d) (O:A.handled=none) (j:nj P w K M B A o s H) (hl:l.length=t.length) (r:aB l U)
  (x:InCallC s s.heap.objs.size (bindL (envOfC Q d s.heap.objs.size f I).kindOf (t.zip U) λ_=>none) (cellsFrom (s.heap.objs.size+1) d.names []) (bindC (envOfC Q d s.heap.objs.size f I).kindOf (t.zip U) λ_=>none) T):
  aq (fV Y P w K M B N Q d f I A o s H E) [] (gB N l) H T:=by
 have R:t.length<=N.length:=by have:=LY List.length S.pre;rw[Lo]at this;omega
 obtain⟨F,tk,rfl,J⟩:=x.done
 have m:∀b:Addr,b∉(fV Y P w K M B N Q d f I A o s H E).ex:=λb z=>absurd (show b∈([]:List Addr) from z) Po
 refine#[#[j.mod,S.kind,Z,Z,IK _,λy z c F g=>?_,λy hy=>?_,λy c _ h=>?_,λ_=>O,Around.frames_deeper j.frames,.inr #[Z,Z],λb z=>absurd z (m b),j.bs,j.bsz,λb _ _=>m b,λb z=>absurd z (m b),j.funs,j.frf],
  rfl,j.bare,Un.kept J,#[_,x.toInCall.ns,λi y v F g h3=>?_],λy c h=>#[_,x.cell y c h],j.hok.fresh (IK _),λy c h=>?_,λp C=>absurd (show p∈([]:List (Addr×Obj)) from C) Po,j.hok.kept J,?_]
 ·exact name_of_addr x.apart (Mq F) (Mq g)
 ·have hy:d.names.lookup y=some .cell∨d.names.lookup y=some .free:=hy
  rcases hy with hy |hy
  ·exact Xj hy
  ·exact absurd Z (S.nofree _ (Mq hy))
 ·exact MG (x.above y c (Mq h))
 ·have G:i < l.length:=by
   unfold gB at g
   by_cases G:i < l.length
   ·exact G
   ·rw[NG (by simpa using G)]at g
    rw[Pl]at g
    split at g<;>cases g
  have W:l[i]?=some v:=by
   unfold gB at g
   rw[NJ (by simpa using G),Lc]at g
   cases e:l[i]? with
   |none=>rw[e]at g;cases g
   |some a=>rw[e]at g;cases g;rfl
  obtain⟨u,L,X⟩:=r.get W
  have C:t[i]?=some y:=by
   rw[<- S.pre,List.getElem?_take_of_lt Pn];exact F
  have D:t.Nodup:=by rw[<- S.pre];exact S.nd.sublist (List.take_sublist _ _)
  refine#[u,X,?_]
  rcases S.par y (Lb C) with k |k
  ·exact .inl #[k,Qe D C L k]
  ·obtain⟨c,e⟩:=Xj (n:=s.heap.objs.size+1) k
   refine .inr #[.inl k,c,e,?_]
   have q:=x.cell y c e
   rw[Qg D C L (by show d.names.lookup y≠_;rw[k];decide)]at q
   exact q
 ·exact j.hok.fresh (MG (x.above y c (Mq h)))
 ·unfold gB
  show _=N.length
  rw[IL,IJ,Oq]
  omega
theorem AJ{P:Program}{K:Frag}{kV:Value}
    {G:Sp} (lk:K.lookup f=some #[oc,od,.func (fnOf name c p h a dV kV L pm an C ct),o1]) (M:codeIn K C c=true) (S:ai N T a)
  (len:∀d H Q E,G d H Q E->d.length=T.length)
  (j:∀(A:Around) (O:List Env) (s:Shared) (H:Hp) (d:List V) (Q:VK) (E:XK),bq k (A.deeper (envOfC c a s.heap.objs.size f C))->G d H Q E->
   ∃t,mh (fV U P w K Y B N c a f C A O s H E) h t/\t { nx:=λ_ i=>Q .non i,rt:=Q } (gB N d) H):
  af P w K Y B U (k+1) f (fnOf name c p h a dV kV L pm an C ct) T G:=by
 refine#[len,λA O s H a0 us d Q E R z hb r D=>?_]
 have hl:=len _ _ _ _ D
 have KX:K.In s.heap:=z.mod.kin.keeps λb o e=>(z.bs b o e).1
 have X:s.heap.NoLimit:=z.mod.nolimit.keeps λb o e=>(z.bs b o e).1
 have l:∀y∈T.zip us,a.names.lookup y.1=some .local∨(a.names.lookup y.1=some .cell/\((cellsFrom (s.heap.objs.size+1) a.names []).lookup y.1).isSome=true):=λ#[n,v] hy=>by
  rcases S.par n (Oj hy).1 with q |q
  ·exact .inl q
  ·exact .inr #[q,PySem.W.cellsFrom_some _ _ _ (.inl q)]
 refine codeAny_call_function R.depth (KX _ _ lk) Z S.co S.gen Z (PySem.W.codeRec_of KX M) (hb _ _ _ _ ?_)
 refine wpAny_newFunctionEnv_cells S.kind l λe1 he s1 x=>?_
 subst he
 refine#[X.keeps x.toInCall.keep,codeAny_func ?_]
 obtain⟨t,ht,hq⟩:=j A O s H d Q E (R.deeper _) D
 have I:aq (fV U P w K Y B N c a f C A O s H E) [] (gB N d) H s1:=ZQ S R.hd z hl r x
 refine LS (ht [] s1 (gB N d) H _ I hq) (λfl s' m=>?_) λe s' m=>m
 have F:∀{g:St} {i:Hp} {v:V} {u:Value},aq (fV U P w K Y B N c a f C A O s H E) [] g i s'->aD v u->Q v i->CE O P w H s Q u s':=
  λ{g i v u} J rv q=>#[v,i,J.os,J.bare,J.base,J.hok,rv,q]
 cases fl with
 |ret u=>
  obtain⟨v,g,i,J,rv,q⟩:=m
  exact F J rv q
 |next=>
  obtain⟨g,i,J,q⟩:=m
  exact F (v:=V.non) (u:=Value.none) J Z q
 |brk=>
  obtain⟨_,_,_,q⟩:=m
  exact False.elim q
 |cont=>
  obtain⟨_,_,_,q⟩:=m
  exact False.elim q
section
variable {X:Cx}{x:Str}{p pos:Pos}{e:Expr}{es:List Expr}{t:TA}{id T:String}{r:List V->Hp->VK->Prop}
def Ho(r:List V->Hp->VK->Prop)(t:TA):TE:=λa H Q=>t a H λv h=>r v h Q
theorem jO(d:dR X (.builtin id) r)(f:Gl X x)(g:X.mg x=none)(i:bootBuiltins x=some (.builtin id))(j:PA X (e::es) t)(k:x≠"__name__":=by decide)(a:(x==("__debug__":Str))=false:=by decide)
  (l:starEach (e::es) X.env=(false,eval e X.env)::starEach es X.env:=by rfl) (b:(backTo pos (starEach es X.env)).any (·.1)=false:=by rfl):PE X (.Call (.Name x p) (e::es) [] pos) (Ho r t):=by
 intro P s c H Q I h
 refine LM (zp I f g i ?_ k a)
 exact PyProof.Rows.callWith_builtin1 (aU (j pos P s c H _ I h) λu S #[v,m,n,R,q]=>d P S c m v u Q n R q) l b
theorem jP(d:dR X (.type T) r)(f:Gl X x)(g:X.mg x=none)(i:bootBuiltins x=some (.type T))(j:PA X (e::es) t)(k:x≠"__name__":=by decide)(a:(x==("__debug__":Str))=false:=by decide)
  (l:starEach (e::es) X.env=(false,eval e X.env)::starEach es X.env:=by rfl) (b:(backTo pos (starEach es X.env)).any (·.1)=false:=by rfl):PE X (.Call (.Name x p) (e::es) [] pos) (Ho r t):=by
 intro P s c H Q I h
 refine LM (zp I f g i ?_ k a)
 exact Lx (aU (j pos P s c H _ I h) λu S #[v,m,n,R,q]=>d P S c m v u Q n R q) l b
end
end _L
namespace HT
open PySem PyProof.Rows
section
variable {prog:Program}{w:World}{A:Around}{E:Value->Shared->Prop}{s:Shared}
theorem cat_tup{v W:List Value}{Q:Value->Shared->Prop}(m:IsTup s.heap t v.toArray)(o:IsTup s.heap b W.toArray)(i:v≠[])
  (p:W=[]->Q (.ref t) s) (q:W≠[]->Q (.ref s.heap.objs.size) { s with heap:=s.heap.push { cls:=.type "tuple",data:=.seq (v++W).toArray } })
  (g:v.length+W.length<=sizeLine):wpAny (model prog w) A (binaryOp .Add (.ref t) (.ref b)) Q E s:=by
 obtain⟨⟨cls,D,data,j⟩,c,k,n,l⟩:=id m
 obtain⟨⟨C,d,data2,S⟩,h,H,N,a⟩:=id o
 simp only at k l H a
 subst k l H a
 have e:v.toArray++W.toArray=(v++W).toArray:=by simp
 by_cases f:W=[]
 ·exact concat_meets #[_,c,Z] #[_,h,Z] O9 seq_tuple_add N8 NY (NP _ _)
   (tuple_addW1 t b v.toArray W.toArray n N D d j S (by simpa using i) (by simp [f])) #[c,h,p f]
 ·refine concat_meets #[_,c,Z] #[_,h,Z] O9 seq_tuple_add N8 NY (NP _ _)
   (tuple_addW2 t b v.toArray W.toArray n N D d j S (by simpa using i) (by simpa using f) (by rw[IN,IN];exact g)) #[c,h,?_]
  rw[e]
  exact q f
noncomputable def sIx(n d:Nat):Option Int->Nat
 |none=>d
 |some v=>if v < 0 then (v+(n:Int)).toNat else min v.toNat n
theorem sIx_none(n d:Nat):sIx n d none=d:=rfl
theorem sIx_nat(n d k:Nat):sIx n d (some (k:Int))=min k n:=by
 show(if (k:Int) < 0 then ((k:Int)+(n:Int)).toNat else min (k:Int).toNat n)=min k n
 rw[IX Pn,Md]
theorem Dm(n d:Nat)(H:d<=n)(o:Option Int):sIx n d o<=n:=by
 cases o with
 |none=>exact H
 |some v=>
  show(if v < 0 then (v+(n:Int)).toNat else min v.toNat n)<=n
  by_cases h:v < 0
  ·rw[IU h];omega
  ·rw[IX h];exact Nat.min_le_right _ _
theorem Y9(v:Int)(n d:Nat):(if v < 0 then max (v+(n:Int)) 0 else min v (n:Int))=((sIx n d (some v):Nat):Int):=by
 show(if v < 0 then max (v+(n:Int)) 0 else min v (n:Int))=(((if v < 0 then (v+(n:Int)).toNat else min v.toNat n):Nat):Int)
 by_cases h:v < 0
 ·simp only[IU h];omega
 ·simp only[IX h];omega
theorem Yt(lo h:Option Int)(n:Nat):Builtin.Slice.sliceAdjust lo h 1 (n:Int)=(((sIx n 0 lo:Nat):Int),((sIx n n h:Nat):Int)):=by
 have H:¬((1:Int) < 0):=by omega
 unfold Builtin.Slice.sliceAdjust
 simp only[H,Mj]
 refine Prod.ext ?_ ?_
 ·cases lo with
  |none=>rfl
  |some v=>exact Y9 v n 0
 ·cases h with
  |none=>rfl
  |some v=>exact Y9 v n n
theorem Yu(i j:Nat):Builtin.Slice.slicePlaces (i:Int) (j:Int) 1=j - i:=by
 unfold Builtin.Slice.slicePlaces
 have h:(1:Int) > 0:=by omega
 simp only[h,NK,Int.ediv_one]
 split<;>omega
theorem Kz{Q:Option Int->Shared->Prop}(p:IsPart v o)(h:Q o s):wpAny (model prog w) A (Builtin.Slice.slicePartIndex v) Q E s:=by
 cases p with
 |none=>exact slicePart_none h
 |int i t=>exact slicePart_int h
theorem sliceApplied_gen{lo:Option Int}{Q:Int×Int×Nat->Shared->Prop}(d:s.heap.IsSliceOf e v c .none)(p:IsPart v lo)(P:IsPart c b)
  (h:Q (((sIx n 0 lo:Nat):Int),1,sIx n n b - sIx n 0 lo) s):wpAny (model prog w) A (Builtin.Slice.sliceApplied (.ref e) (pure (n:Int))) Q E s:=by
 obtain⟨os,H,f,a⟩:=id d
 unfold Builtin.Slice.sliceApplied Builtin.Slice.sliceFields
 refine IF (IF (Lk H a (x:=v) Z (IF (Lk H a (x:=c) Z (IF (Lk H a (x:=.none) Z (II ?_)))))))
 refine IF (slicePart_none ?_)
 show wpAny _ _ (if ((1:Int)==0)=true then _ else _) _ _ s
 rw[IX Pm]
 refine IF (Kz p (IF (Kz P (IF (II ?_)))))
 show wpAny _ _ (match Builtin.Slice.sliceAdjust lo b 1 (n:Int) with | (lo,b)=>pure (lo,(1:Int),Builtin.Slice.slicePlaces lo b 1)) _ _ s
 rw[Yt lo b n]
 show wpAny _ _ (pure (((sIx n 0 lo:Nat):Int),(1:Int),Builtin.Slice.slicePlaces ((sIx n 0 lo:Nat):Int) ((sIx n n b:Nat):Int) 1)) _ _ s
 rw[Yu]
 exact II h
theorem ur(X:Array Value)(i k:Nat):((List.range k).filterMap λ(m:Nat)=>X[((i:Int)+(m:Int)*1).toNat]?).toArray=((X.toList.drop i).take k).toArray:=by
 have e:(λ(m:Nat)=>X[((i:Int)+(m:Int)*1).toNat]?)=λm=>X[i+m]?:=by
  funext m
  have:((i:Int)+(m:Int)*1).toNat=i+m:=by omega
  rw[this]
 rw[e]
 have:=pick_run X i k
 rw[List.filterMap_map]at this
 have a:((λx=>X[x]?) ∘ λx=>i+x)=λm=>X[i+m]?:=rfl
 rw[a]at this
 rw[this]
theorem getItem_tuple_cut{lo:Option Int}{Q:Value->Shared->Prop}(ht:IsTup s.heap t items)(hs:s.heap.IsSliceOf sl vl vu .none)(pl:IsPart vl lo)(pu:IsPart vu hi)
  (hw:¬(sIx items.size 0 lo=0/\sIx items.size items.size hi=items.size))
  (h:Q (.ref s.heap.objs.size) { s with heap:=s.heap.push { cls:=.type "tuple",data:=.seq ((items.toList.drop (sIx items.size 0 lo)).take (sIx items.size items.size hi - sIx items.size 0 lo)).toArray } })
  (hsz:items.size<=sizeLine):wpAny (model prog w) A (getItem (.ref t) (.ref sl)) Q E s:=by
 have htake:sizeOk (.seq ((items.toList.drop (sIx items.size 0 lo)).take (sIx items.size items.size hi - sIx items.size 0 lo)).toArray):=by
  show((items.toList.drop (sIx items.size 0 lo)).take (sIx items.size items.size hi - sIx items.size 0 lo)).toArray.size<=sizeLine
  rw[IN,Lo,Mm,Ld]
  omega
 have hj:sIx items.size items.size hi<=items.size:=Dm _ _ (IK _) hi
 obtain⟨os,hos,hcs,hds⟩:=id hs
 have hTs:s.TypeIs (.ref sl) "slice":=#[os,hos,hcs]
 unfold getItem
 try with_reducible refine Lj ?_
 first |refine IF (II ?_) |skip
 refine IF (wpAny_sequenceKey ht.typeIs Pm ?_)
 refine IF (Lw (name:=Str.ofString "__getitem__") ht.typeIs ML
  (Ls ML ht.typeIs entry_tuple_getitem ?_ (args_tuple_getitem _ _)))
 show wpAny _ _ (Builtin.Tuple.tupleItemsOf (.ref t) >>= _) _ _ s
 refine IF (tupleItemsOf_ ht ?_)
 refine IF (MV hTs ?_)
 rw[IU Pm]
 refine IF (sliceApplied_gen hs pl pu ?_)
 have hno:¬((((sIx items.size 0 lo:Nat):Int)==0&&(1:Int)==1&&(sIx items.size items.size hi - sIx items.size 0 lo)==items.size)=true):=by
  intro q
  rw[L9,L9]at q
  have q1:((sIx items.size 0 lo:Nat):Int)=0:=eq_of_beq q.1.1
  have q2:sIx items.size items.size hi - sIx items.size 0 lo=items.size:=eq_of_beq q.2
  exact hw #[Pn,Pn]
 show wpAny _ _ (if (((sIx items.size 0 lo:Nat):Int)==0&&(1:Int)==1&&(sIx items.size items.size hi - sIx items.size 0 lo)==items.size)=true then _ else _) _ _ s
 rw[IX hno,ur]
 first
  |exact IF (m:=Builtin.Tuple.tupleExact _) (Lv (II #[_,Z,II h]) htake)
  |exact IF (m:=Builtin.Tuple.tupleExact _) (Lv (IF (II (II #[_,Z,II h]))) htake)
  |exact IF (IF (m:=Builtin.Tuple.tupleExact _) (Lv (II (II #[_,Z,II h])) htake))
  |exact IF (IF (m:=Builtin.Tuple.tupleExact _) (Lv (II #[_,Z,II h]) htake))
end
end HT
namespace _L
open PySem PySem.Spec PyProof.Rows
abbrev TO:=St->Hp->(Option Int->Hp->Prop)->Prop
def PO(X:Cx)(e:Option Expr)(t:TO):Prop:=
 ∀(p:List (Addr×Obj)) (s:Shared) (a:St) (H:Hp) (Q:Option Int->Hp->Prop),aq X p a H s->t a H Q->
  wpAny (model X.prog X.w) X.A (evalPart e X.env) (λu S=>∃o h,aq X p a h S/\IsPart u o/\Q o h) X.xe s
def lY:TO:=λ_ H Q=>Q none H
inductive vQ(Q:Option Int->Hp->Prop)(x:V)(a:Hp):Prop
 |mk(i:_)(_:x= .int i)(_:Q (some i) a)
def vP(t:TE):TO:=λa H Q=>t a H (vQ Q)
section
variable {X:Cx}{e:Expr}{te:TE}{lo hi:Option Expr}{tl th:TO}{pos p2:Pos}
theorem jR:PO X none lY:=by
 intro p s a H Q I h
 rw[evalPart_none]
 exact II #[none,H,I,.none,h]
theorem jN(h:PE X e te):PO X (some e) (vP te):=by
 intro p s a H Q I b
 rw[evalPart_some]
 refine aU (h p s a H _ I b) λu S z=>?_
 obtain⟨x,c,d,r,f⟩:=z
 obtain⟨i,rfl,q⟩:=f
 obtain⟨t,rfl⟩:=r
 exact#[some i,c,d,.int i t,q]
def Gc(X:Cx)(r:V->Option Int->Option Int->Hp->VK->Prop):Prop:=
 ∀(p:List (Addr×Obj)) (s:Shared) (a:St) (H:Hp) (x:V) (v b c:Value) (lo hi:Option Int) (S:Addr) (Q:VK),aq X p a H s->aD x v->s.heap.IsSliceOf S b c .none->IsPart b lo->IsPart c hi->r x lo hi H Q->
  ∃T id,typeLookup (.type T) "__getitem__"=pure (some (.builtin id))/\s.TypeIs v T/\wpAny (model X.prog X.w) X.A (getItem v (.ref S)) (EP X p a Q) X.xe s
def Hu(r:V->Option Int->Option Int->Hp->VK->Prop)(te:TE)(tl th:TO):TE:=λa H Q=>te a H λx h=>tl a h λl b=>th a b λu c=>r x l u c Q
theorem jK{r:V->Option Int->Option Int->Hp->VK->Prop}(g:Gc X r)(i:PE X e te)(j:PO X lo tl)(k:PO X hi th):PE X (.Subscript e (.Slice lo hi none p2) pos) (Hu r te tl th):=by
 intro p s a H Q I h
 refine Subscript_ (aU (i p s a H _ I h) λv m z=>?_)
 obtain⟨x,n,o,R,t⟩:=z
 refine wpAny_Slice (aU (j p m a n _ o t) λc y #[l,B,C,P,D]=>aU (k p y a B _ C D) λd S z=>?_)
 obtain⟨u,f,E,F,G⟩:=z
 rw[evalPart_none]
 refine II ?_
 have J:aq X p a f { S with heap:=S.heap.push { cls:=.type "slice",data:=.fields (List.toArray [c,d,.none]) } }:=E.kept (t':=S.toks) λb O q=>IH _ q
 obtain⟨T,id,K,L,M⟩:=g p { S with heap:=S.heap.push { cls:=.type "slice",data:=.fields (List.toArray [c,d,.none]) } } a f x v c d l u S.heap.objs.size Q J R (Heap.IsSliceOf.new ..) P F G
 show wpAny (model X.prog X.w) X.A (subscriptTail e (.Slice lo hi none p2) v (.ref S.heap.objs.size)) (EP X p a Q) X.xe { S with heap:=S.heap.push { cls:=.type "slice",data:=.fields (List.toArray [c,d,.none]) } }
 exact tail_any (ops:=[.ref S.heap.objs.size,v]) L K M (by with_unfolding_all rfl)
noncomputable def cy(x:List V)(lo hi:Option Int):List V:=(x.drop (HT.sIx x.length 0 lo)).take (HT.sIx x.length x.length hi - HT.sIx x.length 0 lo)
theorem JA(x:List V)(lo hi:Option Int):(cy x lo hi).length<=x.length:=by
 unfold cy
 rw[Lo,Mm]
 omega
inductive Fg(K:Frag)(x:V)(c b:Option Int)(H:Hp)(Q:VK):Prop
 |mk(a d:_)(_:x= .ref a)(_:aA K H a d)(_:¬(HT.sIx d.length 0 c=0/\HT.sIx d.length d.length b=d.length))(_:∀p,H p=none->Q (.ref p) (ah H p (.tup (cy d c b))))
theorem DB:Gc X (Fg X.K):=by
 intro p s n H x v V t lo hi S Q I R j P k h
 obtain⟨a,d,rfl,l,m,q⟩:=h
 cases R
 obtain⟨i,r,f,g⟩:=I.tuple l
 have c:i.toArray.size=d.length:=by rw[IN];exact r.length.symm
 refine#["tuple",_,PyProof.Rows.slot_tuple_getitem.lookup,f.typeIs,?_]
 refine HT.getItem_tuple_cut f j P k (by rw[c];exact m) ?_ (by rw[c];exact g)
 rw[c]
 refine#[.ref s.heap.objs.size,_,I.laid (t':=s.toks) (o:=.tup (cy d lo hi)) (λb O q=>IH _ q) (IK _) ?_,Z,q _ (I.hok.fresh (IK _))]
 exact#[IZ (JA d lo hi) g,_,(r.drop (HT.sIx d.length 0 lo)).take (HT.sIx d.length d.length hi - HT.sIx d.length 0 lo),IsTup.new _ _]
inductive AX(K:Frag)(x y:V)(H:Hp)(Q:VK):Prop
 |mk(a b c d:_)(_:x= .ref a)(_:y= .ref b)(_:aA K H a c)(_:aA K H b d)(_:c≠[])(_:c.length+d.length<=sizeLine)(_:d=[]->Q (.ref a) H)(_:d≠[]->∀p,H p=none->Q (.ref p) (ah H p (.tup (c++d))))
theorem aB.nil_iff(r:aB x u):u=[]↔x=[]:=by
 cases r with
 |nil=>simp
 |cons _ _=>simp
theorem yl:eU X (binaryOp .Add) (AX X.K):=by
 intro p s A H x y v u Q I d f h
 obtain⟨a,b,g,Y,rfl,rfl,j,k,l,c,m,n⟩:=h
 cases d
 cases f
 obtain⟨t,R,P,_⟩:=I.tuple j
 obtain⟨i,r,p2,_⟩:=I.tuple k
 refine HT.cat_tup P p2 (λz=>l (R.nil_iff.mp z)) (λz=>#[.ref a,H,I,Z,m (r.nil_iff.mp z)]) (λz=>?_) (by rw[<- R.length,<- r.length];exact c)
 refine#[.ref s.heap.objs.size,_,I.laid (t':=s.toks) (o:=.tup (g++Y)) (λb O q=>IH _ q) (IK _) ?_,Z,n (λw=>z (r.nil_iff.mpr w)) _ (I.hok.fresh (IK _))]
 exact#[by rw[IL];exact c,_,R.append r,IsTup.new _ _]
end
noncomputable def xF(n:Nat)(i:Int):Option Nat:=if 0<=i then (if i < n then some i.toNat else none) else if -(n:Int)<=i then some (i+n).toNat else none
noncomputable def fz{a:Type}(x:List a)(i:Int):Option a:=(xF x.length i).bind λj=>x[j]?
theorem Za(h:xF n i=some j):seqIndex? i n=some j/\j < n/\ -(n:Int)<=i/\i < n:=by
 unfold xF at h
 by_cases a:0<=i
 ·rw[IU a]at h
  by_cases H:i < n
  ·rw[IU H]at h
   have e:i.toNat=j:=LB h
   exact#[by rw[seqIndex_of a H,e],Pn,Pn,H]
  ·rw[IX H]at h;cases h
 ·rw[IX a]at h
  by_cases H: -(n:Int)<=i
  ·rw[IU H]at h
   have e:(i+n).toNat=j:=LB h
   exact#[by rw[seqIndex_neg Pn H,e],Pn,H,Pn]
  ·rw[IX H]at h;cases h
theorem QP{a:Type}{x:List a}{v:a}(h:fz x i=some v):∃j,seqIndex? i x.length=some j/\x[j]?=some v/\j < x.length/\ -(x.length:Int)<=i/\i < x.length:=by
 unfold fz at h
 cases e:xF x.length i with
 |none=>rw[e]at h;cases h
 |some j=>
  rw[e]at h
  obtain⟨H,b,c,d⟩:=Za e
  exact#[j,H,h,b,c,d]
theorem jH{a:Type}{x:List a}{j:Nat}{v:a}(h:x[j]?=some v):fz x (j:Int)=some v:=by
 have H:j < x.length:=(List.getElem?_eq_some_iff.mp h).1
 have e:xF x.length (j:Int)=some j:=by
  unfold xF
  rw[IU Pn,IU Pn];simp
 unfold fz;rw[e];exact h
def wM(b:Expr):Prop:=∀o i,subscripted b false o i=operate [o,i] (getItem o i)
def Ed(X:Cx)(r:R2):Prop:=
 ∀(a S:Expr) (p:List (Addr×Obj)) (s:Shared) (b:St) (H:Hp) (x y:V) (v u:Value) (Q:VK),aq X p b H s->aD x v->aD y u->r x y H Q->
  subscripted S false v u=operate [v,u] (getItem v u)->wpAny (model X.prog X.w) X.A (subscriptTail a S v u) (EP X p b Q) X.xe s
def Gv(X:Cx)(id:String)(r:V->List V->Hp->VK->Prop):Prop:=
 ∀(p:List (Addr×Obj)) (s:Shared) (a:St) (H:Hp) (x:V) (b:List V) (v:Value) (u:List Value) (Q:VK),aq X p a H s->aD x v->aB b u->r x b H Q->
  wpAny (model X.prog X.w) X.A (call (.builtin id) (v::u)) (EP X p a Q) X.xe s
section
variable {X:Cx}{a b:Expr}{ta tb:TE}{pos:Pos}
theorem jv{r:R2}(c:Ed X r)(d:PE X a ta)(e:PE X b tb)(f:wM b):PE X (.Subscript a b pos) (gE r ta tb):=by
 intro p s g H Q I h
 exact Subscript_ (Bq d e I h λv u S x y i j R k q=>c a b p S g i x y v u Q j R k q (f _ _))
inductive pK(K:Frag)(x y:V)(H:Hp)(Q:VK):Prop
 |mk(p a i v:_)(_:x= .ref p)(_:y= .int i)(_:aJ K H p a)(_:fz a i=some v)(_:Q v H)
inductive bZ(K:Frag)(x y:V)(H:Hp)(Q:VK):Prop
 |mk(p a i v:_)(_:x= .ref p)(_:y= .int i)(_:aA K H p a)(_:fz a i=some v)(_:Q v H)
inductive yw(x y:V)(H:Hp)(Q:VK):Prop
 |mk(z i c:_)(_:x= .str z)(_:y= .int i)(_:z.length<=sizeLine)(_:fz z.cps.toList i=some c)(_:Q (.str #[(List.toArray [c])]) H)
theorem jG:Ed X (pK X.K):=by
 intro V S P s k H x y v u Q I n o h l
 obtain⟨p,L,i,z,rfl,rfl,A,B,q⟩:=h
 cases n
 obtain⟨t,rfl⟩:=o
 obtain⟨d,r,e,M⟩:=I.list A
 obtain⟨j,c,C,N,D,F⟩:=QP B
 obtain⟨w,E,R⟩:=r.get C
 have G:=r.length
 have O:=eK
 have f:EP X P k Q w s:=#[z,H,I,R,q]
 by_cases m:0<=i
 ·have g:i.toNat=j:=by
   rw[seqIndex_of m F]at c
   exact LB c
  exact item_listR e.isList m Pn (by rw[g];simpa using E) f l
 ·have g:(i+(d.toArray.size:Int)).toNat=j:=by
   rw[seqIndex_neg Pn D]at c
   rw[IN,<- G]
   exact LB c
  exact subscriptTail_builtinR (x:=w) e.isList.typeIs slot_list_getitem.lookup
   (wpAny_getItem_list_neg (Q:=λr J=>r=w/\EP X P k Q r J) e.isList Pn (by rw[IN]<;>omega) Pn (by rw[g];simpa using E) #[Z,f]) l
theorem jE:Ed X (bZ X.K):=by
 intro V S P s c H x y v u Q I e g h k
 obtain⟨p,D,i,z,rfl,rfl,l,m,q⟩:=h
 cases e
 obtain⟨t,rfl⟩:=g
 obtain⟨n,r,d,F⟩:=I.tuple l
 obtain⟨j,o,A,G,J,L⟩:=QP m
 obtain⟨w,E,R⟩:=r.get A
 have B:=r.length
 have M:=eK
 have f:EP X P c Q w s:=#[z,H,I,R,q]
 exact subscriptTail_builtinR (x:=w) d.typeIs slot_tuple_getitem.lookup
  (getItem_tuple (j:=j) (Q:=λr C=>r=w/\EP X P c Q r C) d Pn Pn (by rw[IN,<- B];exact o) (by simpa using E) #[Z,f]) k
theorem Kg:Ed X yw:=by
 intro V S p s o H x y v u Q I r R h e
 obtain⟨z,i,c,rfl,rfl,w,f,q⟩:=h
 obtain⟨t,rfl⟩:=r
 obtain⟨T,rfl⟩:=R
 obtain⟨j,d,g,A,k,l⟩:=QP f
 have m:z.cps.toList.length=z.length:=by simp [Str.length]
 rw[m]at d k l
 have B:=eK
 exact tail_any (typeIs_str s z t) slot_str_getitem.lookup (getItem_str (c:=c) (by
  have E:decide (i < -(2 ^ 63:Int))=false:=IQ Pn
  have n:decide (i≥2 ^ 63)=false:=IQ Pn
  rw[E,n,Pf]) (by rw[d];simpa using g) #[.str #[(List.toArray [c])],H,I.tok _,#[_,Z],q]) e
theorem Yv(i:List Value)(n j:Nat)(u:Value):Obj.mapSeq (·.setIfInBounds j u) { cls:=.type "list",data:=.seq i.toArray n }={ cls:=.type "list",data:=.seq (i.set j u).toArray n }:=by
 simp [Obj.mapSeq]
theorem aq.lst(I:aq X c d H s)(h:H p=some (.lst x)):
  ∃(i:List Value) (n:Nat),aB x i/\s.heap.get? p=some { cls:=.type "list",data:=.seq i.toArray n }/\x.length<=sizeLine:=by
 obtain⟨z,i,n,r,e⟩:=I.hok p _ h
 exact#[i,n,r,e,z]
theorem aq.lstUpd{c i:List Value}{f:Obj->Obj}(I:aq X d j H s)(h:H p=some (.lst o))
  (k:s.heap.get? p=some { cls:=.type "list",data:=.seq c.toArray n }) (g:f { cls:=.type "list",data:=.seq c.toArray n }={ cls:=.type "list",data:=.seq i.toArray N }) (r:aB y i) (l:y.length<=sizeLine) (t:Nat):
  aq X d j (ah H p (.lst y)) { s with heap:=s.heap.update p f,toks:=t }:=by
 have e:(s.heap.update p f).get? p=some { cls:=.type "list",data:=.seq i.toArray N }:=by
  rw[Heap.get?_update_self f k (by rw[g]<;>rfl),g]
 refine I.write (x:=p) (e:=p) (by rw[h];trivial) (.inl Z) (λb u m q=>(Heap.get?_update_other _ _ (Ne.symm m)).trans q) #[_,e] ?_
 exact#[l,i,N,r,e]
inductive AY(o i v:V)(H:Hp)(Q:Hp->Prop):Prop
 |mk(p a k j:_)(_:o= .ref p)(_:i= .int k)(_:H p=some (.lst a))(_:xF a.length k=some j)(_:Q (ah H p (.lst (a.set j v))))
theorem Kn:Eg X AY:=by
 intro P s z H o i v O F u Q I R A B h
 obtain⟨p,C,k,j,rfl,rfl,l,D,q⟩:=h
 cases R
 obtain⟨t,rfl⟩:=A
 obtain⟨c,n,r,e,E⟩:=I.lst l
 obtain⟨d,G,m,w⟩:=Za D
 have f:=r.length
 have J:=eK
 have x:aq X P z (ah H p (.lst (C.set j v))) { s with heap:=s.heap.update p (Obj.mapSeq (·.setIfInBounds j u)) }:=
  I.lstUpd l e (Yv c n j u) (r.set B j) (by rw[OU];exact E) s.toks
 by_cases y:0<=k
 ·have g:k.toNat=j:=by
   rw[seqIndex_of y w]at d
   exact LB d
  exact PySem.W.ki_setAt e y Pn (by rw[IN,<- f];exact w) (by rw[g];exact#[_,x,q])
 ·have g:(k+(c.toArray.size:Int)).toNat=j:=by
   rw[seqIndex_neg Pn m]at d
   rw[IN,<- f]
   exact LB d
  exact PySem.W.ki_setBack e Pn (by rw[IN,<- f];exact m) Pn (by rw[g];exact#[_,x,q])
theorem Q0(lo H:Option Int)(n:Nat):(sliceBounds lo H none n).1=((HT.sIx n 0 lo:Nat):Int)/\(sliceBounds lo H none n).2.1=((HT.sIx n n H:Nat):Int)/\(sliceBounds lo H none n).2.2=1:=by
 refine#[?_,?_,Z]
 ·cases lo with
  |none=>simp [sliceBounds,HT.sIx]
  |some i=>
   simp only[sliceBounds,HT.sIx,Option.getD_none,show(1:Int) > 0 by decide,NK]
   by_cases h:i < 0
   ·simp only[h,NK]<;>omega
   ·simp only[h,Mj]<;>omega
 ·cases H with
  |none=>simp [sliceBounds,HT.sIx]
  |some i=>
   simp only[sliceBounds,HT.sIx,Option.getD_none,show(1:Int) > 0 by decide,NK]
   by_cases h:i < 0
   ·simp only[h,NK]<;>omega
   ·simp only[h,Mj]<;>omega
theorem KQ(i:List Value)(lo h:Option Int):slicePick i.toArray lo h none=((i.drop (HT.sIx i.length 0 lo)).take (HT.sIx i.length i.length h - HT.sIx i.length 0 lo)).toArray:=by
 obtain⟨H,c,d⟩:=Q0 lo h i.toArray.size
 unfold slicePick
 rw[H,c,d]
 simp only[sliceRange_one,pick_run,IN]<;>rfl
inductive Dg(K:Frag)(x:V)(c b:Option Int)(H:Hp)(Q:VK):Prop
 |mk(a d:_)(_:x= .ref a)(_:aJ K H a d)(_:∀p,H p=none->Q (.ref p) (ah H p (.lst (cy d c b))))
theorem qN:Gc X (Dg X.K):=by
 intro p s m H x v V n lo e S Q I R g P i h
 obtain⟨a,c,rfl,j,q⟩:=h
 cases R
 obtain⟨k,r,f,l⟩:=I.list j
 have d:=r.length
 refine#["list",_,slot_list_getitem.lookup,f.isList.typeIs,?_]
 refine wpAny_getItem_list_slice f.isList g P i .none Po ?_ (by rw[IN]<;>omega)
 rw[KQ,<- d]
 refine#[.ref s.heap.objs.size,_,I.laid (t':=s.toks) (o:=.lst (cy c lo e)) (λb O q=>IH _ q) (IK _) ?_,Z,q _ (I.hok.fresh (IK _))]
 exact#[IZ (JA c lo e) l,_,0,(r.drop (HT.sIx c.length 0 lo)).take (HT.sIx c.length c.length e - HT.sIx c.length 0 lo),IM _ Z]
noncomputable def cQ:V->Bool
 | .non=>true
 | .bl _=>true
 | .int _=>true
 | .str _=>true
 |_=>false
noncomputable def mZ:V->V->Bool
 | .non,.non=>true
 | .bl a,.bl b=>a==b
 | .bl a,.int b=>(if a then 1 else 0)==b
 | .int a,.bl b=>a==(if b then 1 else 0)
 | .int a,.int b=>a==b
 | .str a,.str b=>a==b
 |_,_=>false
theorem rP(R:aD y u)(r:aD x v)(F:cQ y=true)(f:cQ x=true):SeqAt.EqAt A s u v (mZ y x):=by
 cases y with
 |non=>
  cases R
  cases x with
  |non=>cases r;exact SeqAt.EqAt.same _
  |bl b=>cases r;exact SeqAt.EqAt.none_bool b
  |int b=>obtain⟨t,rfl⟩:=r;exact SeqAt.EqAt.none_int b t
  |str b=>obtain⟨t,rfl⟩:=r;exact SeqAt.EqAt.none_str b t
  |_=>exact absurd (show false=true from f) IW
 |bl a=>
  cases R
  cases x with
  |non=>cases r;exact SeqAt.EqAt.bool_none a
  |bl b=>cases r;exact SeqAt.EqAt.bool_bool a b
  |int b=>obtain⟨t,rfl⟩:=r;exact SeqAt.EqAt.bool_int a b t
  |str b=>obtain⟨t,rfl⟩:=r;exact SeqAt.EqAt.bool_str a b t
  |_=>exact absurd (show false=true from f) IW
 |int a=>
  obtain⟨T,rfl⟩:=R
  cases x with
  |non=>cases r;exact SeqAt.EqAt.int_none a T
  |bl b=>cases r;exact SeqAt.EqAt.int_bool a T b
  |int b=>obtain⟨t,rfl⟩:=r;exact SeqAt.EqAt.int_int a T b t
  |str b=>obtain⟨t,rfl⟩:=r;exact SeqAt.EqAt.int_str a T b t
  |_=>exact absurd (show false=true from f) IW
 |str a=>
  obtain⟨T,rfl⟩:=R
  cases x with
  |non=>cases r;exact SeqAt.EqAt.str_none a T
  |bl b=>cases r;exact SeqAt.EqAt.str_bool a T b
  |int b=>obtain⟨t,rfl⟩:=r;exact SeqAt.EqAt.str_int a T b t
  |str b=>obtain⟨t,rfl⟩:=r;exact SeqAt.EqAt.str_str a T b t
  |_=>exact absurd (show false=true from f) IW
 |_=>exact absurd (show false=true from F) IW
noncomputable def nE(x:V)(u:Value):Bool:=match u with
 | .none=>mZ .non x
 | .bool b=>mZ (.bl b) x
 | .int i _=>mZ (.int i) x
 | .str z _=>mZ (.str z) x
 |_=>false
theorem rS(r:aD y u)(f:cQ y=true):nE x u=mZ y x:=by
 cases y with
 |non=>cases r;rfl
 |bl b=>cases r;rfl
 |int i=>obtain⟨t,rfl⟩:=r;rfl
 |str z=>obtain⟨t,rfl⟩:=r;rfl
 |_=>exact absurd (show false=true from f) IW
theorem qO:∀{c:List V} {U:List Value},aB c U->c.all cQ=true->U.any (nE x)=c.any λy=>mZ y x
 |_,_,.nil,_=>rfl
 |y::c,u::U,.cons r t,f=>by
  rw[Pd,L9]at f
  rw[Nu,Nu,rS r f.1,qO t f.2]
theorem qj(R:aD x v)(F:cQ x=true):∀{c:List V} {U:List Value},aB c U->c.all cQ=true->∀u∈U,SeqAt.EqAt A s u v (nE x u)
 |_,_,.nil,_=>λu hu=>by cases hu
 |y::c,u::U,.cons r t,f=>λd hu=>by
  rw[Pd,L9]at f
  rcases List.mem_cons.mp hu with rfl |hu
  ·rw[rS r f.1];exact rP r R f.1 F
  ·exact qj R F t f.2 d hu
noncomputable def nV(x:V)(c:List V):Bool:=c.any λy=>mZ y x
inductive Fe(K:Frag)(a:Bool)(x y:V)(H:Hp)(Q:VK):Prop
 |mk(p b:_)(_:y= .ref p)(_:aJ K H p b∨aA K H p b)(_:cQ x=true)(_:b.all cQ=true)(_:Q (.bl (if a then !nV x b else nV x b)) H)
theorem zm:eU X (compareOp .In) (Fe X.K false):=by
 intro d s j H x y v u Q I R e h
 obtain⟨p,k,rfl,hq,F,f,q⟩:=h
 cases e
 rcases hq with hq |hq
 ·obtain⟨i,r,P,g⟩:=I.list hq
  refine SeqAt.in_listAt (nE x) P.isList (λw c=>qj R F r f w (by simpa using c)) #[.bl _,H,I,Z,?_]
  rw[show i.toArray.any (nE x)=i.any (nE x) by simp,qO r f]
  exact q
 ·obtain⟨i,r,P,g⟩:=I.tuple hq
  refine SeqAt.in_tupleAt (nE x) P (λw c=>qj R F r f w (by simpa using c)) #[.bl _,H,I,Z,?_]
  rw[show i.toArray.any (nE x)=i.any (nE x) by simp,qO r f]
  exact q
theorem Jc:eU X (compareOp .NotIn) (Fe X.K true):=by
 intro d s j H x y v u Q I R e h
 obtain⟨p,k,rfl,hq,F,f,q⟩:=h
 cases e
 rcases hq with hq |hq
 ·obtain⟨i,r,P,g⟩:=I.list hq
  refine SeqAt.notIn_listAt (nE x) P.isList (λw c=>qj R F r f w (by simpa using c)) #[.bl _,H,I,Z,?_]
  rw[show i.toArray.any (nE x)=i.any (nE x) by simp,qO r f]
  exact q
 ·obtain⟨i,r,P,g⟩:=I.tuple hq
  refine SeqAt.notIn_tupleAt (nE x) P (λw c=>qj R F r f w (by simpa using c)) #[.bl _,H,I,Z,?_]
  rw[show i.toArray.any (nE x)=i.any (nE x) by simp,qO r f]
  exact q
theorem jL:dR X (.builtin "len") (λx H Q=>∃p y,x=[.ref p]/\(aJ X.K H p y∨aA X.K H p y)/\Q (.int y.length) H):=by
 intro d s g H x U Q I r h
 obtain⟨p,y,rfl,hq,q⟩:=h
 obtain⟨u,rfl,e⟩:=eQ r
 cases e
 have j:=eK
 rcases hq with hq |hq
 ·obtain⟨i,R,P,f⟩:=I.list hq
  have c:=R.length
  exact Calls.call_len_list P.isList (by simp only[IN]<;>omega) #[.int y.length,H,I.tok _,#[s.toks+1,by rw[IN,c]],q]
 ·obtain⟨i,R,P,f⟩:=I.tuple hq
  have c:=R.length
  exact len_tuple P (by simp only[IN]<;>omega) #[.int y.length,H,I.tok _,#[s.toks+1,by rw[IN,c]],q]
theorem Jd:dR X (.type "list") (λx H Q=>∃p y,x=[.ref p]/\(aJ X.K H p y∨aA X.K H p y)/\∀l,H l=none->Q (.ref l) (ah H l (.lst y))):=by
 intro P s z H x U Q I r h
 obtain⟨p,y,rfl,hq,q⟩:=h
 obtain⟨u,rfl,A⟩:=eQ r
 cases A
 have f:∀(i:List Value),aB y i->y.length<=sizeLine->∀(c:Heap) (C:Nat),(∀b O,s.heap.get? b=some O->c.get? b=some O)->
   c.get? s.heap.objs.size=some { cls:=.type "list",dict:=none,data:=.seq i.toArray C,slots:=(List.toArray []) }->EP X P z Q (.ref s.heap.objs.size) { s with heap:=c }:=λi R d c C k e=>
  #[.ref s.heap.objs.size,_,I.laid (t':=s.toks) k (IK _) (show aL X.prog X.w _ c _ (.lst y) from #[d,i,C,R,e]),Z,q _ (I.hok.fresh (IK _))]
 rcases hq with hq |hq
 ·obtain⟨i,R,j,d⟩:=I.list hq
  have g:=R.length
  obtain⟨o,m,t,n,v⟩:=j.isList
  exact call_list_seq p (.inl Z) m t v (λc C k e=>f i R d c C k e) (by simp only[IN]<;>omega)
 ·obtain⟨i,R,j,d⟩:=I.tuple hq
  have g:=R.length
  obtain⟨o,m,t,n,v⟩:=j
  exact call_list_seq p (.inr Z) m t v (λc C k e=>f i R d c C k e) (by simp only[IN]<;>omega)
theorem jY:dR X (.type "tuple") (λx H Q=>∃p y,x=[.ref p]/\((aJ X.K H p y/\∀l,H l=none->Q (.ref l) (ah H l (.tup y)))∨(aA X.K H p y/\Q (.ref p) H))):=by
 intro P s g H x U Q I r h
 obtain⟨p,y,rfl,h⟩:=h
 obtain⟨u,rfl,n⟩:=eQ r
 cases n
 rcases h with ⟨d,q⟩ | ⟨d,q⟩
 ·obtain⟨i,R,f,j⟩:=I.list d
  have k:=R.length
  refine call_tuple_list f.isList (λc t=>?_) (by simp only[IN]<;>omega)
  have m:aq X P g H { s with heap:=c }:=I.kept (t':=s.toks) t
  have v:aq X P g (ah H c.objs.size (.tup y)) { s with heap:=c.push { cls:=.type "tuple",data:=.seq i.toArray } }:=
   m.laid (t':=s.toks) (λb o e=>IH _ e) (IK _) (show aL X.prog X.w _ _ _ (.tup y) from #[j,i,R,IsTup.new _ _])
  exact#[.ref c.objs.size,_,v,Z,q _ (m.hok.fresh (IK _))]
 ·obtain⟨i,R,f,j⟩:=I.tuple d
  exact call_tuple_same f #[.ref p,H,I,Z,q]
def Hw(K:Frag)(T:String)(x:V)(H:Hp):Prop:=match x with
 | .str _=>T="str"
 | .int _=>T="int"
 | .ref p=>(T="list"/\∃c,aJ K H p c)∨(T="tuple"/\∃o,K.lookup p=some o/\o.cls= .type "tuple"/\o.dict=none)∨
   (T="dict"/\((∃k,H p=some (.dK k))∨∃k,H p=some (.dT k)))∨(T="set"/\∃S n,H p=some (.set S n))
 |_=>False
theorem vZ(I:aq X j u H s)(r:aD x v)(d:Hw X.K T x H):
  s.TypeIs v T/\∀a,v= .ref a->∃O,s.heap.get? a=some O/\O.dict=none:=by
 cases x with
 |str z=>
  obtain⟨t,rfl⟩:=r
  cases (show T="str" from d)
  exact#[typeIs_str s z t,λ_ e=>nomatch e]
 |int i=>
  obtain⟨t,rfl⟩:=r
  cases (show T="int" from d)
  exact#[typeIs_int s i t,λ_ e=>nomatch e]
 |ref p=>
  cases r
  rcases d with ⟨rfl,w,l⟩ | ⟨rfl,o,h,m,f⟩ | ⟨rfl,h⟩ | ⟨rfl,S,n,h⟩
  ·obtain⟨q,_,P,_⟩:=I.list l
   refine#[P.isList.typeIs,λa e=>?_]
   cases e
   obtain⟨o,n,e,c,f,_⟩:=P
   exact#[o,e,f]
  ·refine#[#[o,I.kIn p o h,m],λa e=>?_]
   cases e
   exact#[o,I.kIn _ o h,f]
  ·have z:∃o,s.heap.get? p=some o/\o.ExactDict:=by
    rcases h with ⟨k,h⟩ | ⟨k,h⟩
    ·obtain⟨_,_,_,_,o,_,_,e,E,_⟩:=I.hok p _ h
     exact#[o,e,E]
    ·obtain⟨_,_,_,_,o,_,_,e,E,_⟩:=I.hok p _ h
     exact#[o,e,E]
   obtain⟨o,e,E⟩:=z
   refine#[#[o,e,E.1],λa g=>?_]
   cases g
   exact#[o,e,E.2.1]
  ·obtain⟨o,_,_,_,e,E,_⟩:=I.hok p _ h
   refine#[#[o,e,E.1],λa g=>?_]
   cases g
   exact#[o,e,E.2.1]
 |_=>exact False.elim d
def Hn(K:Frag)(T:String)(r:V->List V->Hp->VK->Prop)(t:TE):TE:=λc H Q=>t c H λx h=>Hw K T x h/\r x [] h Q
def Hm(K:Frag)(T:String)(r:V->List V->Hp->VK->Prop)(d:TE)(t:TA):TE:=λc H Q=>d c H λx h=>Hw K T x h/\t c h λe f=>r x e f Q
variable {o e:Expr}{es:List Expr}{to:TE}{t:TA}{name:Str}{apos cpos:Pos}{T id:String}{r:V->List V->Hp->VK->Prop}
theorem ui(P:PlainAttrs T)(S:Slot T name id)(f:typeOf (.builtin id)=pure (.type "method_descriptor"))(j:Gv X id r)(k:PE X o to)
  (c:attributeBase o name X.env (eval o X.env)=eval o X.env:=by rfl) (d:(apos.endLine==cpos.line)=true:=by rfl):PE X (.Call (.Attribute o name apos) [] [] cpos) (Hn X.K T r to):=by
 intro p s g H Q I h
 refine wpAny_Call_method0_late c d (aU (k p s g H _ I h) λv l z=>?_)
 obtain⟨x,m,i,R,n,q⟩:=z
 obtain⟨u,w⟩:=vZ i R n
 exact#[T,id,P,S,f,u,w,OE Z (PySem.evalArgs_none (j p l g m x [] v [] Q i R .nil q))]
theorem jU(P:PlainAttrs T)(S:Slot T name id)(i:typeOf (.builtin id)=pure (.type "method_descriptor"))(m:Gv X id r)(n:PE X o to)(q:PA X (e::es) t)
  (d:attributeBase o name X.env (eval o X.env)=eval o X.env:=by rfl)
  (g:((backTo cpos (starEach (e::es) X.env)).all (λx=>!x.1)&&(backToKw cpos (keywordEach [] X.env)).all (λx=>x.1.isSome)
   &&decide ((e::es).length+([]:List Keyword).length+(if ([]:List Keyword).isEmpty then 0 else 1) < 30))=true:=by rfl)
  (f:(apos.endLine==cpos.line)=true:=by rfl) (u:starEach (e::es) X.env=(false,eval e X.env)::starEach es X.env:=by rfl) (c:(backTo cpos (starEach es X.env)).any (·.1)=false:=by rfl):
  PE X (.Call (.Attribute o name apos) (e::es) [] cpos) (Hm X.K T r to t):=by
 intro p s j H Q I h
 refine wpAny_Call_method_late d g f Z (aU (n p s j H _ I h) λv w z=>?_)
 obtain⟨x,y,k,R,A,B⟩:=z
 obtain⟨C,D⟩:=vZ k R A
 refine#[T,id,P,S,i,C,D,?_]
 have l:=q cpos p w j y _ k B
 rw[u]at l ⊢
 refine OE (by show(false||(backTo cpos (starEach es X.env)).any (·.1))=false;rw[c]<;>rfl) (Calls.evalArgs_plain ?_)
 exact aU l λU E #[F,G,J,L,M]=>m p E j G x F v U Q J R L M
end
def DY(X:Cx)(id:String)(r:V->List V->Hp->VK->Prop):Prop:=
 ∀(p:List (Addr×Obj)) (s:Shared) (a:St) (H:Hp) (x:V) (b:List V) (v:Value) (u:List Value) (Q:VK),aq X p a H s->aD x v->aB b u->r x b H Q->
  wpAny (model X.prog X.w) X.A (call (.builtin id) (v::u)) (EP X p a Q) X.xe s
theorem aB.one:∀{x:V} {U:List Value},aB [x] U->∃u,U=[u]/\aD x u
 |_,_,.cons r .nil=>#[_,Z,r]
theorem aB.zero:∀{u:List Value},aB [] u->u=[]
 |_,.nil=>rfl
theorem aB.dropLast(h:aB x u):aB x.dropLast u.dropLast:=by
 induction h with
 |nil=>exact .nil
 |cons r t i=>
  cases t with
  |nil=>exact .nil
  |cons q T=>exact .cons r i
theorem aB.reverse(h:aB x u):aB x.reverse u.reverse:=by
 induction h with
 |nil=>exact .nil
 |cons r t i=>rw[NN,NN];exact aB.append i (.cons r .nil)
theorem Yw{c:Type}(l:List c):l.eraseIdx (l.length - 1)=l.dropLast:=by
 induction l with
 |nil=>rfl
 |cons a r i=>
  cases r with
  |nil=>rfl
  |cons b r=>
   have e:(a::b::r).length - 1=((b::r).length - 1)+1:=by
    have h:(a::b::r).length=r.length+2:=rfl
    have H:(b::r).length=r.length+1:=rfl
    omega
   rw[e,List.eraseIdx_cons_succ,i]
   all_goals rfl
section
variable {X:Cx}{pins:List (Addr×Obj)}{σ:St}{H:Hp}{s:Shared}{l b:Addr}{xs ys zs:List V}
theorem aq.lset{i its':List Value}{f:Array Value->Array Value}(I:aq X pins σ H s)(h:H l=some (.lst xs))
  (e:s.heap.get? l=some { cls:=.type "list",data:=.seq i.toArray n }) (a:f i.toArray=its'.toArray) (c:aB ys its') (d:ys.length<=sizeLine):
  aq X pins σ (ah H l (.lst ys)) { s with heap:=s.heap.update l (Obj.mapSeq f),toks:=t }:=by
 have q:=PySem.IsL.update e f
 rw[a]at q
 refine I.write (x:=l) (e:=l) (by rw[h];exact trivial) (.inl Z) (λB u g j=>(K' s.heap (Obj.mapSeq f) (Lr g)).trans j) #[_,q] ?_
 exact#[d,its',_,c,q]
theorem aq.lnew{t':Nat}(I:aq X pins σ H s)(h:aB ys i)(a:ys.length<=sizeLine):
  aq X pins σ (ah H s.heap.objs.size (.lst ys)) { s with heap:=s.heap.push { cls:=.type "list",data:=.seq i.toArray },toks:=t' }:=
 I.laid (λ_ _ q=>IH _ q) (IK _) #[a,i,0,h,IM _ Z]
theorem aq.fresh(I:aq X pins σ H s):H s.heap.objs.size=none:=I.hok.fresh (IK _)
theorem aq.lstM(I:aq X pins σ H s)(h:H l=some (.lst xs)):xs.length<=sizeLine/\∃(i:List Value) (n:Nat),aB xs i/\xs.length=i.length/\s.heap.get? l=some { cls:=.type "list",data:=.seq i.toArray n }:=by
 obtain⟨z,i,n,r,e⟩:=I.hok l _ h
 exact#[z,i,n,r,r.length,e]
theorem ms(h:n<=sizeLine):Builtin.List.listTooLong n=false:=by
 unfold Builtin.List.listTooLong
 exact IQ Pn
end
section
variable {X:Cx}
inductive lr(x:V)(a:List V)(H:Hp)(Q:VK):Prop
 |mk(l b y:_)(_:x= .ref l)(_:a=[y])(_:H l=some (.lst b))(_:b.length < sizeLine)(_:Q .non (ah H l (.lst (b++[y]))))
theorem jI:DY X "list.append" lr:=by
 intro p s d H x V v U Q I R b h
 obtain⟨l,f,y,rfl,rfl,a,g,q⟩:=h
 cases R
 obtain⟨u,rfl,c⟩:=b.one
 obtain⟨z,i,n,r,j,e⟩:=I.lstM a
 refine Oy F.slot_list_append #[_,e,Z] F.entry_list_append (F.args_list_append_2 _ _) (PySem.list_append l i.toArray n u (by rw[IN];omega)) #[e,?_]
 refine#[.non,_,I.lset (its':=i++[u]) a e Po (r.append (.cons c .nil)) ?_,Z,q]
 rw[IL,MT]
 omega
inductive nY(x:V)(a:List V)(H:Hp)(Q:VK):Prop
 |mk(l b c d:_)(_:x= .ref l)(_:a=[.ref b])(_:H l=some (.lst c))(_:H b=some (.lst d))(_:c.length+d.length<=sizeLine)(_:Q .non (ah H l (.lst (c++d))))
theorem zn:DY X "list.extend" nY:=by
 intro p s t H x V v U Q I R g h
 obtain⟨l,b,w,y,rfl,rfl,f,j,A,q⟩:=h
 cases R
 obtain⟨u,rfl,k⟩:=g.one
 cases k
 obtain⟨z,a,n,r,B,e⟩:=I.lstM f
 obtain⟨C,i,N,m,o,E⟩:=I.lstM j
 have d:a.toArray.size+i.toArray.size<=sizeLine:=by rw[IN,IN];omega
 have c:¬(!a.toArray.isEmpty&&Builtin.List.listTooLong (a.toArray.size+i.toArray.size))=true:=by
  rw[ms d,Ox]
  exact IW
 refine Oy F.slot_list_extend #[_,e,Z] F.entry_list_extend (F.args_list_extend_2 _ _)
  (AutoSeq1.list_extend_list_list_0 l a.toArray n b i.toArray N c (by rw[IN];omega) Pn) #[e,E,?_]
 refine#[.non,_,I.lset (its':=a++i) f e Po (r.append m) ?_,Z,q]
 rw[IL]
 omega
inductive Ff(x:V)(a:List V)(H:Hp)(Q:VK):Prop
 |mk(l b y:_)(_:x= .ref l)(_:a=[])(_:H l=some (.lst b))(_:b[b.length - 1]?=some y)(_:Q y (ah H l (.lst b.dropLast)))
theorem BZ:DY X "list.pop" Ff:=by
 intro p s m H x V v U Q I R d h
 obtain⟨l,o,y,rfl,rfl,c,f,q⟩:=h
 cases R
 have a:=d.zero
 subst a
 obtain⟨z,i,n,r,g,e⟩:=I.lstM c
 obtain⟨u,j,k⟩:=r.get f
 have b:i.toArray[i.toArray.size - 1]?=some u:=by
  show i.toArray[i.length - 1]?=some u
  rw[<- Mr,<- g]
  exact j
 refine Oy F.slot_list_pop #[_,e,Z] F.entry_list_pop (F.args_list_pop_1 _) (MeetsSeq.list_pop_last l i.toArray n u b (by rw[IN];omega)) #[e,?_]
 refine#[y,_,I.lset (its':=i.dropLast) c e ?_ r.dropLast ?_,k,q]
 ·show i.toArray.eraseIdxIfInBounds (i.toArray.size - 1)=i.dropLast.toArray
  rw[IN,List.eraseIdxIfInBounds_toArray,Yw]
 ·rw[List.length_dropLast]
  omega
inductive uB(x:V)(a:List V)(H:Hp)(Q:VK):Prop
 |mk(l b:_)(_:x= .ref l)(_:a=[])(_:H l=some (.lst b))(_:Q .non (ah H l (.lst [])))
theorem tE:DY X "list.clear" uB:=by
 intro p s d H x V v u Q I R c h
 obtain⟨l,f,rfl,rfl,b,q⟩:=h
 cases R
 have a:=c.zero
 subst a
 obtain⟨z,i,n,r,g,e⟩:=I.lstM b
 refine Oy F.slot_list_clear #[_,e,Z] F.entry_list_clear (F.args_list_clear_1 _) (AutoSeq1.list_clear_list_0 l i.toArray n (by rw[IN];omega)) #[e,?_]
 exact#[.non,_,I.lset (its':=[]) (ys:=[]) b e Z .nil (IS _),Z,q]
inductive Fb(x y:V)(H:Hp)(Q:VK):Prop
 |mk(l b a c:_)(_:x= .ref l)(_:y= .ref b)(_:H l=some (.lst a))(_:H b=some (.lst c))(_:a.length+c.length<=sizeLine)(_:∀p,H p=none->Q (.ref p) (ah H p (.lst (a++c))))
theorem Jm:eU X (binaryOp .Add) Fb:=by
 intro p s m H x y v u Q I R c h
 obtain⟨l,b,o,t,rfl,rfl,d,f,w,q⟩:=h
 cases R
 cases c
 obtain⟨z,a,n,r,A,e⟩:=I.lstM d
 obtain⟨B,i,N,g,j,E⟩:=I.lstM f
 refine PySem.P.add_list e E ?_ (by rw[IN,IN];omega)
 have k:a.toArray++i.toArray=(a++i).toArray:=by simp
 rw[k]
 exact#[.ref _,_,I.lnew (t':=s.toks) (r.append g) (by rw[IL];omega),Z,q _ I.fresh]
end
end _L
namespace Att
open PySem PySem.W PySem.Calls PyProof.Rows
theorem JI{P:Params}:∀(N:List Int) (v:List Value),WellAll P h v (N.map WData.int)->IntsAre v N:=by
 intro N
 induction N with
 |nil=>
  intro v w
  rw[List.map_nil]at w
  cases w
  exact .nil
 |cons n N i=>
  intro v w
  rw[Mi]at w
  cases w with
  |cons a b=>
   cases a
   exact .cons _ _ (i _ b)
theorem ZR{l:OpenLaw}(k:l.most=some n){P:Params}
  (H:l.row.toRowW.claim.pre args=true) (g:WellAll P h v args):
  ∃a V N,v=[Value.ref a]/\args=[WData.list (N.map WData.int)]/\h.get? a=some { cls:=.type "list",data:=.seq V.toArray }/\IntsAre V N/\N.length<=n:=by
 have i:WShape.hasAll [] args [.list .int]=true:=(pre_splitW H).1
 have j:l.pre.holds [] { args:=args }=true:=(pre_splitW H).2
 obtain⟨d,r,rfl,m,o⟩:=hasAllW_cons i
 obtain rfl:=hasAllW_nil o
 obtain⟨x,rfl,p⟩:=hasW_list m
 obtain⟨N,rfl⟩:=items_int p
 have b:N.length<=n:=by
  unfold OpenLaw.pre at j
  have e:(WTm.not (.lt (.lit (.int (n:Int))) (.len (.arg 0)))).holds [] { args:=[.list (N.map .int)] }=true:=by
   have e:=(holds_andW j).1
   rw[k]at e
   exact e
  have f:=condW_of e (w_not (w_lt w_lit (w_len_list (w_arg Z))))
  rw[IJ]at f
  refine NZ λq=>?_
  have Q:(n:Int) < ((N.length:Nat):Int):=by omega
  first
   | (rw[IV Q]at f;exact absurd f Pm)
   | (simp at f;omega)
 cases g with
 |cons w W=>
  cases W
  cases w with
  |list s c=>exact#[_,_,N,Z,Z,s,JI N _ c,b]
theorem ZS(l:OpenLaw)(args:List WData):l.row.toRowW.claim.post args (.bool true) args=true:=
 postW_of (r:=l.row.toRowW) (X:=(true==true))
  (show WShape.has [] (.bool true) .bool=true by first |rfl |decide |simp [WShape.has,WShape.arms,WShape.armsAll])
  (show(WTm.eq .res (.lit (.bool true))).value [] { args:=args,res:=some (.bool true),after:=args }=some (.bool (true==true)) from w_eq_bool (w_res Z) w_lit) Z
theorem attach_call{l:OpenLaw}{y:World->Heap->Prop}{d:DefRec}
  (x:l.most=some n) (g:d.params.defaults=[])
  (call:∀(w:World) (S s:Shared) (m M:Str->Option Value) (F:Addr) (o:Obj) (p C D:Value) (a:Addr) (v:List Value) (N:List Int),
   Ground q L [] z w S m M s.heap->y w s.heap->
   s.heap.get? F=some o->o.data= .func (docDef d.name d.params d.body d.scope p C D)->s.heap.CodeRec C d.name->m d.name=some (.ref F)->
   s.heap.get? a=some { cls:=.type "list",data:=.seq v.toArray }->IntsAre v N->N.length<=n->s.gens=(List.toArray [])->
   codeAny (model l.prog w) callerA (.call (.ref F) #[[.ref a],[]]) (λr e=>r= .ok (.ret (.bool true))/\OldK s.heap e.heap/\e.os=s.os/\AllBare e.gens) s):
  WalkO q L z y l.row.toRowW d [] (λf v=>PySem.call f v):=by
 intro w S s m M G Y F o p C D B kV E I i t j J A V W H u K k O
 obtain rfl:B= .none:=Dflts.none t g
 obtain rfl:kV= .none:=Dflts.noKw t
 obtain⟨a,v,N,rfl,rfl,b,h,c⟩:=ZR x H k
 refine enter_call (M8 (call w S s m M F o p C D a v N G Y E (fd_plain I) i j b h c J) λr e P=>?_)
 obtain⟨rfl,Q,R,T⟩:=P
 exact#[.inl #[.bool true,.bool true,[],Z,λ_=>Z,.bool true,ZS l _,λ_=>#[List.Pairwise.nil,λ_ U=>(nomatch U)]],Q,R,T]
end Att
namespace _L
open PySem PySem.Spec PyProof.Rows
theorem Qh:∀{v:List Value} {N:List Int},IntsAre v N->aB (N.map V.int) v
 |_,_,.nil=>.nil
 |_,_,.cons n t h=>.cons #[t,Z] (Qh h)
def Bi(H:Hp):Prop:=∀b,H b=none∨∃o x,H b=some (.frz o (.lst x))
theorem sS{P:Program}{K:Frag}{S:Shared}{i:List Value}
  (Y:K.In S.heap) (l:S.heap.Ns mainGlobals M) (c:S.heap.Ns builtinsNs mb) (Q:∀x:Str,x≠"__name__"->mb x=bootBuiltins x) (p:S.heap.NoLimit) (hg:S.gens=(List.toArray []))
  (J:S.heap.get? a=some { cls:=.type "list",data:=.seq i.toArray }) (hi:IntsAre i O) (hl:O.length<=sizeLine) (hr:bq k callerA)
  (F:∀f:Heap,K.In f->f.Ns mainGlobals M->af P w K M f CX k fa fd [x] sp) (j:∀(s:Shared) (u:Value),BindsTo s fd #[[u],[]] [(x,u)])
  (R:∀H:Hp,Bi H->aJ K H a (O.map V.int)->sp [.ref a] H (λv _=>v= .bl true) λ_ _ _=>False)
  (T:∀H e g,CX [] H S (λ_ _ _=>False) e g->False):
  codeAny (model P w) callerA (.call (.ref fa) #[[.ref a],[]]) (λr g=>r= .ok (.ret (.bool true))/\OldK S.heap g.heap/\g.os=S.os/\AllBare g.gens) S:=by
 have rv:=Qh hi
 have L:=hi.length
 have C:∀H:Hp,Bi H->aJ K H a (O.map V.int)->fb P w H S.heap->(∀b,H b≠none->b=a)->(H a≠none->K.lookup a=none)->
   codeAny (model P w) callerA (.call (.ref fa) #[[.ref a],[]]) (λr g=>r= .ok (.ret (.bool true))/\OldK S.heap g.heap/\g.os=S.os/\AllBare g.gens) S:=by
  intro H hO hS t hA hK
  have B:∀{b:Addr} {o:Obj},S.heap.get? b=some o->H b=none->(i8 S.heap H).get? b=some o:=λe n=>sH e n
  have U:∀{b:Addr} {o:Obj} {E:Array DictEntry} {y:Nat},S.heap.get? b=some o->o.data= .dict E y->H b=none:=λ{b o E y} e d=>by
   cases q:H b with
   |none=>rfl
   |some u=>
    have W:b=a:=hA b (by rw[q];simp)
    subst W
    rw[J]at e;cases e
    have d':Data.seq i.toArray _=Data.dict E y:=d
    cases d'
  have N:∀{b:Addr} {m:Str->Option Value},S.heap.Ns b m->(i8 S.heap H).Ns b m:=λ{b m} #[o,E,y,e,d,r]=>#[o,E,y,B e (U e d),d,r]
  have A:K.In (i8 S.heap H):=λb o e=>B (Y b o e) (by
   cases q:H b with
   |none=>rfl
   |some u=>
    have W:b=a:=hA b (by rw[q];simp)
    subst W
    rw[hK (by rw[q];simp)]at e;cases e)
  have hM:Mod K M (i8 S.heap H):=#[A,N l,#[mb,N c,Q],let #[mc,h1,h2]:=p;#[mc,N h1,h2]]
  have e0:nj P w K M (i8 S.heap H) callerA [] S H:=#[Z,hM,λb o e=>xT e,ON (ZI _ _),trivial,λb c=>absurd (show b∈([]:List Addr) from c) Po,t,.of_eq hg]
  refine M8 ((F _ A (N l)).run callerA [] S H #[[.ref a],[]] [.ref a] [.ref a] _ _ hr e0 (j S (.ref a)) (.cons Z .nil) (R H hO hS)) λr g h=>?_
  cases r with
  |error e=>exact(T H e g h).elim
  |ok fl=>
   cases fl with
   |next=>exact False.elim h
   |brk=>exact False.elim h
   |cont=>exact False.elim h
   |ret u=>
    obtain⟨v,H',os,D,un,G,r',q⟩:=h
    have q':v= .bl true:=q
    subst q'
    obtain rfl:u=Value.bool true:=r'
    refine#[Z,OldK.of_keep λb o e=>?_,os,D]
    cases q:H b with
    |none=>exact un.keep b o e q (by intro z;exact absurd (show b∈([]:List Addr) from z) Po) Po
    |some u=>
     rcases hO b with z | ⟨ob,xs,z⟩
     ·rw[q]at z;cases z
     ·have z2:=un.frzs b ob _ z
      obtain⟨e1,_⟩:=t b _ z
      obtain⟨e2,_⟩:=G b _ z2
      rw[e]at e1;cases e1
      exact e2
 cases X:K.lookup a with
 |some o=>
  have e:=Y a o X
  rw[J]at e
  cases e
  refine C (λ_=>none) (λ_=>.inl Z) (.inr #[_,i.toArray,_,X,Z,Z,Z,by rw[IN,L];exact hl,by simpa using rv]) (λb u z=>by have I:(none:Option HO)=some u:=z;cases I) (λb z=>absurd Z z) λz=>absurd Z z
 |none=>
  refine C (λb=>if b=a then some (.frz { cls:=.type "list",data:=.seq i.toArray } (.lst (O.map V.int))) else none) (λb=>?_) (.inl (.inr #[{ cls:=.type "list",data:=.seq i.toArray },IU Z])) (λb u z=>?_) (λb z=>?_) λ_=>X
  ·by_cases c:b=a
   ·exact .inr #[_,_,IU c]
   ·exact .inl (IX c)
  ·by_cases c:b=a
   ·have I:=(IU c).symm.trans z
    cases I
    subst c
    exact#[J,by rw[IJ];exact hl,i,_,rv,J]
   ·have I:=(IX c).symm.trans z
    cases I
  ·by_cases c:b=a
   ·exact c
   ·exact absurd (IX c) z
theorem Af{l:PySem.W.OpenLaw}{n k:Nat}{E:World->Heap->Prop}{d:DefRec}{K:Params->Frag}{CX:World->oK}{sp:World->Sp}{x:Str}
  (O:l.most=some n) (r:n<=sizeLine) (t:d.params.defaults=[]) (P:bq k callerA)
  (Q:∀(w:World) (h:Heap),E w h->(K w.params).In h)
  (F:∀(w:World) (m:Str->Option Value) (p:Addr) (h:Heap),(K w.params).In h->h.Ns mainGlobals m->m d.name=some (.ref p)->
   ∃y:FuncData,(∀(s:Shared) (u:Value),BindsTo s y #[[u],[]] [(x,u)])/\
    ∀B:Heap,(K w.params).In B->B.Ns mainGlobals m->af l.prog w (K w.params) m B (CX w) k p y [x] (sp w))
  (z:∀(w:World) (H:Hp) (a:Addr) (N:List Int),N.length<=n->Bi H->aJ (K w.params) H a (N.map V.int)->sp w [.ref a] H (λv _=>v= .bl true) λ_ _ _=>False)
  (A:∀(w:World) (H:Hp) (s:Shared) (e:Value) (C:Shared),CX w [] H s (λ_ _ _=>False) e C->False):
  PySem.W.WalkO q L XP E l.row.toRowW d [] (λf I=>PySem.call f I):=by
 refine Att.attach_call O t λw J S m mb p o pm cd R a I N G Y ho hd U D j i c X=>?_
 have M:=Q w _ Y
 obtain⟨y,hb,hF⟩:=F w m p _ M G.T.g D
 exact sS M G.T.g G.T.b G.T.builtins G.T.nolimit X j i (IZ c r) P hF hb (λH hO hS=>z w H a N c hO hS) λH e C=>A w H S e C
noncomputable def be(s:Stmt)(j:Nat):Stmt:=match s with
 | .ClassDef _ _ _ b _ _ _ _ _ _ _=>b.getD j (.Pass #[0,0,0,0])
 |_=>.Pass #[0,0,0,0]
noncomputable def bH(s:Stmt):Arguments:=match s with
 | .FunctionDef _ a _ _ _ _ _ _ _ _=>a
 |_=>{ posonlyargs:=[],args:=[],vararg:=none,kwonlyargs:=[],kw_defaults:=[],kwarg:=none,defaults:=[] }
noncomputable def bb(s:Stmt):List Stmt:=match s with
 | .FunctionDef _ _ b _ _ _ _ _ _ _=>b
 |_=>[]
noncomputable def ae(s:Stmt):Scope:=match s with
 | .FunctionDef _ _ _ _ _ _ S _ _ _=>S
 |_=>{ kind:=.function,names:=[],isGenerator:=false,isCoroutine:=false }
abbrev aE:oK:=λ_ _ _ _ _ _=>False
abbrev E0:XK:=λ_ _ _=>False
theorem aY{X:Cx}:c7 aE X E0:=λ_ _ _ _ _ _ _ h=>h.elim
structure aQ(K:Frag)(x qual:Str)(st:Stmt)(f:Addr)(fd:FuncData):Prop where
 ex:∃(oc:Value) (od:Option Addr) (kV doc pm:Value) (an:Option Addr) (cdv ct:Value) (osl:Array (Option Value)),
  fd=fnOf x qual (bH st) (bb st) (ae st) .none kV doc pm an cdv ct/\K.lookup f=some #[oc,od,.func fd,osl]/\codeIn K cdv qual=true
 kp:keepIn K (.ref f)=true
section
variable {P:Program}{w:World}{K:Frag}{mg:Str->Option Value}{base:Heap}
theorem aQ.ok{st:Stmt}{d:Sp}(F:aQ K x a st f i)(S:ai N p (ae st))(len:∀v H Q E,d v H Q E->v.length=p.length)
  (b:∀(c:Value) (A:Around) (o:List Env) (s:Shared) (H:Hp) (v:List V) (Q:VK) (E:XK),bq k (A.deeper (envOfC a (ae st) s.heap.objs.size f c))->d v H Q E->
   ∃t,mh (fV aE P w K mg base N a (ae st) f c A o s H E).nox (bb st) t/\t { nx:=λ_ j=>Q .non j,rt:=Q } (gB N v) H):af P w K mg base aE (k+1) f i p d:=by
 obtain⟨m,n,kV,D,r,u,c,C,O,rfl,lk,e⟩:=F.ex
 refine AJ lk e S len λA o s H v Q E l g=>?_
 obtain⟨t,h,q⟩:=b c A o s H v Q E l g
 exact#[t,h.nox,q]
theorem aQ.binds{st:Stmt}{p:List Str}(F:aQ K x q st f b)
  (h:∀(kV d a:Value) (A:Option Addr) (c C:Value) (u:List Value),u.length=p.length->bindArgs (fnOf x q (bH st) (bb st) (ae st) .none kV d a A c C) #[u,[]]=pure (p.zip u)):aC K b p []:=by
 obtain⟨O,e,kV,d,a,A,c,C,o,rfl,lk,H⟩:=F.ex
 exact .all (h kV d a A c C)
theorem si{st:Stmt}{kV:Value}(l:K.lookup f=some #[O,e,.func (fnOf x q (bH st) (bb st) (ae st) .none kV d p a C b),o])
  (c:codeIn K C q=true) (k:keepIn K (.ref f)=true):aQ K x q st f (fnOf x q (bH st) (bb st) (ae st) .none kV d p a C b):=#[#[O,e,kV,d,p,a,C,b,o,Z,l,c],k]
end
theorem zB(h:bq k A):A.units+1 < cLine:=Mu (Nat.add_le_add_left (by decide:1<=64) _) h.units
section
variable {X:Cx}
theorem pv(i:Nat){x:Str}{p:Pos}(H:X.N[i]?=some x:=by rfl)(a:Gf X.env.scope x:=by first |exact Or.inl Z |exact Or.inr (Or.inl Z) |exact Or.inr (Or.inr Z))(b:(x==("__debug__":Str))=false:=by decide)
  (h:(x==("__classdict__":Str))=false:=by decide):PE X (.Name x p) (bV i):=C7 H a b h
end
theorem sQ{A B:Prop}(h:B):if false=true then A else B:=by
 rw[IX IW]
 exact h
theorem xE{A B:Prop}(h:A):if true=true then A else B:=by
 rw[IU Z]
 exact h
theorem eW{c A B:Prop}[Decidable c](H:c->A)(a:¬c->B):if c then A else B:=by
 by_cases h:c
 ·rw[IU h]
  exact H h
 ·rw[IX h]
  exact a h
def aa(H h:Hp):Prop:=∀b o,H b=some o->h b=some o
theorem aa.refl(H:Hp):aa H H:=λ_ _ h=>h
theorem aa.trans(a:aa H d)(b:aa d e):aa H e:=λc o h=>b c o (a c o h)
theorem aa.free(e:aa H a)(h:a l=Option.none):H l=Option.none:=by
 cases q:H l with
 |none=>rfl
 |some o=>
  rw[e l o q]at h
  cases h
theorem aa.seq{K:Frag}(e:aa H b)(h:aJ K H a x):aJ K b a x:=by
 rcases h with (h | ⟨o,h⟩) |h
 ·exact .inl (.inl (e _ _ h))
 ·exact .inl (.inr #[o,e _ _ h])
 ·exact .inr h
section
variable {prog:Program}{w:World}{A:Around}{R:Result->Shared->Prop}{s:Shared}
abbrev As:Value->Shared->Prop:=λ_ _=>False
theorem ZT{iter:Expr}(I:Nat->Shared->Prop)
  (T:∀n s,I n s->wpAny (model prog w) A (pyNext B) (λr S=>match r with
   |none=>R (.ok .next) S
   |some v=>wpAny (model prog w) A (letOwnedTupleGo t B v) (λ_ b=>wpAny (model prog w) A (assign t e v) (λ_ d=>
     wpAny (model prog w) A (forIn l true λc r=>if r=true then do let o <- isTrue c e (eval c e);pure (ForInStep.yield o) else pure (ForInStep.yield r)) (λo a=>
      if o=true then wpAny (model prog w) A (eval E e) (λx g=>
       wpAny (model prog w) A (call (.builtin "list.append") [p,x]) (λ_ i=>∃m,m < n/\I m i) As g) As a
      else ∃m,m < n/\I m a) As d) As b) As S) As s)
  (n:Nat) (h:I n s):
  codeAny (model prog w) A (.compLoop (.ListComp E [#[t,iter,l,0]] k C) 0 B p e) R s:=by
 refine codeAny_loop Z I (λn s D=>?_) n h
 show wpAny _ A ((compTurn (.ListComp E [#[t,iter,l,0]] k C) 0 B p e).onRaise (λx=>do noteFrame x e;theTreesLotGoes x)) _ _ s
 refine wpAny_noted ?_
 rw[compTurn_list]
 refine IF (NC (IF (LS (T n s D) (λr S H=>?_) λ_ _ f=>f.elim)))
 cases r with
 |none=>exact II H
 |some v=>
  refine IF (LS H (λ_ b q=>?_) λ_ _ f=>f.elim)
  refine IF (LS q (λ_ d u=>IF (LS u (λo a j=>?_) λ_ _ f=>f.elim)) λ_ _ f=>f.elim)
  cases o with
  |false=>exact II #[Z,j]
  |true=>
   exact IF (IF (LS j (λx g y=>IF (LS y (λ_ i z=>II (II #[Z,z])) λ_ _ f=>f.elim)) λ_ _ f=>f.elim))
end
noncomputable def a8(X:Cx)(s:Scope)(M:List Str)(c:List (Str×Addr))(C:Addr)(f:List Addr)(S:Shared)(H:Hp):Cx where
 prog:=X.prog
 w:=X.w
 K:=X.K
 mg:=X.mg
 base:=X.base
 A:=X.A
 N:=M
 s₀:=S
 H₀:=H
 env:=compEnvC s c C X.env
 outer:=X.stack
 stack:=X.stack
 ex:=f
 fn:=λ_=>false
 calm:=X.calm
 pn:=[]
 xe:=λ_ _=>False
noncomputable def D5(n:Nat)(I:List Nat)(a:St):St:=List.replicate n none++I.map λi=>(a[i]?).getD none
structure bn(N:List Str)(sc scope:Scope)(M:List Str)(nT:Nat)(ix:List Nat):Prop where
 cell:∀y∈scope.names,y.2≠ .cell
 kind:scope.kind= .function
 loc:∀y∈scope.names,y.2= .local->scope.names.lookup y.1=some .local
 fre:∀y∈scope.names,y.2= .free->sc.names.lookup y.1=some .cell
 nms:M.drop nT=ix.map λi=>N.getD i Str.empty
 len:M.length=nT+ix.length
 vis:∀i∈ix,scope.names.lookup (N.getD i Str.empty)=some .free
theorem Je{E:Env}(c:E.scope.kind= .function):∀{N:List (Str×NameKind)} {y:Str},N.lookup y=some .free->E.kindOf y=some .cell->
  (N.map λ(n,k)=>if (k==NameKind.free&&E.scope.kind== .function&&E.kindOf n==some .cell) then (n,NameKind.cell) else (n,k)).lookup y=some .cell
 | [],_,h,_=>by simp at h
 | (n,k)::r,y,h,b=>by
  have i:=@Je E c r y
  show List.lookup y ((if (k==NameKind.free&&E.scope.kind== .function&&E.kindOf n==some .cell)=true then (n,NameKind.cell) else (n,k))::_)=_
  cases H:y==n with
  |true=>
   simp only[LU,H]at h
   cases h
   have e:y=n:=by simpa using H
   subst e
   rw[IU (by rw[c,b];rfl)]
   simp [LU]
  |false=>
   simp only[LU,H]at h
   by_cases a:(k==NameKind.free&&E.scope.kind== .function&&E.kindOf n==some .cell)=true
   ·rw[IU a];simp only[LU,H];exact i h b
   ·rw[IX a];simp only[LU,H];exact i h b
theorem KA{E:Env}:∀{N:List (Str×NameKind)} {y:Str} {K:NameKind},
  (N.map λ(n,k)=>if (k==NameKind.free&&E.scope.kind== .function&&E.kindOf n==some .cell) then (n,NameKind.cell) else (n,k)).lookup y=some K->
  ∃k,N.lookup y=some k/\(K=k∨k= .free)
 | [],_,_,h=>by simp at h
 | (n,k)::r,y,K,h=>by
  have i:=@KA E r y K
  have h:List.lookup y ((if (k==NameKind.free&&E.scope.kind== .function&&E.kindOf n==some .cell)=true then (n,NameKind.cell) else (n,k))::_)=some K:=h
  cases a:y==n with
  |true=>
   refine#[k,by simp only[LU,a],?_]
   by_cases H:(k==NameKind.free&&E.scope.kind== .function&&E.kindOf n==some .cell)=true
   ·right
    simp only[L9]at H
    simpa using H.1.1
   ·rw[IX H]at h;simp only[LU,a]at h;left;exact(LB h).symm
  |false=>
   have b:List.lookup y (r.map λ(n,k)=>if (k==NameKind.free&&E.scope.kind== .function&&E.kindOf n==some .cell) then (n,NameKind.cell) else (n,k))=some K:=by
    by_cases H:(k==NameKind.free&&E.scope.kind== .function&&E.kindOf n==some .cell)=true
    ·rw[IU H]at h;simp only[LU,a]at h;exact h
    ·rw[IX H]at h;simp only[LU,a]at h;exact h
   obtain⟨c,e,q⟩:=i b
   exact#[c,by simp only[LU,a];exact e,q]
noncomputable def aW(e:Env):List (Str×NameKind)->List (Str×Addr)->List (Str×Addr)
 | [],a=>a
 | (n,k)::r,a=>if k== .free then aW e r ((n,(e.cells.lookup n).getD 0)::a) else aW e r a
theorem zW{E:Env}:∀{N:List (Str×NameKind)} {acc:List (Str×Addr)},(∀y∈N,y.2= .free->∃c,E.cells.lookup y.1=some c)->(∀x c,acc.lookup x=some c->E.cells.lookup x=some c)->
  ∀x c,(aW E N acc).lookup x=some c->E.cells.lookup x=some c
 | [],_,_,b,x,c,h=>b x c h
 | (n,k)::r,acc,f,b,x,c,h=>by
  unfold aW at h
  by_cases g:(k==NameKind.free)=true
  ·rw[IU g]at h
   refine zW (λy H=>f y (Le _ H)) (λX j a=>?_) x c h
   obtain⟨C,d⟩:=f (n,k) Li (by simpa using g)
   have d:E.cells.lookup n=some C:=d
   simp only[LU]at a
   cases i:X==n with
   |true=>
    rw[i]at a
    have e:X=n:=by simpa using i
    subst e
    rw[d]at a
    rw[d]
    exact a
   |false=>rw[i]at a;exact b _ _ a
  ·rw[IX g]at h
   exact zW (λy H=>f y (Le _ H)) b x c h
theorem qp:∀{a:List (Str×Addr)},(∃c,(x,c)∈a)->∃c,a.lookup x=some c
 | [],h=>by obtain⟨_,h⟩:=h;cases h
 | (n,c)::r,h=>by
  simp only[LU]
  cases H:x==n with
  |true=>exact#[c,Z]
  |false=>
   obtain⟨C,h⟩:=h
   rcases List.mem_cons.mp h with e |h
   ·injection e with E _
    subst E
    simp at H
   ·exact qp #[C,h]
theorem qJ:∀{N:List (Str×NameKind)} {a:List (Str×Addr)},((∃c,(x,c)∈a)∨(x,NameKind.free)∈N)->∃c,(x,c)∈aW E N a
 | [],_,h=>by
  rcases h with h |h
  ·exact h
  ·cases h
 | (n,k)::r,a,h=>by
  unfold aW
  by_cases H:(k==NameKind.free)=true
  ·rw[IU H]
   refine qJ ?_
   rcases h with ⟨c,h⟩ |h
   ·exact .inl #[c,Le _ h]
   ·rcases List.mem_cons.mp h with e |h
    ·injection e with b _
     subst b
     exact .inl #[_,Li]
    ·exact .inr h
  ·rw[IX H]
   refine qJ ?_
   rcases h with h |h
   ·exact .inl h
   ·rcases List.mem_cons.mp h with e |h
    ·injection e with _ d
     subst d
     exact absurd Z H
    ·exact .inr h
theorem qy{e:Env}:∀(N:List (Str×NameKind)) (A:List (Str×Addr)),(∀y∈N,y.2= .free->∃c,e.cells.lookup y.1=some c)->
  (forIn N A (λx r=>match x with | (name,K)=>if (K==NameKind.free)=true then (do let a <- cellOf e name;pure (ForInStep.yield ((name,a)::r))) else pure (ForInStep.yield r)):Sem (List (Str×Addr)))=pure (aW e N A)
 | [],A,_=>rfl
 | (n,k)::r,A,b=>by
  have i:=λA=>qy r A λy H=>b y (Le _ H)
  rw[MR]
  unfold aW
  by_cases h:(k==NameKind.free)=true
  ·obtain⟨C,E⟩:=b (n,k) Li (by simpa using h)
   have E:e.cells.lookup n=some C:=E
   have d:cellOf e n=pure C:=by unfold cellOf;rw[E]
   rw[IU h]
   simp only[h,NK,d,E]
   exact i _
  ·rw[IX h]
   simp only[h]
   exact i _
theorem qA{e:Env}{S:Scope}(H:∀y∈S.names,y.2= .free->∃c,e.cells.lookup y.1=some c):closureFor S e=pure (aW e S.names []):=by
 have h:=qy S.names [] H
 exact LY (λt:Sem (List (Str×Addr))=>t >>= λs=>pure s) h
section
variable {X:Cx}{pins:List (Addr×Obj)}{σ:St}{H:Hp}{s:Shared}
theorem qX(I:aq X pins σ H s)(S:bn X.N X.env.scope a M n i):∀y∈a.names,y.2= .free->∃c,X.env.cells.lookup y.1=some c:=
 λy h e=>I.ok.has y.1 (.inl (S.fre y h e))
theorem rB{g:Heap}(I:aq X pins σ H s)(F:∀b∈Y,fQ X pins H b)(P:∀b∈Y,b < s.heap.objs.size)
  (S:bn X.N X.env.scope a M n G) (Q:s.heap.objs.size<=C) (O:∀b o,s.heap.get? b=some o->g.get? b=some o) (R:g.Ns C m):
  aq (a8 X a M (aW X.env a.names []) C Y s H) [] (D5 n G σ) H { s with heap:=g,toks:=tk }:=by
 have sub:∀x c,(aW X.env a.names []).lookup x=some c->X.env.cells.lookup x=some c:=zW (qX I S) (λx c h=>by simp at h)
 have j:∀x,a.names.lookup x=some .free->∃c,(aW X.env a.names []).lookup x=some c:=λx e=>qp (qJ (.inr (Mq e)))
 have hex:∀x K,(relabel a X.env).names.lookup x=some K->(K= .cell∨K= .free)->a.names.lookup x=some .free:=λx K e A=>by
  obtain⟨k,t,q⟩:=KA e
  rcases q with q |q
  ·rcases A with z |z
   ·exact absurd (q.symm.trans z) (S.cell (x,k) (Mq t))
   ·rw[t,<- q,z]
  ·rw[t,q]
 refine#[#[I.ok.mod,S.kind,I.ok.glob,I.ok.blt,Q,λx y c h1 h2=>I.ok.inj x y c (sub x c h1) (sub y c h2),λx hx=>?_,λx c hx=>?_,I.ok.hd,I.ok.frames,.inl Z,λb w=>#[λz=>?_,λx c e=>?_],I.bs,IZ I.ok.bsz I.sz,λb o e w=>?_,λb w hz=>?_,I.stack,I.stkFree],
  rfl,I.bare,Un.kept O,#[m,R,λk y v t E _=>?_],λx c e=>?_,I.hok.fresh Q,λx c e=>I.freeC x c (sub x c e),λp hp=>absurd (show p∈([]:List (Addr×Obj)) from hp) Po,I.hok.kept O,?_]
 ·rcases hx with hx |hx
  ·exact j x (hex x _ hx (.inl Z))
  ·exact j x (hex x _ hx (.inr Z))
 ·exact absurd (show false=true from hx) Pm
 ·have z':b=C:=z
  have:=P b w
  rw[z']at this
  exact absurd this (Nat.not_lt.mpr Q)
 ·exact(F b w).2.2.2.2.1 x c (sub x c e)
 ·rcases(F b w).2.2.2.1 with z |z
  ·exact I.ok.noex b o e z
  ·exact absurd (I0 (IP e) (IZ I.ok.bsz z)) (LO _)
 ·rcases List.mem_cons.mp (I.stkSub b hz) with z |z
  ·exact(F b w).2.1 z
  ·exact(F b w).2.2.1 z
 ·have E:(D5 n G σ)[k]?=some (some v):=E
  have t:M[k]?=some y:=t
  unfold D5 at E
  by_cases A:k < n
  ·rw[NJ (by simpa using A),Pl]at E
   simp [A]at E
  ·have B:n<=k:=NZ A
   rw[NG (by simpa using B),Oq,Lc]at E
   cases J:G[k - n]? with
   |none=>rw[J]at E;cases E
   |some i=>
    rw[J]at E
    have L:(σ[i]?).getD none=some v:=LB E
    have V:σ[i]?=some (some v):=by
     cases W:σ[i]? with
     |none=>rw[W]at L;cases L
     |some o=>rw[W]at L;exact LY some L
    have hi:i < X.N.length:=by rw[<- I.len];exact(List.getElem?_eq_some_iff.mp V).1
    have e7:y=X.N.getD i Str.empty:=by
     have q:(M.drop n)[k - n]?=some y:=by rw[NF];rw[Nat.add_sub_cancel' B];exact t
     rw[S.nms,Lc,J]at q
     exact(LB q).symm
    have e8:X.N[i]?=some y:=by rw[e7,IG hi,LZ,IG hi];rfl
    have d:a.names.lookup y=some .free:=by rw[e7];exact S.vis i (Lb J)
    have f:X.env.scope.names.lookup y=some .cell:=S.fre (y,.free) (Mq d) Z
    obtain⟨m',_,hl⟩:=I.loc
    obtain⟨u,r,l⟩:=hl i y v e8 V (.inr (.inl f))
    refine#[u,r,?_]
    rcases l with ⟨l,_⟩ | ⟨_,c,ec,o,T,U⟩
    ·have l:X.env.scope.names.lookup y=some .local:=l
     rw[f]at l
     cases l
    ·obtain⟨c',D⟩:=j y d
     have q:=sub y c' D
     rw[ec]at q
     cases q
     exact .inr #[.inl (Je I.ok.kind d f),c,D,o,O _ _ T,U]
 ·obtain⟨v,o,T,U⟩:=I.cell x c (sub x c e)
  exact#[v,o,O _ _ T,U]
 ·show(D5 n G σ).length=M.length
  rw[S.len]
  simp [D5]
theorem aq.track(I:aq X pins σ H s)(f:fQ X pins H D)(G:X.s₀.heap.objs.size<=D)(a:aL X.prog X.w (ah H D o) s.heap D o):aq X pins σ (ah H D o) s:=by
 have n:=f.1
 have N:∀b u,H b=some u->b≠D:=λb u e=>ji e n
 refine#[I.ok,I.os,I.bare,#[I.base.keep,I.base.slot,λb O e q i=>?_,I.base.there,λb d e=>?_,λb O u e=>?_,λb P e=>?_],I.loc,I.cell,?_,λx c e=>?_,λp h=>?_,λb u e=>?_,I.len]
 ·rw[jh (IY (I0 (IP e) G))]
  exact I.base.free b O e q i
 ·have q:=I.base.tups b d e
  rw[jh (N _ _ q)]
  exact q
 ·have q:=I.base.frzs b O u e
  rw[jh (N _ _ q)]
  exact q
 ·obtain⟨m,q⟩:=I.base.tbls b P e
  exact#[m,by rw[jh (N _ _ q)];exact q]
 ·rw[jh (Lr f.2.1)]
  exact I.free
 ·rw[jh (f.2.2.2.2.1 x c e)]
  exact I.freeC x c e
 ·obtain⟨e,q,r⟩:=I.pin p h
  exact#[e,by rw[jh (f.2.2.2.2.2 p h)];exact q,r]
 ·by_cases g:b=D
  ·subst g
   rw[jc]at e
   cases e
   exact a
  ·rw[jh g]at e
   exact(I.hok b u e).stay (λ_ _ _ q=>q) (λc q=>by rw[jh (N _ _ q)];exact q) λc d q=>by rw[jh (N _ _ q)];exact q
noncomputable abbrev iK(u:List Value):Obj:={ cls:=.type "list",data:=.seq u.toArray u.length }
theorem ZU(u:List Value)(y:Value):({ cls:=.type "list",data:=.seq (u.toArray.push y) (u.length+1) }:Obj)=iK (u++[y]):=by
 show({ cls:=.type "list",data:=.seq (u.toArray.push y) (u.length+1) }:Obj)={ cls:=.type "list",data:=.seq (u++[y]).toArray (u++[y]).length }
 rw[IL,MT,List.push_toArray]
def PF(X:Cx)(i:List Expr)(t:TT):Prop:=
 ∀(pins:List (Addr×Obj)) (s:Shared) (σ:St) (H:Hp) (Q:Bool->Hp->Prop),aq X pins σ H s->t σ H Q->
  wpAny (model X.prog X.w) X.A (forIn i true λc r=>if r=true then do let o <- isTrue c X.env (eval c X.env);pure (ForInStep.yield o) else pure (ForInStep.yield r)) (TP X pins σ Q) X.xe s
def mW:TT:=λ_ H Q=>Q true H
theorem qg:PF X [] mW:=λ_ _ _ H _ I h=>wpAny_tests_nil #[H,I,h]
theorem Kh{c:Expr}{t:TT}(h:PT X c t):PF X [c] t:=λpins s σ H Q I q=>wpAny_tests_one (h pins s σ H Q I q)
noncomputable def oe(I:List Nat)(σ:St):St:=I.map λi=>(σ[i]?).getD none
def eh(J:It)(n:Nat)(t:St)(g:TG)(j:TT)(k:TE)(Q:List V->Hp->Prop)(H:Hp):Prop:=
 ∃W:Nat->Nat->List V->Hp->Prop,(∃m,W 0 m [] H)/\∀i m Y H,W i m Y H->
  (J.stop i H/\Q Y H)∨(J.go i H/\Y.length < sizeLine/\∃N:List V->Hp->Prop,(∀c h,N c h->∃M,M < m/\W (i+1) M c h)/\
   ∀x d (e:St),e.length=n->J.yld i H x d->g x (e++t) d λa h=>(∃T:St,T.length=n/\a=T++t)/\j a h λb f=>if b=true then k a f λy l=>N (Y++[y]) l else N Y f)
theorem KB{iter:Expr}
  {RR:Value->Addr->Result->Shared->Prop} 
  (I:aq X pins σ H s) (hc:X.calm=true) (T:nC X.prog X.w X.K tg J k it tn) (st:tn 0 s.heap) (hf:∀b∈k,fQ X pins H b) (S:bn X.N X.env.scope scope M nT ix)
  (hg:∀cl C k s H,PG (a8 X scope M cl C k s H) tg g) (hi:∀cl C k s H,PF (a8 X scope M cl C k s H) i0 tt) (he:∀cl C k s H,PE (a8 X scope M cl C k s H) e0 te)
  (h:eh J nT (oe ix σ) g tt te Qf H)
  (a0:∀D C Y m t G,(∀b o u,H b=some (.frz o u)->t b=some (.frz o u))->t D=none->aq X pins σ (ah t D (.lst Y)) G->fQ X pins (ah t D (.lst Y)) C->G.heap.Ns C m->Qf Y t->RR (.ref D) C (.ok .next) G):
  wpAny (model X.prog X.w) X.A (newList []) (λacc B=>wpAny (model X.prog X.w) X.A (newFunctionEnv scope X.env.globals (aW X.env scope.names []) [] X.env.qual none .none (some X.env)) (λc0 s0=>
   codeAny (model X.prog X.w) X.A (.compStart (.ListComp e0 [#[tg,iter,i0,0]] scope p1) 0 (.ref it) acc { c0 with scope:=relabel scope X.env }) (RR acc c0.locals) s0) E B) E s:=by
 obtain⟨W,⟨m0,w0⟩,t1⟩:=h
 have h3:∀b∈k,b < s.heap.objs.size:=λb a=>by
  obtain⟨o,e,_⟩:=T.obj 0 _ st b a
  exact IP e
 refine Lv (wpAny_newFunctionEnv S.cell (by intro y hy;simp at hy) (λF l f=>?_) S.kind)
 dsimp only at l f ⊢
 generalize h4:s.heap.push { cls:=.type "list",dict:=none,data:=.seq ([]:List Value).toArray }=H2 at l f ⊢
 have hC:H2.objs.size=s.heap.objs.size+1:=by rw[<- h4,LL]
 have P:s.heap.objs.size≠H2.objs.size:=by rw[hC];exact IY (Mt _)
 have h0:s.heap.objs.size<=H2.objs.size:=by rw[hC];exact LH _
 have b0:∀b,b < s.heap.objs.size->b≠H2.objs.size/\b≠s.heap.objs.size:=λb a=>#[by rw[hC];exact IY (MF a),IY a]
 have o1:∀b o,s.heap.get? b=some o->F.get? b=some o:=λb o e=>f.extBut b o (b0 b (IP e)).1 (IH _ (h4▸IH _ e))
 have h5:F.get? s.heap.objs.size=some (iK []):=f.extBut _ _ P (IH _ (h4▸IM _ Z))
 have a1:H s.heap.objs.size=none:=I.hok.fresh (IK _)
 have h6:s.heap.objs.size∉iQ X.stack:=λa=>(List.mem_cons.mp (I.stkSub _ a)).elim (λe=>absurd I.lt (by rw[<- e];exact LO _)) (I.nofs (IK _))
 generalize hD:s.heap.objs.size=D at*
 generalize b2:H2.objs.size=C at*
 have J0:∀tk,aq (a8 X scope M (aW X.env scope.names []) C k s H) [] (D5 nT ix σ) H { s with heap:=F,toks:=tk }:=λtk=>rB I hf (by rw[hD];exact h3) S (by rw[hD];exact h0) o1 l
 have c1:∀x c,(aW X.env scope.names []).lookup x=some c->c≠D:=λx c e z=>by
  have sub:=zW (qX I S) (acc:=[]) (λx c h=>by simp at h) x c e
  obtain⟨v,o,ho,_⟩:=I.cell x c sub
  have:=IP ho
  rw[z,hD]at this
  exact LO _ this
 have p0:∀{σ0:St} {t:Hp} {G:Shared} {U:List Value},aq (a8 X scope M (aW X.env scope.names []) C k s H) [] σ0 t G->G.heap.get? D=some (iK U)->t D=none->
   aq (a8 X scope M (aW X.env scope.names []) C k s H) [(D,iK U)] σ0 t G:=λ{σ0 t G U} I' e n=>I'.pins_of λp hp=>by
  have ep:p=(D,iK U):=by simpa using hp
  subst ep
  exact#[e,n,P,h6,λv z=>by cases z]
 have L:∀{t:Hp} {U:List Value},(∀b∈k,t b=none)->∀b∈k,fQ (a8 X scope M (aW X.env scope.names []) C k s H) [(D,iK U)] t b:=λ{t U} hn b a=>
  #[hn b a,((J0 0).ok.exf b a).1,(J0 0).ok.exfs b a,.inl a,((J0 0).ok.exf b a).2,λp hp z=>by
   have ep:p=(D,iK U):=by simpa [a8] using hp
   rw[ep]at z
   have:=h3 b a
   rw[<- z]at this
   exact LO _ this]
 have l0:∀B:Shared,(∃tk,B={ s with heap:=F,toks:=tk })->
   codeAny (model X.prog X.w) X.A (.compLoop (.ListComp e0 [#[tg,iter,i0,0]] scope p1) 0 (.ref it) (.ref D) (compEnvC scope (aW X.env scope.names []) C X.env)) (RR (.ref D) C) B:=by
  rintro B ⟨tk,rfl⟩
  refine ZT (λn G=>∃i Y U ts t,ts.length=nT/\aq (a8 X scope M (aW X.env scope.names []) C k s H) [(D,iK U)] (ts++oe ix σ) t G/\aB Y U/\Y.length<=sizeLine/\tn i G.heap/\(∀b∈k,t b=none)/\W i n Y t) ?_ m0
   #[0,[],[],List.replicate nT none,H,Oq,p0 (J0 tk) h5 a1,.nil,IS _,T.keep _ _ _ st λb a o e=>o1 b o e,λb a=>(hf b a).1,w0]
  rintro n s1 ⟨i,Y,U,ts,Q,a2,I1,rv,hz,s7,f0,w1⟩
  rcases t1 i n Y Q w1 with ⟨stop,q⟩ | ⟨go,a3,N,hN,step⟩
  ·refine aU (T.done (a8 X scope M (aW X.env scope.names []) C k s H) Z Z Z hc i _ s1 _ Q As I1 (L f0) s7 stop) λr s2 j=>?_
   obtain⟨hr,I2⟩:=j
   subst hr
   have IO:aq X pins σ Q s2:=I.call' (ch:=k) I2.os I2.base I2.hok I2.bare λb a=>#[(hf b a).2.2.2.1,(hf b a).2.1,(hf b a).2.2.2.2.1,(hf b a).2.2.2.2.2]
   have pD:=I2.pin (D,iK U) (by simp [a8])
   have h':Q D=none:=pD.2.1
   have fD:fQ X pins Q D:=by rw[<- hD];exact I.fpOk (IK _) (by rw[hD];exact h')
   have IT:aq X pins σ (ah Q D (.lst Y)) s2:=IO.track fD (by rw[<- hD];exact I.sz) #[hz,U,U.length,rv,pD.1]
   obtain⟨mC,a4,_⟩:=I2.loc
   have a5:Q C=none:=I2.free
   exact a0 D C Y mC Q s2 I2.base.frzs h' IT (I.fpOk (by rw[hD];exact h0) (by rw[jh (Lr P)];exact a5)) a4 q
  ·refine aU (T.item (a8 X scope M (aW X.env scope.names []) C k s H) Z Z Z hc i _ s1 _ Q As I1 (L f0) s7 go) λr s2 j=>?_
   obtain⟨u,hr,h2⟩:=j
   subst hr
   refine aU h2 λ_ s3 j=>?_
   obtain⟨x,H3,I3,r3,y3,O,f1⟩:=j
   have a':=I3.pinned (L f1) (T.obj _ _ O)
   refine aU (hg _ _ _ _ _ _ s3 _ H3 x u _ a' r3 (step x H3 ts a2 y3)) λ_ s4 j=>?_
   obtain⟨σ1,H4,I4,⟨t0,h1,e4⟩,q4⟩:=j
   subst e4
   refine aU (hi _ _ _ _ _ _ s4 _ H4 _ I4 q4) λb s5 j=>?_
   obtain⟨H5,I5,q5⟩:=j
   cases b with
   |false=>
    obtain⟨m',hm,w'⟩:∃m',m' < n/\W (i+1) m' Y H5:=hN _ _ q5
    refine#[m',hm,i+1,Y,U,t0,H5,h1,I5.unpinned,rv,hz,T.keep _ _ _ O λb a o e=>(I5.pin (b,o) (La _ (La _ (zc a e)))).1,λb a=>?_,w']
    obtain⟨o,e,d⟩:=T.obj _ _ O b a
    exact(I5.pin (b,o) (La _ (La _ (zc a e)))).2.1
   |true=>
    refine aU (he _ _ _ _ _ _ s5 _ H5 _ I5 q5) λv s6 j=>?_
    obtain⟨y,H6,I6,r6,q6⟩:=j
    obtain⟨m',hm,w'⟩:=hN _ _ q6
    have pD:=I6.pin (D,iK U) (La _ (Ml _ Li))
    have hl:=rv.length
    have R:∀b∈k,∀o,s3.heap.get? b=some o->s6.heap.get? b=some o:=λb a o e=>(I6.pin (b,o) (La _ (La _ (zc a e)))).1
    have V:∀b∈k,H6 b=none:=λb a=>by
     obtain⟨o,e,d⟩:=T.obj _ _ O b a
     exact(I6.pin (b,o) (La _ (La _ (zc a e)))).2.1
    refine append_at (hsz:=by rw[IN,<- hl];exact hz) pD.1 λh7 sb b1=>?_
    have I7:aq (a8 X scope M (aW X.env scope.names []) C k s H) [] (t0++oe ix σ) H6 { s6 with heap:=h7 }:=
     (I6.pins_of (pins':=[]) λp hp=>absurd hp Po).turned (t':=s6.toks) (it:=D) (λb o a e=>(sb.2 b a).trans e) pD.2.1 P (.inr (by show s.heap.objs.size<=D;rw[hD];exact IK _)) c1 λp hp=>absurd (show p∈([]:List (Addr×Obj)) from hp) Po
    refine#[m',hm,i+1,Y++[y],U++[v],t0,H6,h1,p0 I7 (b1.trans (LY some (ZU U v))) pD.2.1,rv.append (.cons r6 .nil),by rw[IL,MT];exact a3,
     T.keep _ _ _ (T.keep _ _ _ O R) λb a o e=>(sb.2 b λz=>?_).trans e,V,w']
    have:=h3 b a
    rw[z]at this
    exact LO _ this
 exact codeAny_compStart_list (l0 _ #[_,Z]) (T.self _ 0 _ _ _ (T.keep _ _ _ st λb a o e=>o1 b o e) (l0 _ #[_,Z]))
def vI(w:TI)(n:Nat)(i:List Nat)(g:TG)(t:TT)(T:TE):TE:=λσ H Q=>w σ H λJ a=>eh J n (oe i σ) g t T (λy h=>∀p,h p=none->Q (.ref p) (ah h p (.lst y))) a
theorem zT{t E iter:Expr}{i:List Expr}{a:Scope}{p:Pos}{M:List Str}{k:Nat}{l:List Nat}{W:TI}{g:TG}{r:TT}{u:TE}(v:X.calm=true)(y:PI X t iter W)(S:bn X.N X.env.scope a M k l)
  (z:∀c C f s H,PG (a8 X a M c C f s H) t g) (B:∀c C f s H,PF (a8 X a M c C f s H) i r) (G:∀c C f s H,PE (a8 X a M c C f s H) E u)
  (K:∀x,foldedSetIterable iter X.env x=pure x:=by intro _;rfl):
  PE X (.ListComp E [#[t,iter,i,0]] a p) (vI W k l g r u):=by
 intro pins s σ H Q I h
 rw[eval_ListComp]
 refine wpAny_comprehension_free (use:=none) Z K (qA (qX I S)) S.kind S.loc (aU (y pins s σ H _ I h) λxv s1 L=>aU L λO s2 P=>?_)
 obtain⟨it,f,tn,J,H2,e,U,T,d,V,R⟩:=P
 subst e
 refine KB (RR:=λj C=>compPost (model X.prog X.w) X.A X.xe none (EP X pins σ Q) j C) U v T d V S z B G R ?_
 intro D C ys m H' Y _ n I' F ns q
 exact#[m,ns,λh' sb=>#[.ref D,_,I'.turned (t':=Y.toks) (λb o hb e=>(sb.2 b hb).trans e) F.1 F.2.1 F.2.2.2.1 F.2.2.2.2.1 F.2.2.2.2.2,Z,q D n]]
theorem qr{t E iter:Expr}{d:List Expr}{c:Scope}{p P f:Pos}{y:Str}{i:Nat}{M:List Str}{U:Nat}{V:List Nat}{W:TI}{g:TG}{Y:TT}{te:TE}(hN:X.N.Nodup)(hy:X.N[i]?=some y)(hx:Ar X.env.scope y)
  (hc:X.calm=true) (hI:PI X t iter W) (S:bn X.N X.env.scope c M U V)
  (hg:∀l C j s H,PG (a8 X c M l C j s H) t g) (hi:∀l C j s H,PF (a8 X c M l C j s H) d Y) (he:∀l C j s H,PE (a8 X c M l C j s H) E te)
  (r:swapsWith (.ListComp E [#[t,iter,d,0]] c p) (some (.Name y P)) f.line X.env=pure true:=by rfl)
  (hf:X.fn y=true∨X.env.scope.names.lookup y=some .local:=by first |exact .inl Z |exact .inr Z |assumption)
  (hs:∀x,foldedSetIterable iter X.env x=pure x:=by intro _;rfl):
  PS X (.Assign [.Name y P] (.ListComp E [#[t,iter,d,0]] c p) f) (λD σ H=>vI W U V g Y te σ H λv H1=>D.nx (σ.set i (some v)) H1):=by
 intro pins s σ H D I h
 rw[exec_Assign_Name_used _ _ _ _ r]
 refine IF (NC (IF ?_))
 show wpAny _ X.A (do let _ <- comprehension (.ListComp E [#[t,iter,d,0]] c p) c X.env _ (newList []) false (eval iter X.env) (some (assign (.Name y P) X.env))) _ _ s
 refine IF (aU (wpAny_comprehension_free (use:=some (assign (.Name y P) X.env)) (Q:=λ_ k=>SP X pins D .next k) Z hs (qA (qX I S)) S.kind S.loc
  (aU (hI pins s σ H _ I h) λxv s1 h1=>aU h1 λi0 s2 h2=>?_)) λ_ k hq=>II (II hq))
 obtain⟨it,j,tn,J,H2,e,I2,T,u,f2,R⟩:=h2
 subst e
 refine KB (RR:=λB C=>compPost (model X.prog X.w) X.A X.xe (some (assign (.Name y P) X.env)) (λ_ k=>SP X pins D .next k) B C) I2 hc T u f2 S hg hi he R ?_
 intro Dd C ys m H' k _ n I' F ns q
 show wpAny _ X.A (assign (.Name y P) X.env (.ref Dd)) _ _ k
 refine wpAny_assign_Name (Qa I' hN hy hx (v:=.ref Dd) Z (λG K hh=>?_) hf)
 obtain⟨a,sb,ha⟩:=hh
 have L:C≠a:=by
  rcases ha with z |z
  ·rw[z];exact F.2.1
  ·exact Lr (F.2.2.2.2.1 _ _ z)
 exact#[m,ns.sameBut sb L,λh' O=>#[_,_,K.turned (t':=G.toks) (λb o hb e=>(O.2 b hb).trans e) F.1 F.2.1 F.2.2.2.1 F.2.2.2.2.1 F.2.2.2.2.2,q Dd n]]
end
section
variable {X:Cx}
def D8(i j:Int):Prop:=0 < j/\j<=1000000000000000000
theorem Ko:eU X (binaryOp .FloorDiv) (rI D8 λi j=>.int (i / j)):=Gj λi j _ _ _ _ _ h q=>by
 have b:(0:Int) < j:=h.1
 have c:j<=1000000000000000000:=h.2
 refine floordiv_int Pn (by rw[Int.fdiv_eq_ediv_of_nonneg i Pn];exact q) (.inl (PyProof.noPylong_of_log2 ?_))
 have H:j.natAbs≠0:=by omega
 have a:j.natAbs < 2 ^ 60:=by omega
 have d:j.natAbs.log2 < 60:=(Nat.log2_lt H).mpr a
 omega
noncomputable def GJ:V->Option Value
 | .ty n=>some (.type n)
 | .ref a=>some (.ref a)
 |_=>none
theorem JB:dR X (.builtin "isinstance") (λf H Q=>∃x y c t b,f=[x,y]/\GJ y=some c/\gI X.K H x t/\kitOne X.K t c=some b/\Q (.bl b) H):=by
 intro p s i H f U Q I r h
 obtain⟨x,y,c,t,b,rfl,d,ty,e,q⟩:=h
 obtain⟨u,w,rfl,g,R⟩:=FT r
 have E:w=c:=by
  cases y with
  |ty n=>exact Eq.trans R (LB d)
  |ref a=>exact Eq.trans R (LB d)
  |_=>cases d
 subst E
 exact ZP I g ty e λT=>#[.bl b,H,I.tok T,Z,q]
theorem zX:∀{Y:List Str} {U:List Value},aB (Y.map V.str) U->StrsAre U Y
 | [],_,.nil=>.nil
 |y::r,_,.cons (b:=u) h t=>by
  obtain⟨T,e⟩:∃T,u=Value.str y T:=h
  subst e
  exact .cons y T (zX t)
theorem QQ:Gv X "str.join" (λx a H Q=>∃(z:Str) (p:Addr) (y:List Str),x= .str z/\a=[.ref p]/\aJ X.K H p (y.map V.str)/\z.length<=16/\(y.map (·.length)).sum+y.length<=1048576/\Q (.str (Txt.join z y)) H):=by
 intro P s l H x a v U Q I r R h
 obtain⟨z,p,y,rfl,rfl,b,c,d,q⟩:=h
 obtain⟨u,rfl,e⟩:=eQ R
 cases e
 obtain⟨t,rfl⟩:=r
 obtain⟨i,f,g,j⟩:=I.list b
 exact join_listW g.isList (by simpa using zX f) c d λT k=>#[.str _,H,I.tok k,#[_,Z],q]
noncomputable def rG:Expr->Option V
 | .Constant (.str x) _ _=>some (.str x)
 | .Constant (.int i) _ _=>some (.int i)
 |_=>none
theorem C6(h:rG e=some v):PE X e (tC v):=by
 cases e with
 |Constant c j p=>
  cases c with
  |str x=>cases h;exact jo
  |int i=>cases h;exact jg
  |_=>cases h
 |_=>cases h
theorem vF(h:rG e=some v):starEach (e::a) E=(false,eval e E)::starEach a E:=by
 cases e with
 |Constant c j p=>rfl
 |_=>cases h
noncomputable def sP(e:Expr):Bool:=(rG e).isSome
noncomputable def rF(e:Expr):V:=(rG e).getD .non
theorem QR:∀{E:List Expr},E.all sP=true->PA X E (λ_ H Q=>Q (E.map rF) H)
 | [],_=>jb
 |e::E,h=>by
  rw[Pd,L9]at h
  obtain⟨v,a⟩:=Option.isSome_iff_exists.mp (show(rG e).isSome=true from h.1)
  have b:rF e=v:=by unfold rF;rw[a];rfl
  rw[Mi,b]
  exact ja (C6 a) (QR h.2) (vF a)
theorem ZV{E:List Expr}(h:E.all sP=true):(E.map rF).all cQ=true:=by
 rw[N7]at h ⊢
 intro v H
 obtain⟨e,a,rfl⟩:=List.mem_map.mp H
 have q:=h e a
 unfold sP at q
 unfold rF
 cases e with
 |Constant c j p=>
  cases c with
  |str x=>rfl
  |int i=>rfl
  |_=>exact absurd q IW
 |_=>exact absurd q IW
def FM(t:TS):TS:=λD b H=>∃R:St->Hp->Prop,t { D with nx:=R } b H/\∀a h,R a h->D.nx a h
theorem zf{st:Stmt}{t:TS}(h:PS X st t):PS X st (FM t):=by
 intro p s b H D I c
 obtain⟨R,d,e⟩:=c
 refine aU (h p s b H _ I d) λf S q=>?_
 cases f with
 |next=>obtain⟨a,g,i,q⟩:=q;exact#[a,g,i,e _ _ q]
 |brk=>exact q
 |cont=>exact q
 |ret v=>exact q
theorem oZ{t:St}(h:t.length=1):∃v,t=[v]:=by
 cases t with
 |nil=>cases h
 |cons v r=>
  cases r with
  |nil=>exact#[v,Z]
  |cons _ _=>cases h
theorem XU{lo:Int}{t:TE}{Q:List V->Hp->Prop}(Pv:Nat->List V->Hp->Prop)(g:Pv 0 [] H)(j:n<=sizeLine)(b:∀i Y h,Pv i Y h->Y.length<=i)
  (k:∀i Y h,i < n->Pv i Y h->t (some (.int (lo+i))::c) h λy d=>Pv (i+1) (Y++[y]) d) (l:∀Y h,Pv n Y h->Q Y h):
  eh (pZ lo n) 1 c (bG 0) mW t Q H:=by
 refine#[λi m Y h=>m=n - i/\i<=n/\Pv i Y h,#[n,Po,IS _,g],?_]
 rintro i m Y h ⟨rfl,q,p⟩
 by_cases a:i < n
 ·refine .inr #[a,Mu (b i Y h p) (I0 a j),Pv (i+1),λo d P=>#[n - (i+1),Pn,Z,a,P],λx d T f y=>?_]
  obtain⟨e,y⟩:=y
  subst e y
  obtain⟨v,rfl⟩:=oZ f
  exact#[#[[some _],Z,Z],k i Y _ a p]
 ·have e:i=n:=by omega
  subst e
  exact .inl #[IK _,l Y h p]
end
section
variable {κ:Type}[DecidableEq κ]
noncomputable def bN(K:List (κ×V))(k:κ):Option V:=(K.find? λa=>decide (a.1=k)).map (·.2)
noncomputable def aZ(K:List (κ×V))(k:κ)(v:V):List (κ×V):=
 if (K.any λa=>decide (a.1=k))=true then K.map (λa=>if a.1=k then (a.1,v) else a) else K++[(k,v)]
noncomputable def iP(K:List (κ×V))(k:κ):List (κ×V):=K.filter λa=>decide (a.1≠k)
theorem km{p:κ×V}(e:p.1=k):bN (p::r) k=some p.2:=by simp [bN,M6,e]
theorem kn{p:κ×V}(e:¬p.1=k):bN (p::r) k=bN r k:=by simp [bN,M6,e]
theorem qY(k:κ):∀K:List (κ×V),(K.any λa=>decide (a.1=k))=(bN K k).isSome
 | []=>rfl
 |p::r=>by
  rw[Nu]
  by_cases e:p.1=k
  ·simp only[km e,IV e,Bool.true_or,Option.isSome_some]
  ·rw[kn e,IQ e,Bool.false_or];exact qY k r
theorem Xk(k j:κ)(y:V):∀K:List (κ×V),bN (K.map λa=>if a.1=k then (a.1,y) else a) j=(bN K j).map λx=>if j=k then y else x
 | []=>rfl
 |p::r=>by
  have i:=Xk k j y r
  rw[Mi]
  by_cases h:p.1=k
  ·rw[IU h]
   by_cases e:p.1=j
   ·rw[km (p:=(p.1,y)) e,km e,Oh,IU (e.symm.trans h)]
   ·rw[kn (p:=(p.1,y)) e,kn e,i]
  ·rw[IX h]
   by_cases e:p.1=j
   ·rw[km (p:=p) e,km e,Oh,IX (λz=>h (e.trans z))]
   ·rw[kn (p:=p) e,kn e,i]
theorem Qi(k j:κ)(y:V):∀K:List (κ×V),bN K k=none->bN (K++[(k,y)]) j=if j=k then some y else bN K j
 | [],_=>by
  by_cases e:k=j
  ·rw[IU e.symm];exact km (p:=(k,y)) e
  ·rw[IX (λz=>e z.symm)];exact kn (p:=(k,y)) e
 |p::r,h=>by
  rw[List.cons_append]
  have H:¬p.1=k:=λz=>by rw[km z]at h;cases h
  rw[kn H]at h
  have i:=Qi k j y r h
  by_cases e:p.1=j
  ·rw[km e,km e,IX (λz=>H (e.trans z))]
  ·rw[kn e,kn e,i]
theorem wb(K:List (κ×V))(k j:κ)(y:V):bN (aZ K k y) j=if j=k then some y else bN K j:=by
 unfold aZ
 by_cases a:(K.any λb=>decide (b.1=k))=true
 ·rw[IU a,Xk]
  rw[qY]at a
  by_cases e:j=k
  ·obtain⟨x,h⟩:=Option.isSome_iff_exists.mp a
   rw[IU e,e,h,Oh,IU Z]
  ·rw[IX e]
   cases bN K j with
   |none=>rfl
   |some x=>rw[Oh,IX e]
 ·rw[IX a]
  refine Qi k j y K ?_
  rw[qY]at a
  cases q:bN K k with
  |none=>rfl
  |some x=>rw[q]at a;exact(a Z).elim
theorem qo(K:List (κ×V))(k:κ)(v:V):(aZ K k v).length<=K.length+1:=by
 unfold aZ
 split
 ·rw[IJ];omega
 ·rw[IL,Lm,OV];omega
theorem dJ.isSome_eq(r:dJ o u):o.isSome=u.isSome:=by
 cases o with
 |none=>cases u with
  |none=>rfl
  |some _=>exact(show False from r).elim
 |some _=>cases u with
  |none=>exact(show False from r).elim
  |some _=>rfl
theorem dJ.getD(r:dJ o u)(R:aD d D):aD (o.getD d) (u.getD D):=by
 cases o with
 |none=>cases u with
  |none=>exact R
  |some _=>exact(show False from r).elim
 |some _=>cases u with
  |none=>exact(show False from r).elim
  |some _=>exact r
theorem KV.val(r:KV a v)(k:κ):dJ (bN a k) (valueAt v k):=by
 unfold KV at r
 induction r with
 |nil=>exact True.intro
 | @cons p q P Q h t i=>
  obtain⟨H,c⟩:=h
  by_cases e:p.1=k
  ·have E:q.1=k:=H.symm.trans e
   have b:valueAt (q::Q) k=some q.2:=by simp [valueAt,M6,E]
   rw[km e,b];exact c
  ·have E:¬q.1=k:=λz=>e (H.trans z)
   have b:valueAt (q::Q) k=valueAt Q k:=by simp [valueAt,M6,E]
   rw[kn e,b];exact i
theorem KV.any(r:KV a v)(k:κ):(a.any λK=>decide (K.1=k))=v.any λK=>decide (K.1=k):=by
 unfold KV at r
 induction r with
 |nil=>rfl
 |cons h t i=>rw[Nu,Nu,i,h.1]
theorem KV.repl(r:KV a v)(k:κ)(R:aD y u):
  KV (a.map λK=>if K.1=k then (K.1,y) else K) (v.map λK=>if K.1=k then (K.1,u) else K):=by
 unfold KV at r ⊢
 induction r with
 |nil=>exact .nil
 | @cons p q P Q h t i=>
  rw[Mi,Mi]
  refine .cons ?_ i
  obtain⟨H,b⟩:=h
  by_cases e:p.1=k
  ·rw[IU e,IU (H.symm.trans e)];exact#[H,R]
  ·rw[IX e,IX (λz=>e (H.trans z))];exact#[H,b]
theorem KV.put(r:KV a v)(k:κ)(R:aD y u):KV (aZ a k y) (stored v k u):=by
 unfold aZ stored
 rw[r.any k]
 by_cases e:(v.any λK=>decide (K.1=k))=true
 ·rw[IU e,IU e];exact r.repl k R
 ·rw[IX e,IX e];exact Paired.snoc r #[Z,R]
theorem KV.drop(r:KV c v)(k:κ):KV (iP c k) (without v k):=by
 unfold KV at r ⊢
 unfold iP without
 induction r with
 |nil=>exact .nil
 | @cons p q P Q h t i=>
  obtain⟨H,d⟩:=h
  rw[List.filter_cons,List.filter_cons]
  by_cases e:p.1=k
  ·have a:¬decide (p.1≠k)=true:=by simp [e]
   have b:¬decide (q.1≠k)=true:=by simp [H.symm.trans e]
   rw[IX a,IX b];exact i
  ·have E:¬q.1=k:=λz=>e (H.trans z)
   have a:decide (p.1≠k)=true:=by simp [e]
   have b:decide (q.1≠k)=true:=by simp [E]
   rw[IU a,IU b];exact .cons #[H,d] i
theorem KV.length(r:KV k v):k.length=v.length:=Paired.length r
theorem Xl(K:List (κ×V))(k:κ):(iP K k).length<=K.length:=Np _ _
end
theorem J6{P:Program}(r:aD (kV k) u):(aS P w).is k u=true:=by
 cases k with
 |inl i=>obtain⟨t,e⟩:=(show ∃t,u=Value.int i t from r);subst e;exact XS P w i t
 |inr x=>obtain⟨t,e⟩:=(show ∃t,u=Value.str x t from r);subst e;exact XT P w x t
theorem Qj{P:Program}:∀{K:List bo} {u:List Value},aB (K.map kV) u->ItemsAre (aS P w) K u
 | [],_,r=>by rw[List.map_nil]at r;cases r;exact .nil
 |k::K,_,r=>by
  rw[Mi]at r
  cases r with
  |cons h t=>exact .cons (J6 h) (Qj t)
abbrev KT(H:Hp):List (List bo×V)->List (List bo×Addr×Value)->Prop:=Paired λp q=>p.1=q.1/\H q.2.1=some (.tup (p.1.map kV))/\aD p.2 q.2.2
theorem KT.val(r:KT H a x)(k:List bo):dJ (bN a k) ((atKey x k).map (·.2)):=by
 induction r with
 |nil=>exact True.intro
 | @cons p q P Q h t i=>
  obtain⟨c,_,d⟩:=h
  by_cases e:p.1=k
  ·have E:q.1=k:=c.symm.trans e
   have b:atKey (q::Q) k=some q.2:=by simp [atKey,M6,E]
   rw[km e,b];exact d
  ·have E:¬q.1=k:=λz=>e (c.trans z)
   have b:atKey (q::Q) k=atKey Q k:=by simp [atKey,M6,E]
   rw[kn e,b];exact i
theorem KT.repl(r:KT H b x)(k:List bo)(R:aD y u):
  KT H (b.map λK=>if K.1=k then (K.1,y) else K) (x.map (putAt k u)):=by
 induction r with
 |nil=>exact .nil
 | @cons p q P Q h t i=>
  rw[Mi,Mi]
  refine .cons ?_ i
  obtain⟨a,c,d⟩:=h
  unfold putAt
  by_cases e:p.1=k
  ·rw[IU e,IU (a.symm.trans e)];exact#[a,c,R]
  ·rw[IX e,IX (λz=>e (a.trans z))];exact#[a,c,d]
theorem KT.put(r:KT H a x)(k:List bo)(h:H b=some (.tup (k.map kV)))(R:aD y u):
  KT H (aZ a k y) (storedH x k b u):=by
 have e:(a.any λK=>decide (K.1=k))=(atKey x k).isSome:=by
  rw[qY,(r.val k).isSome_eq,Option.isSome_map]
 unfold aZ storedH
 rw[e]
 by_cases q:(atKey x k).isSome=true
 ·rw[IU q,IU q];exact r.repl k R
 ·rw[IX q,IX q];exact Paired.snoc r #[Z,h,R]
theorem KT.keeps{h:Hp}(r:KT H k x)(a:∀b y,H b=some (.tup y)->h b=some (.tup y)):KT h k x:=
 Paired.mapP r λ_ _ z=>#[z.1,a _ _ z.2.1,z.2.2]
section
variable {P:Program}{w:World}{H:Hp}{h:Heap}{a:Addr}
theorem AZ(o:fb P w H h)(e:Rd H a u):aL P w H h a u:=e.ok o
theorem J7(o:fb P w H h)(e:Rd H a (.dK k)):k.length<=sizeLine/\(a==sysModules)=false/\∃v,KV k v/\h.DictOf (aS P w) a v:=
 show aL P w H h a (.dK k) from AZ o e
theorem Av(o:fb P w H h)(e:H a=some (.dK k)):k.length<=sizeLine/\(a==sysModules)=false/\∃v,KV k v/\h.DictOf (aS P w) a v:=J7 o (.inl e)
theorem Ki{k:List bo}(O:fb P w H h)(e:H a=some (.tup (k.map kV))):(tupleKind (aS P w)).is h k a:=by
 obtain⟨_,i,r,o,b,c,n,d⟩:=(show aL P w H h a (.tup (k.map kV)) from O a _ e)
 exact#[o,i.toArray,n,b,c,d,by simpa using Qj r]
theorem K6(O:fb P w H h)(e:Rd H a (.dT k)):k.length<=sizeLine/\(a==sysModules)=false/\
  ∃X,KT H k X/\h.DictOfH (tupleKind (aS P w)) a X:=by
 obtain⟨z,y,X,r,o,E,c,d,f,g,i,j⟩:=(show aL P w H h a (.dT k) from AZ O e)
 refine#[z,y,X,r,o,E,c,d,f,g,i,λx hx=>?_,j]
 have all:∀{l:List (List bo×V)} {m:List (List bo×Addr×Value)},KT H l m->∀x∈m,(tupleKind (aS P w)).is h x.1 x.2.1:=by
  intro l m q
  induction q with
  |nil=>intro x hx;exact nomatch hx
  | @cons p q n Q b t I=>
   intro x hx
   rcases List.mem_cons.mp hx with e |hx
   ·subst e
    exact Ki O (by rw[<- b.1];exact b.2.1)
   ·exact I x hx
 exact all r x hx
theorem EA(o:fb P w H h)(e:H a=some (.dT k)):k.length<=sizeLine/\(a==sysModules)=false/\
  ∃x,KT H k x/\h.DictOfH (tupleKind (aS P w)) a x:=K6 o (.inl e)
end
def fK(H:Hp)(a:Addr)(y:V)(r:Option V):Prop:=
 (∃K k,Rd H a (.dK K)/\y=kV k/\r=bN K k)∨∃K k b,Rd H a (.dT K)/\y= .ref b/\H b=some (.tup (k.map kV))/\r=bN K k
def ni(H:Hp)(a:Addr)(y v:V)(h:Hp):Prop:=
 (∃K k,H a=some (.dK K)/\y=kV k/\K.length < sizeLine/\h=ah H a (.dK (aZ K k v)))∨
 ∃K k b,H a=some (.dT K)/\y= .ref b/\H b=some (.tup (k.map kV))/\K.length < sizeLine/\h=ah H a (.dT (aZ K k v))
theorem fK.k{H:Hp}{k:bo}(e:H a=some (.dK b)):fK H a (kV k) (bN b k):=.inl #[b,k,.inl e,Z,Z]
theorem ni.k{H:Hp}{k:bo}(e:H a=some (.dK b))(h:b.length < sizeLine):ni H a (kV k) v (ah H a (.dK (aZ b k v))):=.inl #[b,k,e,Z,h,Z]
section
variable {X:Cx}{pins:List (Addr×Obj)}{σ:St}{H:Hp}{s:Shared}{a:Addr}{y v:V}{u r:Value}{o:Option V}{A:Around}{E:Value->Shared->Prop}
theorem aq.big(I:aq X pins σ H s):sysModules < s.heap.objs.size:=by
 have h:mainGlobals < s.heap.objs.size:=(I.mod.glob.keeps I.bk).lt
 exact Nat.lt_trans Pm h
theorem ZW{Q:Value->Shared->Prop}(m:A.units+1 < cLine)(I:aq X pins σ H s)(g:fK H a y (some v))(j:aD y u)(h:∀W S,aq X pins σ H S->aD v W->Q W S):
  wpAny (model X.prog X.w) A (getItem (.ref a) u) Q E s:=by
 rcases g with ⟨K,k,e,d,l⟩ | ⟨K,k,b,e,d,n,l⟩
 ·subst d
  obtain⟨z,q,t,R,D⟩:=J7 I.hok e
  obtain⟨W,f,c⟩:=dJ.some_of (v:=v) (o:=valueAt t k) (by rw[l];exact R.val k)
  exact wpAny_getItem_of (J6 j) D.mapOf f (h W _ (I.tok _) c)
 ·subst d
  cases (show u=Value.ref b from j)
  obtain⟨z,q,x,R,D⟩:=K6 I.hok e
  obtain⟨W,f,c⟩:=dJ.some_of (v:=v) (o:=(atKey x k).map (·.2)) (by rw[l];exact R.val k)
  obtain⟨p,B,i⟩:=Option.map_eq_some_iff.mp f
  refine wpAny_getItem_heap (NR m) (Ki I.hok n) D B ?_
  rw[i]
  exact h W _ (I.tok _) c
theorem GP{Q:Value->Shared->Prop}(i:A.units+1 < cLine)(I:aq X pins σ H s)(g:fK H a y o)(f:aD y u)(h:∀S,aq X pins σ H S->Q (.bool o.isSome) S):
  wpAny (model X.prog X.w) A (compareOp .In u (.ref a)) Q E s:=by
 rcases g with ⟨K,k,e,c,l⟩ | ⟨K,k,b,e,c,j,l⟩
 ·subst c
  obtain⟨z,d,m,R,D⟩:=J7 I.hok e
  refine wpAny_in_of (J6 f) d D.mapOf ?_
  rw[<- (R.val k).isSome_eq,<- l]
  exact h _ (I.tok _)
 ·subst c
  cases (show u=Value.ref b from f)
  obtain⟨z,d,x,R,D⟩:=K6 I.hok e
  refine wpAny_in_heap (NR i) (Ki I.hok j) d D ?_
  have q:=(R.val k).isSome_eq
  rw[Option.isSome_map]at q
  rw[<- q,<- l]
  exact h _ (I.tok _)
theorem QS(I:aq X pins σ H s)(m:Ee (H a))(c:Heap.SameBut a s.heap h)(d:∃q,h.get? a=some q)(n:aL X.prog X.w (ah H a O) h a O):
  aq X pins σ (ah H a O) { s with heap:=h,toks:=t }:=
 I.write (x:=a) (e:=a) m (.inl Z) (λb q f z=>(c.2 b f).trans z) d n
theorem QE{P:Program}{h:Heap}{k:List (bo×V)}(z:k.length<=sizeLine)(c:(a==sysModules)=false)(R:KV k b)(d:h.DictOf (aS P w) a b):
  aL P w e h a (.dK k):=#[z,c,b,R,d]
theorem ZX{Q:Unit->Shared->Prop}(J:A.units+1 < cLine)(I:aq X pins σ H s)(g:ni H a y v L)(x:aD y u)(B:aD v r)(h:∀S,aq X pins σ L S->Q () S):
  wpAny (model X.prog X.w) A (setItem (.ref a) u r) Q E s:=by
 rcases g with ⟨K,k,e,i,l,j⟩ | ⟨K,k,b,e,i,C,l,j⟩
 ·subst i j
  obtain⟨z,m,M,R,D⟩:=Av I.hok e
  have n:M.length<=sizeLine:=by rw[<- R.length];exact z
  have p:(aZ K k v).length<=sizeLine:=by have:=qo K k v;omega
  refine wpAny_setItem_pairs (hsz:=n) (J6 x) D λF d t=>h _ ?_
  have N:∃q,F.get? a=some q:=let #[q,_,_,f,_]:=d;#[q,f]
  exact QS I (by rw[e];exact True.intro) t N (QE p m (R.put k B) d)
 ·subst i j
  cases (show u=Value.ref b from x)
  obtain⟨z,m,O,R,D⟩:=EA I.hok e
  have n:O.length<=sizeLine:=by rw[<- Paired.length R];exact z
  have p:(aZ K k v).length<=sizeLine:=by have:=qo K k v;omega
  refine wpAny_setItem_heap (hsz:=n) (NR J) (Ki I.hok C) D λF d t=>h _ ?_
  obtain⟨q,P,T,f,U,W,Y,_,h5⟩:=d
  refine QS I (by rw[e];exact True.intro) t #[q,f] #[p,m,_,(R.put k C B).keeps λc ys G=>?_,q,P,T,f,U,W,Y,h5]
  rw[jh (jS G e (λz=>nomatch z))]
  exact G
end
section
variable {X:Cx}{pins:List (Addr×Obj)}{σ:St}{H:Hp}{s:Shared}{a:Addr}{kvs:List (bo×V)}{k:bo}{u:Value}{A:Around}{E:Value->Shared->Prop}
theorem Eu{Q:Value->Shared->Prop}(I:aq X pins σ H s)(e:H a=some (.dK kvs))(R:aD (kV k) u)(l:bN kvs k=some v)(c:m=[]∨∃x,m=[x])
  (h:∀W S,aq X pins σ (ah H a (.dK (iP kvs k))) S->aD v W->Q W S):wpAny (model X.prog X.w) A (call (.builtin "dict.pop") (.ref a::u::m)) Q E s:=by
 obtain⟨z,g,f,r,D⟩:=Av I.hok e
 obtain⟨W,j,b⟩:=dJ.some_of (v:=v) (o:=valueAt f k) (by rw[<- l];exact r.val k)
 have n:(keyPart u).isSome=true:=by
  cases k with
  |inl i=>obtain⟨t,q⟩:=(show ∃t,u=Value.int i t from R);subst q;rfl
  |inr x=>obtain⟨t,q⟩:=(show ∃t,u=Value.str x t from R);subst q;rfl
 have p:argsOk "dict.pop" #[.ref a::u::m,[]]:=by
  rcases c with q | ⟨x,q⟩
  ·subst q;exact PySem.F.args_dict_pop_2 _ _
  ·subst q;exact PySem.F.args_dict_pop_3 _ _ _
 refine call_meetsIn PySem.F.slot_dict_pop D.typeIs PySem.F.entry_dict_pop p (meets_dict_pop_there (aS X.prog X.w) a (J6 R) m c n)
  #[f,W,D,by rw[<- r.length];exact z,j,λy d B=>h W _ ?_ b]
 have C:∃q,y.get? a=some q:=let #[q,_,_,G,_]:=d;#[q,G]
 exact QS I (by rw[e];exact True.intro) B C (QE (IZ (Xl kvs k) z) g (r.drop k) d)
end
def Ef(i:Expr):Prop:=∀o I,subscripted i false o I=operate [o,I] (getItem o I)
theorem y8{id:String}
  (k:typeLookup (.type T) "__getitem__"=pure (some (.builtin id))) (l:Ef a)
  (h:wpAny (model p w) A (eval v e) (λo b=>wpAny (model p w) A (eval a e) (λi S=>S.TypeIs o T/\wpAny (model p w) A (getItem o i) Q E S) E b) E s):
  wpAny (model p w) A (eval (.Subscript v a m) e) Q E s:=by
 refine Subscript_ (LS h (λo b d=>LS d (λi S H=>?_) λ_ _ x=>x) λ_ _ x=>x)
 obtain⟨j,H⟩:=H
 unfold subscriptTail
 refine IF ?_
 rw[getitemInPython_of_ne j.not_modules]
 refine IF (MM j k ?_)
 have f:wpAny (model p w) A (subscripted a false o i) (λr c=>wpAny (model p w) A (letTemporaryGo v o r >>= λ_=>pure r) Q E c) E S:=by
  rw[l o i]
  exact wpAny_operating (LS H (λr c g=>IF (wpAny_letTemporaryGo (II g))) λ_ _ x=>x)
 first
  |exact II (IF f)
  |exact IF (II (IF f))
  |exact IF f
theorem XV{X:Cx}(I:aq X p c H s)(g:fK H a y o):s.TypeIs (.ref a) "dict":=by
 rcases g with ⟨K,k,e,_,_⟩ | ⟨K,k,b,e,_,_,_⟩
 ·obtain⟨_,_,v,_,d⟩:=J7 I.hok e
  exact d.typeIs
 ·obtain⟨_,_,x,_,d⟩:=K6 I.hok e
  exact d.typeIs
inductive vJ(Q:VK)(x y:V)(b:Hp):Prop
 |mk(a v:_)(_:x= .ref a)(_:fK b a y (some v))(_:Q v b)
def FH(t T:TE):TE:=λa H Q=>t a H λx h=>T a h (vJ Q x)
inductive A9(Q:VK)(y x:V)(b:Hp):Prop
 |mk(a o:_)(_:x= .ref a)(_:fK b a y o)(_:Q (.bl o.isSome) b)
def Hq(t T:TE):TE:=λa H Q=>t a H λy h=>T a h (A9 Q y)
inductive uH(D:bp)(d:St)(v x y:V)(b:Hp):Prop
 |mk(a c:_)(_:x= .ref a)(_:ni b a y v c)(_:D.nx d c)
def uG(t T b:TE):TS:=λD a H=>b a H λv h=>t a h λx c=>T a c (uH D a v x)
section
variable {X:Cx}{o i e value:Expr}{pos pos' tpos:Pos}{td ty tv:TE}
theorem yq(d:X.A.units+1 < cLine)(f:PE X o td)(j:PE X i ty)(k:Ef i):PE X (.Subscript o i pos) (FH td ty):=by
 intro p s b H Q I h
 refine y8 PySem.F.slot_dict_getitem.lookup k (aU (f p s b H _ I h) λu S #[x,l,m,R,q]=>aU (j p S b l _ m q) λC D z=>?_)
 obtain⟨y,n,c,t,a,v,E,g,w⟩:=z
 subst E
 obtain rfl:u=Value.ref a:=R
 exact#[XV c g,ZW d c g t λW G B r=>#[v,n,B,r,w]]
theorem C4(c:X.A.units+1 < cLine)(d:PE X i ty)(f:PE X o td):PC X .In i o (Hq ty td):=by
 intro p s b H Q I h
 refine aU (d p s b H _ I h) λv S #[y,j,k,r,q]=>aU (f p S b j _ k q) λu w z=>?_
 obtain⟨x,l,m,R,a,O,E,g,n⟩:=z
 subst E
 obtain rfl:u=Value.ref a:=R
 exact GP c m g r λB t=>#[.bl O.isSome,l,t,Z,n]
theorem qP(c:X.A.units+1 < cLine)(d:PE X o td)(f:PE X i ty)(j:PE X value tv)(k:swapsWith value (some (.Subscript o i pos')) pos.line X.env=pure false):
  PS X (.Assign [.Subscript o i pos'] value pos) (uG td ty tv):=by
 intro p s b H D I h
 refine wpAny_Assign_Subscript (aU (j p s b H _ I h) λr S #[v,l,m,R,q]=>aU (d p S b l _ m q) λu n #[x,t,w,B,Q]=>aU (f p n b t _ w Q) λL M z=>?_) k
 obtain⟨y,N,C,E,a,F,G,g,J⟩:=z
 subst G
 obtain rfl:u=Value.ref a:=B
 exact ZX c C g E R λO K=>#[b,F,K,J]
end
theorem rK{P:Program}(h:Heap)(a:sysModules < h.objs.size):aL P w H (h.push { cls:=.type "dict",data:=.dict (List.toArray []) }) h.objs.size (.dK []):=
 #[IS _,beq_eq_false_iff_ne.mpr (Lr (IY a)),[],.nil,Heap.DictOf.new h]
def DJ:TE:=λ_ H Q=>∀p,H p=none->Q (.ref p) (ah H p (.dK []))
section
variable {X:Cx}{pos:Pos}
theorem Xm:PE X (.Dict [] [] pos) DJ:=λp s b H Q I h=>
 wpAny_Dict_empty #[.ref s.heap.objs.size,_,I.laid (a:=s.heap.objs.size) (o:=.dK []) (t':=s.toks) (λ_ _ q=>IH _ q) (IK _) (rK s.heap I.big),Z,h _ (I.hok.fresh (IK _))]
end
noncomputable def c8(k m:List (bo×V)):List (bo×V):=m.foldl (λa K=>aZ a K.1 K.2) k
theorem KV.merge:∀{m:List (bo×V)} {R:List (bo×Value)} {k:List (bo×V)} {v:List (bo×Value)},KV m R->KV k v->KV (c8 k m) (merged v R):=by
 intro m R k v r
 unfold KV at r
 induction r generalizing k v with
 |nil=>intro q;exact q
 | @cons p q P Q h t i=>
  intro a
  have e:KV (aZ k p.1 p.2) (stored v q.1 q.2):=by
   have:=a.put p.1 h.2
   rw[<- h.1];exact this
  exact i e
theorem qB:∀(m k:List (bo×V)),(c8 k m).length<=k.length+m.length
 | [],k=>by show k.length<=k.length+0;omega
 |p::r,k=>by
  have h:=qB r (aZ k p.1 p.2)
  have H:=qo k p.1 p.2
  show(c8 (aZ k p.1 p.2) r).length<=_
  rw[Lm];omega
structure M2(X:Cx)(o:Expr)(m:Str)(apos:Pos)(e f:Expr)(cpos:Pos):Prop where
 base:attributeBase o m X.env (eval o X.env)=eval o X.env
 few:((backTo cpos (starEach [e,f] X.env)).all (λx=>!x.1)&&(backToKw cpos (keywordEach [] X.env)).all (λx=>x.1.isSome)
  &&decide (([e,f]:List Expr).length+([]:List Keyword).length+(if ([]:List Keyword).isEmpty then 0 else 1) < 30))=true
 line:(apos.endLine==cpos.line)=true
 trees:backTo cpos (starEach [e,f] X.env)=[(false,eval e X.env),(false,eval f X.env)]
def HV(H:Hp)(a:Addr):Prop:=(∃k,Rd H a (.dK k))∨∃k,Rd H a (.dT k)
theorem BO{X:Cx}(I:aq X p g H s)(d:HV H a):
  s.TypeIs (.ref a) "dict"/\(∀b,Value.ref a= .ref b->∃o,s.heap.get? b=some o/\o.dict=none)/\(a==sysModules)=false:=by
 rcases d with ⟨k,e⟩ | ⟨k,e⟩
 ·obtain⟨_,h,v,_,D⟩:=J7 I.hok e
  refine#[D.typeIs,λb q=>?_,h]
  cases q
  obtain⟨o,_,_,c,f,_⟩:=D
  exact#[o,c,f.2.1]
 ·obtain⟨_,h,x,_,D⟩:=K6 I.hok e
  refine#[D.typeIs,λb q=>?_,h]
  cases q
  obtain⟨o,_,_,c,f,_⟩:=D
  exact#[o,c,f.2.1]
section
variable {X:Cx}{pins:List (Addr×Obj)}{σ:St}{H:Hp}{s:Shared}{a:Addr}{y d:V}{u r:Value}{o:Option V}{A:Around}{E:Value->Shared->Prop}
theorem Bz{Q:Value->Shared->Prop}(m:A.units+1 < cLine)(I:aq X pins σ H s)(g:fK H a y o)(i:aD y u)(j:aD d r)(h:∀W S,aq X pins σ H S->aD (o.getD d) W->Q W S):
  wpAny (model X.prog X.w) A (call (.builtin "dict.get") [.ref a,u,r]) Q E s:=by
 rcases g with ⟨K,k,e,c,l⟩ | ⟨K,k,b,e,c,n,l⟩
 ·subst c
  obtain⟨z,f,v,R,D⟩:=J7 I.hok e
  refine call_meetsIn Op D.typeIs PySem.F.entry_dict_get (Pk _ _ _) (meets_dict_get_default (aS X.prog X.w) a (J6 i) f r) #[_,D.mapOf,h _ _ (I.tok _) ?_]
  rw[l]
  exact(R.val k).getD j
 ·subst c
  cases (show u=Value.ref b from i)
  obtain⟨z,f,x,R,D⟩:=K6 I.hok e
  refine call_meetsIn Op D.typeIs PySem.F.entry_dict_get (Pk _ _ _) (meetsH_dict_get_default (tupleKind (aS X.prog X.w)) a b f r) #[NR m,k,x,Ki I.hok n,D,h _ _ (I.tok _) ?_]
  rw[l]
  exact(R.val k).getD j
end
inductive oH(d c:TE)(e:St)(Q:VK)(x:V)(b:Hp):Prop
 |mk(a:_)(_:x= .ref a)(_:HV b a)(_:d e b λy H2=>c e H2 λz H3=>∃o,fK H3 a y o/\Q (o.getD z) H3)
def DI(t T b:TE):TE:=λa H Q=>t a H (oH T b a Q)
section
variable {X:Cx}{o e f:Expr}{apos cpos:Pos}{td ty tx:TE}
theorem Kq(j:X.A.units+1 < cLine)(k:PE X o td)(l:PE X e ty)(n:PE X f tx)(m:M2 X o "get" apos e f cpos):PE X (.Call (.Attribute o "get" apos) [e,f] [] cpos) (DI td ty tx):=by
 intro p s b H Q I h
 refine wpAny_Call_method m.base m.few m.line Ph Op PySem.F.type_dict_get (aU (k p s b H _ I h) λu S c=>?_)
 obtain⟨x,q,i,R,a,E,d,t⟩:=c
 subst E
 obtain rfl:u=Value.ref a:=R
 obtain⟨T,v,_⟩:=BO i d
 refine#[T,v,?_]
 rw[m.trees]
 refine OE Z (Calls.evalArgs_plain (MK (aU (l p S b q _ i t) λO w #[y,B,C,D,G]=>
  MK (aU (n p w b B _ C G) λP U #[z,J,K,L,V,g,M]=>M3 ?_))))
 exact Bz j K g D L λW Y N r=>#[_,J,N,r,M]
end
section
variable {X:Cx}{pins:List (Addr×Obj)}{σ:St}{H:Hp}{s:Shared}{a:Addr}{kvs:List (bo×V)}{A:Around}{E:Value->Shared->Prop}
theorem rH{Q:Value->Shared->Prop}(I:aq X pins σ H s)(e:Rd H a (.dK kvs))(h:∀p S,H p=none->aq X pins σ (ah H p (.dK kvs)) S->Q (.ref p) S):wpAny (model X.prog X.w) A (call (.type "dict") [.ref a]) Q E s:=by
 obtain⟨z,f,v,r,D⟩:=J7 I.hok e
 refine kt_call_dict f D (by rw[<- r.length];exact z) λi d g=>?_
 refine h _ _ (I.hok.fresh (IK _)) (I.laid (a:=s.heap.objs.size) (o:=.dK kvs) (t':=s.toks) (λb q c=>?_) (IK _) (QE z (beq_eq_false_iff_ne.mpr (Lr (IY I.big))) r d))
 exact(g.2 b (IY (IP c))).trans (IH _ c)
end
section
variable {X:Cx}{pins:List (Addr×Obj)}{σ:St}{H:Hp}{s:Shared}
theorem Qk:dR X (.type "dict") (λx H Q=>∃a k,x=[.ref a]/\H a=some (.dK k)/\∀p,H p=none->Q (.ref p) (ah H p (.dK k))):=by
 intro pins s σ H x U Q I r h
 obtain⟨a,k,rfl,b,q⟩:=h
 obtain⟨u,rfl,R⟩:=eQ r
 cases R
 exact rH I (.inl b) λp S n i=>#[.ref p,_,i,Z,q p n]
end
section
open PySem.W PySem.Calls Builtin Builtin.ObjectAttr
variable {prog:Program}{w:World}{A:Around}{E:Value->Shared->Prop}{s:Shared}{K:Frag}{x C:Addr}{ox:Obj}{od:Option Obj}{name:Str}
structure rf(K:Frag)(C:Addr):Prop where
 ga:findIn K (.ref C) "__getattribute__"=some (some (.builtin "BaseException.__getattribute__"))
 gh:findIn K (.ref C) "__getattr__"=some none
 sa:findIn K (.ref C) "__setattr__"=some (some (.builtin "object.__setattr__"))
 cl:findIn K (.ref C) "__class__"=some (some (.builtin "object.__class__"))
 gt:specialIn K (.builtin "object.__class__") "__get__"=some (some (.builtin "getset_descriptor.__get__"))
 tk:takesIn K (.builtin "object.__class__")=some true
 mb:mroIn K C (.type "BaseException")=some true
 mo:mroIn K C (.type "object")=some true
 hd:hasDictIn K C=true
abbrev oU:List Value:=[.type "ValueError",.type "Exception",.type "BaseException",.type "object"]
end
section
open PySem.W PySem.Calls
variable {prog:Program}{w:World}{A:Around}{E:Value->Shared->Prop}{R:Result->Shared->Prop}{K:Frag}{h:Heap}{g:Array GenState}{d:Drawn}{t:Nat}{os:OsState}{C B:Addr}
theorem ZY(q:excIn K C oU "ValueError.__new__"=true):(∃p q N r f a s sub u c D k i j m o,K.lookup C=some (excClassObj p q C N r f a s sub u c D k i j m o "ValueError.__new__")/\tailIn K oU f=true/\nsOkIn K N=true/\nsIn K N "__init__"=some none):=by
 unfold excIn at q
 split at q
 ·rename_i D z S F
  split at q
  ·rename_i O f k i j m n o x y
   simp only[L9,beq_iff_eq,Bool.not_eq_true']at q
   obtain⟨⟨⟨⟨⟨rfl,rfl⟩,H⟩,G⟩,b⟩,e⟩:=q
   obtain⟨p,r,M,I,Q,J,s,sub,u,c,L⟩:=z
   dsimp only at x H b e
   subst x H
   have v:S=(List.toArray [k,i,j,m,some (.builtin "ValueError.__new__"),o]):=by
    obtain⟨l⟩:=S
    simp only at y
    rw[y]
   subst v
   exact#[p,Q,I,r,f,J,s,sub,u,c,D,k,i,j,m,o,F,G,b,e]
  ·cases q
 ·cases q
end
theorem aL.obj{P:Program}{a:Addr}(x:aL P w H h a o):∃u,h.get? a=some u:=by
 cases o with
 |lst X=>obtain⟨_,_,_,_,e⟩:=x;exact#[_,e]
 |tup X=>obtain⟨_,_,_,o,e,_⟩:=x;exact#[_,e]
 |dK k=>obtain⟨_,_,_,_,o,_,_,e,_⟩:=x;exact#[_,e]
 |dT k=>obtain⟨_,_,_,_,o,_,_,e,_⟩:=x;exact#[_,e]
 |set S n=>obtain⟨o,_,_,_,e,_⟩:=x;exact#[_,e]
 |ins C d F=>obtain⟨_,_,_,e,_⟩:=x;exact#[_,e]
 |own y=>obtain⟨_,e⟩:=x;exact#[_,e]
 |xd F=>obtain⟨_,⟨_,_,_,e,_⟩,_⟩:=x;exact#[_,e]
 |rng lo b=>obtain⟨_,_,_,e⟩:=x;exact#[_,e]
 |frz O u=>obtain⟨e,_⟩:=x;exact#[_,e]
 |tbl p=>exact#[_,(show h.get? a=some _ from x)]
 |met f y=>exact#[_,(show h.get? a=some _ from x)]
 |ext c=>obtain⟨_,⟨_,e⟩,_⟩:=x;exact#[_,e]
theorem aq.laidN{X:Cx}{h':Heap}{a:Addr}{o:HO}{t':Nat}(I:aq X p g H s)(k:∀b u,s.heap.get? b=some u->h'.get? b=some u)(d:s.heap.get? a=none)(N:aL X.prog X.w (ah H a o) h' a o):
  H a=none/\aq X p g (ah H a o) { s with heap:=h',toks:=t' }:=by
 have i:∀b u,s.heap.get? b=some u->b≠a:=λb u q z=>by rw[z,d]at q;cases q
 have h:H a=none:=by
  cases q:H a with
  |none=>rfl
  |some u=>obtain⟨U,e⟩:=(I.hok a u q).obj;rw[d]at e;cases e
 refine#[h,I.un ?_ ?_]
 ·exact { keep:=λb u q _ _ _=>k b u q,slot:=λb u q _ _ _=>#[u.slots,k b u q],free:=λb u q n _=>by rw[jh (i b u q)];exact n,there:=λb u q _=>#[u,k b u q],tups:=λb x q=>by rw[jh (ji q h)];exact q,frzs:=λb u x q=>by rw[jh (ji q h)];exact q,tbls:=λb P q=>#[(List.toArray []),by rw[jh (ji q h),q];simp] }
 ·intro b u e
  by_cases f:b=a
  ·subst f;rw[jc]at e;cases e;exact N
  ·rw[jh f]at e
   exact(I.hok b u e).stay (λc v _ q=>k c v q) (λc q=>by rw[jh (ji q h)];exact q) λc x q=>by rw[jh (ji q h)];exact q
noncomputable def An(C:Addr)(d:Option Addr)(x:Addr):HO:=.ext λh=>∃o,h.get? x=some o/\o.cls= .ref C/\notCls o=true/\o.dict=d/\∃v,o.data= .fields v/\v[1]?=some .none
theorem BF{P:Program}{h:Heap}(e:h.get? x=some o)(a:o.cls= .ref C)(b:notCls o=true)(c:o.dict=d)(f:∃v,o.data= .fields v/\v[1]?=some .none):aL P w H h x (An C d x):=
 #[#[o,e,a,b,c,f],#[o,e],λg i #[O,E,q] k=>#[O,k O E,q]]
def Ab(C:Addr):TE:=λa H Q=>∀x,H x=none->Q (.ref x) (ah H x (An C none x))
section
variable {X:Cx}{CX:oK}{k:Nat}{f C:Addr}{fd:FuncData}{ps:List Str}{sp:Sp}{E:XK}{x m g:Str}{p pos pos':Pos}{e o value:Expr}{es:List Expr}{ta tv:TE}{t:TA}
theorem Ql(M:excIn X.K C oU "ValueError.__new__"=true)(l:keepIn X.K (.ref C)=true)(n:Gl X x)(r:X.mg x=some (.ref C))(c:(x==("__debug__":Str))=false:=by decide):
  PE X (.Call (.Name x p) [] [] pos) (Ab C):=by
 intro P s D H Q I h
 refine LM (zC I n r ?_ c)
 refine OA I.kIn l ?_
 obtain⟨G,q,N,J,L,j,S,sub,O,u,R,U,V,Y,k3,k5,v,w,b,i⟩:=ZY M
 have y:=I.kIn _ _ v
 obtain⟨hp,g,d,T,os⟩:=s
 refine wpAny_call_exc_subT PySem.F.excBase_ValueError (PySem.W.tail_of_in I.kIn w) y (.of_isNs (PySem.W.isNs_of_in I.kIn b)) (PySem.W.nsMap_none_of_in I.kIn b i) (λh' e m=>?_) (IS _)
 obtain⟨t,z,_,_⟩:=m.there
 obtain⟨A,B⟩:=I.laidN (a:=e) (h':=h') (o:=An C none e) (t':=T) m.keeps m.new (BF z Z Z Z #[_,Z,Z])
 exact#[.ref e,_,B,Z,h e A]
end
theorem aq.turnedN{X:Cx}{p:List (Addr×Obj)}{d:St}{H:Hp}{s:Shared}{g:Heap}{t':Nat}{f:List Addr}(I:aq X p d H s)(a:∀b∈f,fQ X p H b)(k:∀b o,b∉f->s.heap.get? b=some o->g.get? b=some o):
  aq X p d H { s with heap:=g,toks:=t' }:=by
 have N:∀b u,H b=some u->b∉f:=λb u e z=>by rw[(a b z).1]at e;cases e
 refine I.step (g':=s.gens) (d':=s.drawn) (ch:=f) (λb i=>?_) (λb o _ _ h e _=>k b o h e) (λb o _ _ h e _=>#[o.slots,k b o h e]) (λ_ _ _ _ n=>n)
  (λb o h e=>#[o,k b o h e]) (λ_ _ e=>e) (λ_ _ _ e=>e) (λb P e=>#[(List.toArray []),by rw[e];simp]) (λm j=>?_) (λb u e=>?_) I.bare
 ·obtain⟨A,F,B,l,t,w⟩:=a b i
  exact#[l,F,t,w]
 ·obtain⟨o,E,x,y,r⟩:=j
  exact#[o,E,x,k _ o (λz=>(a _ z).2.1 Z) y,r]
 ·refine(I.hok b u e).stay (λc v h q=>k c v ?_ q) (λ_ q=>q) λ_ _ q=>q
  rcases h with z |z
  ·rw[z];exact N b u e
  ·exact N c _ z
section
variable {M:Model}{A:Around}{E:Value->Shared->Prop}{s:Shared}
structure cY(fl:Value)(iQ:List Addr)(x:Addr)(ox:Obj)(h h':Heap):Prop where
 ex:∃T oT ts,h.objs.size<=T/\h'.get? x=some (Obj.mapFields (·.setIfInBounds 1 (.ref T)) ox)/\h'.get? T=some oT/\oT.data= .fields ts/\ts[3]?=some fl
 keep:∀b o,b∉iQ->b≠x->h.get? b=some o->h'.get? b=some o
 slot:∀b o,b≠x->h.get? b=some o->∃sl,h'.get? b=some { o with slots:=sl }
theorem Qm{Q:Unit->Shared->Prop}
  (t:A.frames=some (d::O)) (F:s.heap.FunFrames G (d::O)) (N:d.frame=some L)
  (I:s.heap.get? x=some u) (v:u.data= .fields J) (w:1 < J.size)
  (h:∀K,cY (rawInt L) ((d::O).filterMap (·.frame)) x u s.heap K->Q () { s with heap:=K }):
  wpAny M A (do let a <- frameOf d;let p <- entryPlaceOf L q;let b <- EntryCells.newEntry f a .none (rawInt L) .none p;setField (.ref x) 1 b) Q E s:=by
 have y:x∉(d::O).filterMap (·.frame):=λP=>by
  obtain⟨_,o,r,z⟩:=F.mem P
  rw[I]at r;injection r with r;subst r;exact z J v
 refine IF (wpAny_frameOf_fun t F N λH c=>?_)
 refine IF (wpAny_entryPlaceOf λp B=>?_)
 unfold EntryCells.newEntry newFields
 refine IF (Lv ?_ (B.sizeOk5 _ _ _ _ _))
 have g:H.get? x=some u:=(c.2.1 x y).trans I
 have i:=IH (h:=H) { cls:=.type "traceback",dict:=none,data:=.fields ([f,.ref L,.none,rawInt L,.none]++(if p.isEmpty then List.replicate 6 Value.none else p)).toArray } g
 refine LJ i v w (h _ ?_)
 have C:H.objs.size≠x:=LN (IP g)
 have j:=Lq v (·.setIfInBounds 1 (Value.ref H.objs.size))
 have l:=Lu (Obj.mapFields (·.setIfInBounds 1 (Value.ref H.objs.size))) i (LX j)
 have k:∀b o,b≠x->H.get? b=some o->((H.push { cls:=.type "traceback",dict:=none,data:=.fields ([f,.ref L,.none,rawInt L,.none]++(if p.isEmpty then List.replicate 6 Value.none else p)).toArray }).update x (Obj.mapFields (·.setIfInBounds 1 (Value.ref H.objs.size)))).get? b=some o:=λb o D e=>by
  rw[K' _ _ (Lr D)]
  exact IH _ e
 have m:=(K' (H.push { cls:=.type "traceback",dict:=none,data:=.fields ([f,.ref L,.none,rawInt L,.none]++(if p.isEmpty then List.replicate 6 Value.none else p)).toArray })
  (Obj.mapFields (·.setIfInBounds 1 (Value.ref H.objs.size))) (Lr C)).trans (IM H Z)
 refine#[#[H.objs.size,_,_,ON c.1.symm,l,m,Z,Po],λb o D n e=>k b o n ((c.2.1 b D).trans e),λb o n e=>?_]
 obtain⟨S,R⟩:=c.2.2 b o e
 exact#[S,k b _ n R]
theorem Yx{Q:Unit->Shared->Prop}
  (H:A.frames=some (e::o)) (i:s.heap.FunFrames b (e::o)) (a:e.frame=some L)
  (c:s.heap.get? x=some O) (d:O.data= .fields v) (f:v[1]?=some .none)
  (h:∀g,cY (rawInt L) ((e::o).filterMap (·.frame)) x O s.heap g->Q () { s with heap:=g }):
  wpAny M A (noteFrame (.ref x) e) Q E s:=by
 unfold noteFrame
 simp only[a]
 refine IF (Lk c d f ?_)
 rw[IX Pm]
 exact Qm H i a c d (Array.getElem?_eq_some_iff.mp f).1 h
theorem BU{iQ:List Addr}{Q:Unit->Shared->Prop}(N:cY C iQ x O H s.heap)(j:H.get? x=some O)(v:O.data= .fields w)(k:1 < w.size)
  (h:∀p,cY .none iQ x O H p->Q () { s with heap:=p }):wpAny M A (setFlight (.ref x) none) Q E s:=by
 obtain⟨T,D,F,c,r,t,g,y⟩:=N.ex
 have l:=Lq v (·.setIfInBounds 1 (Value.ref T))
 have m:T≠x:=λz=>absurd (I0 (IP j) (by rw[<- z];exact c)) (LO _)
 unfold setFlight
 refine IF (Lk r l (x:=.ref T) (by simp [k]) ?_)
 rw[IU (show(Value.ref T != Value.none)=true from by simp)]
 have i:=(Array.getElem?_eq_some_iff.mp y).1
 refine LJ t g i (h _ ?_)
 have a:=Lq g (·.setIfInBounds 3 ((none:Option Addr).elim Value.none λf=>rawInt f))
 have n:=Lu (Obj.mapFields (·.setIfInBounds 3 ((none:Option Addr).elim Value.none λf=>rawInt f))) t (LX a)
 have u:∀b o,H.get? b=some o->T≠b:=λb o e z=>absurd (I0 (IP e) (by rw[<- z];exact c)) (LO _)
 refine#[#[T,_,_,c,by rw[K' _ _ m];exact r,n,a,by simp [i]],λb o B d e=>?_,λb o d e=>?_]
 ·rw[K' _ _ (u b o e)]
  exact N.keep b o B d e
 ·obtain⟨S,q⟩:=N.slot b o d e
  exact#[S,by rw[K' _ _ (u b o e)];exact q]
theorem XX{base:Heap}{Q:Unit->Shared->Prop}
  (a:A.frames=some (e::o)) (f:s.heap.FunFrames base (e::o)) (g:e.frame=some L)
  (b:s.heap.get? x=some O) (c:O.data= .fields v) (d:v[1]?=some .none)
  (h:∀H,cY .none ((e::o).filterMap (·.frame)) x O s.heap H->Q () { s with heap:=H }):
  wpAny M A (leaving e (.ref x)) Q E s:=by
 unfold leaving
 exact IF (Yx a f g b c d λH N=>BU (s:={ s with heap:=H }) N b c (Array.getElem?_eq_some_iff.mp d).1 h)
end
section
variable {M:Model}{A:Around}{E:Value->Shared->Prop}{s:Shared}
noncomputable abbrev eG(T:Addr)(h:Heap):Heap:=h.update T (Obj.mapFields (·.setIfInBounds 3 Value.none))
theorem Qn{base:Heap}{Q:Unit->Shared->Prop}
  (f:A.frames=some (e::O)) (w:s.heap.FunFrames base (e::O)) (j:e.frame=some L)
  (k:s.heap.get? x=some l) (m:l.data= .fields v) (p:v[1]?=some (.ref T)) (g:T≠x) (i:s.heap.get? T=some y) (c:y.data= .fields t) (r:t[3]?=some .none)
  (h:∀u,cY (rawInt L) ((e::O).filterMap (·.frame)) x l (eG T s.heap) u->Q () { s with heap:=u }):
  wpAny M A (noteFrame (.ref x) e) Q E s:=by
 unfold noteFrame
 simp only[j]
 refine IF (Lk k m p ?_)
 rw[IU (show(Value.ref T != Value.none)=true from by simp)]
 refine IF (Lk i c r ?_)
 rw[IX (show ¬((Value.none==rawInt L)=true) from by simp [rawInt])]
 refine IF (LJ i c (Array.getElem?_eq_some_iff.mp r).1 ?_)
 have a:∀b,b≠T->(eG T s.heap).get? b=s.heap.get? b:=λb H=>K' _ _ (Lr H)
 have n:∀b o,s.heap.get? b=some o->(∀v,o.data≠ .fields v)->b≠T:=λb o H d q=>by
  rw[q,i]at H;injection H with H;subst H;exact d t c
 exact Qm (s:={ s with heap:=eG T s.heap }) f (w.of_keeps λb o H d=>#[o,(a b (n b o H d)).trans H,Z]) j ((a x (Lr g)).trans k) m (Array.getElem?_eq_some_iff.mp p).1 h
theorem Yy{base:Heap}{Q:Unit->Shared->Prop}
  (b:A.frames=some (e::o)) (i:s.heap.FunFrames base (e::o)) (j:e.frame=some L)
  (d:s.heap.get? x=some O) (f:O.data= .fields v) (g:v[1]?=some (.ref T)) (H:T≠x) (k:s.heap.get? T=some l) (c:l.data= .fields t) (m:t[3]?=some .none)
  (h:∀a,cY .none ((e::o).filterMap (·.frame)) x O (eG T s.heap) a->Q () { s with heap:=a }):
  wpAny M A (leaving e (.ref x)) Q E s:=by
 unfold leaving
 exact IF (Qn b i j d f g H k c m λa N=>BU (s:={ s with heap:=a }) N ((K' _ _ H).trans d) f (Array.getElem?_eq_some_iff.mp g).1 h)
end
noncomputable def gR(C:Addr)(d:Option Addr)(T x:Addr):HO:=.ext λh=>∃o v,h.get? x=some o/\o.cls= .ref C/\notCls o=true/\o.dict=d/\o.data= .fields v/\v[1]?=some (.ref T)
noncomputable def gH(T:Addr):HO:=.ext λh=>∃o t,h.get? T=some o/\o.data= .fields t/\t[3]?=some .none
theorem DN{P:Program}{h:Heap}(e:h.get? x=some o)(c:o.cls= .ref C)(f:notCls o=true)(g:o.dict=d)(i:o.data= .fields a)(b:a[1]?=some (.ref T)):aL P w H h x (gR C d T x):=
 #[#[o,a,e,c,f,g,i,b],#[o,e],λb j #[O,v,E,q] k=>#[O,v,k O E,q]]
theorem vV{P:Program}{h:Heap}(e:h.get? T=some o)(b:o.data= .fields a)(c:a[3]?=some .none):aL P w H h T (gH T):=
 #[#[o,a,e,b,c],#[o,e],λd f #[O,t,E,q] k=>#[O,t,k O E,q]]
def fu(P:Program)(w:World):oK:=λo H s E e S=>∃x C d T h,e= .ref x/\S.os=s.os/\AllBare S.gens/\Un (iQ o) [] H h s.heap S.heap/\fb P w h S.heap/\
 h x=some (gR C d T x)/\h T=some (gH T)/\T≠x/\E (.ref C) d h
section
variable {X:Cx}{pins:List (Addr×Obj)}{σ:St}{H:Hp}{s:Shared}{x C:Addr}{d:Option Addr}
theorem cY.hok{fl:Value}(I:aq X pins σ H s)(g:H x=some (.ext M))(P:s.heap.get? x=some o)(B:o.cls= .ref C)(D:o.dict=d)(j:o.data= .fields E)(k:1 < E.size)(l:∀b∈G,H b=none)
  (N:cY .none G x o s.heap J):∃T,H T=none/\T≠x/\s.heap.objs.size<=T/\fb X.prog X.w (ah (ah H T (gH T)) x (gR C d T x)) J:=by
 obtain⟨T,Q,R,h,m,F,n,p⟩:=N.ex
 have i:H T=none:=I.hok.fresh h
 have r:T≠x:=Lr (ji g i)
 have a:=Lq j (·.setIfInBounds 1 (Value.ref T))
 refine#[T,i,r,h,λb u e=>?_]
 by_cases t:b=x
 ·subst t
  rw[jc]at e
  cases e
  refine DN m ((Ny _ _).trans B) ?_ ?_ a (by simp [k])
  ·unfold notCls
   rw[a]
  ·obtain⟨S,U,O,K⟩:=o
   simp only at j
   subst j
   exact D
 ·rw[jh t]at e
  by_cases f:b=T
  ·subst f
   rw[jc]at e
   cases e
   exact vV F n p
  ·rw[jh f]at e
   refine(I.hok b u e).stay (λc v A q=>?_) (λc q=>?_) λc V q=>?_
   ·have y:c≠x:=by
     rcases A with z |z
     ·rw[z];exact t
     ·exact jS z g (by intro q;cases q)
    refine N.keep c v (λL=>?_) y q
    have:=l c L
    rcases A with z |z
    ·rw[z,e]at this;cases this
    ·rw[z]at this;cases this
   ·rw[jh (jS q g (by intro z;cases z)),jh (ji q i)]
    exact q
   ·rw[jh (jS q g (by intro z;cases z)),jh (ji q i)]
    exact q
theorem cY.un{h':Heap}(I:aq X pins σ H s)(hex:X.ex=[])(j:H x=some (.ext k))(l:H T=none)(c:s.heap.objs.size<=T)(f:∀b∈p,b∈X.fs∨X.s₀.heap.objs.size<=b)
  (N:cY .none p x y s.heap h'):Un X.fs [] X.H₀ (ah (ah H T (gH T)) x (gR C d T x)) X.s₀.heap h':=by
 have g:∀b,H b=none->b≠x:=λb e z=>by rw[z,j]at e;cases e
 have r:∀b o,X.s₀.heap.get? b=some o->b≠T:=λb o e=>IY (I0 (IP e) (IZ I.sz c))
 have a:∀b:Addr,b∉X.ex:=λb z=>by rw[hex]at z;cases z
 have t:∀b,H b=none->b≠T->ah (ah H T (gH T)) x (gR C d T x) b=none:=λb e z=>by rw[jh (g b e),jh z];exact e
 have U:∀b u,H b=some u->(∀k,u≠ .ext k)->ah (ah H T (gH T)) x (gR C d T x) b=some u:=λb u e z=>by
  rw[jh (λq=>by rw[q,j]at e;cases e;exact z _ Z),jh (ji e l)]
  exact e
 refine#[λb o e n h _=>?_,λb o e n h _=>?_,λb o e n _=>?_,λb o e _=>?_,λb v e=>U b _ (I.base.tups b v e) (by intro _ q;cases q),λb o u e=>U b _ (I.base.frzs b o u e) (by intro _ q;cases q),λb P e=>?_]
 ·refine N.keep b o (λz=>?_) (g b (I.base.free b o e n (a b))) (I.base.keep b o e n h (a b))
  rcases f b z with q |q
  ·exact h q
  ·exact absurd (I0 (IP e) q) (LO _)
 ·obtain⟨w,q⟩:=I.base.slot b o e n h (a b)
  obtain⟨S,Q⟩:=N.slot b _ (g b (I.base.free b o e n (a b))) q
  exact#[S,Q]
 ·exact t b (I.base.free b o e n (a b)) (r b o e)
 ·obtain⟨O,q⟩:=I.base.there b o e (a b)
  by_cases h:b=x
  ·obtain⟨A,_,_,_,i,_⟩:=N.ex
   exact#[_,by rw[h];exact i]
  ·obtain⟨w,Q⟩:=N.slot b O h q
   exact#[_,Q]
 ·obtain⟨m,q⟩:=I.base.tbls b P e
  exact#[m,U b _ q (by intro _ q;cases q)]
end
section
variable {P:Program}{w:World}{K:Frag}{mg:Str->Option Value}{base:Heap}{N:List Str}{qual:Str}{scope:Scope}{f:Addr}{cd:Value}{A:Around}{outer:List Env}{s₀:Shared}{H₀:Hp}{E:XK}
variable {pins:List (Addr×Obj)}{σ:St}{H:Hp}{s:Shared}{x C:Addr}{d:Option Addr}
theorem wt(I:aq (fV (fu P w) P w K mg base N qual scope f cd A outer s₀ H₀ E) pins σ H s)(c:H x=some (An C d x))
  (h:∀T,H T=none->E (.ref C) d (ah (ah H T (gH T)) x (gR C d T x))):(fV (fu P w) P w K mg base N qual scope f cd A outer s₀ H₀ E).xe (.ref x) s:=by
 obtain⟨⟨O,l,q,t,r,v,m,n⟩,_⟩:=I.hok x _ c
 have g:=(Array.getElem?_eq_some_iff.mp n).1
 refine XX (base:=base) I.ok.frames I.stack Z l m n λy o=>?_
 obtain⟨T,p,a,i,j⟩:=o.hok (C:=C) (d:=d) (fl:=.none) I c l q r m g λb k=>I.stkFree b k
 have u:=o.un (C:=C) (d:=d) I Z c p i λb k=>by
  rcases List.mem_cons.mp (I.stkSub b k) with e |e
  ·exact .inr (by rw[e];exact I.ok.above)
  ·exact .inl e
 exact#[x,C,d,T,_,Z,I.os,I.bare,u,j,jc,by rw[jh a,jc],a,h T p]
theorem aq.cleared{X:Cx}(I:aq X pins σ H s)(c:H T=some (gH T))(i:s.heap.get? T=some O)(j:O.data= .fields t)(k:t[3]?=some .none):aq X pins σ H { s with heap:=eG T s.heap }:=by
 have h:=Lq j (·.setIfInBounds 3 Value.none)
 have g:=Lu (Obj.mapFields (·.setIfInBounds 3 Value.none)) i (LX h)
 have:=I.write (x:=T) (e:=T) (o:=gH T) (h':=eG T s.heap) (t':=s.toks) (by rw[c];exact True.intro) (.inl Z) (λb u a q=>(K' _ _ (Lr a)).trans q) #[_,g] (vV g h (by simp [(Array.getElem?_eq_some_iff.mp k).1]))
 have l:ah H T (gH T)=H:=by
  funext b
  by_cases a:b=T
  ·rw[a,jc,c]
  ·rw[jh a]
 rw[l]at this
 exact this
theorem Ah(I:aq (fV (fu P w) P w K mg base N qual scope f cd A outer s₀ H₀ E) pins σ H s)(g:H x=some (gR C d T x))(n:H T=some (gH T))(c:T≠x)
  (h:∀t,H t=none->E (.ref C) d (ah (ah H t (gH t)) x (gR C d t x))):(fV (fu P w) P w K mg base N qual scope f cd A outer s₀ H₀ E).xe (.ref x) s:=by
 obtain⟨⟨O,V,o,D,G,F,p,q⟩,_⟩:=I.hok x _ g
 obtain⟨⟨J,L,r,u,v⟩,_⟩:=I.hok T _ n
 have i:=(Array.getElem?_eq_some_iff.mp q).1
 have y:=I.cleared n r u v
 refine Yy (base:=base) I.ok.frames I.stack Z o p q c r u v λM z=>?_
 have j:(eG T s.heap).get? x=some O:=(K' _ _ c).trans o
 obtain⟨t,B,a,k,l⟩:=cY.hok (C:=C) (d:=d) (fl:=.none) y g j D F p i (λb m=>I.stkFree b m) z
 have U:=cY.un (C:=C) (d:=d) y Z g B k (λb m=>by
  rcases List.mem_cons.mp (I.stkSub b m) with e |e
  ·exact .inr (by rw[e];exact I.ok.above)
  ·exact .inl e) z
 exact#[x,C,d,t,_,Z,I.os,I.bare,U,l,jc,by rw[jh a,jc],a,h t B]
theorem yo{j:XK}(m:∀x C d T t a,a x=some (gR C d T x)->a T=some (gH T)->a t=none->j (.ref C) d a->E (.ref C) d (ah (ah a t (gH t)) x (gR C d t x))):
  c7 (fu P w) (fV (fu P w) P w K mg base N qual scope f cd A outer s₀ H₀ E) j:=by
 intro pins σ H s e S I h
 obtain⟨x,C,d,T,a,rfl,os,B,u,c,k,l,i,n⟩:=h
 obtain⟨p,g,D,q,o⟩:=S
 obtain rfl:o=s.os:=os
 have r:=I.call (h':=p) (g':=g) (d':=D) (t':=q) (ch:=[]) u c B (λb z=>absurd z Po)
 exact Ah r k l i λt v=>m x C d T t a k l v n
end
section
open PySem.W
variable {prog:Program}{w:World}{A:Around}{E:Value->Shared->Prop}{K:Frag}{x C:Addr}{ox:Obj}{vs:Array Value}{env:Env}
theorem Yz{ev:Sem Value}(e:A.handled=none)
  (h:wpAny (model prog w) A ev (λv S=>∃x C ox vs,v= .ref x/\K.In S.heap/\rf K C/\typeIn K (.ref C)=some (.type "type")/\S.heap.get? x=some ox/\ox.cls= .ref C/\ox.data= .fields vs/\vs[1]?=some .none/\E (.ref x) S) E s):
  wpAny (model prog w) A (raiseStmt env (some ev) none) Q E s:=by
 unfold raiseStmt
 refine IF (LS h (λv S a=>?_) λ_ _ z=>z)
 obtain⟨x,C,ox,vs,rfl,X,f,i,b,j,c,m,n⟩:=a
 obtain⟨H,g,d,T,os⟩:=S
 have L:Looks (model prog w) H (typeOf (.ref x)) (.ref C):=j▸(Looks.ld b).andThen .now
 have l:Looks (model prog w) H (isType (.ref x)) false:=by
  intro u y B D k q
  unfold isType loadHead
  refine IF (wpAny_loadPart (k _ _ b) ?_)
  rw[c]
  exact II q
 have _L:=looks_mroIn (M:=model prog w) X f.mb
 have o:=looks_typeIn (M:=model prog w) X i
 have L4:Looks (model prog w) H (isInstance (.ref x) (.type "BaseException")) true:=L.andThen _L
 have p:Looks (model prog w) H (isExcClass (.ref x)) false:=by
  unfold isExcClass
  exact l.andThen .now
 have r:Looks (model prog w) H (raisedInstance (.ref x)) (.ref x):=by
  unfold raisedInstance
  exact L.andThen (o.andThen (by rw[IU Pm];exact .now))
 have t:Looks (model prog w) H (excFromValue (.ref x) "exceptions must derive from BaseException") (.ref x):=by
  unfold excFromValue
  exact p.andThen (by rw[IX Pm];exact L4.andThen (by rw[IU Z];exact .now))
 refine IF (II ?_)
 refine IF (Lj (t.at ?_))
 dsimp only
 refine IF (l.at ?_)
 rw[IX Pm]
 refine IF (r.at ?_)
 unfold setFlight
 refine IF (IF (Lk b c m ?_))
 rw[IX Pm]
 exact II (wpAny_raiseNew_none e n)
end
def Ao(X:Cx)(W:Addr->Addr->Option Addr->Hp->Prop):Prop:=∀(p:List (Addr×Obj)) (a:St) (H:Hp) (s:Shared) (x C:Addr) (d:Option Addr),aq X p a H s->H x=some (An C d x)->W x C d H->X.xe (.ref x) s
theorem Qo{P:Program}{K:Frag}:
  Ao (fV (fu P w) P w K m b N q s f g A o a c E) (λx C d H=>∀T,H T=none->E (.ref C) d (ah (ah H T (gH T)) x (gR C d T x))):=
 λ_ _ _ _ _ _ _ I e h=>wt I e h
inductive n9(K:Frag)(b:Addr->Addr->Option Addr->Hp->Prop)(v:V)(a:Hp):Prop
 |mk(x C d:_)(_:v= .ref x)(_:a x=some (An C d x))(_:rf K C)(_:typeIn K (.ref C)=some (.type "type"))(_:b x C d a)
def Dp(K:Frag)(t:TE)(W:Addr->Addr->Option Addr->Hp->Prop):TS:=λ_u0 a H=>t a H (n9 K W)
theorem Xn{X:Cx}{e:Expr}{t:TE}{P:Pos}{W:Addr->Addr->Option Addr->Hp->Prop}(f:X.calm=true)(F:Ao X W)(g:PE X e t):PS X (.Raise (some e) none P) (Dp X.K t W):=by
 intro p s b H D I h
 rw[arm_exec_Raise]
 refine IF (NC ?_)
 refine Yz (K:=X.K) (ev:=do let v <- eval e X.env;standAt P;pure v) (I.ok.hd f) (IF (aU (g p s b H _ I h) λu S a=>IF (NC (II ?_))))
 obtain⟨v,j,i,r,x,C,d,ev,c,k,l,q⟩:=a
 subst ev
 obtain rfl:u=Value.ref x:=r
 obtain⟨⟨o,m,n,z,A,V,w,y⟩,_⟩:=i.hok x _ c
 exact#[x,C,o,V,Z,i.kIn,k,l,m,n,w,y,F p b j S x C d i c q]
section
variable {X:Cx}{pins:List (Addr×Obj)}{σ:St}{H:Hp}{s:Shared}{x C:Addr}{d:Option Addr}
theorem aq.noted{t':Nat}(I:aq X pins σ H s)(a:H x=some (.ext l))(p:s.heap.get? x=some O)(r:O.cls= .ref C)(t:O.dict=d)(v:O.data= .fields w)(c:1 < w.size)
  (N:cY .none (iQ X.stack) x O s.heap y):∃T,H T=none/\T≠x/\aq X pins σ (ah (ah H T (gH T)) x (gR C d T x)) { s with heap:=y,toks:=t' }:=by
 obtain⟨T,m,f,g,i⟩:=cY.hok (C:=C) (d:=d) (fl:=.none) I a p r t v c (λb h=>I.stkFree b h) N
 have j:∀b,H b=none->b≠x:=λb e z=>by rw[z,a]at e;cases e
 have U:∀b u,H b=some u->(∀l,u≠ .ext l)->ah (ah H T (gH T)) x (gR C d T x) b=some u:=λb u e z=>by
  rw[jh (λq=>by rw[q,a]at e;cases e;exact z _ Z),jh (ji e m)]
  exact e
 refine#[T,m,f,I.call (g':=s.gens) (d':=s.drawn) (ch:=[]) ?_ i I.bare (λb z=>absurd z Po)]
 refine#[λb o e n h _=>N.keep b o h (j b n) e,λb o e n _ _=>N.slot b o (j b n) e,λb o e n _=>?_,λb o e _=>?_,λb A e=>U b _ e (by intro _ q;cases q),λb o u e=>U b _ e (by intro _ q;cases q),λb P e=>#[(List.toArray []),by rw[U b _ e (by intro _ q;cases q)];simp]]
 ·rw[jh (j b n),jh (IY (I0 (IP e) g))]
  exact n
 ·by_cases h:b=x
  ·obtain⟨B,_,_,_,k,_⟩:=N.ex
   exact#[_,by rw[h];exact k]
  ·obtain⟨S,q⟩:=N.slot b o h e
   exact#[_,q]
end
noncomputable abbrev Cx.mark(X:Cx)(e:Value)(xe:Value->Shared->Prop):Cx:={ X with A:=X.A.mark (some e),calm:=false,xe:=xe }
theorem aq.mark{X:Cx}(I:aq X p a H s)(e:Value)(x:Value->Shared->Prop):aq (X.mark e x) p a H s:=
 #[#[I.ok.mod,I.ok.kind,I.ok.glob,I.ok.blt,I.ok.above,I.ok.inj,I.ok.has,I.ok.cab,(λz=>nomatch (show false=true from z)),I.ok.frames,I.ok.stk,I.ok.exf,I.ok.bs,I.ok.bsz,I.ok.noex,I.ok.exfs,I.ok.funs,I.ok.frf],I.os,I.bare,I.base,I.loc,I.cell,I.free,I.freeC,I.pin,I.hok,I.len]
theorem aq.unmark{X:Cx}(o:X.Ok)(I:aq (X.mark e x) p a H s):aq X p a H s:=
 #[o,I.os,I.bare,I.base,I.loc,I.cell,I.free,I.freeC,I.pin,I.hok,I.len]
section
open PySem.W
theorem KR{K:Frag}(X:K.In h)(a:h.get? x=some o)(b:o.cls= .ref C)(H:clsIn K B≠none)(tB:typeIn K (.ref B)=some (.type "type"))(m:mroIn K B (.type "BaseException")=some true)(c:mroIn K C (.ref B)=some true):
  Looks M h (excMatches (.ref x) (.ref B)) true:=by
 have L:Looks M h (typeOf (.ref x)) (.ref C):=b▸(Looks.ld a).andThen .now
 have l:=looks_typeIn (M:=M) X tB
 have _L:Looks M h (isInstance (.ref B) (.type "tuple")) false:=l.andThen (Looks.of_pure tc_notTuple)
 have d:Looks M h (isType (.ref B)) true:=by
  unfold clsIn at H
  split at H
  ·rename_i e
   intro A Q E s k q
   unfold isType loadHead
   exact IF (wpAny_loadPart (k _ _ (X _ _ e)) (II q))
  ·exact absurd Z H
 have L4:Looks M h (isExcClass (.ref B)) true:=by
  unfold isExcClass
  exact d.andThen (by rw[IU Z];exact looks_mroIn X m)
 have f:=looks_mroIn (M:=M) X c
 intro A Q E s k q
 unfold excMatches
 refine IF (_L A _ E s k ?_)
 rw[IX Pm]
 refine IF (II ?_)
 dsimp only
 refine IF ?_
 rw[MR]
 refine IF (IF (L4 A _ E s k ?_))
 simp only[Nv,I8,Mj]
 refine II ?_
 dsimp only
 rw[NH]
 refine II ?_
 refine IF (L A _ E s k ?_)
 refine IF ?_
 rw[MR]
 refine IF (IF (f A _ E s k ?_))
 simp only[NK]
 refine II (II ?_)
 exact II q
end
abbrev XR:=Addr->Addr->Option Addr->Addr->Hp->Prop
def XW(X:Cx)(p:List (Addr×Obj))(a:St)(R:XR)(e:Value)(s:Shared):Prop:=
 ∃x C d T H,e= .ref x/\aq X p a H s/\H x=some (gR C d T x)/\H T=some (gH T)/\T≠x/\R x C d T H
abbrev Gw:=St->Hp->VK->XR->Prop
abbrev Gy:=bp->XR->St->Hp->Prop
def HX(X:Cx)(e:Expr)(t:Gw):Prop:=
 ∀(p:List (Addr×Obj)) (s:Shared) (a:St) (H:Hp) (Q:VK) (R:XR),aq X p a H s->t a H Q R->wpAny (model X.prog X.w) X.A (eval e X.env) (EP X p a Q) (XW X p a R) s
def Ib(X:Cx)(st:Stmt)(t:Gy):Prop:=
 ∀(p:List (Addr×Obj)) (s:Shared) (a:St) (H:Hp) (D:bp) (R:XR),aq X p a H s->t D R a H->wpAny (model X.prog X.w) X.A (exec st X.env) (SP X p D) (XW X p a R) s
def Im(R:XR):XK:=λc d H=>∀x C T,c= .ref C->H x=some (gR C d T x)->H T=some (gH T)->T≠x->R x C d T H
def DH(s:Sp)(d:List V)(t:TA):Gw:=λa H Q R=>t a H λv h=>s (v++d) h Q (Im R)
section
variable {X:Cx}{k:Nat}{f:Addr}{fd:FuncData}{ps:List Str}{sp:Sp}{dvs:List V}{ds:List Value}{x:Str}{p pos:Pos}{e:Expr}{es:List Expr}{t:TA}{te:Gw}
theorem um(F:af X.prog X.w X.K X.mg X.base (fu X.prog X.w) k f fd ps sp)(y:bq k X.A)(D:Gl X x)(E:X.mg x=some (.ref f))(G:keepIn X.K (.ref f)=true)(J:aC X.K fd ps ds)(L:aB dvs ds)
  (M:PA X.nox (e::es) t) (g:(x==("__debug__":Str))=false:=by decide) (N:starEach (e::es) X.env=(false,eval e X.env)::starEach es X.env:=by rfl) (j:(backTo pos (starEach es X.env)).any (·.1)=false:=by rfl):
  HX X (.Call (.Name x p) (e::es) [] pos) (DH sp dvs t):=by
 intro P s O H Q R I h
 refine LM (zC I D E ?_ g)
 refine O1 (h₀:=X.base) I.ok.mod.kin G (LS (M pos P s O H _ (I.wish _) h) (λU S #[v,W,i,r,q]=>#[i.kIn,?_]) λ_ _ z=>z.elim) N j
 have i:=i.unwish
 have m:aB (v++dvs) (U++ds):=r.append L
 have Y:(U++ds).length=ps.length:=by rw[<- m.length];exact F.len _ _ _ _ q
 refine wpAny_call (M8 (F.run X.A X.stack S W #[U,[]] (U++ds) (v++dvs) Q (Im R) y i.env0 (J S U i.kIn Y) m q) λr s' a=>?_)
 cases r with
 |error e=>
  obtain⟨x,C,d,T,H',rfl,os,B,un,l,n,o,c,hw⟩:=a
  exact#[x,C,d,T,H',Z,i.call' os un l B (λb z=>absurd z Po),n,o,c,hw x C T Z n o c]
 |ok fl=>
  cases fl with
  |ret u=>exact i.after a
  |next=>exact False.elim a
  |brk=>exact False.elim a
  |cont=>exact False.elim a
theorem yt{i:Nat}{y:Str}{P:Pos}(d:X.N.Nodup)(g:X.N[i]?=some y)(j:Ar X.env.scope y)(l:HX X e te)(m:swapsWith e (some (.Name y P)) pos.line X.env=pure false:=by rfl)(n:X.fn y=true∨X.env.scope.names.lookup y=some .local:=by first |exact .inl Z |exact .inr Z |assumption):
  Ib X (.Assign [.Name y P] e pos) (λD R b H=>te b H (λv c=>D.nx (b.set i (some v)) c) R):=by
 intro a s b H D R I h
 refine wpAny_Assign_Name (aU (l a s b H _ R I h) λv S z=>?_) m
 obtain⟨y,c,o,r,q⟩:=z
 exact qW o d g j r (λw u=>#[_,c,u,q]) n
end
theorem aQ.ok1{P:Program}{K:Frag}{st:Stmt}{f:Addr}{k:Nat}{a:Sp}(F:aQ K x q st f g)(S:ai N p (ae st))(len:∀v H Q E,a v H Q E->v.length=p.length)
  (h:∀(c:Value) (A:Around) (o:List Env) (s:Shared) (H:Hp) (v:List V) (Q:VK) (E:XK),bq k (A.deeper (envOfC q (ae st) s.heap.objs.size f c))->a v H Q E->
   ∃t,mh (fV (fu P w) P w K m b N q (ae st) f c A o s H E) (bb st) t/\t { nx:=λ_ i=>Q .non i,rt:=Q } (gB N v) H):af P w K m b (fu P w) (k+1) f g p a:=by
 obtain⟨l,n,kV,D,r,u,c,C,O,rfl,lk,d⟩:=F.ex
 exact AJ lk d S len λA o s H v Q E j e=>h c A o s H v Q E j e
end _L
namespace _L
open PySem PySem.Spec PyProof.Rows PySem.SeqAt
noncomputable def rR(x y:List V):Bool:=(List.range (min x.length y.length)).all (λj=>mZ (x.getD j .non) (y.getD j .non))&&x.length==y.length
section
variable {X:Cx}
theorem ZZ(r:aB x i)(R:aB y I)(f:x.all cQ=true)(F:y.all cQ=true)(j:Nat)(c:j < i.toArray.size)(d:j < I.toArray.size):EqAt A s i.toArray[j] I.toArray[j] (mZ (x.getD j .non) (y.getD j .non)):=by
 have L:=r.length
 have p:=R.length
 have H:j < x.length:=by simp at c;omega
 have h:j < y.length:=by simp at d;omega
 have a:x[j]?=some x[j]:=IG H
 have b:y[j]?=some y[j]:=IG h
 obtain⟨u,q,g⟩:=r.get a
 obtain⟨U,Q,k⟩:=R.get b
 have l:=List.all_eq_true.mp f _ (Nt H)
 have m:=List.all_eq_true.mp F _ (Nt h)
 have E:i.toArray[j]=u:=by
  obtain⟨_,e⟩:=List.getElem?_eq_some_iff.mp q
  simpa using e
 have n:I.toArray[j]=U:=by
  obtain⟨_,e⟩:=List.getElem?_eq_some_iff.mp Q
  simpa using e
 have G:x.getD j .non=x[j]:=by rw[LZ,a];rfl
 have o:y.getD j .non=y[j]:=by rw[LZ,b];rfl
 rw[E,n,G,o]
 exact rP g k l m
theorem CW(f:X.A.units < cLine):eU X (compareOp .Eq) (λx y H Q=>∃a b c Y,x= .ref a/\y= .ref b/\aA X.K H a c/\aA X.K H b Y/\c.all cQ=true/\Y.all cQ=true/\Q (.bl (rR c Y)) H):=by
 intro p s z H x y v u Q I g k h
 obtain⟨a,b,c,Y,rfl,rfl,l,m,F,n,q⟩:=h
 cases g
 cases k
 obtain⟨i,r,P,_⟩:=I.tuple l
 obtain⟨d,R,o,_⟩:=I.tuple m
 refine eq_tupleAt (e:=λj=>mZ (c.getD j .non) (Y.getD j .non)) (show s.heap.IsTuple a i.toArray from P) (show s.heap.IsTuple b d.toArray from o) f (λj t w=>ZZ r R F n j t w) ?_
 have e:((List.range (min i.toArray.size d.toArray.size)).all (λj=>mZ (c.getD j .non) (Y.getD j .non))&&i.toArray.size==d.toArray.size)=rR c Y:=by
  unfold rR
  rw[IN,IN,<- r.length,<- R.length]
 rw[e]
 exact#[.bl _,H,I,Z,q]
end
end _L
namespace _L
open PySem PySem.Spec PyProof.Rows
section
variable {prog:Program}{w:World}{A:Around}{E:Value->Shared->Prop}{s:Shared}
theorem YA{Q:Nat->Shared->Prop}(H:n≠0)(h:∀i d,i < n->Q i { s with drawn:=d }):wpAny (model prog w) A (choose a n) Q E s:=by
 intro Γ p _
 show Sem.wp _ Γ (.choose a n .pure) _ _ p s
 rw[Sem.wp_choose]
 exact#[H,h _ _ (Nat.mod_lt _ (Nat.pos_of_ne_zero H))]
theorem XY{α:Type}:∀(n:Nat) (xs:List α) (s:Shared) {Q:List α->Shared->Prop},xs.length=n->(∀ys d,ys.Perm xs->Q ys { s with drawn:=d })->
  wpAny (model prog w) A (drawOrder n xs) Q E s:=by
 intro n
 induction n with
 |zero=>
  intro xs s Q hl h
  cases xs with
  |nil=>
   unfold drawOrder
   exact II (h [] s.drawn .rfl)
  |cons _ _=>cases hl
 |succ n ih=>
  intro xs s Q hl h
  cases xs with
  |nil=>cases hl
  |cons x r=>
   unfold drawOrder
   refine IF (YA Po λi d hi=>?_)
   have hg:(x::r)[i]?=some ((x::r)[i]'hi):=IG hi
   rw[hg]
   dsimp only
   refine IF (ih _ _ (by rw[O2 hi,hl];rfl) λys d' hp=>II (h _ d' ?_))
   refine(List.Perm.cons _ hp).trans ?_
   rw[OQ]
   refine List.perm_middle.symm.trans ?_
   rw[Mp,MS]
end
noncomputable def ma:Value->Str
 | .str x _=>x
 |_=>#[(List.toArray [])]
theorem KS(t:SetTable)(n:Nat):(t.orStandIn n).led=t.led:=by
 unfold SetTable.orStandIn
 split
 ·rfl
 ·rfl
theorem YB(t:SetTable)(e:Array (Int×Value))(h:Int)(x:Value):(layNew t e h x).2.1.led=t.led:=by
 unfold layNew
 split
 ·exact KS _ _
 ·rfl
theorem Q1(t:SetTable)(E:Array (Int×Value))(n:Nat):(relayAll t E n).2.1.led=t.led:=by
 unfold relayAll
 split
 ·rename_i T o e
  unfold SetTable.relaid SetTable.laid at e
  cases h:SetTable.layClean (SetTable.sizeAbove n - 1) (E.map (·.1)) with
  |none=>rw[h]at e;cases e
  |some O=>
   rw[h]at e
   cases e
   dsimp only
   split<;>rfl
 ·rfl
theorem KI(t:SetTable)(E:Array (Int×Value))(n:Nat)(H:t.plain=false):(relayAll t E n).2.1.plain=false:=by
 unfold relayAll
 split
 ·rename_i T o e
  unfold SetTable.relaid SetTable.laid at e
  cases h:SetTable.layClean (SetTable.sizeAbove n - 1) (E.map (·.1)) with
  |none=>rw[h]at e;cases e
  |some O=>
   rw[h]at e
   cases e
   dsimp only
   split
   ·exact H
   ·rfl
 ·rfl
def cx(p:Program)(w:World)(h:Heap)(a:Addr)(L:List Str):Prop:=
 ∃o E b t,h.get? a=some o/\o.ExactSet/\o.data= .set E b t/\ElemsOf (PySem.strKind p w) E.toList/\(E.toList.map λe=>ma e.2).Perm L/\L.Nodup
  /\E.size < scanBound/\t.fits E.size=true/\t.led=!(w.params.followText "set-order")/\(t.plain=false∨E.size=0)
theorem cx.at{H:Heap}{a:Addr}(x:cx p w h a L)(e:∀o,h.get? a=some o->H.get? a=some o):cx p w H a L:=
 let #[o,E,b,t,c,r]:=x;#[o,E,b,t,e o c,r]
section
variable {prog:Program}{w:World}{A:Around}{E:Value->Shared->Prop}{s:Shared}
theorem JC{a:Array (Int×Value)}(b:ElemsOf (PySem.strKind prog w) a.toList)(x:Str):
  (a.toList.findIdx? (λe=>(PySem.strKind prog w).is x e.2)=none↔¬x∈a.toList.map λe=>ma e.2):=by
 rw[List.findIdx?_eq_none_iff]
 constructor
 ·intro h m
  obtain⟨e,H,f⟩:=List.mem_map.mp m
  obtain⟨⟨k,g,_⟩,_⟩:=b e H
  obtain⟨t,c⟩:=NM g
  have q:=h e H
  rw[c]at f q
  have d:k=x:=f
  subst d
  have Q:(PySem.strKind prog w).is k (.str k t)=true:=strKind_is prog w k t
  rw[Q]at q;cases q
 ·intro h e H
  cases q:(PySem.strKind prog w).is x e.2 with
  |false=>rfl
  |true=>
   obtain⟨t,c⟩:=NM q
   exact absurd (List.mem_map.mpr #[e,H,by rw[c];rfl]) h
theorem JD{b:Array (Int×Value)}{T:SetTable}(d:s.heap.get? a=some o)(f:o.ExactSet)(h:o.data= .set p c t)
  (g:ElemsOf (PySem.strKind prog w) b.toList) (i:(b.toList.map λe=>ma e.2).Perm L) (j:L.Nodup) (k:b.size < scanBound) (l:T.fits b.size=true)
  (m:T.led=!(w.params.followText "set-order")) (n:T.plain=false):
  (s.heap.update a (Obj.putSet b T)).get? a=some { o with data:=.set b (c+1) T }/\cx prog w (s.heap.update a (Obj.putSet b T)) a L:=by
 have H:(s.heap.update a (Obj.putSet b T)).get? a=some { o with data:=.set b (c+1) T }:=by
  have q:=Lu (Obj.putSet b T) d (by rw[putSet_of b T h];rfl)
  rwa [putSet_of b T h]at q
 exact#[H,_,b,c+1,T,H,f,Z,g,i,j,k,l,m,.inl n]
theorem XZ{Q : Bool -> Shared -> Prop}(hS : cx prog w s.heap a L)(room : L.length + 1 < scanBound)
    (h : ∀ b R l, Heap.SameBut a s.heap R -> cx prog w R a (if x ∈ L then L else L ++ [x]) -> s.toks <= l -> Q b { s with heap := R, toks := l }) :
    wpAny (model prog w) A (setAdd a (.str x f)) Q E s := by
  obtain ⟨o, g, ep, t, n, U, u, H, v, B, hb, V, X, Y⟩ := hS
  have d : (PySem.strKind prog w).is x (.str x f) = true := strKind_is prog w x f
  have C : g.size = L.length := by rw [<- v.length_eq, IJ, Ld]
  unfold setAdd
  refine Lj (IF ((PySem.strKind prog w).pyHash (k := x) d ?_))
  unfold setAddHashed setAddHashedIn
  refine Lj (IF (Mx (s := { s with toks := s.toks + 1 }) n u V ?_))
  dsimp only
  rw [byScan_of Z hb H]
  simp only [↓reduceIte]
  unfold setAddByScan
  refine IF (IF (MX (IF (wpAny_setScan_of (knd := PySem.strKind prog w) d n u V H ?_))))
  cases hr : List.findIdx? (λe => (PySem.strKind prog w).is x e.2) g.toList with
  | some j =>
    dsimp only
    have D : x ∈ L := by
      refine Decidable.byContradiction λhn => ?_
      have q := (JC (prog := prog) (w := w) H x).mpr λm => hn (v.mem_iff.mp m)
      rw [q] at hr; cases hr
    have q := h false s.heap (s.toks + 1) (Heap.SameBut.refl a s.heap) (by rw [IU D]; exact #[o, g, ep, t, n, U, u, H, v, B, hb, V, X, Y]) (LH _)
    exact II (II q)
  | none =>
    dsimp only
    have D : ¬ x ∈ L :=λm => (JC (prog := prog) (w := w) H x).mp hr (v.mem_iff.mpr m)
    have W : ∀ (b : Bool) {S : Shared} {Q' : Unit -> Shared -> Prop}, Q' () S -> wpAny (model prog w) A (match b with | true => rule "set.scan.the-table-gave-way" | false => pure ()) Q' E S := by
      intro b S Q' hq
      cases b
      · exact II hq
      · exact MX hq
    have p := layNew_perm t g ((PySem.strKind prog w).hash x) (.str x f)
    have M := layNew_fits t g ((PySem.strKind prog w).hash x) (.str x f)
    have O := YB t g ((PySem.strKind prog w).hash x) (.str x f)
    generalize layNew t g ((PySem.strKind prog w).hash x) (.str x f) = N at p M O ⊢
    obtain ⟨c, t1, w0, g4⟩ := N
    dsimp only at p M O ⊢
    rw [Array.toList_push] at p
    have F : ElemsOf (PySem.strKind prog w) c.toList := (H.push d Z).perm p
    have P : (c.toList.map λe => ma e.2).Perm (L ++ [x]) := by
      refine (p.map _).trans ?_
      rw [Ln]
      exact v.append_right _
    have G : (L ++ [x]).Nodup := List.nodup_append.mpr #[B, by simp,λy hy z hz e => by rw [NE] at hz; subst hz; subst e; exact D hy]
    have h8 : c.size = g.size + 1 := by rw [<- Ld, p.length_eq, IL, Ld]; rfl
    have b1 : c.size < scanBound := by rw [h8, C]; exact room
    refine IF (W _ ?_)
    have i : ∀ T : SetTable, T.fits c.size = true -> T.led = t.led -> T.plain = false ->
        wpAny (model prog w) A (do
          storeSet a c T
          if (!w0 && T.tooFull) = true then do
              (match (relayAll T c (SetTable.grown c.size)).2.2 with | true => rule "set.scan.the-table-gave-way" | false => pure ())
              storeSet a (relayAll T c (SetTable.grown c.size)).1 (relayAll T c (SetTable.grown c.size)).2.1
              pure (some true)
            else pure (some true)) (λr s' => r = some true /\ Q true s') E { s with toks := s.toks + 1 } := by
      intro T g1 g2 g3
      refine IF (wpAny_storeSet_of (s := { s with toks := s.toks + 1 }) n u ?_ (Og b1))
      obtain ⟨o1, S1⟩ := JD (s := s) (prog := prog) (w := w) n U u F P G b1 g1 (g2.trans X) g3
      have I := Mz s.heap a (Obj.putSet c T)
      split
      · have J := relayAll_perm T c (SetTable.grown c.size)
        have f2 := relayAll_fits T c (SetTable.grown c.size)
        have l2 := Q1 T c (SetTable.grown c.size)
        have q2 := KI T c (SetTable.grown c.size) g3
        generalize relayAll T c (SetTable.grown c.size) = Z at J f2 l2 q2 ⊢
        obtain ⟨K, t3, g0⟩ := Z
        dsimp only at J f2 l2 q2 ⊢
        have cg : K.size = c.size := by rw [<- Ld, J.length_eq, Ld]
        have b2 : K.size < scanBound := by rw [cg]; exact b1
        refine IF (W _ (IF (wpAny_storeSet_of (s := { s with heap := s.heap.update a (Obj.putSet c T), toks := s.toks + 1 }) o1 Z ?_ (Og b2))))
        obtain ⟨_, S2⟩ := JD (s := { s with heap := s.heap.update a (Obj.putSet c T) }) (prog := prog) (w := w) o1 U Z (F.perm J) ((J.map _).trans P) G b2 f2 (l2.trans (g2.trans X)) q2
        exact II #[Z, h true _ _ (I.trans (Mz _ a _)) (by rw [IX D]; exact S2) (LH _)]
      · exact II #[Z, h true _ _ I (by rw [IX D]; exact S1) (LH _)]
    split
    · rename_i tp
      refine IF ?_
      rw [hashByValue_scannable 8 (x := .str x f) Z]
      refine II ?_
      have e0 : plainKind (.str x f) = false := rfl
      rw [e0]
      simp only [I8, ↓reduceIte]
      refine LS (i { t1 with plain := false } (SetTable.fits_plain_off M) O Z) (λr s' q => ?_) λ_ _ z => z
      obtain ⟨rfl, q⟩ := q
      exact II q
    · rename_i tp
      refine IF (II ?_)
      simp only [↓reduceIte]
      refine LS (i t1 M O (by simpa using tp)) (λr s' q => ?_) λ_ _ z => z
      obtain ⟨rfl, q⟩ := q
      exact II q
end
noncomputable def bj(w:World):Obj:={ cls:=.type "set",dict:=none,data:=.set (List.toArray []) 0 (.fresh 0 0 (!(w.params.followText "set-order"))) }
section
variable {prog:Program}{w:World}{A:Around}{E:Value->Shared->Prop}{s:Shared}
theorem X0{h:Heap}(e:h.get? a=some (bj w)):cx prog w h a []:=
 #[_,(List.toArray []),0,_,e,#[Z,Z,Z],Z,λ_ z=>by simp at z,Po,Ou,(by decide:(0:Nat) < scanBound),Z,Z,.inr Z]
theorem KU(a:Value){G:Value->Shared->Prop}(h:G (.ref s.heap.objs.size) { s with heap:=s.heap.push (bj w) }):
  codeAny (model prog w) A (.call (.builtin "set.__new__") #[[.type "set",a],[]]) (wants G E) s:=by
 refine codeAny_of_tree ?_
 show wpAny _ A.in1 (do checkBuiltinCall "set.__new__" _;again (.builtin "set.__new__" _)) _ _ s
 refine IF (OG (PySem.F.newCall_set_1 a) (II #[MO PySem.F.plain_set_new _,Mo PySem.F.entry_set_new ?_]))
 rw[LR PySem.F.plain_set_new]
 unfold Builtin.«set.__new__» Builtin.Frozenset.newClass
 have o:=sub_set_self
 obtain⟨H,g,d,t,os⟩:=s
 dsimp only
 wp_walk
 refine M7 (II ?_)
 dsimp only
 simp only[newObj]
 exact IF (wpAny_alloc (II (II h)))
end
theorem StrsAre.at':∀{V:List Value} {s:List Str},StrsAre V s->∀(i:Nat) (v:Value),V[i]?=some v->∃x t,s[i]?=some x/\v= .str x t
 |_,_,.nil,i,v,h=>by simp at h
 |_,_,.cons y t r,0,v,h=>by simp at h;exact#[y,t,Z,h.symm]
 |_,_,.cons y t r,i+1,v,h=>by
  simp only[List.getElem?_cons_succ]at h
  obtain⟨x,T,e,E⟩:=StrsAre.at' r i v h
  exact#[x,T,by simpa using e,E]
theorem StrsAre.len:∀{v:List Value} {s:List Str},StrsAre v s->s.length=v.length
 |_,_,.nil=>rfl
 |_,_,.cons _ _ r=>by simp [StrsAre.len r]
theorem kh:Slot "set_iterator" "__next__" "set_iterator.__next__":=by
 refine .of (owner:="set_iterator") (n:="__next__") ?_ Pp Pp Pp ?_ ?_
 ·rw[Mn,LI];kernel_rfl
 ·first |exact .inl Pp |exact .inr Pp
 ·rw[Mw];kernel_rfl
theorem qe:Slot "set_iterator" "__iter__" "set_iterator.__iter__":=by
 refine .of (owner:="set_iterator") (n:="__iter__") ?_ Pp Pp Pp ?_ ?_
 ·rw[Mn,LI];kernel_rfl
 ·first |exact .inl Pp |exact .inr Pp
 ·rw[Mw];kernel_rfl
theorem Jt:entryFor table "set_iterator.__next__"=some Builtin.«set_iterator.__next__»:=Ot (by kernel_rfl)
theorem Ju:entryFor table "set_iterator.__iter__"=some Builtin.«dict_keyiterator.__iter__»:=by
 refine OK (id':="dict_keyiterator.__iter__") ?_ Z Pp ?_<;>kernel_rfl
theorem JJ:entryFor table "set.__iter__"=some Builtin.«frozenset.__iter__»:=by
 refine OK (id':="frozenset.__iter__") ?_ Z Pp ?_<;>kernel_rfl
theorem JK(a:Value):argsOk "set_iterator.__next__" #[[a],[]]:=by unfold argsOk;kernel_rfl
theorem JL(a:Value):argsOk "set_iterator.__iter__" #[[a],[]]:=by unfold argsOk;kernel_rfl
def bP(h:Heap)(I:Addr)(f:Value)(i:Nat)(S:Addr)(n e:Nat):Prop:=
 ∃o,h.get? I=some o/\o.cls= .type "set_iterator"/\o.data= .fields (List.toArray [f,.int i 0,.ref S,.int n 0,.int e 0])
theorem bP.at{H:Heap}{i:Nat}{S:Addr}(x:bP h I f i S n E)(e:∀o,h.get? I=some o->H.get? I=some o):bP H I f i S n E:=
 let #[o,a,r]:=x;#[o,e o a,r]
theorem bP.is{s:Shared}{S:Addr}(x:bP s.heap I f i S n e):s.TypeIs (.ref I) "set_iterator":=let #[o,h,H,_]:=x;#[o,h,H]
section
variable {prog:Program}{w:World}{A:Around}{E:Value->Shared->Prop}{s:Shared}
theorem JO{c:Type}{Q:c->Shared->Prop}(d:A.handled=none)
  (h:∀H e,(∀b o,s.heap.get? b=some o->H.get? b=some o)->Shared.TypeIs { s with heap:=H } e "StopIteration"->E e { s with heap:=H }):
  wpAny (model prog w) A (do raiseNew (<- newExc (.type "StopIteration") []):Sem c) Q E s:=by
 refine IF ?_
 simp only[newExc,newTuple]
 refine IF (Lv ?_ (by size_fits))
 refine IF (m:=firstArgMember _ _) (OG (a:=Value.none) ?_ ?_)
 ·first |rfl | (simp only[firstArgMember];rfl)
 refine Lv ?_ (by size_fits)
 simp only[raiseNew]
 refine IF (wpAny_handled ?_)
 rw[d]
 refine IF (II (wpAny_throw (h _ _ (λb o e=>IH _ (IH _ e)) ?_)))
 exact#[_,IM _ Z,Z]
theorem JP{S:Addr}(H:bP s.heap I f i S n c)
  (h:wpAny (model prog w) A.in1 (Builtin.«set_iterator.__next__» #[[.ref I],[]]) (λF a=>∃v,F= .done (.ret v)/\Q (some v) a) (λe a=>a.TypeIs e "StopIteration"/\Q none a) s):
  wpAny (model prog w) A (pyNext (.ref I)) Q E s:=by
 unfold pyNext
 refine IF (Ni (Lw (name:=Str.ofString "__next__") H.is kh (Ls kh H.is Jt ?_ (JK _))))
 refine LS h (λF a q=>?_) λe a q=>?_
 ·obtain⟨v,e,q⟩:=q
  exact#[v,e,II q]
 ·exact IF (MQ (T:="StopIteration") (b:=true) q.1 OJ (II q.2))
theorem Qp{I:Addr}{f:Value}{i:Nat}{S:Addr}{n a:Nat}{o:Obj}{v:Array Value}(H:s.heap.get? I=some o)(b:o.cls= .type "set_iterator")(h:o.data= .fields v)(k:Nat)(x:Value)
  (e:v.setIfInBounds k x=(List.toArray [f,.int i 0,.ref S,.int n 0,.int a 0])):bP (s.heap.update I (Obj.mapFields (·.setIfInBounds k x))) I f i S n a:=
 #[_,Lu _ H (LX (Lq h _)),(Ny ..).trans b,by rw[Lq h,e]]
theorem YC{I S P:Addr}{i:Nat}{O j:Obj}{e:Array (Int×Value)}{a:Nat}{t:SetTable}{k:Array Value}{c p:Nat}{hx:Int}{x:Value}{Q:Option Value->Shared->Prop}
  (h:bP s.heap I (.ref P) i S e.size a) (l:s.heap.get? S=some O) (H:O.data= .set e a t) (m:t.fits e.size=true) (n:s.heap.get? P=some j) (b:j.data= .seq k c)
  (q:k[i]?=some (.int p 0)) (r:e[p]?=some (hx,x)) (u:∀d,bP d I (.ref P) (i+1) S e.size a->Heap.SameBut I s.heap d->Q (some x) { s with heap:=d }):
  wpAny (model prog w) A (pyNext (.ref I)) Q E s:=by
 refine JP h ?_
 obtain⟨o,f,v,g⟩:=h
 show wpAny _ _ (fieldsOf (.ref I) >>= _) _ _ s
 refine IF (OH f g ?_)
 dsimp only
 refine IF (Nf l H m ?_)
 simp only[Mc,I8,↓reduceIte]
 refine IF (Ma n b ?_)
 simp only[Md,q]
 unfold setNextDrawn
 refine IF (IF (Mx l H m ?_))
 simp only[Mc,I8,↓reduceIte,r]
 refine II ?_
 refine IF (LJ f g Po (II #[x,Z,u _ ?_ (Mz ..)]))
 exact Qp f v g _ _ (by simp [rawInt])
theorem KJ(q:A.handled=none){I S P:Addr}{i:Nat}{O l:Obj}{d:Array (Int×Value)}{m:Nat}{t:SetTable}{p:Array Value}{c:Nat}{Q:Option Value->Shared->Prop}
  (h:bP s.heap I (.ref P) i S d.size m) (r:s.heap.get? S=some O) (f:O.data= .set d m t) (u:t.fits d.size=true) (v:s.heap.get? P=some l) (g:l.data= .seq p c)
  (x:p[i]?=none) (y:∀H,(∀b o,b≠I->s.heap.get? b=some o->H.get? b=some o)->Q none { s with heap:=H }):
  wpAny (model prog w) A (pyNext (.ref I)) Q E s:=by
 refine JP h ?_
 obtain⟨o,j,B,a⟩:=h
 show wpAny _ _ (fieldsOf (.ref I) >>= _) _ _ s
 refine IF (OH j a ?_)
 dsimp only
 refine IF (Nf r f u ?_)
 simp only[Mc,I8,↓reduceIte]
 refine IF (Ma v g ?_)
 simp only[Md,x]
 refine IF (LJ j a Po ?_)
 refine IF (LJ (Lu _ j (LX (Lq a _))) (Lq a _) Po ?_)
 refine JO (s:={ s with heap:=_ }) (by simpa using q) λH e k T=>#[T,y H λb o n z=>k b o ?_]
 exact(K' _ _ (Lr n)).trans ((K' _ _ (Lr n)).trans z)
end
section
variable {prog:Program}{w:World}{A:Around}{E:Value->Shared->Prop}{s:Shared}
theorem Qq{I S:Addr}{i j nx:Nat}{O:Obj}{e:Array (Int×Value)}{a:Nat}{t:SetTable}{x:Value}{Q:Option Value->Shared->Prop}
  (h:bP s.heap I (.int j 0) i S e.size a) (f:s.heap.get? S=some O) (b:O.data= .set e a t) (k:t.fits e.size=true)
  (l:∀(q:Option (Value×Nat)->Shared->Prop) m,q (some (x,nx)) s->wpAny (model prog w) A.in1 (setNext S j i a) q m s)
  (n:∀c,bP c I (.int nx 0) (i+1) S e.size a->Heap.SameBut I s.heap c->Q (some x) { s with heap:=c }):
  wpAny (model prog w) A (pyNext (.ref I)) Q E s:=by
 refine JP h ?_
 obtain⟨o,d,p,H⟩:=h
 show wpAny _ _ (fieldsOf (.ref I) >>= _) _ _ s
 refine IF (OH d H ?_)
 dsimp only
 refine IF (Nf f b k ?_)
 simp only[Mc,I8,↓reduceIte]
 simp only[Md]
 refine IF (l _ _ ?_)
 dsimp only
 refine IF (LJ d H Po ?_)
 have g:=Lu (Obj.mapFields (·.setIfInBounds 0 (rawInt nx))) d (LX (Lq H _))
 have D:=Lq H (·.setIfInBounds 0 (rawInt nx))
 refine IF (LJ g D Po (II #[x,Z,n _ ?_ ((Mz ..).trans (Mz ..))]))
 exact Qp (s:={ s with heap:=_ }) g ((Ny ..).trans p) D _ _ (by simp [rawInt])
theorem qC(l:A.handled=none){I S:Addr}{i j:Nat}{O:Obj}{a:Array (Int×Value)}{c:Nat}{t:SetTable}{Q:Option Value->Shared->Prop}
  (h:bP s.heap I (.int j 0) i S a.size c) (m:s.heap.get? S=some O) (d:O.data= .set a c t) (n:t.fits a.size=true)
  (p:∀(q:Option (Value×Nat)->Shared->Prop) r,q none s->wpAny (model prog w) A.in1 (setNext S j i c) q r s)
  (u:∀H,(∀b o,b≠I->s.heap.get? b=some o->H.get? b=some o)->Q none { s with heap:=H }):
  wpAny (model prog w) A (pyNext (.ref I)) Q E s:=by
 refine JP h ?_
 obtain⟨o,f,y,g⟩:=h
 show wpAny _ _ (fieldsOf (.ref I) >>= _) _ _ s
 refine IF (OH f g ?_)
 dsimp only
 refine IF (Nf m d n ?_)
 simp only[Mc,I8,↓reduceIte]
 simp only[Md]
 refine IF (p _ _ ?_)
 dsimp only
 refine IF (LJ f g Po ?_)
 refine JO (s:={ s with heap:=_ }) (by simpa using l) λH e k T=>#[T,u H λb o v x=>k b o ?_]
 exact(K' _ _ (Lr v)).trans x
theorem Jf(a:w.params.followText "set-order"=true){S:Addr}(b:s.heap.get? S=some o)(H:o.data= .set c d t)
  (f:t.fits c.size=true) {Q:Option (Value×Nat)->Shared->Prop} (h:Q (((pickOrder (w.params.setOrder S d) c)[i]?).map λe=>(e.2,j)) s):
  wpAny (model prog w) A (setNext S j i d) Q E s:=by
 unfold setNext
 refine IF (Mx b H f ?_)
 dsimp only
 unfold setsByText
 refine IF (IF (M7 (II ?_)))
 dsimp only
 rw[show(model prog w).w.params.followText "set-order"=_ from a]
 simp only[↓reduceIte,Mc,I8]
 unfold setWalk
 refine IF (IF (Mx b H f ?_))
 dsimp only
 unfold setsByText
 refine IF (IF (M7 (II ?_)))
 dsimp only
 rw[show(model prog w).w.params.followText "set-order"=_ from a]
 simp only[↓reduceIte]
 exact IF (M7 (II (II h)))
theorem JE(a:w.params.followText "set-order"=false){S:Addr}(b:s.heap.get? S=some o)(H:o.data= .set e c t)
  (d:t.fits e.size=true) (f:t.led=true) (l:e.size<=1) {Q:Option (Value×Nat)->Shared->Prop}
  (h:Q (match e[SetTable.below t.place j]?,t.place[SetTable.below t.place j]? with |some (_,x),some k=>some (x,k+1) |_,_=>none) s):
  wpAny (model prog w) A (setNext S j i c) Q E s:=by
 unfold setNext
 refine IF (Mx b H d ?_)
 dsimp only
 unfold setsByText
 refine IF (IF (M7 (II ?_)))
 dsimp only
 rw[show(model prog w).w.params.followText "set-order"=_ from a]
 simp only[I8,↓reduceIte]
 split
 ·rename_i z
  have g:(!t.plain&&decide (e.size > 1))=true:=z
  simp only[L9,decide_eq_true_eq]at g
  omega
 ·refine IF ?_
  show wpAny _ _ (if (!t.led&&!e.isEmpty)=true then _ else _) _ _ _
  rw[f]
  simp only[Nv,Bool.false_and,I8,↓reduceIte]
  exact II (II h)
end
theorem X1{a:Type}(f:Nat->Nat):∀(n k:Nat) (l:List a) (o:Array a),l.length=n->(pickOrder.go f n k l o).toList.Perm (o.toList++l):=by
 intro n
 induction n with
 |zero=>
  intro k l o h
  rw[List.length_eq_zero_iff.mp h]
  unfold pickOrder.go
  simp
 |succ n i=>
  intro k l o h
  unfold pickOrder.go
  have H:f k % l.length < l.length:=Nat.mod_lt _ Pn
  rw[IG H]
  dsimp only
  refine(i _ _ _ (by rw[O2 H,h];rfl)).trans ?_
  rw[Array.toList_push,MJ,List.singleton_append]
  refine List.Perm.append_left _ ?_
  rw[OQ]
  refine List.perm_middle.symm.trans ?_
  rw[Mp,MS]
theorem ky{a:Type}(f:Nat->Nat)(x:Array a):(pickOrder f x).toList.Perm x.toList:=by
 have h:=X1 f x.size 0 x.toList (List.toArray []) (Ld ..)
 simpa [pickOrder] using h
theorem qZ{a:Type}(x:Array a)(d:a):(List.range x.size).map (λp=>(x[p]?).getD d)=x.toList:=by
 refine N5 Po λi b h=>?_
 have H:i < x.size:=by simpa using h
 simp [H]
def nq(ord:List (Int×Value))(i:Nat)(v:Value):Prop:=∃e,ord[i]?=some e/\v=e.2
section
variable {prog:Program}{w:World}{A:Around}{E:Value->Shared->Prop}{s:Shared}
theorem qK{S:Addr}(H:bP s.heap I f i S n e){Q:Value->Shared->Prop}(h:Q (.ref I) s):wpAny (model prog w) A (pyIter (.ref I)) Q E s:=by
 refine O0 H.is qe (Ls qe H.is Ju ?_ (JL _))
 show wpAny _ _ (ret (.ref I)) _ _ s
 exact II #[_,Z,"set_iterator",_,H.is,kh.lookup,h]
theorem YD(D:A.handled=none)(I S P:Addr)(l:S≠I)(m:P≠I){O oP:Obj}{y:List Nat}{c:Nat}(f:O.data= .set d G t)
  (u:t.fits d.size=true) (g:oP.data= .seq (y.map λ(i:Nat)=>rawInt i).toArray c) (n:y.Perm (List.range d.size)):
  WalksS prog w A I [I,S,P] [I] (λa b=>b=a) d.size (nq (y.map λp=>(d[p]?).getD (0,.none)))
   (λi s=>bP s.heap I (.ref P) i S d.size G/\s.heap.get? S=some O/\s.heap.get? P=some oP) where
 sub:=λb H=>by simp at H;simp [H]
 grefl:=λ_=>Z
 gtrans:=λ_ _ _ F J=>J.trans F
 frame:=λi s v T st _ k=>#[st.1.at λo e=>k I Po o e,k S Po _ st.2.1,k P Po _ st.2.2]
 item:=λi s Q E K st j=>by
  have B:y.length=d.size:=by rw[n.length_eq,NO]
  have h:i < y.length:=by omega
  have C:y[i] < d.size:=List.mem_range.mp (n.mem_iff.mp (Nt h))
  refine YC (p:=y[i]) (hx:=(d[y[i]]).1) (x:=(d[y[i]]).2) st.1 st.2.1 f u st.2.2 g (by simp [h,rawInt]) (by simp [C]) λv q r=>?_
  refine j _ _ #[d[y[i]],by simp [h,C],Z] #[q,?_,?_] #[λb o H e=>?_,Z,Z,Z,IK _]
  ·rw[r.2 S l];exact st.2.1
  ·rw[r.2 P m];exact st.2.2
  ·rw[r.2 b (λz=>H (by simp [z]))];exact e
 done:=λs Q E st j=>by
  have B:y.length=d.size:=by rw[n.length_eq,NO]
  refine KJ D st.1 st.2.1 f u st.2.2 g (by simp [B]) λv k=>j _ #[λb o H e=>k b o (λz=>H (by simp [z])) e,Z,Z,Z,IK _]
 self:=λ_ _ _ _ st j=>qK st.1 j
theorem Z0(r:A.handled=none)(m:w.params.followText "set-order"=true)(I S:Addr)(l:S≠I){O:Obj}(h:O.data= .set c d t)
  (j:t.fits c.size=true):
  WalksS prog w A I [I,S] [I] (λa b=>b=a) c.size (nq (pickOrder (w.params.setOrder S d) c).toList)
   (λi s=>bP s.heap I (.int (0:Nat) 0) i S c.size d/\s.heap.get? S=some O) where
 sub:=λb H=>by simp at H;simp [H]
 grefl:=λ_=>Z
 gtrans:=λ_ _ _ u v=>v.trans u
 frame:=λi s n T st _ k=>#[st.1.at λo e=>k I Po o e,k S Po _ st.2]
 item:=λi s Q E D st f=>by
  have y:(pickOrder (w.params.setOrder S d) c).size=c.size:=by rw[<- Ld,(ky _ _).length_eq,Ld]
  have g:i < (pickOrder (w.params.setOrder S d) c).size:=by omega
  refine Qq (x:=(pickOrder (w.params.setOrder S d) c)[i].2) (nx:=0) st.1 st.2 h j (λB C q=>Jf m st.2 h j (by rw[MD g];exact q)) λn q p=>?_
  refine f _ _ #[(pickOrder (w.params.setOrder S d) c)[i],by rw[Mr];exact MD g,Z] #[q,?_] #[λb o H e=>?_,Z,Z,Z,IK _]
  ·rw[p.2 S l];exact st.2
  ·rw[p.2 b (λz=>H (by simp [z]))];exact e
 done:=λs Q E st f=>by
  have y:(pickOrder (w.params.setOrder S d) c).size=c.size:=by rw[<- Ld,(ky _ _).length_eq,Ld]
  refine qC r st.1 st.2 h j (λB C q=>Jf m st.2 h j (by rw[Od Pn];exact q)) λn k=>f _ #[λb o H e=>k b o (λz=>H (by simp [z])) e,Z,Z,Z,IK _]
 self:=λ_ _ _ _ st f=>qK st.1 f
theorem YE(p:Nat):SetTable.below (List.toArray [p]) 0=0:=by simp [SetTable.below,SetTable.below.go]
theorem YF(p:Nat):SetTable.below (List.toArray [p]) (p+1)=1:=by simp [SetTable.below,SetTable.below.go]
theorem we(G:A.handled=none)(u:w.params.followText "set-order"=false)(I S:Addr)(n:S≠I){O:Obj}(h:O.data= .set c L t)
  (g:t.fits c.size=true) (v:t.led=true) (y:c.size<=1):
  WalksS prog w A I [I,S] [I] (λa b=>b=a) c.size (nq c.toList)
   (λi s=>(∃j:Nat,bP s.heap I (.int j 0) i S c.size L/\(i=0->j=0)/\(i=1->∃p,t.place=(List.toArray [p])/\j=p+1))/\s.heap.get? S=some O) where
 sub:=λb d=>by simp at d;simp [d]
 grefl:=λ_=>Z
 gtrans:=λ_ _ _ K M=>M.trans K
 frame:=λi s B W st _ k=>#[let #[j,a,r]:=st.1;#[j,a.at λo e=>k I Po o e,r],k S Po _ st.2]
 item:=λi s Q E X st l=>by
  obtain⟨⟨j,H,J,C⟩,f⟩:=st
  have N:i=0:=by omega
  subst N
  cases J Z
  have D:c.size=1:=by omega
  have P:t.place.size=1:=by
   simp only[SetTable.fits,L9,beq_iff_eq]at g
   omega
  obtain⟨p,m⟩:=Array.size_eq_one_iff.mp P
  refine Qq (x:=(c[0]'Pn).2) (nx:=p+1) H f h g (λR T q=>JE u f h g v y (by rw[m,YE,MD Pn];exact q)) λB q F=>?_
  refine l _ _ #[c[0]'Pn,by rw[Mr];exact MD Pn,Z] #[#[_,q,λz=>by omega,λ_=>#[p,m,Z]],?_] #[λb o d e=>?_,Z,Z,Z,IK _]
  ·rw[F.2 S n];exact f
  ·rw[F.2 b (λz=>d (by simp [z]))];exact e
 done:=λs Q E st l=>by
  obtain⟨⟨j,H,J,C⟩,f⟩:=st
  refine qC G H f h g (λR T q=>JE u f h g v y ?_) λB k=>l _ #[λb o d e=>k b o (λz=>d (by simp [z])) e,Z,Z,Z,IK _]
  by_cases z:c.size=0
  ·rw[Od (show c.size<=_ by omega)];exact q
  ·have D:c.size=1:=by omega
   obtain⟨p,U,V⟩:=C D
   subst V
   rw[U,YF,Od (show c.size<=1 by omega)];exact q
 self:=λ_ _ _ _ st l=>let #[#[_,a,_],_]:=st;qK a l
end
theorem z9{prog:Program}{w:World}(h:ElemsOf (PySem.strKind prog w) E)(i:Nat)(v:Value)(b:nq E i v):∃x t,(E.map λe=>ma e.2)[i]?=some x/\v= .str x t:=by
 obtain⟨e,H,rfl⟩:=b
 obtain⟨⟨k,c,_⟩,_⟩:=h e (Lb H)
 obtain⟨t,a⟩:=NM c
 exact#[k,t,by rw[Lc,H];show some (ma e.2)=_;rw[a];rfl,a]
def Bl(p:Program)(w:World)(s c:Shared)(S I:Addr)(L:List Str):Prop:=
 ∃(f:List Addr) (d:List Str) (P:Nat->Value->Prop) (St:Nat->Shared->Prop),(∀b o,s.heap.get? b=some o->c.heap.get? b=some o)/\c.gens=s.gens/\c.os=s.os/\s.toks<=c.toks/\
  s.heap.objs.size<=I/\I < c.heap.objs.size/\c.TypeIs (.ref I) "set_iterator"/\(∀b∈f,b=S∨s.heap.objs.size<=b)/\(∀A:Around,A.handled=none->WalksS p w A I f [I] (λa b=>b=a) d.length P St)/\St 0 c/\
  (∀i v,P i v->∃x t,d[i]?=some x/\v= .str x t)/\d.Perm L
section
variable {prog:Program}{w:World}{A:Around}{E:Value->Shared->Prop}{s:Shared}
theorem YG{S:Addr}(V:cx prog w s.heap S L){Q:Value->Shared->Prop}(h:∀f I,Bl prog w s f S I L->Q (.ref I) f):wpAny (model prog w) A (pyIter (.ref S)) Q E s:=by
 obtain⟨o,a,x,t,H,W,m,n,M,X,r,u,Y,N⟩:=V
 have P:s.TypeIs (.ref S) "set":=#[o,H,W.1]
 have v:S < s.heap.objs.size:=IP H
 refine O0 P PySem.F.slot_set_iter (Ls PySem.F.slot_set_iter P JJ ?_ (PySem.F.args_set_iter_1 _))
 unfold Builtin.«frozenset.__iter__»
 show wpAny _ _ (Builtin.Frozenset.sizeOf S >>= _) _ _ s
 unfold Builtin.Frozenset.sizeOf
 refine IF (IF (Nf H m u (II ?_)))
 unfold setDrawn
 refine IF (IF (Mx H m u ?_))
 dsimp only
 unfold setsByText
 refine IF (IF (M7 (II (II ?_))))
 split
 ·rename_i z
  have B:(!(w.params.followText "set-order")&&(!t.plain&&decide (a.size > 1)))=true:=z
  simp only[L9,decide_eq_true_eq]at B
  refine IF (XY a.size (List.range a.size) s Po λy d G=>?_)
  have C:y.length=a.size:=by rw[G.length_eq,NO]
  have O:((y.map λ(i:Nat)=>rawInt i).length)<=sizeLine:=by rw[IJ,C];exact Og r
  refine IF (Nw (s:={ s with drawn:=d }) ?_ O)
  refine IF ?_
  unfold setEpoch
  refine IF (Mx (IH _ H) m u (II ?_))
  refine IF (Lv (II #[_,Z,"set_iterator",_,#[_,IM _ Z,Z],kh.lookup,h _ _ ?_]))
  generalize J:s.heap.push { cls:=.type "tuple",data:=.seq (y.map λ(i:Nat)=>rawInt i).toArray }=g
  have R:g.objs.size=s.heap.objs.size+1:=by rw[<- J,LL]
  have gP:g.get? s.heap.objs.size=some { cls:=.type "tuple",data:=.seq (y.map λ(i:Nat)=>rawInt i).toArray }:=by rw[<- J];exact IM _ Z
  have gS:g.get? S=some o:=by rw[<- J];exact IH _ H
  refine#[[g.objs.size,S,s.heap.objs.size],(y.map λp=>(a[p]?).getD (0,.none)).map λe=>ma e.2,nq (y.map λp=>(a[p]?).getD (0,.none)),
   (λi f=>bP f.heap g.objs.size (.ref s.heap.objs.size) i S a.size x/\f.heap.get? S=some o/\f.heap.get? s.heap.objs.size=some { cls:=.type "tuple",data:=.seq (y.map λ(i:Nat)=>rawInt i).toArray }),λb o e=>?_,Z,Z,IK _,?_,?_,#[_,IM _ Z,Z],λb r=>?_,
   λT D=>?_,#[#[_,IM _ Z,Z,Z],IH _ gS,IH _ gP],?_,?_]
  ·exact IH _ (by rw[<- J];exact IH _ e)
  ·show s.heap.objs.size<=g.objs.size
   omega
  ·show g.objs.size < (g.push _).objs.size
   rw[LL];exact Mt _
  ·simp only[My,Ll,Nx]at r
   rcases r with e |e |e
   ·subst e;exact .inr Pn
   ·exact .inl e
   ·rw[e];exact .inr (IK _)
  ·have q:=YD (prog:=prog) (w:=w) D g.objs.size S s.heap.objs.size (IY (by rw[R];exact MF v)) (IY (by rw[R];exact Mt _)) m u (oP:={ cls:=.type "tuple",data:=.seq (y.map λ(i:Nat)=>rawInt i).toArray }) (c:=0) Z G
   simpa [C] using q
  ·refine z9 (prog:=prog) (w:=w) (n.perm ?_)
   have q:=G.map λp=>(a[p]?).getD ((0:Int),Value.none)
   rwa [qZ]at q
  ·have q:=G.map λp=>(a[p]?).getD ((0:Int),Value.none)
   rw[qZ]at q
   exact(q.map _).trans M
 ·rename_i z
  have B:¬(!(w.params.followText "set-order")&&(!t.plain&&decide (a.size > 1)))=true:=z
  refine IF (II ?_)
  refine IF ?_
  unfold setEpoch
  refine IF (Mx H m u (II ?_))
  refine IF (Lv (II #[_,Z,"set_iterator",_,#[_,IM _ Z,Z],kh.lookup,h _ _ ?_]))
  have k:∀b∈[s.heap.objs.size,S],b=S∨s.heap.objs.size<=b:=λb r=>by
   simp only[My,Ll,Nx]at r
   rcases r with e |e
   ·subst e;exact .inr (IK _)
   ·exact .inl e
  have l:∀U:Obj,s.heap.objs.size < (s.heap.push U).objs.size:=λU=>by rw[LL];exact Mt _
  cases K:w.params.followText "set-order" with
  |true=>
   have pl:(pickOrder (w.params.setOrder S x) a).toList.length=a.size:=by rw[(ky _ _).length_eq,Ld]
   refine#[[s.heap.objs.size,S],(pickOrder (w.params.setOrder S x) a).toList.map λe=>ma e.2,nq (pickOrder (w.params.setOrder S x) a).toList,
    (λi f=>bP f.heap s.heap.objs.size (.int (0:Nat) 0) i S a.size x/\f.heap.get? S=some o),λb o e=>IH _ e,Z,Z,IK _,IK _,l _,#[_,IM _ Z,Z],k,
    λT D=>?_,#[#[_,IM _ Z,Z,Z],IH _ H],?_,?_]
   ·have q:=Z0 (prog:=prog) (w:=w) D K s.heap.objs.size S (IY v) m u
    rw[IJ,pl];exact q
   ·exact z9 (prog:=prog) (w:=w) (n.perm (ky _ _))
   ·exact((ky _ _).map _).trans M
  |false=>
   have hs:a.size<=1:=by
    rw[K]at B
    rcases N with e |e
    ·rw[e]at B
     simp at B
     exact B
    ·omega
   refine#[[s.heap.objs.size,S],a.toList.map λe=>ma e.2,nq a.toList,
    (λi f=>(∃j:Nat,bP f.heap s.heap.objs.size (.int j 0) i S a.size x/\(i=0->j=0)/\(i=1->∃p,t.place=(List.toArray [p])/\j=p+1))/\f.heap.get? S=some o),λb o e=>IH _ e,Z,Z,IK _,IK _,l _,#[_,IM _ Z,Z],k,
    λT D=>?_,#[#[0,#[_,IM _ Z,Z,Z],λ_=>Z,λz=>by cases z],IH _ H],?_,?_]
   ·have q:=we (prog:=prog) (w:=w) D K s.heap.objs.size S (IY v) m u (by rw[Y,K];rfl) hs
    rw[IJ,Ld];exact q
   ·exact z9 (prog:=prog) (w:=w) n
   ·exact M
theorem qD:∀(V:List Value) (S:List Str),V.length=S.length->(∀(i:Nat) (v:Value),V[i]?=some v->∃x t,S[i]?=some x/\v=Value.str x t)->StrsAre V S
 | [],[],_,_=>.nil
 | [],_::_,h,_=>by cases h
 |_::_,[],h,_=>by cases h
 |v::V,y::S,h,k=>by
  obtain⟨x,t,e,rfl⟩:=k 0 v Z
  cases e
  exact .cons y t (qD V S (by simpa using h) λi u H=>k (i+1) u (by simpa using H))
theorem KW{S:Addr}(hh:A.handled=none)(y:cx prog w s.heap S L){Q:List Value->Shared->Prop}
  (h:∀a V g,s.heap.objs.size<=a.heap.objs.size->(∀b o,s.heap.get? b=some o->a.heap.get? b=some o)->a.gens=s.gens->a.os=s.os->s.toks<=a.toks->StrsAre V g->g.Perm L->Q V a):wpAny (model prog w) A (collect (.ref S)) Q E s:=by
 have n:L.length < scanBound:=by
  obtain⟨o,es,ep,t,j,M,hd,h0,u,h1,k,hf,hl,h2⟩:=y
  rw[<- u.length_eq,IJ,Ld];exact k
 unfold collect
 refine IF (wpAny_runValue (Mo OZ ?_))
 rw[LR OY]
 show wpAny _ A.in1 (newList [] >>= λl=>again (.builtin "list.__iadd__" #[[l,.ref S],[]])) _ _ s
 refine IF (Lv (II #[MO Na _,Mo Pj ?_]))
 rw[LR Na]
 show wpAny _ A.in1 (Builtin.List.listExtendWith (.ref s.heap.objs.size) (.ref S) (.ref s.heap.objs.size)) _ _ _
 unfold Builtin.List.listExtendWith
 have p:S < s.heap.objs.size:=by obtain⟨o,_,_,_,j,_⟩:=y;exact IP j
 generalize x:s.heap.push { cls:=.type "list",data:=.seq ([]:List Value).toArray }=H
 have gl:H.get? s.heap.objs.size=some { cls:=.type "list",data:=.seq ([]:List Value).toArray }:=by rw[<- x];exact IM _ Z
 have R:cx prog w H S L:=y.at λo e=>by rw[<- x];exact IH _ e
 have gk:∀b o,s.heap.get? b=some o->H.get? b=some o:=λb o e=>by rw[<- x];exact IH _ e
 have T:Shared.TypeIs { s with heap:=H } (.ref S) "set":=by
  obtain⟨o,_,_,_,j,M,_⟩:=R
  exact#[o,j,M.1]
 refine IF (MV T ?_)
 have n1:Builtin.List.listSameRef (.ref s.heap.objs.size) (.ref S)=false:=by
  simp only[Builtin.List.listSameRef,beq_eq_false_iff_ne]
  exact LN p
 have n2:(Value.type "set"==Value.type "list")=false:=by decide
 have n3:(Value.type "set"==Value.type "tuple")=false:=by decide
 simp only[n1,n2,n3,Pf,I8,Mj]
 refine IF (YG (s:={ s with heap:=H }) R λr I B=>?_)
 obtain⟨fp,g,P,St,K,kg,ko,kt,C,h3,h4,D,W,st,hv,u⟩:=B
 have G:H.objs.size=s.heap.objs.size+1:=by rw[<- x,LL]
 have f:r.TypeIs (.ref S) "set":=by
  obtain⟨o,j,hc⟩:=T
  exact#[o,K _ _ j,hc]
 refine IF (Lj ?_)
 unfold Builtin.List.listLengthHint
 refine IF (MM f PySem.F.slot_set_len.lookup ?_)
 wp_delta
 refine IF (MQ (b:=true) f sub_set_self ?_)
 show wpAny _ A.in1 (typeOf (Value.ref S) >>= _) _ _ _
 refine IF (MV f (II ?_))
 rw[IU Pm]
 refine IF (MX ?_)
 have U:=K _ _ gl
 refine IF ?_
 show wpAny _ A.in1 (updateSeq s.heap.objs.size (·.push .none) >>= λ_=>updateSeq s.heap.objs.size (·.pop)) _ _ _
 refine IF (wpAny_updateSeq U Z ?_)
 have X:=Lu (Obj.mapSeq (·.push Value.none)) U Z
 refine wpAny_updateSeq X Z ?_
 have g3:=Lu (Obj.mapSeq (·.pop)) X Z
 have N:¬s.heap.objs.size∈fp:=λm=>by
  rcases D _ m with e |e
  ·exact absurd p (by rw[<- e];exact LO _)
  ·have e':H.objs.size<=s.heap.objs.size:=e
   omega
 have O:∀b o,b≠s.heap.objs.size->r.heap.get? b=some o->((r.heap.update s.heap.objs.size (Obj.mapSeq (·.push Value.none))).update s.heap.objs.size (Obj.mapSeq (·.pop))).get? b=some o:=
  λb o k e=>(K' _ _ (Lr k)).trans ((K' _ _ (Lr k)).trans e)
 have Y:=W A.in1 (by simpa using hh)
 have hn:g.length<=sizeLine:=by rw[u.length_eq];exact Og n
 refine II #[MO O6 _,codeAny_extend_loopS Y hn _ N _ g.length 0 _ _ _ Z (IS _) (Y.frame 0 r _ r.toks st (IK _) λb k o e=>O b o (λz=>N (z▸k)) e) g3 (ItemsOf.nil P) λa J c m gS d=>?_]
 show wpAny _ A (load s.heap.objs.size >>= _) _ _ a
 refine IF (wpAny_load gS (II (h a J.toList g (MG (IP gS)) (λb o e=>?_) ?_ ?_ ?_ ?_ u)))
 ·have ne:b≠s.heap.objs.size:=IY (IP e)
  refine m.heap b o ?_ (O b o ne (K b o (gk b o e)))
  simp only[My,Ll,Nx,not_or]
  refine#[ne,λz=>?_]
  have q:s.heap.objs.size+1<=I:=G▸C
  have q2:=IP e
  rw[z]at q2
  exact absurd (I0 (MF q2) q) (LO _)
 ·exact m.gens.trans kg
 ·exact m.os.trans ko
 ·exact IZ kt m.toks
 ·refine qD _ _ (by rw[Ld,d.1]) λi v e=>hv i v (d.2 i v (by rwa [Mr]at e))
end
section
variable {prog:Program}{w:World}{A:Around}{E:Value->Shared->Prop}{s:Shared}
theorem Q2{S:Addr}(z:A.handled=none)(B:cx prog w s.heap S L)(j:L.length < 64){Q:Value->Shared->Prop}
  (h:∀f a c v i,s.heap.objs.size<=a->(∀b o,s.heap.get? b=some o->f.heap.get? b=some o)->f.gens=s.gens->f.os=s.os->f.heap.get? a=some (seqObj "list" v c)->StrsAre v.toList i->i.Perm L->sortedS i=true->Q (.ref a) f):
  wpAny (model prog w) A (call (.builtin "sorted") [.ref S]) Q E s:=by
 refine Nc kind_sorted plain_sorted entry_sorted (args_sorted1 _) ?_
 unfold Builtin.«sorted»
 refine IF (m:=checkCount "sorted" 1 1 _) (II ?_)
 refine IF (KW (by simpa using z) B λd v i K k C D P H r=>?_)
 have F:v.length < 64:=by rw[<- _L.StrsAre.len H,r.length_eq];exact j
 refine IF (Nh ?_ (by have q:sizeLine=1000000000∨64<=sizeLine:=.inr Pm;omega))
 have g:=IM d.heap (o:=seqObj "list" v.toArray 0) Z
 refine IF (Lj (Ls O3 #[_,g,Z] OR (list_sort_treeK strKind_oneLt g H.keysOf (λV t R e=>keyKind_strs (by rw[<- e];exact H)) F λl G I=>#[_,Z,?_]) (O5 _)))
 obtain⟨n,u,J,M⟩:=sorted_out_str H G I
 generalize (arrOf l).map (·.2)=out at u ⊢
 obtain⟨c,N⟩:=sortedHeap_at (out:=out) g
 have O:∀b o,s.heap.get? b=some o->(sortedHeap (d.heap.push (seqObj "list" v.toArray 0)) d.heap.objs.size v out).get? b=some o:=by
  intro b o e
  have x:=k b o e
  have y:b < d.heap.objs.size:=IP x
  have p:b < (d.heap.push (seqObj "list" v.toArray 0)).objs.size:=by rw[size_push'];exact MF y
  rw[sortedHeap_old (IY y) p]
  exact IH _ x
 exact II #[_,Z,h { d with heap:=sortedHeap (d.heap.push (seqObj "list" v.toArray 0)) d.heap.objs.size v out } d.heap.objs.size c out n K O C D N u (J.trans r) M]
end
theorem Jg(h:StrsAre v s):aB (s.map V.str) v:=by
 induction h with
 |nil=>exact .nil
 |cons y t _ i=>exact .cons #[t,Z] i
noncomputable def Ge(P:Program)(w:World)(a:Addr)(L:List Str):HO:=.ext λh=>cx P w h a L
section
variable {X:Cx}
theorem qc(i:X.calm=true):dR X (.builtin "sorted") (λx H Q=>∃(p:Addr) (L:List Str),x=[.ref p]/\H p=some (Ge X.prog X.w p L)/\L.length < 64/\
  ∀l S,H l=none->S.Perm L->L.Nodup->sortedS S=true->Q (.ref l) (ah H l (.lst (S.map V.str)))):=by
 intro P s B H x U Q I r h
 obtain⟨p,L,rfl,j,d,q⟩:=h
 obtain⟨u,rfl,R⟩:=eQ r
 cases R
 obtain⟨f,_,_⟩:=I.hok p _ j
 have b:L.Nodup:=by obtain⟨_,_,_,_,_,_,_,_,_,b,_⟩:=f;exact b
 refine Q2 (I.ok.hd i) f d λm a c v S e k K o t y g A=>?_
 have len:(S.map V.str).length<=sizeLine:=by rw[IJ,g.length_eq];exact IZ (MG d) Pm
 have n:aL X.prog X.w (ah H a (.lst (S.map V.str))) m.heap a (.lst (S.map V.str)):=#[len,v.toList,c,Jg y,t]
 refine#[.ref a,_,I.call' (ch:=[]) o (Un.laid k e (I.hok.fresh e)) (I.hok.laid k e n) (by rw[K];exact I.bare) (λ_ z=>nomatch z),Z,q _ _ (I.hok.fresh e) g b A]
theorem Q3:dR X (.builtin "sorted") (λx H Q=>∃(p:Addr) (a:List Str),x=[.ref p]/\aJ X.K H p (a.map V.str)/\a.length < 64/\
  ∀l S,H l=none->S.Perm a->sortedS S=true->Q (.ref l) (ah H l (.lst (S.map V.str)))):=by
 intro P s v H x U Q I r h
 obtain⟨p,a,rfl,f,b,q⟩:=h
 obtain⟨u,rfl,R⟩:=eQ r
 cases R
 obtain⟨i,g,j,y⟩:=I.list f
 have d:=zX g
 have k:i.length=a.length:=(_L.StrsAre.len d).symm
 refine sorted_strs j.isList d (by rw[k];exact b) λo S m A n=>?_
 obtain⟨c,t⟩:=sortedAll_at s.heap i o
 have len:(S.map V.str).length<=sizeLine:=by rw[IJ,A.length_eq];exact IZ (MG b) Pm
 refine#[.ref (s.heap.objs.size+1),_,I.laid (t':=s.toks) (λ_ _ e=>sortedAll_old e) (LH _) (show aL X.prog X.w _ _ _ (.lst (S.map V.str)) from #[len,o.toList,c,Jg m,t]),Z,q _ _ (I.hok.fresh (LH _)) A n]
end
theorem Zb:mroOf (.type "reversed")=pure [.type "reversed",.type "object"]:=by rw[mroOf_type];kernel_rfl
theorem KK:typeLookup (.type "reversed") "__new__"=pure (some (.builtin "reversed.__new__")):=by rw[Mn,LI];kernel_rfl
theorem KY:Slot "reversed" "__init__" "object.__init__":=by
 refine .of (owner:="object") (n:="__init__") ?_ Pp Pp Pp ?_ ?_
 ·rw[Mn,LI];kernel_rfl
 ·first |exact .inl Pp |exact .inr Pp
 ·rw[Mw];kernel_rfl
theorem YH:TypeCalled "reversed" "reversed.__new__" "object.__init__":=by
 refine#[Pp,Pp,#[_,_,Zb],madeBy_type Zb KK Pp,Pp,?_,KY]
 rw[Mw];kernel_rfl
theorem Q4(a:Value):checkTypeCall "reversed" #[[a],[]]=pure ():=by kernel_rfl
theorem X2(a:Value):checkBuiltinCall "reversed.__new__" #[[.type "reversed",a],[]]=pure ():=by kernel_rfl
theorem KZ:entryFor table "reversed.__new__"=some Builtin.«reversed.__new__»:=Ot (by kernel_rfl)
theorem y9:isSubtype (.type "reversed") (.type "reversed")=pure true:=by rw[Mw];kernel_rfl
theorem Q5:typeLookup (.type "tuple") "__reversed__"=pure none:=by rw[Mn,LI];kernel_rfl
theorem KL:isSubtype (.type "tuple") (.type "dict")=pure false:=by rw[Mw];kernel_rfl
noncomputable def revObj(t:Addr)(n:Int):Obj:={ cls:=.type "reversed",data:=.fields (List.toArray [.ref t,.int (n - 1) 0]) }
section
variable {prog:Program}{w:World}{A:Around}{E:Value->Shared->Prop}{s:Shared}
theorem rA{Q:Value->Shared->Prop}(H:IsTup s.heap t i)(c:(i.size:Int) < 2 ^ 63)
  (h:Q (.ref s.heap.objs.size) { s with heap:=s.heap.push (revObj t i.size),toks:=s.toks+1+1 }):wpAny (model prog w) A (call (.type "reversed") [.ref t]) Q E s:=by
 refine callType_new (S:=λ_ R a=>a=s/\R (.ok (.ret (.ref s.heap.objs.size))) { s with heap:=s.heap.push (revObj t i.size),toks:=s.toks+1+1 }) YH Pm (Q4 _) (X2 _) (λo=>ND o _) KZ
  (.of_wp λp W f R a d=>?_) #[Z,#[_,IM _ Z,Z],h]
 obtain⟨rfl,e⟩:=d
 unfold Builtin.«reversed.__new__» Builtin.SmallTypes.newClass
 refine IF ?_
 dsimp only
 refine IF (II ?_)
 simp only[Nv,I8,Mj]
 refine IF (OG y9 ?_)
 simp only[Nv,I8,Mj]
 refine II ?_
 refine IF (m:=Builtin.SmallTypes.refuseKeywords _ _ _) (II ?_)
 refine IF (m:=checkCount "reversed" 1 1 _) (II ?_)
 dsimp only
 refine IF (MM H.typeIs Q5 ?_)
 dsimp only
 refine IF ?_
 show wpAny _ _ (isInstance (.ref t) (.type "dict") >>= _) _ _ _
 refine IF (MQ (b:=false) H.typeIs KL ?_)
 simp only[I8,Mj]
 refine IF (MM H.typeIs PyProof.Rows.slot_tuple_getitem.lookup ?_)
 dsimp only
 rw[IU Pp]
 refine II ?_
 simp only[Nv,I8,Mj]
 refine IF (len_tuple H c ?_)
 refine IF (m:=asInt? _) (II ?_)
 dsimp only
 show wpAny _ _ (newObj (.type "reversed") (.fields [Value.ref t,rawInt ((i.size:Int) - 1)].toArray) >>= _) _ _ _
 exact IF (Lv (II #[_,Z,e]))
end
theorem zJ:Slot "reversed" "__next__" "reversed.__next__":=by
 refine .of (owner:="reversed") (n:="__next__") ?_ Pp Pp Pp ?_ ?_
 ·rw[Mn,LI];kernel_rfl
 ·first |exact .inl Pp |exact .inr Pp
 ·rw[Mw];kernel_rfl
theorem qE:Slot "reversed" "__iter__" "reversed.__iter__":=by
 refine .of (owner:="reversed") (n:="__iter__") ?_ Pp Pp Pp ?_ ?_
 ·rw[Mn,LI];kernel_rfl
 ·first |exact .inl Pp |exact .inr Pp
 ·rw[Mw];kernel_rfl
theorem KM:entryFor table "reversed.__next__"=some Builtin.«reversed.__next__»:=Ot (by kernel_rfl)
theorem KN:entryFor table "reversed.__iter__"=some Builtin.«dict_keyiterator.__iter__»:=by
 refine OK (id':="dict_keyiterator.__iter__") ?_ Z Pp ?_<;>kernel_rfl
theorem K0(a:Value):argsOk "reversed.__next__" #[[a],[]]:=by unfold argsOk;kernel_rfl
theorem K1(a:Value):argsOk "reversed.__iter__" #[[a],[]]:=by unfold argsOk;kernel_rfl
def dC(h:Heap)(I t:Addr)(k:Int):Prop:=∃o,h.get? I=some o/\o.cls= .type "reversed"/\o.data= .fields (List.toArray [.ref t,.int k 0])
theorem dC.at{H:Heap}(x:dC h I t k)(e:∀o,h.get? I=some o->H.get? I=some o):dC H I t k:=let #[o,a,r]:=x;#[o,e o a,r]
theorem dC.is{s:Shared}(x:dC s.heap I t k):s.TypeIs (.ref I) "reversed":=let #[o,h,H,_]:=x;#[o,h,H]
section
variable {prog:Program}{w:World}{A:Around}{E:Value->Shared->Prop}{s:Shared}
theorem Xo(H:dC s.heap I t k)
  (h:wpAny (model prog w) A.in1 (Builtin.«reversed.__next__» #[[.ref I],[]]) (λf S=>∃v,f= .done (.ret v)/\Q (some v) S) (λe S=>S.TypeIs e "StopIteration"/\Q none S) s):
  wpAny (model prog w) A (pyNext (.ref I)) Q E s:=by
 unfold pyNext
 refine IF (Ni (Lw (name:=Str.ofString "__next__") H.is zJ (Ls zJ H.is KM ?_ (K0 _))))
 refine LS h (λf S q=>?_) λe S q=>?_
 ·obtain⟨v,e,q⟩:=q
  exact#[v,e,II q]
 ·exact IF (MQ (T:="StopIteration") (b:=true) q.1 OJ (II q.2))
theorem ES{I t:Addr}{k:Nat}{items:Array Value}{x:Value}{Q:Option Value->Shared->Prop}(H:dC s.heap I t k)(c:IsTup s.heap t items)(d:items[k]?=some x)(e:(items.size:Int) < 2 ^ 63)
  (f:∀b,dC b I t ((k:Int) - 1)->Heap.SameBut I s.heap b->Q (some x) { s with heap:=b,toks:=s.toks+1 }):wpAny (model prog w) A (pyNext (.ref I)) Q E s:=by
 refine Xo H ?_
 obtain⟨o,a,g,h⟩:=H
 have i:k < items.size:=(Array.getElem?_eq_some_iff.mp d).1
 show wpAny _ _ (field (.ref I) 0 >>= _) _ _ s
 refine IF (Lk a h (x:=.ref t) Z (IF (Lk a h (x:=.int k 0) Z ?_)))
 dsimp only
 rw[IX Pn]
 refine IF (MM c.typeIs PyProof.Rows.slot_tuple_getitem.lookup ?_)
 simp only[Option.isNone_some,I8,Mj]
 refine IF (wpAny_mkInt (IF (Ni ?_)))
 refine getItem_tuple (s:={ s with toks:=s.toks+1 }) c Pn Pn (j:=k) ?_ d ?_
 ·unfold seqIndex?
  simp
  omega
 refine IF (Lk (s:={ s with toks:=s.toks+1 }) a h (x:=.int k 0) Z ?_)
 dsimp only
 refine IF (LJ a h Po (II #[x,Z,f _ ?_ (Mz ..)]))
 exact#[_,Lu _ a (LX (Lq h _)),(Ny ..).trans g,by rw[Lq h];simp [rawInt]]
theorem Z1(f:A.handled=none){Q:Option Value->Shared->Prop}(h:dC s.heap I t (-1))
  (g:∀a,(∀b o,b≠I->s.heap.get? b=some o->a.get? b=some o)->Q none { s with heap:=a }):wpAny (model prog w) A (pyNext (.ref I)) Q E s:=by
 refine Xo h ?_
 obtain⟨o,c,j,H⟩:=h
 show wpAny _ _ (field (.ref I) 0 >>= _) _ _ s
 refine IF (Lk c H (x:=.ref t) Z (IF (Lk c H (x:=.int (-1) 0) Z ?_)))
 dsimp only
 rw[IU Pm]
 refine IF (MX (IF ?_))
 show wpAny _ _ (setField (.ref I) 1 (rawInt (-1)) >>= λ_=>setField (.ref I) 0 .none) _ _ _
 refine IF (LJ c H Po ?_)
 refine LJ (Lu _ c (LX (Lq H _))) (Lq H _) Po ?_
 refine IF ?_
 refine JO (s:={ s with heap:=_ }) (by simpa using f) λa e k T=>#[T,g a λb o d i=>k b o ?_]
 exact(K' _ _ (Lr d)).trans ((K' _ _ (Lr d)).trans i)
theorem AQ(H:dC s.heap I t k){Q:Value->Shared->Prop}(h:Q (.ref I) s):wpAny (model prog w) A (pyIter (.ref I)) Q E s:=by
 refine O0 H.is qE (Ls qE H.is KN ?_ (K1 _))
 show wpAny _ _ (ret (.ref I)) _ _ s
 exact II #[_,Z,"reversed",_,H.is,zJ.lookup,h]
end
theorem JF:entryFor table "dict.update.loop"=some Builtin.«dict.update.loop»:=Ot (by kernel_rfl)
theorem zG:plainId "dict.update.loop"=true:=by decide+kernel
end _L
namespace _L
open PySem PySem.Spec PyProof.Rows Builtin Builtin.Str
section
variable {prog:Program}{w:World}{A:Around}{E:Value->Shared->Prop}{s:Shared}
theorem Jj{lo:Option Int}{Q:Value->Shared->Prop}(H:IsTup s.heap t i)(d:s.heap.IsSliceOf e v j .none)(p:IsPart v lo)(P:IsPart j f)
  (g:HT.sIx i.size 0 lo=0/\HT.sIx i.size i.size f=i.size) (h:Q (.ref t) s):wpAny (model prog w) A (getItem (.ref t) (.ref e)) Q E s:=by
 obtain⟨os,a,b,k⟩:=id d
 have c:s.TypeIs (.ref e) "slice":=#[os,a,b]
 unfold getItem
 try with_reducible refine Lj ?_
 first |refine IF (II ?_) |skip
 refine IF (wpAny_sequenceKey H.typeIs Pm ?_)
 refine IF (Lw (name:=Str.ofString "__getitem__") H.typeIs ML
  (Ls ML H.typeIs PyProof.Rows.entry_tuple_getitem ?_ (PyProof.Rows.args_tuple_getitem _ _)))
 show wpAny _ _ (Builtin.Tuple.tupleItemsOf (.ref t) >>= _) _ _ s
 refine IF (PyProof.Rows.tupleItemsOf_ H ?_)
 refine IF (MV c ?_)
 rw[IU Pm]
 refine IF (HT.sliceApplied_gen d p P ?_)
 show wpAny _ _ (if (((HT.sIx i.size 0 lo:Nat):Int)==0&&(1:Int)==1&&(HT.sIx i.size i.size f - HT.sIx i.size 0 lo)==i.size)=true then _ else _) _ _ s
 rw[g.1,g.2,IU Po]
 unfold Builtin.Tuple.tupleIsExact
 refine IF (IF (MV H.typeIs (II ?_)))
 rw[IU Pm]
 first
  |exact MX (II #[_,Z,II h])
  |exact IF (MX (II #[_,Z,II h]))
  |exact IF (II (II #[_,Z,II h]))
end
section
variable {X:Cx}
inductive uA(x y:V)(H:Hp)(Q:VK):Prop
 |mk(a b c d:_)(_:x= .ref a)(_:y= .ref b)(_:H a=some (.tup c))(_:H b=some (.tup d))(_:c.length+d.length<=sizeLine)(_:∀r H',H' r=some (.tup (c++d))->aa H H'->Q (.ref r) H')
theorem ke:eU X (binaryOp .Add) uA:=by
 intro P s G H x y v u Q I r R h
 obtain⟨a,b,m,Y,rfl,rfl,d,f,J,q⟩:=h
 have t:=aA.of (K:=X.K) d
 have w:=aA.of (K:=X.K) f
 by_cases z:m=[]
 ·subst z
  cases r
  cases R
  obtain⟨l,L,M,_⟩:=I.tuple t
  obtain⟨i,r2,N,_⟩:=I.tuple w
  have O:l=[]:=L.nil_iff.mpr Z
  subst O
  obtain⟨⟨T,U,A,V⟩,B,C,n,E⟩:=id M
  obtain⟨⟨F,D,data2,S⟩,g,j,W,k⟩:=id N
  simp only at C E j k
  subst C E j k
  exact concat_meets #[_,B,Z] #[_,g,Z] O9 seq_tuple_add N8 NY (NP _ _)
   (tuple_addW0 a b ([]:List Value).toArray i.toArray n W U D V S Z) #[B,g,.ref b,H,I,Z,q b H f (aa.refl H)]
 ·refine yl P s G H _ _ v u Q I r R #[a,b,m,Y,Z,Z,t,w,z,J,λe=>?_,λ_ p np=>?_]
  ·subst e
   exact q a H (by rw[Lh];exact d) (aa.refl H)
  ·exact q p _ jc λc o e=>by rw[jh (ji e np)];exact e
inductive De(x:V)(c b:Option Int)(H:Hp)(Q:VK):Prop
 |mk(a d:_)(_:x= .ref a)(_:H a=some (.tup d))(_:∀r H',H' r=some (.tup (cy d c b))->aa H H'->Q (.ref r) H')
theorem jV:Gc X De:=by
 intro P s u H x v V w lo j S Q I R k l m h
 obtain⟨a,b,rfl,d,q⟩:=h
 have n:=aA.of (K:=X.K) d
 by_cases g:HT.sIx b.length 0 lo=0/\HT.sIx b.length b.length j=b.length
 ·cases R
  obtain⟨i,r,t,y⟩:=I.tuple n
  have f:i.toArray.size=b.length:=by rw[IN];exact r.length.symm
  refine#["tuple",_,PyProof.Rows.slot_tuple_getitem.lookup,t.typeIs,?_]
  refine Jj t k l m (by rw[f];exact g) #[.ref a,H,I,Z,q a H ?_ (aa.refl H)]
  rw[d]
  unfold cy
  rw[g.1,g.2,MN,Oa,LA]
 ·exact DB P s u H _ v V w lo j S Q I R k l m #[a,b,Z,n,g,λp N=>q p _ jc λc o e=>by rw[jh (ji e N)];exact e]
end
end _L
namespace _L
open PySem PySem.Spec PyProof.Rows
theorem a6{A:Prop}(h:∀G:Prop,(A->G)->G):A:=h A λz=>z
section
variable {t u:TS}{D:bp}{σ:St}{H:Hp}
theorem fh(h:∀E:bp,(∀a b,u D a b->E.nx a b)->t E σ H):eP t u D σ H:=h { D with nx:=u D } λ_ _ h=>h
theorem aj(h:∀F:St->Hp->Prop,(∀a b,u D a b->F a b)->t { D with nx:=F } σ H):eP t u D σ H:=h _ λ_ _ h=>h
theorem Gi{c:TT}(h:∀F:Bool->Hp->Prop,(∀b a,(if b=true then t D σ a else u D σ a)->F b a)->c σ H F):gD c t u D σ H:=h _ λ_ _ x=>x
theorem iS{c:TT}(h:∀F:Bool->Hp->Prop,(∀a,t D σ a->F true a)->(∀a,u D σ a->F false a)->c σ H F):gD c t u D σ H:=by
 refine h _ (λa x=>?_) λa x=>?_
 ·show if true=true then _ else _
  rw[IU Z];exact x
 ·show if false=true then _ else _
  rw[IX Pm];exact x
theorem gT(R:St->Hp->Prop)(c:∀E:bp,E.rt=D.rt->(∀a b,R a b->E.nx a b)->t E σ H)(d:∀a b,R a b->D.nx a b):FM t D σ H:=#[R,c { D with nx:=R } Z λ_ _ h=>h,d]
theorem wg{c:TT}{T:TS}(W:Nat->St->Hp->Prop)(d:Nat)(e:W d σ H)
  (f:∀m σ H,∀E:bp,E.rt=D.rt->(∀M a b,M < m->W M a b->E.nx a b)->∀F:Bool->Hp->Prop,(∀b,T E σ b->F true b)->(∀b,D.nx σ b->F false b)->∀G:Prop,(c σ H F->G)->W m σ H->G):vU c T D σ H:=by
 refine#[W,#[d,e],λm σ H w=>?_]
 refine f m σ H { D with nx:=λa b=>∃M,M < m/\W M a b,ct:=λa b=>∃M,M < m/\W M a b,bk:=D.nx } Z (λM a b l g=>#[M,l,g]) _ (λb x=>?_) (λb x=>?_) _ (λz=>z) w
 ·show if true=true then _ else _
  rw[IU Z]
  exact#[_,λ_ _ h=>h,x]
 ·show if false=true then _ else _
  rw[IX Pm];exact x
def oN(J:It)(g:TG)(T:TS)(D:bp)(σ:St)(H:Hp):Prop:=∃W:Nat->Nat->St->Hp->Prop,(∃m,W 0 m σ H)/\∀i m σ H,W i m σ H->
 (J.stop i H/\D.nx σ H)∨(J.go i H/\∃N:St->Hp->Prop,(∀a h,N a h->∃M,M < m/\W (i+1) M a h)/\∀x h,J.yld i H x h->g x σ h λb c=>T { D with nx:=N,ct:=N,bk:=D.nx } b c)
theorem dq{w:TI}(h:∀F:It->Hp->Prop,(∀J a,oN J g T D σ a->F J a)->w σ H F):FK w g T D σ H:=h _ λ_ _ z=>z
theorem kQ{lo:Int}{n:Nat}{g:TG}{T:TS}{D:bp}{σ:St}{H:Hp}(Pv:Nat->St->Hp->Prop)(d:Pv 0 σ H)
  (e:∀E:bp,E.rt=D.rt->∀i σ H,i < n->(∀a c,Pv (i+1) a c->E.nx a c)->∀G:Prop,((g (.int (lo+i)) σ H λb f=>T E b f)->G)->Pv i σ H->G) (j:∀σ H,Pv n σ H->D.nx σ H):oN (pZ lo n) g T D σ H:=
 ZL Pv d (λi σ H k p=>e { D with nx:=Pv (i+1),ct:=Pv (i+1),bk:=D.nx } Z i σ H k (λ_ _ h=>h) _ (λz=>z) p) j
theorem qv{K:Frag}{a:Addr}{xs:List V}{g:TG}{T:TS}{D:bp}{σ:St}{H:Hp}(Pv:Nat->St->Hp->Prop)(e:Pv 0 σ H)(f:∀i σ H,i<=xs.length->Pv i σ H->aJ K H a xs)
  (j:∀E:bp,E.rt=D.rt->∀i x σ H,xs[i]?=some x->(∀b d,Pv (i+1) b d->E.nx b d)->∀G:Prop,((g x σ H λc k=>T E c k)->G)->Pv i σ H->G) (l:∀σ H,Pv xs.length σ H->D.nx σ H):oN (wz K a) g T D σ H:=
 sd Pv e f (λi x σ H m p=>j { D with nx:=Pv (i+1),ct:=Pv (i+1),bk:=D.nx } Z i x σ H m (λ_ _ h=>h) _ (λz=>z) p) l
theorem q8{K:Frag}{a:Addr}{xs:List V}{g:TG}{T:TS}{D:bp}{σ:St}{H:Hp}(Pv:Nat->St->Hp->Prop)(e:Pv 0 σ H)(f:∀i σ H,i<=xs.length->Pv i σ H->aA K H a xs)
  (j:∀E:bp,E.rt=D.rt->∀i x σ H,xs[i]?=some x->(∀b d,Pv (i+1) b d->E.nx b d)->∀G:Prop,((g x σ H λc k=>T E c k)->G)->Pv i σ H->G) (l:∀σ H,Pv xs.length σ H->D.nx σ H):oN (Ap K a) g T D σ H:=
 xj Pv e f (λi x σ H m p=>j { D with nx:=Pv (i+1),ct:=Pv (i+1),bk:=D.nx } Z i x σ H m (λ_ _ h=>h) _ (λz=>z) p) l
end
end _L
namespace _L
open PySem PySem.Spec PyProof.Rows PySem.SeqAt
section
variable {prog:Program}{w:World}{A:Around}{E:Value->Shared->Prop}{s:Shared}
theorem YI{P:Fin->Shared->Prop}(H:s.heap.get? a=some (seqObj "list" [v].toArray n))
  (h:P (.done (.ret .none)) { s with heap:=sortedHeap s.heap a [v] (List.toArray [v]) }):wpAny (model prog w) A (Builtin.«list.sort» #[[.ref a],[]]) P E s:=by
 rw[list_sort_plain]
 refine IF (listItems_at H Z ?_)
 refine IF (NT H Z ?_)
 obtain⟨e,b⟩:∃e,(s.heap.update a (Obj.mapSeq λ_=>(List.toArray []))).get? a=some (seqObj "list" (List.toArray []) e):=#[_,get?_update_seq H (λ_=>(List.toArray []))]
 refine IF (OF b Z ?_)
 refine IF (Nw ?_)
 refine IF (Nh ?_)
 refine Lj ?_
 have g:(((s.heap.update a (Obj.mapSeq λ_=>(List.toArray []))).push (seqObj "tuple" [v].toArray 0)).push (seqObj "list" (List.toArray []) 0)).get? a=some (seqObj "list" (List.toArray []) e):=IH _ (IH _ b)
 show wpAny (model prog w) A _ P E { s with heap:=((s.heap.update a (Obj.mapSeq λ_=>(List.toArray []))).push (seqObj "tuple" [v].toArray 0)).push (seqObj "list" (List.toArray []) 0) }
 dsimp only
 have S:[v].toArray.size < 2:=by show 1 < 2;decide
 rw[IU S,IU S]
 refine IF (II ?_)
 rw[StateT.run_pure]
 refine IF (II ?_)
 dsimp only
 refine IF (OF g Z ?_)
 have c:(arrOf (SortSt.mk' general' ([v].toArray.zip [v].toArray) (List.toArray []) 7 none)).map (·.2)=(List.toArray [v]):=by
  show([v].toArray.zip [v].toArray).map (·.2)=(List.toArray [v])
  simp
 rw[c]
 refine IF (NT g Z ?_ (hsz2:=by show 1<=sizeLine+1;omega))
 simp only[Mc,I8,Mj]
 exact II h
theorem yX{Q:Value->Shared->Prop}(H:s.heap.IsList l [v].toArray)
  (h:Q (.ref (s.heap.objs.size+1)) { s with heap:=sortedAll s.heap [v] (List.toArray [v]) }):wpAny (model prog w) A (call (.builtin "sorted") [.ref l]) Q E s:=by
 refine Nc kind_sorted plain_sorted entry_sorted (args_sorted1 _) ?_
 unfold Builtin.«sorted»
 refine IF (m:=checkCount "sorted" 1 1 _) (II ?_)
 refine IF (collect_list H ?_)
 refine IF (Nh ?_)
 have z:((s.heap.push (seqObj "list" (List.toArray []) 0)).update s.heap.objs.size (Obj.mapSeq (·++[v].toArray))).objs.size=s.heap.objs.size+1:=by rw[Pe,size_push']
 have g:(((s.heap.push (seqObj "list" (List.toArray []) 0)).update s.heap.objs.size (Obj.mapSeq (·++[v].toArray))).push (seqObj "list" [v].toArray 0)).get? (s.heap.objs.size+1)=some (seqObj "list" [v].toArray 0):=by
  rw[<- z];exact IM _ Z
 show wpAny _ _ _ _ _ { s with heap:=((s.heap.push (seqObj "list" (List.toArray []) 0)).update s.heap.objs.size (Obj.mapSeq (·++[v].toArray))).push (seqObj "list" [v].toArray 0) }
 rw[z]
 refine IF (Lj (Ls O3 #[_,g,Z] OR (YI g #[_,Z,?_]) (O5 _)))
 exact II #[_,Z,h]
end
inductive Tr where
 |lf (v:V) |tp (l:Tr) |nil |cons (h t:Tr)
noncomputable def Tr.dep:Tr->Nat
 | .lf _=>0
 | .tp l=>l.dep+1
 | .nil=>0
 | .cons h t=>max h.dep t.dep
noncomputable def Tr.isL:Tr->Bool
 | .nil=>true
 | .cons _ _=>true
 |_=>false
noncomputable def Ir:V->Bool
 | .byt _=>false
 | .flt _=>false
 |_=>true
end _L
namespace _L
open PySem PySem.Spec PyProof.Rows
noncomputable def Gr(K:Frag)(a:Addr)(n:Nat):It:=
 #[λi H=>∃X x,aA K H a X/\X.length=n/\X.reverse[i]?=some x,λi H x h=>h=H/\∀X,aA K H a X->X.reverse[i]?=some x,λi H=>∃X,aA K H a X/\X.length=n/\i=n]
theorem vW{P:Program}{K:Frag}(a f:Addr)(n:Nat):nC P w K tg (Gr K a n) [f] f (λi h=>dC h f a ((n:Int) - 1 - i)) where
 mem:=by simp
 obj:=λi h st b j=>by
  have e:b=f:=by simpa using j
  subst e
  obtain⟨o,e,c,d⟩:=st
  exact#[o,e,λv z=>by rw[d]at z;cases z]
 keep:=λi h q st k=>st.at λo e=>k f Po o e
 item:=by
  intro X y A B O i g s Q H E I t st C
  subst y A B
  obtain⟨l,x,D,T,m⟩:=C
  obtain⟨r,R,p,hz⟩:=I.tuple D
  have hl:=R.length
  have U:=eK
  have V:i < l.length:=by
   rcases Ob i l.length with z |z
   ·exact z
   ·rw[LV (by simpa using z)]at m;cases m
  have F:l[l.length - 1 - i]?=some x:=by rw[Nq V]at m;exact m
  obtain⟨u,W,Y⟩:=R.get F
  obtain⟨G,J,f2,L,M,N⟩:=t f Po
  have e:((n:Int) - 1 - i)=((l.length - 1 - i:Nat):Int):=by omega
  rw[e]at st
  refine ES (items:=r.toArray) st (show IsTup s.heap a r.toArray from p) (x:=u) (by simpa using W) (by simp only[IN];omega) λq S sb=>?_
  have I1:aq X g Q H { s with heap:=q,toks:=s.toks+1 }:=I.turned (t':=s.toks+1) (λb o j e=>(sb.2 b j).trans e) G J L M N
  obtain⟨o,e',c,d⟩:=id S
  refine#[u,Z,YY (s:={ s with heap:=q,toks:=s.toks+1 }) e' c d Pm #[x,H,I1,Y,#[Z,λys hy=>by rw[I.tuple_inj hy D];exact m],?_,λb j=>(t b j).1]]
  have e2:((n:Int) - 1 - ((i+1:Nat):Int))=((l.length - 1 - i:Nat):Int) - 1:=by omega
  show dC q f a ((n:Int) - 1 - ((i+1:Nat):Int))
  rw[e2];exact S
 done:=by
  intro X y A B O i g s Q H E I t st C
  subst y A B
  obtain⟨l,D,T,m⟩:=C
  obtain⟨G,J,f2,L,M,N⟩:=t f Po
  have e:((n:Int) - 1 - (i:Int))= -1:=by omega
  rw[e]at st
  exact Z1 (I.ok.hd O) st λq eb=>#[Z,I.turned (t':=s.toks) (λb o j e=>eb b o j e) G J L M N]
 self:=λ_ _ _ _ _ st h=>AQ st h
section
variable {X:Cx}{tg:Expr}
inductive AN(K:Frag)(R:It->Hp->Prop)(x:V)(b:Hp):Prop
 |mk(a c:_)(_:x= .ref a)(_:aA K b a c)(_:R (Gr K a c.length) b)
def G0(K:Frag)(t:TE):TI:=λa H R=>t a H (AN K R)
theorem uo{e:Expr}{t:TE}{c:Str}{p P:Pos}(j:Gl X c)(k:X.mg c=none)(l:bootBuiltins c=some (.type "reversed"))(y:PE X e t)(m:c≠"__name__":=by decide)(n:(c==("__debug__":Str))=false:=by decide)
  (r:starEach [e] X.env=(false,eval e X.env)::starEach [] X.env:=by rfl) (A:(backTo P (starEach [] X.env)).any (·.1)=false:=by rfl):PI X tg (.Call (.Name c p) [e] [] P) (G0 X.K t):=by
 intro d s B H R I h
 refine LM (zp I j k l ?_ m n)
 refine Lx ?_ r A
 rw[r]
 show wpAny _ _ (spliced ((false,eval e X.env)::backTo P (starEach [] X.env))) _ _ s
 refine MK (aU (y d s B H _ I h) λu S z=>?_)
 obtain⟨x,C,g,D,a,v,E,F,q⟩:=z
 subst E
 cases (show u=Value.ref a from D)
 obtain⟨i,G,J,N⟩:=g.tuple F
 have f:=G.length
 have L:=eK
 refine M3 (rA (show IsTup S.heap a i.toArray from J) (by simp only[IN];omega) ?_)
 have w:dC (S.heap.push (revObj a i.toArray.size)) S.heap.objs.size a ((v.length:Int) - 1 - ((0:Nat):Int)):=#[_,IM _ Z,Z,by rw[IN,<- f];simp [revObj]]
 refine AQ (s:={ S with heap:=S.heap.push (revObj a i.toArray.size),toks:=S.toks+1+1 }) w ?_
 refine#[S.heap.objs.size,[S.heap.objs.size],_,_,C,Z,g.kept (t':=S.toks+1+1) λb o e=>IH _ e,vW a _ v.length,w,λb M=>?_,q]
 have e:b=S.heap.objs.size:=by simpa using M
 subst e
 exact g.fpOk (IK _) (g.hok.fresh (IK _))
end
theorem Xp{K:Frag}{xs:List V}{g:TG}{t:TS}{D:bp}(Pv:Nat->St->Hp->Prop)(k:Pv 0 b H)(l:∀i b H,i<=xs.length->Pv i b H->aA K H a xs)
  (n:∀E:bp,E.rt=D.rt->∀i x b H,xs.reverse[i]?=some x->(∀c f,Pv (i+1) c f->E.nx c f)->∀G:Prop,((g x b H λj o=>t E j o)->G)->Pv i b H->G) (r:∀b H,Pv xs.length b H->D.nx b H):oN (Gr K a xs.length) g t D b H:=by
 refine#[λi m b H=>m=xs.length - i/\i<=xs.length/\Pv i b H,#[xs.length,Po,IS _,k],?_]
 rintro i m b H ⟨rfl,s,p⟩
 have q:=l i b H s p
 by_cases d:i < xs.length
 ·refine .inr #[#[xs,_,q,Z,IG (by simpa using d)],Pv (i+1),λc f P=>#[xs.length - (i+1),Pn,Z,d,P],λx f y=>?_]
  obtain⟨e,y⟩:=y
  subst e
  exact n { D with nx:=Pv (i+1),ct:=Pv (i+1),bk:=D.nx } Z i x b _ (y xs q) (λ_ _ h=>h) _ (λz=>z) p
 ·have e:i=xs.length:=by omega
  subst e
  exact .inl #[#[xs,q,Z,Z],r b H p]
theorem vy:Slot "list_reverseiterator" "__length_hint__" "list_reverseiterator.__length_hint__":=by
 refine Slot.of (owner:="list_reverseiterator") (n:="__length_hint__") (by rw[Mn,LI];kernel_rfl) Pp Pp Pp ?_ (by rw[Mw];kernel_rfl)
 first |exact .inl Pp |exact .inr Pp
theorem Z2:typeLookup (.type "list_reverseiterator") "__len__"=pure none:=by rw[Mn,LI];kernel_rfl
theorem DG:isSubtype (.type "list_reverseiterator") (.type "list_reverseiterator")=pure true:=by rw[Mw];kernel_rfl
section
variable {prog:Program}{w:World}{A:Around}{E:Value->Shared->Prop}{s:Shared}
theorem BK(H:s.heap.IsRevIter I t k){Q:Bool->Shared->Prop}(h:Q false s):wpAny (model prog w) A (Builtin.List.listLengthHint (.ref I)) Q E s:=by
 unfold Builtin.List.listLengthHint
 refine IF (MM H.typeIs Z2 ?_)
 show wpAny _ A (specialOf (Value.ref I) (Str.ofString "__length_hint__") >>= _) _ _ _
 refine IF (MM H.typeIs vy.lookup ?_)
 have e:splitId "list_reverseiterator.__length_hint__"=some ("list_reverseiterator","__length_hint__"):=by decide+kernel
 dsimp only
 rw[e]
 dsimp only
 refine IF (MQ (b:=true) H.typeIs DG ?_)
 simp only[Nv,I8,Mj]
 rw[IU Pp,IX Pp]
 exact II h
theorem oV{a:Array Value}{Q:List Value->Shared->Prop}(z:A.handled=none)(f:s.heap.IsRevIter I t ((a.size:Int) - 1))(r:s.heap.IsList t a)(B:t≠I)(C:a.size<=sizeLine)
  (D:∀S,(∀b o,b≠I->s.heap.get? b=some o->S.heap.get? b=some o)->s.heap.objs.size<=S.heap.objs.size->S.gens=s.gens->S.os=s.os->Q a.toList.reverse S):wpAny (model prog w) A (collect (.ref I)) Q E s:=by
 have j:I < s.heap.objs.size:=by obtain⟨o,k,_⟩:=f;exact IP k
 have n:t < s.heap.objs.size:=by obtain⟨o,k,_⟩:=r;exact IP k
 have u:I≠s.heap.objs.size:=IY j
 have F:t≠s.heap.objs.size:=IY n
 unfold collect
 refine IF (wpAny_runValue (Mo OZ (by
  rw[LR OY _]
  show wpAny _ A.in1 (newList [] >>= λl=>again (.builtin "list.__iadd__" #[[l,.ref I],[]])) _ _ s
  refine IF (Lv (II #[MO Na _,Mo Pj ?_]))
  rw[LR Na _]
  generalize v:s.heap.push { cls:=.type "list",data:=.seq ([]:List Value).toArray }=H
  have J:H.get? s.heap.objs.size=some { cls:=.type "list",data:=.seq (List.toArray []) }:=by rw[<- v];exact IM _ Z
  have G:∀b o,s.heap.get? b=some o->H.get? b=some o:=λb o e=>by rw[<- v];exact IH _ e
  have h:H.IsRevIter I t ((a.size:Int) - 1):=f.at λo e=>G I o e
  have p:H.IsList t a:=r.at λo e=>G t o e
  show wpAny _ A.in1 (Builtin.List.listExtendWith (.ref s.heap.objs.size) (.ref I) (.ref s.heap.objs.size)) _ _ { s with heap:=H }
  unfold Builtin.List.listExtendWith
  refine IF (MV (s:={ s with heap:=H }) h.typeIs ?_)
  have K:Builtin.List.listSameRef (.ref s.heap.objs.size) (.ref I)=false:=by
   simp only[Builtin.List.listSameRef,beq_eq_false_iff_ne]
   exact Lr u
  have L:(Value.type "list_reverseiterator"==Value.type "list")=false:=by decide
  have M:(Value.type "list_reverseiterator"==Value.type "tuple")=false:=by decide
  simp only[K,L,M,Pf,I8,Mj]
  refine IF (wpAny_pyIter_revIter (s:={ s with heap:=H }) h (IF (Lj (BK (s:={ s with heap:=H }) h ?_))))
  have N:¬s.heap.objs.size∈[I,t]:=by simp only[My,Ll,Nx,not_or];exact#[Lr u,Lr F]
  rw[IX Pp]
  refine II #[MO O6 _,?_]
  have W:=(Walks.listRev (prog:=prog) (w:=w) (A:=A.in1) (by simpa using z) I t B a).toS
  refine codeAny_extend_loopS W C _ N _ a.size 0 _ (List.toArray []) _ Z (IS _) #[IS _,by simpa using h,p] J (ItemsOf.nil _) λS d U m x c=>?_
  have O:d=a.toList.reverse.toArray:=by
   apply Array.ext'
   refine List.ext_getElem? λi=>?_
   by_cases y:i < a.size
   ·have g:i < d.size:=by rw[c.1];exact y
    have q:=c.2 i d[i] (by simp [g])
    rw[Mr,MD g,<- q]
    show a[a.size - 1 - i]?=a.toList.reverse[i]?
    rw[Nq (by simpa using y)]
    simp
   ·rw[LV (by rw[Ld,c.1];omega),LV (by simp;omega)]
  subst O
  show wpAny _ A (load s.heap.objs.size >>= _) _ _ S
  refine IF (wpAny_load x (II ?_))
  have P:a.toList.reverse.toArray.toList=a.toList.reverse:=by simp
  rw[P]
  refine D S (λb o R e=>?_) ?_ m.gens m.os
  ·have T:b≠s.heap.objs.size:=IY (IP e)
   exact m.heap b o (by simp only[My,Ll,Nx,not_or];exact#[T,R]) (G b o e)
  ·exact MG (IP x))))
end
section
variable {prog:Program}{w:World}{A:Around}{E:Value->Shared->Prop}{s:Shared}
theorem Q6{i:Array Value}{Q:Value->Shared->Prop}(f:A.handled=none)(H:s.heap.IsRevIter I t ((i.size:Int) - 1))(g:s.heap.IsList t i)(j:t≠I)(d:i.size<=sizeLine)
  (h:∀S:Shared,(∀b o,b≠I->s.heap.get? b=some o->S.heap.get? b=some o)->s.heap.objs.size<=S.heap.objs.size->S.gens=s.gens->S.os=s.os->
   Q (.ref S.heap.objs.size) { S with heap:=S.heap.push { cls:=.type "tuple",data:=.seq i.toList.reverse.toArray } }):
  codeAny (model prog w) A (.call (.builtin "tuple.__new__") #[[.type "tuple",.ref I],[]]) (wants Q E) s:=by
 refine codeAny_of_tree (show wpAny _ A.in1 (do checkBuiltinCall "tuple.__new__" #[[.type "tuple",.ref I],[]];again (.builtin "tuple.__new__" #[[.type "tuple",.ref I],[]])) _ _ s from ?_)
 refine IF (OG (PySem.F.newCall_tuple_1 _) (II #[MO Pg _,Mo PySem.F.entry_tuple_new (by
  rw[LR Pg _]
  have e:=sub_tuple_self
  have a:=init_tuple_lookup
  have l:=madeHere_tuple
  have c:=H.typeIs
  wp_walk using MV c,oV (by simpa using f) H g j d
  intro S k z m n
  show wpAny _ _ (Builtin.Tuple.tupleExact i.toList.reverse.toArray >>= λv=>ret v) _ _ _
  unfold Builtin.Tuple.tupleExact
  exact IF (Lv (II (h S k z m n)) (by show i.toList.reverse.toArray.size<=sizeLine;simpa using d)))]))
theorem Q7{items:Array Value}{Q:Value->Shared->Prop}(d:A.handled=none)(c:s.heap.IsRevIter I t ((items.size:Int) - 1))(e:s.heap.IsList t items)(f:t≠I)(g:items.size<=sizeLine)
  (h:∀a:Shared,(∀b o,b≠I->s.heap.get? b=some o->a.heap.get? b=some o)->s.heap.objs.size<=a.heap.objs.size->a.gens=s.gens->a.os=s.os->
   Q (.ref a.heap.objs.size) { a with heap:=a.heap.push { cls:=.type "tuple",data:=.seq items.toList.reverse.toArray } }):wpAny (model prog w) A (call (.type "tuple") [.ref I]) Q E s:=by
 refine callType_codes (Q₁:=λO S=>S.TypeIs O "tuple"/\Q O S) PySem.F.called_tuple (PySem.F.typeCall_tuple_1 _) PySem.F.entry_object_init (Q6 (by simpa using d) c e f g λa k z i j=>#[#[_,IM _ Z,Z],h a k z i j]) λO S H=>?_
 exact#[H.1,ND O _,object_init_meets PySem.F.called_tuple.init.lookup PySem.F.called_tuple.made Pm prog w A.in1 _ S #[H.1,Z,H.2]]
end
section
variable {X:Cx}{e:Expr}{te:TE}{xl xr:Str}{p p2 pos pos2:Pos}
inductive mX(K:Frag)(Q:VK)(x:V)(b:Hp):Prop
 |mk(a c:_)(_:x= .ref a)(_:aJ K b a c)(_:∀l,b l=none->Q (.ref l) (ah b l (.tup c.reverse)))
def Ac(K:Frag)(te:TE):TE:=λa H Q=>te a H (mX K Q)
theorem Z3(M:X.calm=true)(g:Gl X xl)(j:X.mg xl=none)(l:bootBuiltins xl=some (.type "tuple"))(m:Gl X xr)(n:X.mg xr=none)(r:bootBuiltins xr=some (.type "reversed"))(O:PE X e te)
  (t:xl≠"__name__":=by decide) (v:(xl==("__debug__":Str))=false:=by decide) (y:xr≠"__name__":=by decide) (A:(xr==("__debug__":Str))=false:=by decide)
  (E:starEach [.Call (.Name xr p2) [e] [] pos2] X.env=(false,eval (.Call (.Name xr p2) [e] [] pos2) X.env)::starEach [] X.env:=by rfl) (T:(backTo pos (starEach [] X.env)).any (·.1)=false:=by rfl)
  (F:starEach [e] X.env=(false,eval e X.env)::starEach [] X.env:=by rfl) (U:(backTo pos2 (starEach [] X.env)).any (·.1)=false:=by rfl):
  PE X (.Call (.Name xl p) [.Call (.Name xr p2) [e] [] pos2] [] pos) (Ac X.K te):=by
 intro P s V H Q I h
 refine LM (zp I g j l ?_ t v)
 refine Lx ?_ E T
 rw[E]
 show wpAny _ _ (spliced ((false,eval (.Call (.Name xr p2) [e] [] pos2) X.env)::backTo pos (starEach [] X.env))) _ _ s
 refine MK ?_
 refine LM (zp I m n r ?_ y A)
 refine Lx ?_ F U
 rw[F]
 show wpAny _ _ (spliced ((false,eval e X.env)::backTo pos2 (starEach [] X.env))) _ _ s
 refine MK (aU (O P s V H _ I h) λu d B=>?_)
 obtain⟨x,W,f,Y,a,G,ex,hq,q⟩:=B
 subst ex
 cases (show u=Value.ref a from Y)
 obtain⟨i,R,C,hz⟩:=f.list hq
 have J:=R.length
 refine M3 (call_reversed_list C.isList (M3 ?_))
 have D:a < d.heap.objs.size:=by obtain⟨o,ho,_⟩:=C.isList;exact IP ho
 refine Q7 (s:={ d with heap:=d.heap.push (PySem.revObj a ((i.toArray.size:Int) - 1)) }) (items:=i.toArray) (I.ok.hd M) #[_,IM _ Z,Z,Z] (C.isList.at λo e=>IH _ e) (IY D)
  (by simp only[IN];omega) λS k hl kg ko=>?_
 have c:d.heap.objs.size<=S.heap.objs.size:=IZ (by show _<=(d.heap.push _).objs.size;rw[LL];exact LH _) hl
 have L:∀b o,d.heap.get? b=some o->(S.heap.push { cls:=.type "tuple",data:=.seq i.toArray.toList.reverse.toArray }).get? b=some o:=λb o e=>IH _ (k b o (IY (IP e)) (IH _ e))
 have hg:(S.heap.push { cls:=.type "tuple",data:=.seq i.toArray.toList.reverse.toArray }).get? S.heap.objs.size=some { cls:=.type "tuple",data:=.seq i.toArray.toList.reverse.toArray }:=IM _ Z
 have N:aL X.prog X.w (ah W S.heap.objs.size (.tup G.reverse)) (S.heap.push { cls:=.type "tuple",data:=.seq i.toArray.toList.reverse.toArray }) S.heap.objs.size (.tup G.reverse):=by
  refine#[by rw[List.length_reverse];exact hz,i.reverse,aB.reverse R,?_]
  have ee:i.toArray.toList.reverse.toArray=i.reverse.toArray:=by simp
  rw[<- ee]
  exact#[_,hg,Z,_,Z]
 exact#[.ref S.heap.objs.size,_,f.call' (ch:=[]) ko (Un.laid L c (f.hok.fresh c)) (f.hok.laid L c N) (by show AllBare S.gens;rw[kg];exact f.bare) (λ_ z=>nomatch z),Z,q _ (f.hok.fresh c)]
end
section
variable {prog:Program}{w:World}{A:Around}{E:Value->Shared->Prop}{s:Shared}
theorem KC{x:Value}{Q:Value->Shared->Prop}(a:s.heap.IsTupleIter J T i)(e:s.heap.IsTuple T I)(f:I[i]?=some x)
  (q:∀b,b.IsTupleIter J T (i+1)->Heap.SameBut J s.heap b->Q x { s with heap:=b }):wpAny (model prog w) A (Builtin.SmallTypes.nextOf (.ref J)) Q E s:=by
 obtain⟨o,H,g,h⟩:=id a
 obtain⟨O,c,_,n,d⟩:=e
 unfold Builtin.SmallTypes.nextOf
 refine IF (Lw (name:=Str.ofString "__next__") a.typeIs LW (Ls LW a.typeIs Ng (show wpAny _ _ (field (.ref J) 0 >>= _) _ _ s from ?_) (M9 _)))
 refine IF (Lk H h (x:=.ref T) Z (show wpAny _ _ (if (Value.ref T==Value.none)=true then _ else _) _ _ s from ?_))
 rw[IX (show ¬((Value.ref T==Value.none)=true) from IW)]
 refine(show wpAny _ _ (field (.ref J) 1 >>= _) _ _ s from IF (Lk H h (x:=.int i 0) Z (show wpAny _ _ (seqItems? (.ref T) >>= _) _ _ s from IF (Ma c d ?_))))
 simp only[Md,f]
 refine IF (LJ H h Po (II #[x,Z,II (q _ #[_,Lu _ H (LX (Lq h _)),(Ny ..).trans g,by rw[Lq h];simp [rawInt]] (Mz ..))]))
theorem Z4(g:A.handled=none)(H:s.heap.IsTupleIter J T i)(j:s.heap.IsTuple T I)(l:I[i]?=none)
  (q:∀h e,Heap.ExtBut J s.heap h->Shared.TypeIs { s with heap:=h } e "StopIteration"->E e { s with heap:=h }):wpAny (model prog w) A (Builtin.SmallTypes.nextOf (.ref J)) Q E s:=by
 obtain⟨o,a,p,c⟩:=id H
 obtain⟨O,d,_,N,f⟩:=j
 unfold Builtin.SmallTypes.nextOf
 refine IF (Lw (name:=Str.ofString "__next__") H.typeIs LW (Ls LW H.typeIs Ng (show wpAny _ _ (field (.ref J) 0 >>= _) _ _ s from ?_) (M9 _)))
 refine IF (Lk a c (x:=.ref T) Z (show wpAny _ _ (if (Value.ref T==Value.none)=true then _ else _) _ _ s from ?_))
 rw[IX (show ¬((Value.ref T==Value.none)=true) from IW)]
 refine(show wpAny _ _ (field (.ref J) 1 >>= _) _ _ s from IF (Lk a c (x:=.int i 0) Z (show wpAny _ _ (seqItems? (.ref T) >>= _) _ _ s from IF (Ma d f ?_))))
 simp only[Md,l]
 refine IF (MX (IF (LJ a c Po ?_)))
 refine JO (by simpa using g) λh e k t=>q h e (λb o m n=>k b o ?_) t
 exact(K' _ _ (Lr m)).trans n
end
def gM(b:Bool)(h:Heap)(i l:Addr)(k:Nat):Prop:=match b with
 |true=>h.IsListIter i l k
 |false=>h.IsTupleIter i l k
def iJ(b:Bool)(h:Heap)(l:Addr)(x:Array Value):Prop:=match b with
 |true=>h.IsList l x
 |false=>h.IsTuple l x
noncomputable def fX:Bool->String
 |true=>"list_iterator"
 |false=>"tuple_iterator"
theorem gM.kp{b:Bool}{H:Heap}(x:gM b h i l k)(e:∀o,h.get? i=some o->H.get? i=some o):gM b H i l k:=by
 cases b
 ·exact Heap.IsTupleIter.at x e
 ·obtain⟨o,a,r⟩:=x;exact#[o,e o a,r]
theorem iJ.kp{b:Bool}{H:Heap}(x:iJ b h l a)(e:∀o,h.get? l=some o->H.get? l=some o):iJ b H l a:=by
 cases b
 ·obtain⟨o,c,r⟩:=x;exact#[o,e o c,r]
 ·exact Heap.IsList.at x e
theorem gM.ob(x:gM b h i l k):∃o,h.get? i=some o/\o.cls= .type (fX b)/\∀v,o.data≠ .cell v:=by
 cases b
 ·obtain⟨o,H,c,d⟩:=x;exact#[o,H,c,λv z=>by rw[d]at z;cases z]
 ·obtain⟨o,H,c,d⟩:=x;exact#[o,H,c,λv z=>by rw[d]at z;cases z]
section
variable {prog:Program}{w:World}{A:Around}{E:Value->Shared->Prop}{s:Shared}
theorem zY{Q:Value->Shared->Prop}(H:gM b s.heap J T i)(a:iJ b s.heap T I)(c:I[i]?=some x)
  (q:∀h,gM b h J T (i+1)->Heap.SameBut J s.heap h->Q x { s with heap:=h }):wpAny (model prog w) A (Builtin.SmallTypes.nextOf (.ref J)) Q E s:=by
 cases b
 ·exact KC H a c q
 ·exact wpAny_nextOf_list_item H a c q
theorem Qr(H:A.handled=none)(a:gM b s.heap J T i)(c:iJ b s.heap T I)(d:I[i]?=none)
  (q:∀h e,Heap.ExtBut J s.heap h->Shared.TypeIs { s with heap:=h } e "StopIteration"->E e { s with heap:=h }):wpAny (model prog w) A (Builtin.SmallTypes.nextOf (.ref J)) Q E s:=by
 cases b
 ·exact Z4 H a c d q
 ·exact wpAny_nextOf_list_end H a c d λh e k #[o,f,g]=>q h (.ref e) k #[o,f,g]
theorem AR{Q:Value->Shared->Prop}(h:iJ b s.heap T i)
  (q:Q (.ref s.heap.objs.size) { s with heap:=s.heap.push { cls:=.type (fX b),data:=.fields (List.toArray [.ref T,.int 0 0]) } }):wpAny (model prog w) A (pyIter (.ref T)) Q E s:=by
 cases b
 ·exact No h q
 ·exact Of h q
structure wO(z u v c d a b:Addr):Prop where
 uz:u≠z
 vz:v≠z
 cz:c≠z
 dz:d≠z
 uv:u≠v
 uc:u≠c
 ud:u≠d
 vc:v≠c
 vd:v≠d
 cd:c≠d
 az:a≠z
 av:a≠v
 ac:a≠c
 ad:a≠d
 bz:b≠z
 bv:b≠v
 bc:b≠c
 bd:b≠d
theorem Aj{Q:Option Value->Shared->Prop}(D:wO z u v c d a b)
  (H:IsZip s.heap z u v .none) (hu:IsPair s.heap u (.ref c) (.ref d)) (hv:IsPair s.heap v p q) (h1:gM B s.heap c a k) (h2:gM C s.heap d b k) (g1:iJ B s.heap a xs) (g2:iJ C s.heap b ys) (hx:xs[k]?=some x) (hy:ys[k]?=some y)
  (hQ:∀h,IsZip h z u v (rawInt s.heap.objs.size)->IsPair h v x y->gM B h c a (k+1)->gM C h d b (k+1)->IsPair h s.heap.objs.size x y->h.objs.size=s.heap.objs.size+1->
   (∀e o,e≠z->e≠v->e≠c->e≠d->s.heap.get? e=some o->h.get? e=some o)->Q (some (.ref s.heap.objs.size)) { s with heap:=h }):wpAny (model prog w) A (pyNext (.ref z)) Q E s:=by
 have W:s.TypeIs (.ref z) "zip":=#[_,H,Z]
 unfold pyNext
 refine IF (Ni (Lw (name:=Str.ofString "__next__") W Me (Ls Me W Nj (show wpAny _ _ (field (.ref z) 2 >>= _) _ _ _ from ?_) (Nb _))))
 refine IF (Lk H Z (x:=.bool false) Z (show wpAny _ _ (field (.ref z) 3 >>= _) _ _ _ from IF (Lk H Z (x:=.ref u) Z (IF (Ma hu Z ?_)))))
 refine(show wpAny _ _ (Builtin.SmallTypes.ownedTupleIsFree (.ref z) >>= _) _ _ _ from IF ?_)
 unfold Builtin.SmallTypes.ownedTupleIsFree
 refine IF (Lk H Z (x:=.none) Z (II ?_))
 simp only[NK]
 refine IF (MX (IF (Lk H Z (x:=.ref v) Z (IF (MW H Po λX F S=>?_)))))
 replace F:IsZip X z u v .ellipsis:=F
 refine IF ?_
 simp only[List.zipIdx_cons,List.zipIdx_nil,MR,NH]
 refine IF (IF (wpAny_onRaise (show wpAny _ _ (Builtin.SmallTypes.nextOf (.ref c) >>= _) _ _ _ from ?_)))
 refine IF (zY (s:={ s with heap:=X }) (h1.kp λo e=>S.extBut _ _ D.cz e) (g1.kp λo e=>S.extBut _ _ D.az e) hx λG i2 l=>II ?_)
 have Y:IsPair G v p q:=l.extBut _ _ D.vc (S.extBut _ _ D.vz hv)
 refine IF (Ma (s:={ s with heap:=G }) Y Z (IF (wpAny_updateSeq_pair (s:={ s with heap:=G }) Y λI J r=>?_)))
 replace J:IsPair I v x q:=J
 refine IF (wpAny_letGo (II (IF (IF (wpAny_onRaise (show wpAny _ _ (Builtin.SmallTypes.nextOf (.ref d) >>= _) _ _ _ from ?_))))))
 have K:∀e o,e≠z->e≠c->e≠v->s.heap.get? e=some o->I.get? e=some o:=λe o N f g w=>r.extBut _ _ g (l.extBut _ _ f (S.extBut _ _ N w))
 refine IF (zY (s:={ s with heap:=I }) (h2.kp λo e=>K _ _ D.dz D.cd.symm D.vd.symm e) (g2.kp λo e=>K _ _ D.bz D.bc D.bv e) hy λL i4 i=>II ?_)
 have v4:IsPair L v x q:=i.extBut _ _ D.vd J
 refine IF (Ma (s:={ s with heap:=L }) v4 Z (IF (wpAny_updateSeq_pair (s:={ s with heap:=L }) v4 λm V j=>?_)))
 replace V:IsPair m v x y:=V
 refine IF (wpAny_letGo (II (II (IF (Ma (s:={ s with heap:=m }) V Z (IF (Nw ?_)))))))
 have e5:m.objs.size=s.heap.objs.size:=by rw[j.1,i.1,r.1,l.1,S.1]
 have k5:∀e o,e≠z->e≠v->e≠c->e≠d->s.heap.get? e=some o->m.get? e=some o:=λe o N f g O w=>j.extBut _ _ f (i.extBut _ _ O (K e o N g f w))
 have z5:IsZip m z u v .ellipsis:=j.extBut _ _ D.vz.symm (i.extBut _ _ D.dz.symm (r.extBut _ _ D.vz.symm (l.extBut _ _ D.cz.symm F)))
 have j1:gM B m c a (k+1):=i2.kp λo e=>j.extBut _ _ D.vc.symm (i.extBut _ _ D.cd (r.extBut _ _ D.vc.symm e))
 have j2:gM C m d b (k+1):=i4.kp λo e=>j.extBut _ _ D.vd.symm e
 have lz:z < m.objs.size:=IP z5
 refine(show wpAny _ _ (Builtin.SmallTypes.ownedTupleHandOut (.ref z) (.ref m.objs.size) >>= _) _ _ _ from IF ?_)
 unfold Builtin.SmallTypes.ownedTupleHandOut
 have z6:IsZip (m.push { cls:=.type "tuple",data:=.seq (List.toArray [x,y]) }) z u v .ellipsis:=IH _ z5
 refine IF (MW z6 Po λm7 P R=>?_)
 replace P:IsZip m7 z u v (rawInt m.objs.size):=P
 refine MW P Po λM t T=>?_
 replace t:IsZip M z u v (rawInt m.objs.size):=t
 have U:∀e o,e≠z->m.get? e=some o->M.get? e=some o:=λe o n w=>T.extBut _ _ n (R.extBut _ _ n (IH _ w))
 have t8:IsPair M m.objs.size x y:=T.extBut _ _ (LN lz) (R.extBut _ _ (LN lz) (IM _ Z))
 have e8:M.objs.size=m.objs.size+1:=by rw[T.1,R.1,LL]
 rw[e5]at t t8 e8
 refine II #[_,Z,II ?_]
 show Q (some (.ref m.objs.size)) _
 rw[e5]
 exact hQ M t (U _ _ D.vz V) (j1.kp λo e=>U _ o D.cz e) (j2.kp λo e=>U _ o D.dz e) t8 e8 λe o N f g O w=>U e o N (k5 e o N f g O w)
theorem DR{b2:Bool}{ys:Array Value}{p q:Value}{Q:Option Value->Shared->Prop}(C:A.handled=none)(D:wO z u v c d a b)
  (h:IsZip s.heap z u v .none) (F:IsPair s.heap u (.ref c) (.ref d)) (G:gM I s.heap c a k) (J:iJ I s.heap a L) (K:L[k]?=none)
  (O:∀H,(∀e o,e≠z->e≠v->e≠c->e≠d->s.heap.get? e=some o->H.get? e=some o)->Q none { s with heap:=H }):wpAny (model prog w) A (pyNext (.ref z)) Q E s:=by
 have g:s.TypeIs (.ref z) "zip":=#[_,h,Z]
 unfold pyNext
 refine IF (Ni (Lw (name:=Str.ofString "__next__") g Me (Ls Me g Nj (show wpAny _ _ (field (.ref z) 2 >>= _) _ _ _ from ?_) (Nb _))))
 refine IF (Lk h Z (x:=.bool false) Z (show wpAny _ _ (field (.ref z) 3 >>= _) _ _ _ from IF (Lk h Z (x:=.ref u) Z (IF (Ma F Z ?_)))))
 refine(show wpAny _ _ (Builtin.SmallTypes.ownedTupleIsFree (.ref z) >>= _) _ _ _ from IF ?_)
 unfold Builtin.SmallTypes.ownedTupleIsFree
 refine IF (Lk h Z (x:=.none) Z (II ?_))
 simp only[NK]
 refine IF (MX (IF (Lk h Z (x:=.ref v) Z (IF (MW h Po λm f S=>?_)))))
 replace f:IsZip m z u v .ellipsis:=f
 refine IF ?_
 simp only[List.zipIdx_cons,List.zipIdx_nil,MR,NH]
 refine IF (IF (wpAny_onRaise (show wpAny _ _ (Builtin.SmallTypes.nextOf (.ref c) >>= _) _ _ _ from ?_)))
 refine IF (Qr (s:={ s with heap:=m }) (by simpa using C) (G.kp λo e=>S.extBut _ _ D.cz e) (J.kp λo e=>S.extBut _ _ D.az e) K λM e i j=>?_)
 have l:IsZip M z u v .ellipsis:=i _ _ D.cz.symm f
 refine MW (s:={ s with heap:=M }) l Po λn U r=>?_
 have t:Shared.TypeIs { s with heap:=n } e "StopIteration":=by
  cases e with
  |ref x=>
   obtain⟨o,y,B⟩:=j
   have P:x≠z:=λw=>by
    subst w
    have:=y.symm.trans l
    cases this
    injection B with w
    exact absurd w Pm
   exact#[o,r.extBut _ _ P y,B]
  |_=>exact j
 exact IF (MQ (T:="StopIteration") (b:=true) t OJ (II (O n λe o N V R W w=>r.extBut _ _ N (i _ _ R (S.extBut _ _ N w)))))
theorem DS{b1 b2:Bool}{xs ys:Array Value}{Q:Value->Shared->Prop}(J:iJ b1 s.heap a xs)(L:iJ b2 s.heap b ys)
  (h:∀H,IsZip H (s.heap.objs.size+4) (s.heap.objs.size+2) (s.heap.objs.size+3) .none->IsPair H (s.heap.objs.size+2) (.ref s.heap.objs.size) (.ref (s.heap.objs.size+1))->
   IsPair H (s.heap.objs.size+3) .none .none->gM b1 H s.heap.objs.size a 0->gM b2 H (s.heap.objs.size+1) b 0->(∀e o,s.heap.get? e=some o->H.get? e=some o)->Q (.ref (s.heap.objs.size+4)) { s with heap:=H }):
  wpAny (model prog w) A (call (.type "zip") [.ref a,.ref b]) Q E s:=by
 refine callType_new (S:=λ_ R c=>c=s/\R (.ok (.ret (.ref (s.heap.objs.size+4)))) { s with heap:=((((s.heap.push { cls:=.type (fX b1),data:=.fields (List.toArray [.ref a,.int 0 0]) }).push { cls:=.type (fX b2),data:=.fields (List.toArray [.ref b,.int 0 0]) }).push { cls:=.type "tuple",data:=.seq (List.toArray [.ref s.heap.objs.size,.ref (s.heap.objs.size+1)]) }).push { cls:=.type "tuple",data:=.seq (List.toArray [.none,.none]) }).push { cls:=.type "zip",data:=.fields (List.toArray [.none,.bool false,.bool false,.ref (s.heap.objs.size+2),.ref (s.heap.objs.size+3)]) } })
  PySem.F.called_zip Pm (PySem.F.typeCall_zip_2 _ _) (PySem.F.newCall_zip_2 _ _) (λO=>PySem.F.args_object_init_3 O _ _) PySem.F.entry_zip_new (.of_wp λp w' A' R c P=>?_) #[Z,?_]
 ·obtain⟨rfl,q⟩:=P
  obtain⟨r,g,D,t,os⟩:=c
  have u:=sub_zip
  have T:iJ b1 (Shared.heap #[r,g,D,t,os]) a xs:=J
  have _L:iJ b2 (Shared.heap #[r.push { cls:=.type (fX b1),data:=.fields (List.toArray [.ref a,.int 0 0]) },g,D,t,os]) b ys:=L.kp λo e=>IH _ e
  wp_walk using AR T,AR _L
  refine#[_,Z,?_]
  simp only[LL]at q ⊢
  exact q
 ·have z (h:Heap) (o:Obj):(h.push o).objs.size=h.objs.size+1:=LL ..
  generalize d:s.heap.push { cls:=.type (fX b1),data:=.fields (List.toArray [.ref a,.int 0 0]) }=M
  generalize f:M.push { cls:=.type (fX b2),data:=.fields (List.toArray [.ref b,.int 0 0]) }=i
  generalize j:i.push { cls:=.type "tuple",data:=.seq (List.toArray [.ref s.heap.objs.size,.ref (s.heap.objs.size+1)]) }=k
  generalize l:k.push { cls:=.type "tuple",data:=.seq (List.toArray [.none,.none]) }=n
  generalize v:n.push { cls:=.type "zip",data:=.fields (List.toArray [.none,.bool false,.bool false,.ref (s.heap.objs.size+2),.ref (s.heap.objs.size+3)]) }=m
  have N:M.objs.size=s.heap.objs.size+1:=by rw[<- d,z]
  have x:i.objs.size=s.heap.objs.size+2:=by rw[<- f,z,N]
  have y:k.objs.size=s.heap.objs.size+3:=by rw[<- j,z,x]
  have U:n.objs.size=s.heap.objs.size+4:=by rw[<- l,z,y]
  have K:∀e o,n.get? e=some o->m.get? e=some o:=λe o w=>by rw[<- v];exact IH _ w
  have B:∀e o,k.get? e=some o->m.get? e=some o:=λe o w=>K e o (by rw[<- l];exact IH _ w)
  have C:∀e o,i.get? e=some o->m.get? e=some o:=λe o w=>B e o (by rw[<- j];exact IH _ w)
  have G:∀e o,M.get? e=some o->m.get? e=some o:=λe o w=>C e o (by rw[<- f];exact IH _ w)
  have V:∀e o,s.heap.get? e=some o->m.get? e=some o:=λe o w=>G e o (by rw[<- d];exact IH _ w)
  have I:IsZip m (s.heap.objs.size+4) (s.heap.objs.size+2) (s.heap.objs.size+3) .none:=by rw[<- U,<- v];exact IM _ Z
  have W:IsPair m (s.heap.objs.size+3) .none .none:=K _ _ (by rw[<- y,<- l];exact IM _ Z)
  have X:IsPair m (s.heap.objs.size+2) (.ref s.heap.objs.size) (.ref (s.heap.objs.size+1)):=B _ _ (by rw[<- x,<- j];exact IM _ Z)
  have Y:m.get? (s.heap.objs.size+1)=some { cls:=.type (fX b2),data:=.fields (List.toArray [.ref b,.int 0 0]) }:=C _ _ (by rw[<- N,<- f];exact IM _ Z)
  have q1:m.get? s.heap.objs.size=some { cls:=.type (fX b1),data:=.fields (List.toArray [.ref a,.int 0 0]) }:=G _ _ (by rw[<- d];exact IM _ Z)
  refine#[#[_,I,Z],h m I X W ?_ ?_ V]
  ·cases b1<;>exact#[_,q1,Z,Z]
  ·cases b2<;>exact#[_,Y,Z,Z]
end
theorem Ak(n a b:Nat)(h:a < n)(H:b < n):wO (n+4) (n+2) (n+3) n (n+1) a b:=by
 refine#[?_,?_,?_,?_,?_,?_,?_,?_,?_,?_,?_,?_,?_,?_,?_,?_,?_,?_]<;>(show(_:Nat)≠_;omega)
section
variable {prog:Program}{w:World}{A:Around}{E:Value->Shared->Prop}
theorem Ax(h:l≠J):∀(n i:Nat) (s:Shared) (Q:List Value->Shared->Prop),s.heap.IsListIter J l i->s.heap.IsList l I->i+n<=I.size->
  (∀a,a.IsListIter J l (i+n)->Heap.SameBut J s.heap a->Q ((I.toList.drop i).take n) { s with heap:=a })->wpAny (model prog w) A (draw (.ref J) n) Q E s
 |0,i,s,Q,b,_,_,q=>show wpAny _ _ (pure []) Q E s from II (by simpa using q s.heap b (Heap.SameBut.refl ..))
 |n+1,i,s,Q,b,c,d,q=>by
  have H:i < I.size:=by omega
  refine(show wpAny _ _ (pyNext (.ref J) >>= _) Q E s from IF (wpAny_pyNext_list_item b c (x:=I[i]) (by simp [H]) λm j S=>?_))
  refine IF (Lj (Ax h n (i+1) _ _ j (c.extBut S.extBut h) Pn λf g k=>II ?_))
  have e:=q f (by rw[show i+(n+1)=i+1+n by omega];exact g) (S.trans k)
  rwa [show I.toList.drop i=I[i]::I.toList.drop (i+1) by simp [List.drop_eq_getElem_cons,H],List.take_succ_cons]at e
theorem Ae{s:Shared}{Q:List Value->Shared->Prop}(f:A.handled=none)(h:s.heap.IsList l i)(a:i.size=n)
  (q:∀c,Heap.ExtBut s.heap.objs.size s.heap c->Q i.toList { s with heap:=c }):wpAny (model prog w) A (unpackItems (.ref l) n none) Q E s:=by
 have H:l≠s.heap.objs.size:=by obtain⟨o,g,_⟩:=h;exact IY (IP g)
 unfold unpackItems
 refine IF ?_
 unfold notIterableAtAll
 refine IF (MM h.typeIs slot_list_iter.lookup ?_)
 refine II ?_
 simp only[I8,Mj]
 refine IF (Lj (Of h ?_))
 have I:(s.heap.push { cls:=.type "list_iterator",data:=.fields (List.toArray [.ref l,.int 0 0]) }).IsListIter s.heap.objs.size l 0:=#[_,IM _ Z,Z,Z]
 refine IF (Lj (Ax H n 0 _ _ I (h.push _) Pn λj J S=>?_))
 have k:(i.toList.drop 0).take n=i.toList:=by rw[MN,Oc (by simp [a])]
 rw[k,IX (by simp [a])]
 have L:j.IsList l i:=(h.push _).extBut S.extBut H
 refine IF (Lj (wpAny_pyNext_list_end f J L (by simp [a]) λm p=>?_))
 simp only[Option.isSome_none,I8,Mj]
 exact II (q m λb o d e=>p b o d (S.extBut b o d (IH _ e)))
end
section
variable {X:Cx}{pos:Pos}
inductive GX(K:Frag)(n:Nat)(t:wN)(v:V)(c:St)(H:Hp)(Q:St->Hp->Prop):Prop
 |mk(a b:_)(_:v= .ref a)(_:aJ K H a b)(_:b.length=n)(_:t b c H Q)
theorem Zc{E:List Expr}{k n:Nat}{t:wN}(g:X.calm=true)(h:D2 X E t)
  (i:(assignEach E X.env).length=n:=by rfl) (c:(assignEach E X.env).findIdx? (·.1)=none:=by rfl):PG X (.Tuple E k pos) (GX X.K n t):=by
 intro P s f H v u Q I r d
 obtain⟨a,x,j,l,m,d⟩:=d
 subst j
 cases r
 obtain⟨q,R,p,A⟩:=I.list l
 rw[assign_Tuple]
 refine IF (NC ?_)
 unfold unpack
 rw[i,c]
 refine IF (Lj (Ae (I.ok.hd g) p.isList (by simp [<- m,R.length]) λw y=>?_))
 have z:aq X P f H { s with heap:=w }:=I.kept (t':=s.toks) λb o e=>y b o (IY (IP e)) e
 exact h P _ f H x _ Q z (by simpa using R) d
end
theorem xh(l b:Addr)(I i:Array Value)(n N:Nat)(D:Option Addr)(S:Array (Option Value))(e:¬(!I.isEmpty&&Builtin.List.listTooLong (I.size+i.size))=true)(W:I.size<=sizeLine)(a:I.size+i.size<=sizeLine+1):
  Meets (Builtin.«list.extend» #[[.ref l,.ref b],[]]) (λ_ R s=>s.heap.get? l=some { cls:=.type "list",dict:=none,data:=.seq I n,slots:=(List.toArray []) }/\s.heap.get? b=some #[.type "tuple",D,.seq i N,S]/\R (.ok (.ret Value.none)) { s with heap:=s.heap.update l (Obj.mapSeq λx=>x++i),toks:=s.toks }):=by
 refine Meets.of_wp λp w A R s h=>?_
 obtain⟨f,g,d,t,os⟩:=s
 obtain⟨H,c,h⟩:=h
 have F:=AutoSeq1.idx_int
 have j:=AutoSeq1.sub_tuple_tuple
 have k:=AutoSeq1.sub_list_list
 have m:=AutoSeq1.sub_tuple_list
 have o:=AutoSeq1.sub_list_tuple
 have hz:(I++i).size<=sizeLine+1:=by rw[Array.size_append];exact a
 wp_walk using (wpAny_updateSeq H Z (hz:=W) (_hz':=hz)),Mv H,Mv c
 exact#[_,Z,h]
section
variable {X:Cx}
inductive ig(K:Frag)(x:V)(a:List V)(H:Hp)(Q:VK):Prop
 |mk(l b c d:_)(_:x= .ref l)(_:a=[.ref b])(_:H l=some (.lst c))(_:aA K H b d)(_:c.length+d.length<=sizeLine)(_:Q .non (ah H l (.lst (c++d))))
theorem YJ:DY X "list.extend" (ig X.K):=by
 intro p s A H x V v U Q I g j h
 obtain⟨l,b,B,C,rfl,rfl,f,k,D,q⟩:=h
 cases g
 obtain⟨u,rfl,m⟩:=j.one
 cases m
 obtain⟨z,a,n,r,E,e⟩:=I.lstM f
 obtain⟨i,R,P,G⟩:=I.tuple k
 have o:=R.length
 have d:a.toArray.size+i.toArray.size<=sizeLine:=by rw[IN,IN];omega
 have c:¬(!a.toArray.isEmpty&&Builtin.List.listTooLong (a.toArray.size+i.toArray.size))=true:=by
  rw[ms d,Ox]
  exact IW
 obtain⟨⟨J,O,L,S⟩,t,w,N,y⟩:=P
 cases w
 cases y
 refine Oy F.slot_list_extend #[_,e,Z] F.entry_list_extend (F.args_list_extend_2 _ _) (xh l b a.toArray i.toArray n N O S c (by rw[IN];omega) Pn) #[e,t,?_]
 refine#[.non,_,I.lset (its':=a++i) f e Po (r.append R) (by rw[IL];omega),Z,q]
end
section
variable {prog:Program}{w:World}{A:Around}{E:Value->Shared->Prop}{s:Shared}
theorem Jk{R:Result->Shared->Prop}{P:Nat->Value->Prop}{St:Nat->Shared->Prop}
  (W:WalksS prog w A.in1 I N j G n P St) (S:Addr) (H:¬S∈N) (c:List Str) (O:c.length=n) (Q:∀i v,P i v->∃x t,c[i]?=some x/\v= .str x t) (d:∀L:List Str,L.Nodup->(∀x∈L,x∈c)->L.length+1 < scanBound):
  ∀(k i:Nat) (s:Shared) (L:List Str),n - i=k->i<=n->St i s->cx prog w s.heap S L->(∀x,x∈L↔x∈c.take i)->L.length<=i->
   (∀a l,Moved (S::j) G s a->cx prog w a.heap S l->(∀x,x∈l↔x∈c)->l.length<=n->R (.ok (.ret .none)) a)->
   codeAny (model prog w) A (.builtin "set.update.loop" #[[.ref S,.ref I],[]]) R s:=by
 have f:¬S∈j:=λz=>H (W.sub _ z)
 have sub:∀b∈j,b∈S::j:=λb z=>Le _ z
 intro k
 induction k with
 |zero=>
  intro i s L T U st p q F r
  have e:i=n:=by omega
  subst e
  refine Mo OB ?_
  rw[LR M4]
  show wpAny _ A.in1 (pyNext (.ref I) >>= _) _ _ s
  refine IF (W.done s _ _ st λa m=>?_)
  show wpAny _ A.in1 (ret Value.none) _ _ a
  refine II (r a L (m.mono sub) (p.at λo e=>m.heap S o f e) (λx=>?_) F)
  rw[q x,<- O,LA]
 |succ k V=>
  intro i s L T U st p q F r
  have J:i < n:=by omega
  refine Mo OB ?_
  rw[LR M4]
  show wpAny _ A.in1 (pyNext (.ref I) >>= _) _ _ s
  refine IF (W.item i s _ _ J st λv a X u m=>?_)
  obtain⟨x,t,B,rfl⟩:=Q i v X
  show wpAny _ A.in1 (holding [Value.str x t] (setAdd S (.str x t)) >>= _) _ _ a
  refine IF (Lj ?_)
  have h:L.Nodup:=by obtain⟨_,_,_,_,_,_,_,_,_,h,_⟩:=p;exact h
  refine XZ (p.at λo e=>m.heap S o f e) (d L h λx B=>Nz ((q x).mp B)) λb h' Y K S2 g=>?_
  refine II #[MO M4 _,V (i+1) _ _ Pn J (W.frame _ a _ _ u g λb d o e=>?_) S2 (λy=>?_) ?_ λC l M D q1 q2=>?_]
  ·rw[K.2 b (λz:b=S=>H (by rw[<- z];exact d))];exact e
  ·have tk:c.take (i+1)=c.take i++[x]:=by rw[List.take_succ,B];rfl
   rw[tk,ME,NE,<- q y]
   split
   ·rename_i hm
    exact#[.inl,λz=>z.elim id λe=>e▸hm]
   ·rw[ME,NE]
  ·split
   ·omega
   ·rw[IL,MT];omega
  ·refine r C l (Moved.trans W.gtrans ((m.mono sub).then_heap g λb o d e=>?_) M) D q1 q2
   rw[K.2 b (λz:b=S=>d (by rw[z];exact Li))];exact e
end
section
variable {prog:Program}{w:World}{A:Around}{E:Value->Shared->Prop}{s:Shared}
set_option maxHeartbeats 3200000 in
theorem JM{Q:Value->Shared->Prop}
  (hh:A.handled=none) (hl:s.heap.IsList l I) (hi:StrsAre I.toList n) (C:∀L:List Str,L.Nodup->(∀x∈L,x∈n)->L.length+1 < scanBound)
  (h:∀(a:Heap) (t:Nat) L,cx prog w a s.heap.objs.size L->(∀x,x∈L↔x∈n)->L.length<=I.size->
   (∀b o,b < s.heap.objs.size->s.heap.get? b=some o->a.get? b=some o)->s.toks<=t->Q (.ref s.heap.objs.size) { s with heap:=a,toks:=t }):
  wpAny (model prog w) A (call (.type "set") [.ref l]) Q E s:=by
 obtain⟨c,tl,m1⟩:=PySem.F.called_set.mro
 have m0:=PySem.F.called_set.made
 have sb:=PySem.F.called_set.sub
 refine wpAny_call (codeAny_of_tree ?_)
 show wpAny _ _ (callAny (.type "set") _) _ _ _
 refine II #[Code.quiet_builtin _ Pp,Mo PySem.F.entry_type_call ?_]
 rw[Around.under_plain (weight_type_call_type "set" [.ref l] []) Z]
 have n1:=PySem.F.called_set.notType
 have n2:=PySem.F.called_set.canCreate
 have ct:=PySem.F.typeCall_set_1 (.ref l)
 repeat (any_goals (first |assumption |wp_step))
 refine M8 (KU (.ref l) (E:=E) (G:=λv S=>v= .ref s.heap.objs.size/\S={ s with heap:=s.heap.push (bj w) }) #[Z,Z]) λr S D=>?_
 cases r with
 |error e=>exact D
 |ok fl=>
  cases fl with
  |ret o2=>
   obtain⟨rfl,rfl⟩:=D
   have J:(s.heap.push (bj w)).get? s.heap.objs.size=some (bj w):=IM _ Z
   have hT:Shared.TypeIs { s with heap:=s.heap.push (bj w) } (.ref s.heap.objs.size) "set":=#[_,J,Z]
   have li:=PySem.F.called_set.init.lookup
   have bi:=PySem.F.called_set.init.bind (.ref s.heap.objs.size)
   repeat (any_goals (first |assumption |wp_step))
   refine M8 (codeAny_call_builtin (R:=wants (λr d=>r= .none/\∃a t L,d={ s with heap:=a,toks:=t }/\cx prog w a s.heap.objs.size L/\(∀x,x∈L↔x∈n)/\L.length<=I.size/\
     (∀b o,b < s.heap.objs.size->s.heap.get? b=some o->a.get? b=some o)/\s.toks<=t) E) PySem.F.called_set.init.plain PySem.F.entry_set_init (check_set_init_1 hT ?_)) λp d H=>?_
   ·obtain⟨ol,q,u,nl,y⟩:=hl
    obtain⟨o1,g,K,O⟩:=ol
    simp only at u y
    subst u
    subst y
    have f:(s.heap.push (bj w)).get? l=some { cls:=.type "list",dict:=g,data:=.seq I nl,slots:=O }:=IH _ q
    have ns:=PySem.F.sub_list_set
    have nf:=PySem.F.sub_list_frozenset
    have ne:(Value.type "list"==Value.type "dict")=false:=by decide
    have j:(s.heap.push (bj w)).IsList l I:=#[_,f,Z,nl,Z]
    unfold bj at J hT f j ⊢
    unfold Builtin.«set.__init__» noKeywords Builtin.Frozenset.updateFrom
    generalize M:pyIter=PI
    wp_walk
    subst M
    refine Of j ?_
    refine IF (wpAny_runValue ?_)
    have z:l < s.heap.objs.size:=IP q
    have h3:A.in1.in1.in1.handled=none:=by simp [hh]
    have N:l≠(s.heap.push (bj w)).objs.size:=by rw[LL];exact IY (MF z)
    have P:¬s.heap.objs.size∈[(s.heap.push (bj w)).objs.size,l]:=by
     rw[LL]
     simp only[My,Ll,Nx,not_or]
     exact#[IY (Mt _),LN z]
    have B:n.length=I.size:=by rw[_L.StrsAre.len hi,Ld]
    refine Jk ((Walks.list h3 _ l N I).toS) s.heap.objs.size P n B (λi v hv=>StrsAre.at' hi i v (by rw[Mr];exact hv)) C (I.size - 0) 0 _ [] Pn (IS _)
     #[#[_,IM _ Z,Z,Z],j.push _] (X0 (IH _ J)) (λx=>by simp) (IK _) λs' L m T U V=>?_
    obtain⟨a,g',d',W,X⟩:=s'
    have eg:g'=s.gens:=m.gens
    have ed:d'=s.drawn:=m.drawn
    have eo:X=s.os:=m.os
    subst eg
    subst ed
    subst eo
    show wpAny _ _ _ _ _ _
    refine II ?_
    show wpAny _ _ (ret Value.none) _ _ _
    refine II #[Z,a,W,L,Z,T,U,V,λb o C e=>?_,m.toks]
    have b1:b≠s.heap.objs.size:=IY C
    have b2:b≠(s.heap.push (bj w)).objs.size:=by rw[LL];exact IY (MF C)
    exact m.heap b o (by simp only[My,Ll,Nx,not_or];exact#[b1,b2]) (IH _ (IH _ e))
   ·cases p with
    |error e=>exact H
    |ok k=>
     cases k with
     |ret r=>
      obtain⟨rfl,a,t,L,rfl,T,U,V,Y,q3⟩:=H
      repeat (any_goals (first |assumption |wp_step))
      exact h _ _ _ T U V Y q3
     |_=>exact H.elim
  |_=>exact D.elim
end
section
variable {X:Cx}
theorem qL(m:X.calm=true):dR X (.type "set") (λg H Q=>∃(p:Addr) (S:List Str),g=[.ref p]/\aJ X.K H p (S.map V.str)/\(∀L:List Str,L.Nodup->(∀x∈L,x∈S)->L.length+1 < scanBound)/\
  ∀l L,H l=none->L.Nodup->(∀x,x∈L↔x∈S)->Q (.ref l) (ah H l (Ge X.prog X.w l L))):=by
 intro P s B H g U Q I r h
 obtain⟨p,S,rfl,n,t,q⟩:=h
 obtain⟨u,rfl,R⟩:=eQ r
 cases R
 obtain⟨i,v,y,C⟩:=I.list n
 have j:=zX v
 have D:i.length=S.length:=(_L.StrsAre.len j).symm
 refine JM (I.ok.hd m) y.isList (by simpa using j) t λc T L d z E k _=>?_
 have a:L.Nodup:=by obtain⟨_,_,_,_,_,_,_,_,_,a,_⟩:=d;exact a
 have A:∀b o,s.heap.get? b=some o->c.get? b=some o:=λb o e=>k b o (IP e) e
 obtain⟨o,f⟩:∃o,c.get? s.heap.objs.size=some o:=let #[o,_,_,_,f,_]:=d;#[o,f]
 exact#[.ref s.heap.objs.size,_,I.laid A (IK _) (show aL X.prog X.w _ c _ (Ge X.prog X.w s.heap.objs.size L) from #[d,#[o,f],λF G x e=>cx.at x e]),Z,q _ _ (I.hok.fresh (IK _)) a z]
end
section
variable {X:Cx}{CX:oK}{k:Nat}{f C:Addr}{fd:FuncData}{ps:List Str}{sp:Sp}{dvs:List V}{ds:List Value}{E:XK}{x m:Str}{p pos apos:Pos}{e:Expr}{es:List Expr}{t:TA}
structure Bg(K:Frag)(C:Addr)(m:Str)(f:Addr):Prop where
 rd:PySem.W.readsIn K C (.type "type")=true
 ga:specialIn K (.ref C) "__getattribute__"=some (some (.builtin "type.__getattribute__"))
 at_:PySem.W.findCls K (.ref C) (.type "type") m=some (.val (.ref f))
 kp:keepIn K (.ref f)=true
theorem yp{pl:Sem Bool}(j:Gl X x)(l:X.mg x=some (.ref C))(M:Bg X.K C m f)(F:af X.prog X.w X.K X.mg X.base CX k f fd ps sp)(n:bq k X.A)(q:aC X.K fd ps ds)(u:aB dvs ds)(v:c7 CX X E)(y:PA X (e::es) t)
  (a:(x==("__debug__":Str))=false:=by decide)
  (c:starEach (e::es) X.env=(false,eval e X.env)::starEach es X.env:=by rfl) (d:(backTo pos (starEach es X.env)).any (·.1)=false:=by rfl)
  (z:eval (.Call (.Attribute (.Name x p) m apos) (e::es) [] pos) X.env=(do
   let O <- eval (.Name x p) X.env
   standAt apos.atName
   let (f,first) <- holding [O] (getMethod O m pl)
   callWith pos f first (backTo pos (starEach (e::es) X.env)) (backToKw pos (keywordEach [] X.env))):=by rfl):
  PE X (.Call (.Attribute (.Name x p) m apos) (e::es) [] pos) (gQ sp dvs E t):=by
 intro P s g H Q I h
 refine Om (pl:=pl) (zC I j l ?_ a) z
 refine PySem.W.method_cls I.kIn M.ga (PySem.W.cls_value I.kIn M.rd M.at_ Z ?_)
 have B:aq X P g H { s with toks:=s.toks+1 }:=I.kept (h':=s.heap) λb o e=>e
 refine O1 (h₀:=X.base) I.ok.mod.kin M.kp (aU (y pos P _ g H _ B h) λU S #[G,J,i,r,D]=>#[i.kIn,?_]) c d
 exact QD F n q u v i r D
end
abbrev fg(h:Heap)(z u v T:Addr)(f:Bool):Prop:=
 h.get? z=some { cls:=.type "zip",dict:=none,data:=.fields (List.toArray [rawInt T,.bool f,.bool false,.ref u,.ref v]),slots:=(List.toArray []) }
section
variable {prog:Program}{w:World}{A:Around}{E:Value->Shared->Prop}{s:Shared}
theorem Z5{Q:Option Obj->Shared->Prop}(h:Q (s.heap.get? a) s):wpAny M A (loadIfAlive a) Q E s:=λ_ _ _=>h
theorem En{Q:Bool->Shared->Prop}(H:fg s.heap z u v T f)(a:∃o,s.heap.get? T=some o)
  (q:∀h,fg h z u v T true->Heap.ExtBut z s.heap h->h.objs.size=s.heap.objs.size->Q false { s with heap:=h }):wpAny (model prog w) A (Builtin.SmallTypes.ownedTupleIsFree (.ref z)) Q E s:=by
 unfold Builtin.SmallTypes.ownedTupleIsFree
 refine IF (Lk H Z (x:=rawInt T) Z ?_)
 show wpAny _ _ (loadIfAlive ((T:Int).toNat) >>= _) _ _ s
 refine IF (Z5 ?_)
 obtain⟨o,c⟩:=a
 rw[Md,c]
 simp only[Option.isNone_some,I8,Mj]
 refine IF (Lk H Z (x:=.bool f) Z ?_)
 cases f with
 |true=>
  simp only[Mc,I8,Mj]
  exact IF (II (II (q s.heap H (λb o _ e=>e) Z)))
 |false=>
  rw[IU Pm]
  refine IF (MW H Po λh d S=>II (q h d S.extBut S.1))
theorem Ai{Q:Option Value->Shared->Prop}(D:wO z u v c d a b)
  (g:fg s.heap z u v T f) (p:∃o,s.heap.get? T=some o) (q:IsPair s.heap u (.ref c) (.ref d)) (r:gM B s.heap c a k) (t:gM l s.heap d b k) (G:iJ B s.heap a C) (F:iJ l s.heap b Y) (I:C[k]?=some x) (J:Y[k]?=some y)
  (L:∀h,fg h z u v T true->gM B h c a (k+1)->gM l h d b (k+1)->IsPair h s.heap.objs.size x y->h.objs.size=s.heap.objs.size+1->
   (∀e o,e≠z->e≠c->e≠d->s.heap.get? e=some o->h.get? e=some o)->Q (some (.ref s.heap.objs.size)) { s with heap:=h }):wpAny (model prog w) A (pyNext (.ref z)) Q E s:=by
 have H:s.TypeIs (.ref z) "zip":=#[_,g,Z]
 unfold pyNext
 refine IF (Ni (Lw (name:=Str.ofString "__next__") H Me (Ls Me H Nj (show wpAny _ _ (field (.ref z) 2 >>= _) _ _ _ from ?_) (Nb _))))
 refine IF (Lk g Z (x:=.bool false) Z (show wpAny _ _ (field (.ref z) 3 >>= _) _ _ _ from IF (Lk g Z (x:=.ref u) Z (IF (Ma q Z ?_)))))
 refine(show wpAny _ _ (Builtin.SmallTypes.ownedTupleIsFree (.ref z) >>= _) _ _ _ from IF (En g p λO P i n=>?_))
 simp only[I8,Mj]
 refine IF ?_
 simp only[List.forIn_toArray,MR,NH]
 refine IF (IF (Lj (show wpAny _ _ (Builtin.SmallTypes.nextOf (.ref c) >>= _) _ _ _ from ?_)))
 refine IF (zY (s:={ s with heap:=O }) (r.kp λo e=>i _ _ D.cz e) (G.kp λo e=>i _ _ D.az e) I λM R j=>II (II ?_))
 refine IF (IF (Lj (show wpAny _ _ (Builtin.SmallTypes.nextOf (.ref d) >>= _) _ _ _ from ?_)))
 have K:∀e o,e≠z->e≠c->s.heap.get? e=some o->M.get? e=some o:=λe o n U w=>j.extBut _ _ U (i _ _ n w)
 refine IF (zY (s:={ s with heap:=M }) (t.kp λo e=>K _ _ D.dz D.cd.symm e) (F.kp λo e=>K _ _ D.bz D.bc e) J λm V S=>II (II (II ?_)))
 show wpAny _ _ (newTuple [x,y] >>= _) _ _ _
 refine IF (Nw (II #[_,Z,II ?_]))
 have N:m.objs.size=s.heap.objs.size:=by rw[S.1,j.1];exact n
 have W:fg m z u v T true:=S.extBut _ _ D.dz.symm (j.extBut _ _ D.cz.symm P)
 show Q (some (.ref m.objs.size)) _
 rw[N]
 refine L _ (IH _ W) (R.kp λo e=>IH _ (S.extBut _ _ D.cd e)) (V.kp λo e=>IH _ e) (by rw[<- N];exact IM _ Z) (by rw[LL,N]) λe o X a2 a3 w=>IH _ (S.extBut _ _ a3 (K _ _ X a2 w))
theorem DQ{b2:Bool}{ys:Array Value}{Q:Option Value->Shared->Prop}(j:A.handled=none)(D:wO z u v c d a b)
  (H:fg s.heap z u v T f) (l:∃o,s.heap.get? T=some o) (m:IsPair s.heap u (.ref c) (.ref d)) (p:gM B s.heap c a k) (G:iJ B s.heap a q) (r:q[k]?=none)
  (t:∀i,(∀e o,e≠z->e≠c->e≠d->s.heap.get? e=some o->i.get? e=some o)->Q none { s with heap:=i }):wpAny (model prog w) A (pyNext (.ref z)) Q E s:=by
 have h:s.TypeIs (.ref z) "zip":=#[_,H,Z]
 unfold pyNext
 refine IF (Ni (Lw (name:=Str.ofString "__next__") h Me (Ls Me h Nj (show wpAny _ _ (field (.ref z) 2 >>= _) _ _ _ from ?_) (Nb _))))
 refine IF (Lk H Z (x:=.bool false) Z (show wpAny _ _ (field (.ref z) 3 >>= _) _ _ _ from IF (Lk H Z (x:=.ref u) Z (IF (Ma m Z ?_)))))
 refine(show wpAny _ _ (Builtin.SmallTypes.ownedTupleIsFree (.ref z) >>= _) _ _ _ from IF (En H l λM F g n=>?_))
 simp only[I8,Mj]
 refine IF ?_
 simp only[List.forIn_toArray,MR,NH]
 refine IF (IF (Lj (show wpAny _ _ (Builtin.SmallTypes.nextOf (.ref c) >>= _) _ _ _ from ?_)))
 refine IF (Qr (s:={ s with heap:=M }) (by simpa using j) (p.kp λo e=>g _ _ D.cz e) (G.kp λo e=>g _ _ D.az e) r λy e S C=>?_)
 exact IF (MQ (T:="StopIteration") (b:=true) C OJ (II (t y λe o n N I w=>S _ _ N (g _ _ n w))))
end
theorem Jv:typeLookup (.type "zip") "__getattr__"=pure none:=by rw[Mn,LI];kernel_rfl
theorem X3:typeLookup (.type "zip") "keys"=pure none:=by rw[Mn,LI];kernel_rfl
theorem Q8:entryFor table "zip.__getattribute__"=some Builtin.«object.__getattribute__»:=
 OK (id':="object.__getattribute__") (by kernel_rfl) Pp Pp (by kernel_rfl)
theorem KO(a:Addr)(x:Array Value)(S:Array (Option Value))(u:Tok):
  Meets (Builtin.«object.__getattribute__» #[[.ref a,.str "keys" u],[]]) (λA R s=>s.heap.get? a=some { cls:=.type "zip",dict:=none,data:=.fields x,slots:=S }/\raisesAttr (.ref a) "keys" A R s):=
 Meets.of_wp λp w A R s H=>by
  obtain⟨c,g,d,t,os⟩:=s
  obtain⟨e,H⟩:=H
  have f:(#[c,g,d,t,os]:Shared).TypeIs (.ref a) "zip":=#[_,e,Z]
  have b:=X3
  have h:(["__module__","__name__","__qualname__","__doc__","__annotations__"]:List Str).contains "keys"=false:=by decide+kernel
  unfold Builtin.«object.__getattribute__»
  repeat (any_goals (first |assumption |wp_step))
  try simp only[h,I8,Mj]
  repeat (any_goals (first |assumption |wp_step))
  exact wpAny_raiseAttrError H.1 H.2 (attrMsg_fits Pp (by size_fits))
section
variable {prog:Program}{w:World}{A:Around}{E:Value->Shared->Prop}{s:Shared}
theorem xQ{Q:Option Value->Shared->Prop}(f:s.heap.get? a=some { cls:=.type "zip",dict:=none,data:=.fields x,slots:=j })(k:A.handled=none)
  (h:∀c T,(∀b o,s.heap.get? b=some o->c.get? b=some o)->Q none { s with heap:=c,toks:=T }):wpAny (model prog w) A (getAttr? (.ref a) "keys") Q E s:=by
 obtain⟨l,g,d,T,os⟩:=s
 have i:∀t,(#[l,g,d,t,os]:Shared).TypeIs (.ref a) "zip":=λ_=>#[_,f,Z]
 have m:=sub_AttributeError
 have n:=PySem.F.slot_zip_getattribute.lookup
 have p:=PySem.F.slot_zip_getattribute.bind (.ref a)
 have q:=Jv
 unfold getAttr? getAttrBy? getAttrBy
 repeat (any_goals (first |assumption |exact i _ | ((with_reducible show wpAny _ _ (call (Value.builtin "zip.__getattribute__") _ _) _ _ _);refine Oy PySem.F.slot_zip_getattribute (i _) Q8 (PySem.F.args_zip_getattribute_2 _ _) (KO a x j _) #[f,by simpa using k,λc t e H=>?_]) |wp_step))
 obtain⟨r,u,v⟩:=H.there
 show wpAny _ _ (getattributeRaised _ _ _ _ _ _ _) _ _ _
 unfold getattributeRaised
 repeat (any_goals (first |assumption |wp_step))
 exact h _ _ H.keeps
def Bn(h:Heap)(z u v c d a b Dd:Addr)(x y:Array Value)(i:Nat):Prop:=
 ((IsZip h z u v .none/\∃p q,IsPair h v p q)∨∃T f o,fg h z u v T f/\h.get? T=some o/\T≠z/\T≠c/\T≠d/\T≠Dd)/\IsPair h u (.ref c) (.ref d)/\gM false h c a i/\gM false h d b i/\iJ false h a x/\iJ false h b y
theorem Al{Dd:Addr}{Q:Option Value->Shared->Prop}(D:wO z u v c d a b)(l:Dd < s.heap.objs.size)(S:Bn s.heap z u v c d a b Dd J Y k)(L:J[k]?=some x)(M:Y[k]?=some y)
  (N:∀h,Bn h z u v c d a b Dd J Y (k+1)->IsPair h s.heap.objs.size x y->h.objs.size=s.heap.objs.size+1->(∀e o,e≠z->e≠v->e≠c->e≠d->s.heap.get? e=some o->h.get? e=some o)->Q (some (.ref s.heap.objs.size)) { s with heap:=h }):wpAny (model prog w) A (pyNext (.ref z)) Q E s:=by
 obtain⟨H,g,j,m,G,i⟩:=S
 obtain⟨oc,n,_⟩:=j.ob
 obtain⟨od,r,_⟩:=m.ob
 rcases H with ⟨H,p,q,U⟩ | ⟨T,f,o,H,O,t,P,R,V⟩
 ·refine Aj D H g U j m G i L M λh B v1 I C t F K=>N h #[.inr #[s.heap.objs.size,false,_,B,t,LN (IP H),LN (IP n),LN (IP r),LN l],K _ _ D.uz D.uv D.uc D.ud g,I,C,G.kp λo e=>K _ _ D.az D.av D.ac D.ad e,i.kp λo e=>K _ _ D.bz D.bv D.bc D.bd e] t F K
 ·refine Ai D H #[o,O] g j m G i L M λh B I C W F K=>N h #[.inr #[T,true,o,B,K _ _ t P R O,t,P,R,V],K _ _ D.uz D.uc D.ud g,I,C,G.kp λo e=>K _ _ D.az D.ac D.ad e,i.kp λo e=>K _ _ D.bz D.bc D.bd e] W F λe o X n2 n3 n4 w=>K e o X n3 n4 w
theorem DT{Dd:Addr}{Q:Option Value->Shared->Prop}(g:A.handled=none)(D:wO z u v c d a b)(n:Bn s.heap z u v c d a b Dd x ys k)(i:x[k]?=none)
  (j:∀H,(∀e o,e≠z->e≠v->e≠c->e≠d->s.heap.get? e=some o->H.get? e=some o)->Q none { s with heap:=H }):wpAny (model prog w) A (pyNext (.ref z)) Q E s:=by
 obtain⟨h,l,m,B,G,C⟩:=n
 rcases h with ⟨h,p,q,F⟩ | ⟨T,f,o,h,r,I,J,L,M⟩
 ·exact DR (b2:=false) (p:=p) (q:=q) (ys:=ys) g D h l m G i j
 ·exact DQ (b2:=false) (ys:=ys) g D h #[o,r] l m G i λH K=>j H λe o N O t y w=>K e o N t y w
structure Gp(D z u v c d a b:Addr):Prop where
 z:D≠z
 u:D≠u
 v:D≠v
 c:D≠c
 d:D≠d
 a:D≠a
 b:D≠b
theorem Bn.keep{h j:Heap}{Dd:Addr}(F:Gp Dd z u v c d a b)(k:∀e o,e≠Dd->h.get? e=some o->j.get? e=some o)(st:Bn h z u v c d a b Dd x y i):Bn j z u v c d a b Dd x y i:=by
 obtain⟨H,l,m,n,G,r⟩:=st
 refine#[?_,k _ _ F.u.symm l,m.kp λo e=>k _ _ F.c.symm e,n.kp λo e=>k _ _ F.d.symm e,G.kp λo e=>k _ _ F.a.symm e,r.kp λo e=>k _ _ F.b.symm e]
 rcases H with ⟨H,p,q,B⟩ | ⟨T,f,o,H,g,C,D,I,t⟩
 ·exact .inl #[k _ _ F.z.symm H,p,q,k _ _ F.v.symm B]
 ·exact .inr #[T,f,o,k _ _ F.z.symm H,k _ _ t g,C,D,I,t]
theorem KP{K:Type}[DecidableEq K]{knd:KeyKind prog w K}{R:Result->Shared->Prop}{Dd:Addr}{x:Array Value}(X:A.handled=none)(D:wO z u v c d a b)(F:Gp Dd z u v c d a b)(m:List (K×Value))(Y:m.length=x.size)(h0:x.size<=sizeLine)
  (hP:∀(i:Nat),i < x.size->∃f V k,x[i]?=some f/\ys[i]?=some V/\knd.is k f=true/\m[i]?=some (k,V)):
  ∀(j i:Nat) (s:Shared) (n:Int),x.size - i=j->i<=x.size->Bn s.heap z u v c d a b Dd x ys i->s.heap.DictOf knd Dd (merged [] (m.take i))->
   (∀h T,(∀e o,e≠Dd->e≠z->e≠v->e≠c->e≠d->s.heap.get? e=some o->h.get? e=some o)->h.DictOf knd Dd (merged [] m)->R (.ok (.ret .none)) { s with heap:=h,toks:=T })->
   codeAny (model prog w) A (.builtin "dict.update.loop" #[[.ref Dd,.ref z,.int n 0,.none],[]]) R s:=by
 intro j
 induction j with
 |zero=>
  intro i s n hj hi st q C
  have e:i=x.size:=by omega
  subst e
  refine Mo JF ?_
  rw[LR zG]
  show wpAny _ A.in1 (pyNext (.ref z) >>= _) _ _ s
  refine IF (DT (by simpa using X) D st Po λh g=>?_)
  show wpAny _ A.in1 (Builtin.Dict.addKeywords Dd [] >>= λ_=>ret Value.none) _ _ { s with heap:=h }
  refine IF ?_
  unfold Builtin.Dict.addKeywords
  refine II (II (C h s.toks (λe o _ N t y B w=>g e o N t y B w) ?_))
  rw[<- Y,LA]at q
  obtain⟨o,es,ep,ho,r⟩:=q
  exact#[o,es,ep,g _ _ F.z F.v F.c F.d ho,r]
 |succ j ih=>
  intro i s n hj hi st q C
  have M:i < x.size:=by omega
  obtain⟨f,V,k,hx,hy,O,hm⟩:=hP i M
  refine Mo JF ?_
  rw[LR zG]
  show wpAny _ A.in1 (pyNext (.ref z) >>= _) _ _ s
  obtain⟨oD,G,I,H,rD⟩:=id q
  have L:Dd < s.heap.objs.size:=IP H
  refine IF (Al D L st hx hy λl S P N g=>?_)
  have hb:Shared.TypeIs { s with heap:=l } (.ref s.heap.objs.size) "tuple":=#[_,P,Z]
  have J:l.DictOf knd Dd (merged [] (m.take i)):=#[oD,G,I,g _ _ F.z F.v F.c F.d H,rD]
  dsimp only
  refine IF (Lj ?_)
  refine IF (wpAny_tryCatch ?_)
  unfold Builtin.Dict.pairItems
  refine IF (MV hb ?_)
  rw[IU Pm]
  refine IF (Ma P Z (II ?_))
  show wpAny _ A.in1 (holding [f,V] (dictSet Dd f V)) _ _ { s with heap:=l }
  unfold dictSet
  refine Lj (Lj (IF (knd.pyHash O ?_)))
  have Q:(merged ([]:List (K×Value)) (m.take i)).length<=i:=by
   have:=merged_length_le ([]:List (K×Value)) (m.take i)
   rw[Lo]at this
   simp only[OV]at this
   omega
  refine wpAny_dictSetHashed_pairs (s:={ s with heap:=l,toks:=s.toks+1 }) O J (λh p sb=>?_) Pn
  rw[<- merged_take_succ [] m i (k,V) hm]at p
  have U:∀e o,e≠Dd->l.get? e=some o->h.get? e=some o:=λe o ne w=>(sb.2 e ne).trans w
  refine II #[MO zG _,ih (i+1) _ (n+1) Pn M (S.keep F U) p λh2 T k2 d2=>C h2 T (λe o W N t y B w=>k2 e o W N t y B (U _ _ W (g e o N t y B w))) d2]
theorem K2{K:Type}[DecidableEq K]{knd:KeyKind prog w K}{more:List (K×Value)}{Q:Value->Shared->Prop}(N:A.handled=none)(D:wO z u v c d a b)
  (j:IsZip s.heap z u v .none) (P:IsPair s.heap u (.ref c) (.ref d)) (m:∃p q,IsPair s.heap v p q) (U:gM false s.heap c a 0) (V:gM false s.heap d b 0) (W:iJ false s.heap a x) (X:iJ false s.heap b ys)
  (hn:more.length=x.size) (n:x.size<=sizeLine) (hP:∀(i:Nat),i < x.size->∃Y vu k,x[i]?=some Y/\ys[i]?=some vu/\knd.is k Y=true/\more[i]?=some (k,vu))
  (h:∀l t,l.DictOf knd s.heap.objs.size (merged [] more)->(∀e o,e≠z->e≠v->e≠c->e≠d->s.heap.get? e=some o->l.get? e=some o)->Q (.ref s.heap.objs.size) { s with heap:=l,toks:=t }):
  wpAny (model prog w) A (call (.type "dict") [.ref z]) Q E s:=by
 refine callType_codes (Q₁:=λO S=>O= .ref s.heap.objs.size/\S={ s with heap:=s.heap.push { cls:=.type "dict",data:=.dict (List.toArray []) } }) PySem.F.kt_called_dict (PySem.F.kt_typeCall_dict_1 _) PySem.F.entry_dict_init (kt_code_dict_new _ #[Z,Z]) ?_
 rintro O S ⟨rfl,rfl⟩
 have f:(s.heap.push { cls:=.type "dict",data:=.dict (List.toArray []) }).DictOf knd s.heap.objs.size []:=Heap.DictOf.new s.heap
 refine#[f.typeIs,PySem.F.args_dict_init_2 _ _,?_]
 unfold Builtin.«dict.__init__»
 refine IF ?_
 unfold Builtin.Dict.selfAndRest
 refine IF (wpAny_notOrdered_dict f.typeIs ?_)
 show wpAny _ _ (pure (s.heap.objs.size,[Value.ref z])) _ _ _
 refine II ?_
 show wpAny _ _ (Builtin.Dict.updateFrom "dict.__init__" s.heap.objs.size (.ref z) [] .none) _ _ _
 unfold Builtin.Dict.updateFrom
 generalize hH:s.heap.push { cls:=.type "dict",data:=.dict (List.toArray []) }=H at f ⊢
 have G:∀b o,s.heap.get? b=some o->H.get? b=some o:=λb o e=>by rw[<- hH];exact IH _ e
 refine IF (MV #[_,G _ _ j,Z] ?_)
 rw[IU Pm]
 refine IF (xQ (s:={ s with heap:=H }) (G _ _ j) (by simpa using N) λM t k1=>?_)
 simp only[Option.isNone_none,NK]
 refine IF (MX ?_)
 have g:∀b o,s.heap.get? b=some o->M.get? b=some o:=λb o e=>k1 _ _ (G _ _ e)
 refine IF (wpAny_pyIter_zip (s:={ s with heap:=M,toks:=t }) (g _ _ j) ?_)
 obtain⟨oD,eD,y,B,rD⟩:=f
 obtain⟨p,q,m⟩:=m
 obtain⟨oc,C,_⟩:=U.ob
 obtain⟨od,I,_⟩:=V.ob
 obtain⟨oa,J,_⟩:=id W
 obtain⟨ob,L,_⟩:=id X
 have F:Gp s.heap.objs.size z u v c d a b:=#[LN (IP j),LN (IP P),LN (IP m),LN (IP C),LN (IP I),LN (IP J),LN (IP L)]
 refine II #[MO zG _,M8 (KP (knd:=knd) (A:=A.in1) (R:=λr s'=>r= .ok (.ret .none)/\Q (.ref s.heap.objs.size) s') (by simpa using N) D F more hn n hP x.size 0 { s with heap:=M,toks:=t } 0 Z (IS _)
  #[.inl #[g _ _ j,p,q,g _ _ m],g _ _ P,U.kp λo e=>g _ _ e,V.kp λo e=>g _ _ e,W.kp λo e=>g _ _ e,X.kp λo e=>g _ _ e] #[oD,eD,y,k1 _ _ B,rD] λl T k2 d2=>#[Z,?_]) λr s' q=>?_]
 ·exact h l T d2 λe o n1 n2 n3 n4 w=>k2 e o (IY (IP w)) n1 n2 n3 n4 (g _ _ w)
 ·obtain⟨rfl,q⟩:=q
  exact#[Z,q]
end
section
variable {X:Cx}{e1 e2:Expr}{ta:TA}{p p2 pos pos2:Pos}
inductive FJ(K:Frag)(Q:VK)(e:List V)(c:Hp):Prop
 |mk(a b:Addr)(d:List bo)(f:List V)(_:e=[.ref a,.ref b])(_:aA K c a (d.map kV))(_:aA K c b f)(_:d.length=f.length)(_:∀l,c l=none->Q (.ref l) (ah c l (.dK (c8 [] (d.zip f)))))
def Iv(K:Frag)(ta:TA):TE:=λa H Q=>ta a H (FJ K Q)
theorem Zd{P:Program}{w:World}:∀{K:List bo} {U:List Value},aB (K.map kV) U->∀(i:Nat) (k:bo),K[i]?=some k->∃u,U[i]?=some u/\(aS P w).is k u=true
 | [],_,_,i,k,h=>by simp at h
 |k0::K,_,.cons (b:=u) h t,0,k,e=>by
  have E:k0=k:=by simpa using e
  subst E
  exact#[u,Z,J6 h]
 |k0::K,_,.cons h t,i+1,k,e=>by simpa using Zd (P:=P) (w:=w) t i k (by simpa using e)
theorem sR:∀{K:List bo} {y:List V} {u:List Value},aB y u->KV (K.zip y) (K.zip u)
 | [],_,_,_=>by simp only[List.zip_nil_left];exact .nil
 |_::_,_,_,.nil=>by simp only[List.zip_nil_right];exact .nil
 |k::K,_,_,.cons h t=>.cons #[Z,h] (sR t)
theorem Ze(m:Gl X "dict")(n:X.mg "dict"=none)(t:Gl X "zip")(v:X.mg "zip"=none)(N:X.calm=true)(O:PA X [e1,e2] ta)
  (T:starEach [e1,e2] X.env=(false,eval e1 X.env)::starEach [e2] X.env:=by rfl) (U:(backTo pos2 (starEach [e2] X.env)).any (·.1)=false:=by rfl)
  (f:starEach [Expr.Call (.Name "zip" p2) [e1,e2] [] pos2] X.env=(false,eval (.Call (.Name "zip" p2) [e1,e2] [] pos2) X.env)::starEach [] X.env:=by rfl) (x:(backTo pos (starEach [] X.env)).any (·.1)=false:=by rfl):
  PE X (.Call (.Name "dict" p) [.Call (.Name "zip" p2) [e1,e2] [] pos2] [] pos) (Iv X.K ta):=by
 intro P s V H Q I h
 refine LM (zp I m n PyProof.Rows.boot_dict ?_)
 refine Lx ?_ f x
 rw[f]
 show wpAny _ _ (spliced ((false,eval _ X.env)::backTo pos (starEach [] X.env))) _ _ s
 refine MK ?_
 refine LM (zp I t v PyProof.Rows.boot_zip ?_)
 refine Lx (aU (O pos2 P s V H _ I h) λus S z=>?_) T U
 obtain⟨vs,H1,d,W,Y⟩:=z
 obtain⟨a,b,c,ys,e,gx,gy,hl,q⟩:=Y
 subst e
 cases W with
 |cons r rr=>
  cases rr with
  |cons r' y=>
   cases y
   cases r
   cases r'
   obtain⟨A,F,G,z1⟩:=d.tuple gx
   obtain⟨j,R,C,z2⟩:=d.tuple gy
   have l1:=F.length
   have l2:=R.length
   rw[IJ]at l1 z1
   have la:a < S.heap.objs.size:=by obtain⟨o,D,_⟩:=G;exact IP D
   have lb:b < S.heap.objs.size:=by obtain⟨o,D,_⟩:=C;exact IP D
   refine DS (b1:=false) (b2:=false) (xs:=A.toArray) (ys:=j.toArray) G C λE J u' v' i1 i2 k=>?_
   refine M3 ?_
   have Dz:=Ak S.heap.objs.size a b la lb
   refine K2 (s:={ S with heap:=E }) (knd:=aS X.prog X.w) (more:=c.zip j) (d.ok.hd N) Dz J u' #[_,_,v'] i1 i2 (iJ.kp (b:=false) G λo e=>k _ _ e) (iJ.kp (b:=false) C λo e=>k _ _ e) (by rw[OT,IN];omega) (by rw[IN];omega) (λi hi=>?_) λh2 tk dd k2=>?_
   ·rw[IN]at hi
    have L:i < c.length:=by omega
    have M:i < j.length:=by omega
    obtain⟨u,hu,ku⟩:=Zd F i _ (IG L)
    refine#[u,j[i],c[i],by simpa using hu,by simp [M],ku,?_]
    rw[O7]
    exact#[IG L,IG M]
   ·have g:KV (c8 [] (c.zip ys)) (merged [] (c.zip j)):=KV.merge (sR R) .nil
    have zl:(c8 [] (c.zip ys)).length<=sizeLine:=by
     rw[g.length]
     have:=merged_length_le ([]:List (bo×Value)) (c.zip j)
     rw[OT]at this
     simp only[OV]at this
     omega
    have k3:∀e o,S.heap.get? e=some o->h2.get? e=some o:=λe o w=>by
     have l:=IP w
     exact k2 e o (IY (I0 l (Nr _ _))) (IY (I0 l (Nr _ _))) (IY l) (IY (I0 l (Nr _ _))) (k _ _ w)
    have B:S.heap.objs.size<=E.objs.size:=MG (Mu (Nr _ 4) (IP J))
    exact#[.ref E.objs.size,_,d.laid k3 B (QE zl (beq_eq_false_iff_ne.mpr (Lr (IY (I0 d.big B)))) g dd),Z,q _ (d.hok.fresh B)]
end
section
variable {X:Cx}{st:Stmt}{ss:List Stmt}{e:Expr}{es:List Expr}
def Iu:TS:=λ_ _ _=>False
theorem uu:mh X ss Iu:=λ_ _ _ _ _ _ h=>False.elim h
end
end _L
namespace _L
open PySem PySem.Spec PyProof.Rows PySem.SeqAt
inductive Fd(K:Frag)(x y:V)(H:Hp)(Q:VK):Prop
 |mk(a b d e:_)(_:x= .ref a)(_:y= .ref b)(_:aA K H a d)(_:aA K H b e)(_:(d.all cQ=true/\e.all cQ=true/\Q (.bl (rR d e)) H)∨∃(w:Str) (c:Addr) (zs:List V) (u:Str) (i:Int),d=[.str w,.ref c]/\aA K H c zs/\e=[.str u,.int i]/\Q (.bl false) H)
theorem CY{X:Cx}(d:X.A.units+1 < cLine):eU X (compareOp .Eq) (Fd X.K):=by
 intro p s m H x y v U Q I f g h
 obtain⟨a,b,n,Y,rfl,rfl,k,l,h | ⟨w,c,M,u,i,rfl,o,rfl,q⟩⟩:=h
 ·exact CW (Nk d) p s m H _ _ v U Q I f g #[a,b,n,Y,Z,Z,k,l,h]
 cases f
 cases g
 obtain⟨N,r,P,_⟩:=I.tuple k
 obtain⟨O,R,t,_⟩:=I.tuple l
 obtain⟨S,V,z,_⟩:=I.tuple o
 cases r with
 |cons B r=>
  cases r with
  |cons C r=>
   cases r
   cases R with
   |cons D R=>
    cases R with
    |cons E R=>
     cases R
     obtain⟨T,rfl⟩:=B
     cases C
     obtain⟨F,rfl⟩:=D
     obtain⟨G,rfl⟩:=E
     refine eq_tupleAt (e:=λj=>if j=0 then w==u else false) (show s.heap.IsTuple a _ from P) (show s.heap.IsTuple b _ from t) (Nk d) (λj J L=>?_) ?_
     ·match j,J,L with
      |0,_,_=>exact EqAt.str_str w T u F
      |1,_,_=>exact EqAt.tuple_int i G (show s.heap.IsTuple c _ from z) (by simpa [Around.in1,Around.units] using d)
     ·have e:((List.range (min 2 2)).all (λj=>if j=0 then w==u else false)&&(2:Nat)==2)=false:=by
       show((if 0=0 then w==u else false)&&((if 1=0 then w==u else false)&&true)&&true)=false
       simp
      exact#[.bl false,H,I,LY Value.bool e,q]
end _L
namespace _L
open PySem PySem.Spec PyProof.Rows
theorem X4(l:Addr)(i:Array Value)(n:Nat)(D:Option Addr)(S:Array (Option Value)):
  Meets (Builtin.«enumerate.__new__» #[[.type "enumerate",.ref l],[]]) (λ_ R s=>s.heap.get? l=some { cls:=.type "tuple",dict:=D,data:=.seq i n,slots:=S }/\
   R (.ok (.ret (.ref (s.heap.push { cls:=.type "tuple_iterator",data:=.fields (List.toArray [.ref l,.int 0 0]) }).objs.size)))
    { s with heap:=(s.heap.push { cls:=.type "tuple_iterator",data:=.fields (List.toArray [.ref l,.int 0 0]) }).push { cls:=.type "enumerate",data:=.fields (List.toArray [.none,.bool false,.ref s.heap.objs.size,rawInt 0,.none,.none]) } }):=
 .of_wp λp w A R s h=>by
  obtain⟨e,g,d,t,os⟩:=s;obtain⟨H,h⟩:=h
  have b:=sub_enumerate
  have a:Heap.IsTuple (Shared.heap #[e,g,d,t,os]) l i:=#[_,H,Z,n,Z]
  wp_walk using Mv H
  refine wpAny_stack_any λst=>II ?_
  split
  ·rename_i c _ _ _ _ _
   cases (c==Value.type "enumerate")
   ·wp_walk using Mv H,No a
    exact#[_,Z,h]
   ·wp_walk using Mv H,No a
    exact#[_,Z,h]
  ·wp_walk using Mv H,No a
   exact#[_,Z,h]
section
variable {prog:Program}{w:World}{A:Around}{E:Value->Shared->Prop}{s:Shared}
theorem YK{Q:Value->Shared->Prop}(j:s.heap.IsTuple l i)
  (h:∀H,IsEnum H (s.heap.objs.size+1) s.heap.objs.size 0 .none->H.IsTupleIter s.heap.objs.size l 0->(∀b o,s.heap.get? b=some o->H.get? b=some o)->Q (.ref (s.heap.objs.size+1)) { s with heap:=H }):
  wpAny (model prog w) A (call (.type "enumerate") [.ref l]) Q E s:=by
 obtain⟨⟨c,d,D,S⟩,k,a,n,e⟩:=j
 replace a:c= .type "tuple":=a
 replace e:D= .seq i n:=e
 subst a e
 refine callType_new PySem.F.called_enumerate Pm (PySem.F.typeCall_enumerate_1 _) (PySem.F.newCall_enumerate_1 _) (λO=>ND O _) PySem.F.entry_enumerate_new (X4 l i n d S) #[k,?_]
 have f:(s.heap.push { cls:=.type "tuple_iterator",data:=.fields (List.toArray [.ref l,.int 0 0]) }).objs.size=s.heap.objs.size+1:=LL ..
 show _/\_
 rw[f]
 have g:IsEnum ((s.heap.push { cls:=.type "tuple_iterator",data:=.fields (List.toArray [.ref l,.int 0 0]) }).push { cls:=.type "enumerate",data:=.fields (List.toArray [.none,.bool false,.ref s.heap.objs.size,rawInt 0,.none,.none]) }) (s.heap.objs.size+1) s.heap.objs.size 0 .none:=by
  have:=IM (s.heap.push { cls:=.type "tuple_iterator",data:=.fields (List.toArray [.ref l,.int 0 0]) }) (o:={ cls:=.type "enumerate",data:=.fields (List.toArray [.none,.bool false,.ref s.heap.objs.size,rawInt 0,.none,.none]) }) Z
  rw[f]at this;exact this
 exact#[#[_,g,Z],h _ g #[_,IH _ (IM _ Z),Z,Z] λb o x=>IH _ (IH _ x)]
theorem wm{c:Type}{Q:c->Shared->Prop}(d:A.handled=none)
  (h:∀H (e:Addr),(∀b o,s.heap.get? b=some o->H.get? b=some o)->Shared.TypeIs { s with heap:=H } (.ref e) "StopIteration"->E (.ref e) { s with heap:=H }):
  wpAny (model prog w) A (do raiseNew (<- newExc (.type "StopIteration") []):Sem c) Q E s:=by
 refine IF ?_
 simp only[newExc,newTuple]
 refine IF (Lv ?_ (by size_fits))
 refine IF (m:=firstArgMember _ _) (OG (a:=Value.none) ?_ ?_)
 ·first |rfl | (simp only[firstArgMember];rfl)
 refine Lv ?_ (by size_fits)
 simp only[raiseNew]
 refine IF (wpAny_handled ?_)
 rw[d]
 refine IF (II (wpAny_throw (h _ _ (λb o e=>IH _ (IH _ e)) ?_)))
 exact#[_,IM _ Z,Z]
theorem KD{J T:Addr}{i:Nat}{I:Array Value}{Q:Value->Shared->Prop}(g:A.handled=none)(H:s.heap.IsTupleIter J T i)(j:s.heap.IsTuple T I)(l:I[i]?=none)
  (q:∀h (e:Addr),Heap.ExtBut J s.heap h->Shared.TypeIs { s with heap:=h } (.ref e) "StopIteration"->E (.ref e) { s with heap:=h }):wpAny (model prog w) A (Builtin.SmallTypes.nextOf (.ref J)) Q E s:=by
 obtain⟨o,a,p,c⟩:=id H
 obtain⟨O,d,_,N,f⟩:=j
 unfold Builtin.SmallTypes.nextOf
 refine IF (Lw (name:=Str.ofString "__next__") H.typeIs LW (Ls LW H.typeIs Ng (show wpAny _ _ (field (.ref J) 0 >>= _) _ _ s from ?_) (M9 _)))
 refine IF (Lk a c (x:=.ref T) Z (show wpAny _ _ (if (Value.ref T==Value.none)=true then _ else _) _ _ s from ?_))
 rw[IX (show ¬((Value.ref T==Value.none)=true) from IW)]
 refine(show wpAny _ _ (field (.ref J) 1 >>= _) _ _ s from IF (Lk a c (x:=.int i 0) Z (show wpAny _ _ (seqItems? (.ref T) >>= _) _ _ s from IF (Ma d f ?_))))
 simp only[Md,l]
 refine IF (MX (IF (LJ a c Po ?_)))
 refine wm (by simpa using g) λh e k t=>q h e (λb o m n=>k b o ?_) t
 exact(K' _ _ (Lr m)).trans n
theorem Z6(m:A.handled=none)(a l:Addr)(d:l≠a)(I:Array Value):
  Draws prog w A a [a,l] I.size (λi v=>I[i]?=some v) (λi h=>h.IsTupleIter a l i/\h.IsTuple l I) where
 live:=λ_ _ st=>let #[o,H,_]:=st.1;#[o,H]
 frame:=λ_ _ _ st g=>#[st.1.at λo e=>g a Po o e,let #[o,H,r]:=st.2;#[o,g l Po o H,r]]
 item:=λi s Q E j st n=>KC st.1 st.2 (x:=I[i]) (by simp [j]) λf b c=>n _ f s.toks (by simp [j]) #[b,let #[o,H,r]:=st.2;#[o,c.extBut l o d H,r]] c
 done:=λs Q E st p=>KD m st.1 st.2 Po λf e k t=>p f e k t
theorem YL(c:A.handled=none)(a l:Addr)(I:Array Value)(i:Nat)(d:I[i]?=none):
  Draws prog w A a [a,l] i (λ_ _=>True) (λj h=>j=i/\h.IsTupleIter a l i/\h.IsTuple l I) where
 live:=λ_ _ st=>let #[o,H,_]:=st.2.1;#[o,H]
 frame:=λ_ _ _ st b=>#[st.1,st.2.1.at λo e=>b a Po o e,let #[o,H,r]:=st.2.2;#[o,b l Po o H,r]]
 item:=λj s Q E f st n=>absurd st.1 (IY f)
 done:=λs Q E st g=>KD c st.2.1 st.2.2 d λm e k t=>g m e k t
end
noncomputable def Bh(K:Frag)(a:Addr):It:=
 #[λi H=>∃X x,aA K H a X/\X[i]?=some x,λi H x h=>∃p v,x= .ref p/\H p=none/\h=ah H p (.tup [.int i,v])/\∀X,aA K H a X->X[i]?=some v,λi H=>∃X,aA K H a X/\X.length<=i]
theorem YM{P:Program}{K:Frag}(a e g:Addr)(r:e≠g):nC P w K (.Tuple e0 kx tp) (Bh K a) [e,g] e (λi h=>(∃O,IsEnum h e g i O)/\h.IsTupleIter g a i) where
 mem:=by simp
 obj:=λi h st b hb=>by
  obtain⟨⟨O,j⟩,⟨o,ei,c,d⟩⟩:=st
  rcases List.mem_cons.mp hb with rfl |hb
  ·exact#[_,j,λv z=>by cases (show Data.fields _=Data.cell v from z)]
  ·have q:b=g:=by simpa using hb
   subst q
   exact#[o,ei,λv z=>by rw[d]at z;cases z]
 keep:=λi h A st k=>#[let #[O,j]:=st.1;#[O,k e Po _ j],st.2.at λo q=>k g Po o q]
 item:=by
  intro X Q S T U i f s J H E I L st W
  subst Q S T
  obtain⟨⟨O,j⟩,l⟩:=st
  obtain⟨xs,x,M,N⟩:=W
  obtain⟨m,R,p,hz⟩:=I.tuple M
  obtain⟨u,hu,ru⟩:=R.get N
  have Y:e < s.heap.objs.size:=IP j
  have l0:g < s.heap.objs.size:=by obtain⟨_,q,_⟩:=l;exact IP q
  have h0:a≠g:=λz=>by rw[z]at p;obtain⟨o1,e1,c1,_⟩:=l;obtain⟨o2,B,c2,_⟩:=p;rw[e1]at B;cases B;exact absurd (c1.symm.trans c2) Pm
  have h1:e∉[g,a]:=λz=>by
   rcases List.mem_cons.mp z with z |z
   ·exact r z
   ·rw[List.mem_singleton.mp z]at j;obtain⟨o2,B,c2,_⟩:=p;unfold IsEnum at j;rw[j]at B;cases B;exact absurd (show Value.type "enumerate"=Value.type "tuple" from c2) Pm
  refine wpAny_pyNext_enum_itemD (Z6 (by simpa using I.ok.hd U) g a h0 m.toArray) j #[l,p] (by have:=R.length;have:=(List.getElem?_eq_some_iff.mp N).1;simp;omega) r h1 λx' A t C ho y hT h4 hk=>#[_,Z,?_]
  have D:=y.1
  have ex:u=x':=by
   have h2:m.toArray[i]?=some u:=by simpa using hu
   rw[h2]at C
   exact LB C
  subst ex
  have hn:H s.heap.objs.size=none:=I.hok.fresh (IK _)
  have I1:aq X f J H { s with heap:=A,toks:=t+1 }:=I.turnedN L λb o hb q=>hk b o (λz=>hb (by simp [z])) (λz=>hb (by simp [z])) q
  have r2:aB [V.int i,x] [Value.int i t,u]:=.cons #[_,Z] (.cons ru .nil)
  have I2:aq X f J (ah H s.heap.objs.size (.tup [.int i,x])) { s with heap:=A,toks:=t+1 }:=
   I1.track (I.fpOk (IK _) hn) I.sz #[by show 2<=sizeLine;decide,_,r2,_,hT,Z,_,Z]
  have F:∀b∈[e,g],fQ X f (ah H s.heap.objs.size (.tup [.int i,x])) b:=λb hb=>by
   obtain⟨f0,f1⟩:=L b hb
   refine#[?_,f1]
   rw[jh]
   ·exact f0
   ·rcases List.mem_cons.mp hb with rfl |hb
    ·exact IY Y
    ·have q:b=g:=by simpa using hb
     subst q
     exact IY l0
  refine wpAny_letOwnedTupleGo_enum (s:={ s with heap:=A,toks:=t+1 }) ho λG h3 n=>?_
  replace n:Heap.SameBut e A G:=n
  have I3:aq X f J (ah H s.heap.objs.size (.tup [.int i,x])) { s with heap:=G,toks:=t+1 }:=I2.turnedN F λb o hb q=>(n.2 b λz=>hb (by simp [z])).trans q
  refine#[.ref s.heap.objs.size,_,I3,Z,#[_,x,Z,hn,Z,λys hy=>by rw[I.tuple_inj hy M];exact N],#[#[u,by simpa using h3],D.at λo q=>(n.2 g r.symm).trans q],λb hb=>(F b hb).1]
 done:=by
  intro X Q S T U i f s J H E I L st W
  subst Q S T
  obtain⟨⟨O,j⟩,l⟩:=st
  obtain⟨xs,M,N⟩:=W
  obtain⟨m,R,p,hz⟩:=I.tuple M
  have hl:=R.length
  refine wpAny_pyNext_enum_endD (YL (by simpa using I.ok.hd U) g a m.toArray i (by simp;omega)) j #[Z,l,p] λA eb=>#[Z,?_]
  exact I.turnedN (t':=s.toks) L λb o hb q=>eb b o (λz=>hb (by simp [z])) q
 self:=λ_ _ _ _ _ st h=>by
  obtain⟨⟨O,j⟩,_⟩:=st
  exact wpAny_pyIter_enum j h
section
variable {X:Cx}{elts:List Expr}{kx:Nat}{tp:Pos}
inductive nU(K:Frag)(R:It->Hp->Prop)(c:List V)(b:Hp):Prop
 |mk(a:_)(_:c=[.ref a])(_:∃xs,aA K b a xs)(_:R (Bh K a) b)
def BL(K:Frag)(t:TA):TI:=λa H R=>t a H (nU K R)
theorem q9(g:Gl X "enumerate")(j:X.mg "enumerate"=none)(k:PA X [a] t)(m:starEach [a] X.env=[(false,eval a X.env)]:=by rfl):PI X (.Tuple elts kx tp) (.Call (.Name "enumerate" p) [a] [] c) (BL X.K t):=by
 intro P s n H R I h
 refine Call_ (zp I g j PyProof.Rows.boot_enumerate (Lx (aU (k c P s n H _ I h) λU S z=>?_) m Z))
 obtain⟨V,o,i,u,Q⟩:=z
 obtain⟨l,e,⟨A,v⟩,q⟩:=Q
 subst e
 cases u with
 |cons r w=>
  cases w
  cases r
  obtain⟨x,B,p,C⟩:=i.tuple v
  refine YK p λD f d y=>?_
  refine wpAny_pyIter_enum f ?_
  refine#[S.heap.objs.size+1,[S.heap.objs.size+1,S.heap.objs.size],_,_,o,Z,i.kept (t':=S.toks) y,YM l _ _ (LN (Mt _)),#[#[_,f],d],λb hb=>?_,q]
  rcases List.mem_cons.mp hb with rfl |hb
  ·exact i.fpOk (LH _) (i.hok.fresh (LH _))
  ·have e:b=S.heap.objs.size:=by simpa using hb
   subst e
   exact i.fpOk (IK _) (i.hok.fresh (IK _))
end
theorem zZ{K:Frag}{xs:List V}{g:TG}{t:TS}{D:bp}(Pv:Nat->St->Hp->Prop)(j:Pv 0 b H)(k:∀i b H,i<=xs.length->Pv i b H->aA K H a xs)
  (l:∀E:bp,E.rt=D.rt->∀i x p b H,xs[i]?=some x->H p=none->(∀c e,Pv (i+1) c e->E.nx c e)->∀G:Prop,((g (.ref p) b (ah H p (.tup [.int i,x])) λf n=>t E f n)->G)->Pv i b H->G) (o:∀b H,Pv xs.length b H->D.nx b H):oN (Bh K a) g t D b H:=by
 refine#[λi m b H=>m=xs.length - i/\i<=xs.length/\Pv i b H,#[xs.length,Po,IS _,j],?_]
 rintro i m b H ⟨rfl,s,p⟩
 have q:=k i b H s p
 by_cases d:i < xs.length
 ·refine .inr #[#[xs,xs[i],q,IG d],Pv (i+1),λc e P=>#[xs.length - (i+1),Pn,Z,d,P],λx e y=>?_]
  obtain⟨r,v,rfl,u,rfl,w⟩:=y
  exact l { D with nx:=Pv (i+1),ct:=Pv (i+1),bk:=D.nx } Z i v r b H (w xs q) u (λ_ _ h=>h) _ (λz=>z) p
 ·exact .inl #[#[xs,q,Pn],o _ _ (by rw[show xs.length=i by omega];exact p)]
abbrev Ip(K:Frag)(i j:Nat):TG:=sj K 2 (eI (bG i) (eI (bG j) xq))
theorem EN{t:St}(h:t.length=2):∃a b,t=[a,b]:=by
 cases t with
 |nil=>cases h
 |cons a r=>
  cases r with
  |nil=>cases h
  |cons b R=>
   cases R with
   |nil=>exact#[a,b,Z]
   |cons _ _=>cases h
theorem X5{K:Frag}{X:List V}{t:TE}{n:List V->Hp->Prop}(f:Nat->V)(u:X.length<=sizeLine)(b:aJ K H a X)
  (p:∀(i:Nat) (x:V),X[i]?=some x->∃q y z,x= .ref q/\aA K H q [y,z]/\∀Q:VK,Q (f i) H->t (some y::some z::c) H Q) (r:n ((List.range X.length).map f) H):
  eh (wz K a) 2 c (Ip K 0 1) mW t n H:=by
 refine#[λi m o d=>m=X.length - i/\i<=X.length/\o=(List.range i).map f/\d=H,#[X.length,Po,IS _,Po,Z],?_]
 rintro i m o d ⟨rfl,w,rfl,rfl⟩
 by_cases h:i < X.length
 ·refine .inr #[#[X,X[i],b,IG h],?_,λY g=>Y=(List.range (i+1)).map f/\g=d,λY g #[P,s]=>#[X.length - (i+1),Pn,Z,h,P,s],λv g T j y=>?_]
  ·rw[IJ,NO]
   omega
  obtain⟨e,y⟩:=y
  subst e
  obtain⟨q,A,B,rfl,k,l⟩:=p i v (y X b)
  obtain⟨C,D,rfl⟩:=EN j
  refine#[q,_,Z,k,Z,_,_,Z,_,_,Z,Z,#[[some _,some _],Z,Z],l _ #[?_,Z]]
  rw[List.range_succ,Ln]
  rfl
 ·have e:i=X.length:=by omega
  subst e
  exact .inl #[#[X,b,IK _],r]
def Bf(K:Frag)(A:Addr)(t:Gy)(b:TS):TS:=λD a H=>t D (λx C d _ h=>mroIn K C (.ref A)=some true/\∀T,h T=none->b D a (ah (ah h T (gH T)) x (gR C d T x))) a H
section
variable {X:Cx}{st a₀ b₀:Stmt}{as bs:List Stmt}{tb:Gy}{ta tc:TS}{ca cb:Str}{np np' hp hp' pos:Pos}{A B:Addr}
theorem yr(a:X.stack=X.env::X.outer)(J:X.env.frame=some X.env.locals)(hb:Ib X st tb)(hg:Gl X ca)(hm:X.mg ca=some (.ref A))(hA:clsIn X.K A≠none)(tA:typeIn X.K (.ref A)=some (.type "type"))(mA:mroIn X.K A (.type "BaseException")=some true)
  (hs:∀e,mh (X.mark e λ_ _=>False) (a₀::as) ta) (L:(ca==("__debug__":Str))=false:=by decide):
  PS X (.Try [st] [.ExceptHandler (some (.Name ca np)) none (a₀::as) hp] [] [] pos) (Bf X.K A tb ta):=by
 intro p s M H D I h
 refine wpAny_Try_except (O8 (LS (hb p s M H D _ I h) (λf b q=>?_) λe b q=>?_))
 ·cases f with
  |next=>exact Nn (Nn q)
  |ret v=>exact q
  |brk=>exact q
  |cont=>exact q
 obtain⟨x,C,d,T,N,rfl,l,Y,hT,m,q⟩:=q
 obtain⟨⟨ox,vs,h1,h2,h3,h4,O,h6⟩,_⟩:=l.hok x _ Y
 obtain⟨⟨oT,G,t1,t2,t3⟩,_⟩:=l.hok T _ hT
 have o:=(Array.getElem?_eq_some_iff.mp h6).1
 have P:X.A.frames=some (X.env::X.outer):=by rw[<- a];exact l.ok.frames
 have R:b.heap.FunFrames X.base (X.env::X.outer):=by rw[<- a];exact l.stack
 refine Qn (base:=X.base) P R J h1 O h6 m t1 t2 t3 λg2 Nd=>?_
 have u:(eG T b.heap).get? x=some ox:=(K' _ _ m).trans h1
 refine BU (s:={ b with heap:=g2 }) Nd u O o λg3 U=>?_
 obtain⟨t,hn,E,i⟩:=(l.cleared hT t1 t2 t3).noted (C:=C) (d:=d) (t':=b.toks) Y u h2 h4 O o (by unfold iQ;rw[a];exact U)
 have i:aq X p M (ah (ah N t (gH t)) x (gR C d t x)) { b with heap:=g3 }:=i
 obtain⟨⟨o1,v0,k1,k2,k3,k4,k5,k6⟩,_⟩:=i.hok x _ jc
 have F:ah (ah N t (gH t)) x (gR C d t x) t=some (gH t):=by rw[jh E,jc]
 obtain⟨⟨o2,t0,u1,u2,u3⟩,_⟩:=i.hok t _ F
 have g:∀{E':Value->Shared->Prop} {c:Stmt} {V:List Stmt} {G:TS} {hp:Pos},(∀e,mh (X.mark e λ_ _=>False) (c::V) G)->G D M (ah (ah N t (gH t)) x (gR C d t x))->codeAny (model X.prog X.w) (X.A.mark (some (.ref x))) (Code.handlers (.ref x) [.ExceptHandler none none (c::V) hp] X.env) (λr S=>match r with | .ok f=>SP X p D f S | .error y=>cameBackBy (model X.prog X.w) X.A X.env E' y S) { b with heap:=g3 }:=by
  intro E' c V G hp hz qz
  refine codeAny_handlers_suite ?_
  unfold setFlight
  refine IF (Lk k1 k5 k6 ?_)
  rw[IU (show(Value.ref t != Value.none)=true from by simp)]
  refine LJ u1 u2 (Array.getElem?_eq_some_iff.mp u3).1 ?_
  have I4:=i.cleared F u1 u2 u3
  refine LS (hz (.ref x) p _ _ _ D (I4.mark (.ref x) λ_ _=>False) qz) (λf s6 Q=>?_) λ_ _ z=>z.elim
  cases f with
  |next=>obtain⟨j,W,k,n⟩:=Q;exact#[_,_,k.unmark I.ok,n]
  |brk=>obtain⟨j,W,k,n⟩:=Q;exact#[_,_,k.unmark I.ok,n]
  |cont=>obtain⟨j,W,k,n⟩:=Q;exact#[_,_,k.unmark I.ok,n]
  |ret v=>obtain⟨y,j,W,k,rv,n⟩:=Q;exact#[y,_,_,k.unmark I.ok,rv,n]
 obtain⟨mC,q⟩:=q
 refine wpAny_handleBy_cons (codeAny_handlers_test ?_) (by intro z;cases z)
 refine zC (i.mark (.ref x) λ_ _=>False) hg hm ?_ L
 refine KR i.kIn k1 k2 hA tA mA mC _ _ _ _ (λ_ _ e=>e) ?_
 exact g hs (q t hn)
end
section
variable {X:Cx}
theorem xM:DY X "dict.pop" (λx b H Q=>∃(a:Addr) (K:List (bo×V)) (k:bo) (v:V),x= .ref a/\b=[kV k]/\H a=some (.dK K)/\bN K k=some v/\Q v (ah H a (.dK (iP K k)))):=by
 intro p s g H x b v U Q I r R h
 obtain⟨a,K,k,c,rfl,rfl,e,l,q⟩:=h
 obtain⟨u,rfl,d⟩:=aB.one R
 cases r
 exact Eu I e d l (.inl Z) λw S i f=>#[c,_,i,f,q]
end
end _L
namespace _L
open PySem PySem.Spec PyProof.Rows PySem.SeqAt PySem.W
noncomputable def lg:List Int->List Int->Bool
 | [],[]=>false
 | [],_::_=>true
 |_::_,[]=>false
 |a::p,b::q=>if a=b then lg p q else decide (a < b)
theorem Xq:∀{p q:List Int},lg p q=true->lg q p=false
 | [],[],h=>by cases h
 | [],_::_,_=>rfl
 |_::_,[],h=>by cases h
 |a::p,b::q,h=>by
  have h:(if a=b then lg p q else decide (a < b))=true:=h
  show(if b=a then lg q p else decide (b < a))=false
  by_cases e:a=b
  ·rw[IU e]at h
   rw[IU e.symm]
   exact Xq h
  ·rw[IX e]at h
   rw[IX (Lr e)]
   have:=Mb h
   exact IQ Pn
section
variable {prog:Program}{w:World}{A:Around}{E:Value->Shared->Prop}{s:Shared}{Q:Bool->Shared->Prop}
theorem Z7(f:Bool)(h:Q (decide (a < b)) s):wpAny (model prog w) A (oneLt' f (.int a t) (.int b u)) Q E s:=by
 cases f with
 |true=>exact oneLt_int h
 |false=>exact kat_one _ _ (lt_int h)
theorem Xr:∀{p q:List Int} {U v:List Value},aB (p.map V.int) U->aB (q.map V.int) v->∀i,f=decide (p.length < q.length)->Q (lg p q) s->KatLex prog w A b f Q (U.zip v) i s
 | [],[],_,_,.nil,.nil,_,e,h=>by subst e;exact h
 | [],_::_,_,_,.nil,.cons _ _,_,e,h=>by subst e;exact h
 |_::_,[],_,_,.cons _ _,.nil,_,e,h=>by subst e;exact h
 |x::p,y::q,_,_,.cons #[t,c] r,.cons #[u,d] R,i,e,h=>by
  subst c
  subst d
  have h:Q (if x=y then lg p q else decide (x < y)) s:=h
  refine kat_cons (EqAt.int_int x t y u prog w _ _ ?_)
  by_cases H:x=y
  ·rw[IU H]at h
   rw[beq_iff_eq.mpr H]
   refine kat_yes (Xr r R (i+1) ?_ h)
   rw[e]
   show decide (p.length+1 < q.length+1)=_
   by_cases a:p.length < q.length
   ·rw[IV a,IV Pn]
   ·rw[IQ a,IQ Pn]
  ·rw[IX H]at h
   rw[beq_eq_false_iff_ne.mpr H]
   exact kat_no (Z7 _ h)
def At(h:Heap)(v:Value)(p:List Int):Prop:=∃a o u n,v= .ref a/\h.get? a=some o/\o.cls= .type "tuple"/\o.data= .seq u n/\aB (p.map V.int) u.toList
theorem FP(c:At s.heap x p)(d:At s.heap y q)(h:Q (lg p q) s):wpAny (model prog w) A (keyLt' (tuples' b) x y) Q E s:=by
 obtain⟨a,o,U,n,rfl,e,_,f,H⟩:=c
 obtain⟨i,O,u,N,rfl,K,_,g,k⟩:=d
 refine kat_lt e f K g (Xr H k 0 ?_ h)
 have l:=H.length
 have L:=k.length
 rw[IJ]at l L
 rw[<- Ld,<- Ld,<- l,<- L]
def dX(l:Nat->Nat->Bool)(n:Nat){b:Type}(R:b->Prop):KasT b->Prop
 | .ret a=>R a
 | .ask i j k=>i < n/\j < n/\dX l n R (k (l i j))
theorem dX.bind{b c:Type}{R:b->Prop}{S:c->Prop}{f:b->KasT c}(H:∀a,R a->dX l n S (f a)):∀{t:KasT b},dX l n R t->dX l n S (t.bind f)
 | .ret _,h=>H _ h
 | .ask _ _ _,z=>by obtain⟨d,e,g⟩:=z;exact #[d,e,dX.bind H g]
theorem dX.wp{l:Nat->Nat->Bool}{n:Nat}{b:Type}{R:b->Prop}{c:Nat->Nat->(Bool->Shared->Prop)->Shared->Prop}(H:∀i j (C:Bool->Shared->Prop),i < n->j < n->C (l i j) s->c i j C s){G:b->Shared->Prop}(d:∀a,R a->G a s):∀{t:KasT b},dX l n R t->t.kasWp c G s
 | .ret _,h=>d _ h
 | .ask i j _,z=>by obtain⟨e,f,g⟩:=z;exact H i j _ e f (dX.wp H d g)
theorem Zf:∀{vs:List Value} {ps:List (List Int)},vs.length=ps.length->(∀(i:Nat) (v:Value) (p:List Int),vs[i]?=some v->ps[i]?=some p->At h v p/\p≠[])->∃F:List Value,F.length=vs.length/\(∀f∈F,∃i t,f= .int i t)/\KatTups h vs F
 | [],[],_,_=>#[[],Z,λ_ z=>(nomatch z),trivial]
 | [],_::_,e,_=>by cases e
 |_::_,[],e,_=>by cases e
 |v::vs,p::ps,e,k=>by
  obtain⟨F,g,j,l⟩:=Zf (vs:=vs) (ps:=ps) (by simpa using e) λi v p b c=>k (i+1) v p (by simpa using b) (by simpa using c)
  obtain⟨⟨a,o,U,n,rfl,b,c,m,H⟩,q⟩:=k 0 v p Z Z
  cases p with
  |nil=>exact absurd Z q
  |cons i p=>
   cases d:U.toList with
   |nil=>rw[d]at H;cases H
   |cons u r=>
    rw[d]at H
    cases H with
    |cons R y=>
     obtain⟨t,rfl⟩:=(show ∃t,u=Value.int i t from R)
     have x:U[0]?=some (Value.int i t):=by rw[<- Mr,d];rfl
     exact#[Value.int i t::F,by simp [g],λf hf=>by
      rcases List.mem_cons.mp hf with rfl |hf
      ·exact#[_,_,Z]
      ·exact j f hf,KatTups.cons b c m x l]
theorem YN{V:List Value}{d:List (List Int)}{P:Fin->Shared->Prop}(u:s.heap.get? a=some (seqObj "list" V.toArray n))(I:V.length=d.length)(N:2<=V.length)(y:V.length < 64)
  (O:∀(i:Nat) (v:Value) (p:List Int),V[i]?=some v->d[i]?=some p->At s.heap v p/\p≠[]/\v≠ .ref a) {R:Array Nat->Prop} (U:dX (λi j=>lg (d.getD i []) (d.getD j [])) d.length R (kas_sort d.length))
  (h:∀p,R p->P (.done (.ret .none)) { s with heap:=sortedHeap s.heap a V (p.toList.map λi=>V.getD i Value.none).toArray }):
  wpAny (model prog w) A (Builtin.«list.sort» #[[.ref a],[]]) P E s:=by
 rw[list_sort_plain]
 have la:a < s.heap.objs.size:=IP u
 refine IF (listItems_at u Z ?_)
 refine IF (NT u Z ?_)
 obtain⟨g,J⟩:∃g,(s.heap.update a (Obj.mapSeq λ_=>(List.toArray []))).get? a=some (seqObj "list" (List.toArray []) g):=#[_,get?_update_seq u (λ_=>(List.toArray []))]
 refine IF (OF J Z ?_)
 refine IF (Nw ?_ (by show V.length<=_;rw[MU];omega))
 refine IF (Nh ?_)
 refine Lj ?_
 have K:(((s.heap.update a (Obj.mapSeq λ_=>(List.toArray []))).push (seqObj "tuple" V.toArray 0)).push (seqObj "list" (List.toArray []) 0)).get? a=some (seqObj "list" (List.toArray []) g):=IH _ (IH _ J)
 have k:∀c v,c≠a->s.heap.get? c=some v->(((s.heap.update a (Obj.mapSeq λ_=>(List.toArray []))).push (seqObj "tuple" V.toArray 0)).push (seqObj "list" (List.toArray []) 0)).get? c=some v:=λc v W e=>
  IH _ (IH _ (by rw[Heap.get?_update_ne _ _ _ _ W];exact e))
 show wpAny (model prog w) A _ P E { s with heap:=((s.heap.update a (Obj.mapSeq λ_=>(List.toArray []))).push (seqObj "tuple" V.toArray 0)).push (seqObj "list" (List.toArray []) 0) }
 dsimp only
 have H:∀(i:Nat) (v:Value) (p:List Int),V[i]?=some v->d[i]?=some p->At (((s.heap.update a (Obj.mapSeq λ_=>(List.toArray []))).push (seqObj "tuple" V.toArray 0)).push (seqObj "list" (List.toArray []) 0)) v p/\p≠[]:=λi v p B x=>by
  obtain⟨⟨b,o,X,m,rfl,Y,b2,b3,b4⟩,l,D⟩:=O i v p B x
  exact#[#[b,o,X,m,Z,k _ _ (λz=>D (by rw[z])) Y,b2,b3,b4],l]
 obtain⟨fs,f1,f2,f3⟩:=Zf I H
 have q:¬V.toArray.size < 2:=by rw[IN];omega
 rw[IX q,IX q]
 refine IF (kat_kind (T:=.type "int") f3 Pn (λf hf=>?_) Pm ?_)
 ·obtain⟨i,t,rfl⟩:=f2 f hf
  exact Looks.of_pure Z
 refine IF (LS (kat_run (Q:=λS r=>r={ s with heap:=((s.heap.update a (Obj.mapSeq λ_=>(List.toArray []))).push (seqObj "tuple" V.toArray 0)).push (seqObj "list" (List.toArray []) 0) }/\∃p,R p/\(arrOf S).map (·.2)=(p.toList.map λi=>V.getD i Value.none).toArray/\failedOf S=none/\(arrOf S).size=V.length)
  (G:=λp r=>r={ s with heap:=((s.heap.update a (Obj.mapSeq λ_=>(List.toArray []))).push (seqObj "tuple" V.toArray 0)).push (seqObj "list" (List.toArray []) 0) }/\R p) Z N y (λp S r B x a3 L=>#[L.1,p,L.2,?_,a3,?_]) (dX.wp (n:=d.length) (R:=R) (λi j C F hj hC=>?_) (λp l=>#[Z,l]) (by rw[I];exact U))) ?_ λ_ _ e=>e)
 ·rw[kat_snds Z x]
 ·rw[x,Array.size_map,B]
 ·have M:∀i,i < d.length->At (((s.heap.update a (Obj.mapSeq λ_=>(List.toArray []))).push (seqObj "tuple" V.toArray 0)).push (seqObj "list" (List.toArray []) 0)) (V.getD i Value.none) (d.getD i []):=λi F=>by
   have g:V[i]?=some (V.getD i Value.none):=by rw[LZ,IG (by omega:i < V.length)];rfl
   have e2:d[i]?=some (d.getD i []):=by rw[LZ,IG F];rfl
   exact(H i _ _ g e2).1
  exact FP (M i F) (M j hj) hC
 rintro ⟨⟨⟩,S⟩ r ⟨rfl,p,l,q1,q2,q3⟩
 dsimp only
 refine IF (OF K Z ?_)
 refine IF (NT K Z ?_ (hsz2:=by rw[Array.size_map,q3,MU];omega))
 rw[q2]
 simp only[Mc,I8,Mj]
 refine II ?_
 rw[q1]
 exact h p l
theorem Zg{l:Nat->Nat->Bool}{p:Array Nat}(H:∀i,i < n->p.getD i 0=i)(h:∀i,i+1 < n->l (i+1) i=false):∀f m,1<=m->m+f=n->dX l n (λr=>r=n) (kas_asc p f m)
 |0,m,_,e=>by show m=n;omega
 |f+1,m,d,e=>by
  have a:=H m Pn
  have b:=H (m - 1) Pn
  have c:=h (m - 1) Pn
  rw[show m - 1+1=m by omega]at c
  refine#[by rw[a];omega,by rw[b];omega,?_]
  rw[a,b,c]
  exact Zg H h f (m+1) Pn Pn
theorem vA{l:Nat->Nat->Bool}(b:2<=n)(h:∀i,i+1 < n->l (i+1) i=false):dX l n (λp=>p=List.toArray (List.range n)) (kas_sort n):=by
 refine dX.bind (R:=λr=>r=(n,List.toArray (List.range n))) (λr H=>?_) (dX.bind (R:=λr=>r=n) (λr H=>?_) (Zg (p:=List.toArray (List.range n)) (λi a=>by simp [Array.getD,a]) h (n - 1) 1 (IK 1) Pn))
 ·subst H
  show dX l n _ (if n < n then _ else _)
  rw[IX (LO n)]
  rfl
 ·subst H
  show dX l r _ (if (r==r)=true then _ else _)
  rw[IU (NW r)]
  rfl
end
section
variable {prog:Program}{w:World}{A:Around}{E:Value->Shared->Prop}{s:Shared}
theorem YO{P:Fin->Shared->Prop}(H:s.heap.get? a=some (seqObj "list" ([]:List Value).toArray n))
  (h:P (.done (.ret .none)) { s with heap:=sortedHeap s.heap a ([]:List Value) (List.toArray []) }):wpAny (model prog w) A (Builtin.«list.sort» #[[.ref a],[]]) P E s:=by
 rw[list_sort_plain]
 refine IF (listItems_at H Z ?_)
 refine IF (NT H Z ?_)
 obtain⟨e,b⟩:∃e,(s.heap.update a (Obj.mapSeq λ_=>(List.toArray []))).get? a=some (seqObj "list" (List.toArray []) e):=#[_,get?_update_seq H (λ_=>(List.toArray []))]
 refine IF (OF b Z ?_)
 refine IF (Nw ?_)
 refine IF (Nh ?_)
 refine Lj ?_
 have g:(((s.heap.update a (Obj.mapSeq λ_=>(List.toArray []))).push (seqObj "tuple" ([]:List Value).toArray 0)).push (seqObj "list" (List.toArray []) 0)).get? a=some (seqObj "list" (List.toArray []) e):=IH _ (IH _ b)
 show wpAny (model prog w) A _ P E { s with heap:=((s.heap.update a (Obj.mapSeq λ_=>(List.toArray []))).push (seqObj "tuple" ([]:List Value).toArray 0)).push (seqObj "list" (List.toArray []) 0) }
 dsimp only
 have S:([]:List Value).toArray.size < 2:=by show 0 < 2;decide
 rw[IU S,IU S]
 refine IF (II ?_)
 rw[StateT.run_pure]
 refine IF (II ?_)
 dsimp only
 refine IF (OF g Z ?_)
 have c:(arrOf (SortSt.mk' general' (([]:List Value).toArray.zip ([]:List Value).toArray) (List.toArray []) 7 none)).map (·.2)=(List.toArray []):=by
  show(([]:List Value).toArray.zip ([]:List Value).toArray).map (·.2)=(List.toArray [])
  simp
 rw[c]
 refine IF (NT g Z ?_ (hsz2:=by show 0<=sizeLine+1;omega))
 simp only[Mc,I8,Mj]
 exact II h
theorem yY{vs:List Value}{ps:List (List Int)}{Q:Value->Shared->Prop}(q:s.heap.IsList l vs.toArray)(H:vs.length=ps.length)(r:2<=vs.length)(b:vs.length < 64)
  (t:∀(i:Nat) (v:Value) (p:List Int),vs[i]?=some v->ps[i]?=some p->At s.heap v p/\p≠[]) {R:Array Nat->Prop} (u:dX (λi j=>lg (ps.getD i []) (ps.getD j [])) ps.length R (kas_sort ps.length))
  (h:∀p,R p->Q (.ref (s.heap.objs.size+1)) { s with heap:=sortedAll s.heap vs (p.toList.map λi=>vs.getD i Value.none).toArray }):wpAny (model prog w) A (call (.builtin "sorted") [.ref l]) Q E s:=by
 refine Nc kind_sorted plain_sorted entry_sorted (args_sorted1 _) ?_
 unfold Builtin.«sorted»
 refine IF (m:=checkCount "sorted" 1 1 _) (II ?_)
 refine IF (collect_list q ?_ (by rw[MU];omega))
 refine IF (Nh ?_ (by rw[MU];omega))
 have f:((s.heap.push (seqObj "list" (List.toArray []) 0)).update s.heap.objs.size (Obj.mapSeq (·++vs.toArray))).objs.size=s.heap.objs.size+1:=by rw[Pe,size_push']
 have g:(((s.heap.push (seqObj "list" (List.toArray []) 0)).update s.heap.objs.size (Obj.mapSeq (·++vs.toArray))).push (seqObj "list" vs.toArray 0)).get? (s.heap.objs.size+1)=some (seqObj "list" vs.toArray 0):=by
  rw[<- f];exact IM _ Z
 have k:∀c v,s.heap.get? c=some v->(((s.heap.push (seqObj "list" (List.toArray []) 0)).update s.heap.objs.size (Obj.mapSeq (·++vs.toArray))).push (seqObj "list" vs.toArray 0)).get? c=some v:=λc v e=>
  IH _ (by rw[Heap.get?_update_ne _ _ _ _ (IY (IP e))];exact IH _ e)
 show wpAny _ _ _ _ _ { s with heap:=((s.heap.push (seqObj "list" (List.toArray []) 0)).update s.heap.objs.size (Obj.mapSeq (·++vs.toArray))).push (seqObj "list" vs.toArray 0) }
 rw[f]
 refine IF (Lj (Ls O3 #[_,g,Z] OR (YN g H r b (λi v p x y=>?_) u λp d=>#[_,Z,?_]) (O5 _)))
 ·obtain⟨⟨a,o,U,n,rfl,B,C,D,F⟩,d⟩:=t i v p x y
  exact#[#[a,o,U,n,Z,k _ _ B,C,D,F],d,λz=>by injection z with z;exact absurd z (IY (MF (IP B)))]
 ·exact II #[_,Z,h p d]
theorem yW{Q:Value->Shared->Prop}(H:s.heap.IsList l ([]:List Value).toArray)
  (h:Q (.ref (s.heap.objs.size+1)) { s with heap:=sortedAll s.heap [] (List.toArray []) }):wpAny (model prog w) A (call (.builtin "sorted") [.ref l]) Q E s:=by
 refine Nc kind_sorted plain_sorted entry_sorted (args_sorted1 _) ?_
 unfold Builtin.«sorted»
 refine IF (m:=checkCount "sorted" 1 1 _) (II ?_)
 refine IF (collect_list H ?_)
 refine IF (Nh ?_)
 have z:((s.heap.push (seqObj "list" (List.toArray []) 0)).update s.heap.objs.size (Obj.mapSeq (·++([]:List Value).toArray))).objs.size=s.heap.objs.size+1:=by rw[Pe,size_push']
 have g:(((s.heap.push (seqObj "list" (List.toArray []) 0)).update s.heap.objs.size (Obj.mapSeq (·++([]:List Value).toArray))).push (seqObj "list" ([]:List Value).toArray 0)).get? (s.heap.objs.size+1)=some (seqObj "list" ([]:List Value).toArray 0):=by
  rw[<- z];exact IM _ Z
 show wpAny _ _ _ _ _ { s with heap:=((s.heap.push (seqObj "list" (List.toArray []) 0)).update s.heap.objs.size (Obj.mapSeq (·++([]:List Value).toArray))).push (seqObj "list" ([]:List Value).toArray 0) }
 rw[z]
 refine IF (Lj (Ls O3 #[_,g,Z] OR (YO g #[_,Z,?_]) (O5 _)))
 exact II #[_,Z,h]
end
section
variable {X:Cx}
theorem DM(I:aq X b f H s){p:List Int}(h:H a=some (.tup (p.map V.int))):At s.heap (.ref a) p:=by
 obtain⟨i,r,P,_⟩:=I.tuple (aA.of (K:=X.K) h)
 obtain⟨o,c,d,n,e⟩:=P
 exact#[a,o,i.toArray,n,Z,c,d,e,r]
inductive uC(K:Frag)(d:List V)(H:Hp)(Q:VK):Prop
 |mk(l:Addr)(c:List V)(b:List (List Int))(_:d=[.ref l])(_:aJ K H l c)(_:c.length=b.length)(_:c.length < 64)(_:∀(i:Nat) (v:V) (p:List Int),c[i]?=some v->b[i]?=some p->(∃a,v= .ref a/\H a=some (.tup (p.map V.int)))/\p≠[])(_:∀(i:Nat) (p q:List Int),b[i]?=some p->b[i+1]?=some q->lg p q=true)(_:∀r,H r=none->Q (.ref r) (ah H r (.lst c)))
theorem Q9:dR X (.builtin "sorted") (uC X.K):=by
 intro g s x H T U Q I r h
 obtain⟨l,vs,ps,rfl,y,n,z,B,C,k⟩:=h
 obtain⟨u,rfl,D⟩:=eQ r
 cases D
 obtain⟨b,d,P,_⟩:=I.list y
 have L:=d.length
 have f:∀(o:Array Value),o=b.toArray->EP X g x Q (.ref (s.heap.objs.size+1)) { s with heap:=sortedAll s.heap b o }:=λo E=>by
  subst E
  obtain⟨c,F⟩:=sortedAll_at s.heap b b.toArray
  exact#[.ref (s.heap.objs.size+1),_,I.laid (t':=s.toks) (λ_ _ e=>sortedAll_old e) (LH _) (show aL X.prog X.w _ _ _ (.lst vs) from #[by rw[MU];omega,b,c,d,F]),Z,k _ (I.hok.fresh (LH _))]
 match b,d,P,L,f with
 | [],d,P,L,f=>exact yW (by simpa using P.isList) (f _ Z)
 | [v],d,P,L,f=>exact yX (by simpa using P.isList) (f _ Z)
 |v1::V::R,d,P,L,f=>
  have W:(v1::V::R).length=R.length+2:=rfl
  refine yY (vs:=v1::V::R) (ps:=ps) P.isList Pn Pn Pn (λi v p A G=>?_) (vA Pn λi j=>?_) λp m=>f _ ?_
  ·have j:i < vs.length:=by have:=(List.getElem?_eq_some_iff.mp A).1;omega
   obtain⟨⟨a,J,M⟩,m⟩:=B i _ p (IG j) G
   obtain⟨Y,q,t⟩:=d.get (IG j)
   rw[A]at q
   cases q
   rw[J]at t
   cases t
   exact#[DM I M,m]
  ·have N:ps[i]?=some (ps.getD i []):=by rw[LZ,IG (by omega:i < ps.length)];rfl
   have O:ps[i+1]?=some (ps.getD (i+1) []):=by rw[LZ,IG j];rfl
   exact Xq (C i _ _ N O)
  ·subst m
   congr 1
   refine N5 (by simp;omega) λi h1 S=>?_
   simp [IG S]
end
end _L
namespace _L
open PySem PySem.Spec PyProof.Rows
theorem bq.m(r:bq k A)(h:j<=k:=by omega):bq j A:=r.mono h
theorem bK{N P:List Str}{s:Scope}(a:s.kind=.function:=by rfl)(b:s.isCoroutine=false:=by rfl)(c:s.isGenerator=false:=by rfl)(d:N.Nodup:=by decide +kernel)(e:N.take P.length=P:=by rfl)(f:∀x∈P,s.names.lookup x=some .local ∨ s.names.lookup x=some .cell:=by decide +kernel)(g:∀y∈s.names,y.2≠.free:=by decide +kernel):ai N P s:=#[a,b,c,d,e,f,g]
theorem pY{N:List Str}{s t:Scope}{M:List Str}{i:List Nat}(a:∀y∈t.names,y.2≠.cell:=by decide +kernel)(b:t.kind=.function:=by rfl)(c:∀y∈t.names,y.2=.local->t.names.lookup y.1=some .local:=by decide +kernel)(d:∀y∈t.names,y.2=.free->s.names.lookup y.1=some .cell:=by decide +kernel)(e:M.drop n=i.map (λi=>N.getD i Str.empty):=by decide +kernel)(f:M.length=n+i.length:=by rfl)(g:∀j∈i,t.names.lookup (N.getD j Str.empty)=some .free:=by decide +kernel):bn N s t M n i:=#[a,b,c,d,e,f,g]
end _L
local macro_rules|`(tactic|obtain $p:rcasesPat:=$t)=>`(tactic|(refine _L.a6 λG k=>?_;rcases $t:term with $p:rcasesPat<;>(refine k ?_;clear k)))
namespace _K
open PySem PySem.Spec PyProof.Rows _L
abbrev z0z:List Str:=["term"]
abbrev z1z:List Str:=["statement","behind"]
abbrev z2z:List Str:=["self","old_path","old","new_path","new"]
abbrev z3z:List Str:=["_law_box_here"]
abbrev z4z:List Str:=["statement"]
abbrev z5z:List Str:=["path","what"]
abbrev z6z:List Str:=["_law_box_here","_law_wide"]
abbrev z7z:List Str:=["self","statement","behind"]
abbrev z8z:List Str:=["term","held"]
abbrev z9z:List Str:=["self","body","behind"]
abbrev z10z:List Str:=["part","n","held"]
abbrev z11z:List Str:=["self","part","args","deep"]
abbrev z12z:List Str:=["_law_chain","_law_at"]
abbrev z13z:List Str:=["body","behind"]
abbrev z14z:List Str:=["_law_old","_law_new","_law_old_at","_law_new_at","_law_found_here"]
abbrev z15z:List Str:=["name","params","body"]
abbrev z16z:List Str:=["self","deed","deep"]
abbrev z17z:List Str:=["self","path","chain","begin","end"]
abbrev z18z:List Str:=["self","statement","place","behind"]
abbrev z19z:List Str:=["sign","left","right"]
abbrev z20z:List Str:=["self","cells","most"]
abbrev z21z:List Str:=["self","parts","cells","most"]
abbrev z22z:List Str:=["_law_box_here","_law_total"]
abbrev z23z:List Str:=["parts","f","args","cells","most"]
abbrev z24z:List Str:=["_law_j","_law_old","_law_step"]
abbrev z25z:List Str:=["_law_box_here","_law_total","_law_letters","_law_wide","_law_spot_here","_law_signs","_law_first","_law_form","_law_found_here","_law_k","_law_one","_law_word","_law_some","_law_odd"]
abbrev z26z:List Str:=["_law_k","_law_box_here","_law_letters"]
abbrev z27z:List Str:=["_law_j","_law_box_here","_law_letters"]
abbrev z28z:List Str:=["num","var","op","go","ask","back","chain","sets","iff","ends","calls","reads","gives"]
abbrev z29z:List Str:=["_law_parts","_law_f","_law_args","_law_cells_here"]
abbrev z30z:List Str:=["_law_old","_law_new","_law_old_at","_law_new_at","_law_found_here","_law_mark","_law_k","_law_step","_law_path","_law_j","_law_some","_law_lenders","_law_calls","_law_pair","_law_both"]
abbrev z31z:List Str:=["_law_box_here","_law_w","_law_n","_law_i","_law_s","_law_x","_law_body_here","_law_other","_law_spot_here","_law_test","_law_first","_law_loop"]
abbrev z32z:List Str:=["_law_box_here","_law_w","_law_n","_law_i","_law_s","_law_x","_law_spot_here","_law_where","_law_body_here","_law_further","_law_start","_law_last","_law_loop"]
variable {P:Program}{w:World}{K:Frag}{mg:Str->Option Value}{base:Heap}
noncomputable def bM(i:Nat):Stmt:=PySem.Challenge.pw_againbook_k31_likes_in_one_chain.main.body.getD i (.Pass #[0,0,0,0])
noncomputable abbrev Di:Stmt:=bM 58
noncomputable abbrev uU:Stmt:=bM 59
noncomputable abbrev ik:Stmt:=bM 61
def aR(p:Addr)(H h:Hp):Prop:=∀b o,b≠p->H b=some o->h b=some o
theorem aR.refl:aR p H H:=λ_ _ _ h=>h
theorem aR.trans(a:aR p H d)(b:aR p d e):aR p H e:=λc o n h=>b c o n (a c o n h)
theorem aR.of_eq{H a:Hp}(h:∀b,b≠p->a b=H b):aR p H a:=λb o n e=>by rw[h b n];exact e
theorem aR.upd_new(a:aR p H h)(n:h r=none):aR p H (ah h r o):=λb u N e=>by
 have q:=a b u N e
 rw[jh (ji q n)];exact q
theorem aR.upd_own(a:aR p H h)(n:H r=none):aR p H (ah h r o):=λb u N e=>by
 rw[jh (ji e n)];exact a b u N e
structure aF(H:Hp)(p:Addr):Prop where
 ob:∃a b:Int,0<=a/\1<=b/\b<=2147483646/\H p=some (.lst [.int a,.int b])
theorem aF.eq{c:Hp}(B:aF H p)(e:c p=H p):aF c p:=by
 obtain⟨a,b,d,f,g,h⟩:=B.ob
 exact#[a,b,d,f,g,by rw[e];exact h]
theorem aF.upd_new(B:aF H p)(n:H r=none):aF (ah H r o) p:=by
 obtain⟨a,b,c,d,e,h⟩:=B.ob
 exact B.eq (by rw[jh (ji h n)])
theorem aF.ne(B:aF H p)(n:H r=none):r≠p:=by
 obtain⟨a,b,c,d,e,h⟩:=B.ob
 exact Lr (ji h n)
inductive cn(c:List V)(H:Hp)(Q:VK)(a:XK):Prop
 |mk(p:Addr)(w:Int)(_:c=[.ref p,.int w])(_:aF H p)(_:0 < w)(_:w<=1000000000000000000)(_:∀(d:Int) (H':Hp),0<=d->d < w->aF H' p->(∀b,b≠p->H' b=H b)->Q (.int d) H')
inductive oq(K:Frag)(e:List V)(H:Hp)(Q:VK)(c:XK):Prop
 |mk(a:Addr)(d:List Int)(k:Int)(_:e=[.ref a,.int k])(_:aJ K H a (d.map V.int))(_:0<=k)(_:k < 1000)(_:∀(r:Addr) (H':Hp),H r=none->aF H' r->(∀b,b≠r->H' b=H b)->Q (.ref r) H')
theorem oJ:(10:Int) ^ (18:Int).toNat=1000000000000000000:=by decide
theorem sN{ns:List Int}{k:Int}(H:0<=k)(a:k < (ns.length:Int)):∃v:Int,fz (ns.map V.int) k=some (.int v):=by
 have h:k.toNat < ns.length:=by omega
 have e:k=((k.toNat:Nat):Int):=by omega
 have q:fz (ns.map V.int) ((k.toNat:Nat):Int)=some (.int ns[k.toNat]):=jH (by rw[Lc,IG h];rfl)
 rw[<- e]at q
 exact#[_,q]
structure Cl(P:Program)(w:World)(K:Frag)(mg:Str->Option Value)(base:Heap)(L:Nat)(f:Addr)(fd:FuncData)(ps:List Str)(sp:Sp)(py:Str):Prop where
 g:af P w K mg base aE L f fd ps sp
 b:aC K fd ps []
 k:keepIn K (.ref f)=true
 m:mg py=some (.ref f)
theorem Cl.e{X:Cx}{e:Expr}(c:Cl X.prog X.w X.K X.mg X.base L f o q s a)(i:bq L X.A)(j:PA X (e::E) t)(l:Gl X a:=by rfl)(h:(a==("__debug__":Str))=false:=by decide)(n:starEach (e::E) X.env=(false,eval e X.env)::starEach E X.env:=by rfl)(H:(backTo d (starEach E X.env)).any (·.1)=false:=by rfl):PE X (.Call (.Name a p) (e::E) [] d) (gQ s [] E0 t):=kL c.g i l c.m c.k c.b .nil aY j h n H
theorem ju{X:Cx}(h:PE X a t):PE X (.Subscript a (.Constant (.int i) j p) b) (gE (bZ X.K) t (tC (.int i))):=jv jE h jg λ_ _=>Z
theorem jD{X:Cx}{p:Pos}(i:Nat)(h:X.N.Nodup)(H:PE X e t)(b:X.N[i]?=some x:=by rfl)(c:Ar X.env.scope x:=by exact Or.inl Z)(d:swapsWith e (some (.Name x a)) p.line X.env=pure false:=by rfl)(f:X.fn x=true∨X.env.scope.names.lookup x=some .local:=by first |exact .inl Z |exact .inr Z |assumption):PS X (.Assign [.Name x a] e p) (fo t (bG i)):=kO h b c H d f
theorem jp{K:Frag}{H:Hp}{Q:VK}(h:H p=some (.tup x))(a:fz x n=some v)(q:Q v H)(e:b[i]?=some (some (.ref p)):=by rfl):gE (bZ K) (bV i) (tC (.int n)) b H Q:=#[_,e,p,x,n,v,Z,Z,aA.of h,a,q]
theorem j6{X:Cx}(h:PE X a t):PT X (.Compare a [.Eq] [.Constant (.str x) j p] b) (iY (gE Gk t (tC (.str x)))):=jC Jw h jo Z
theorem Jl{X:Cx}(h:PE X a t):PT X (.Compare a [.Eq] [.Constant (.int x) j p] b) (iY (gE Gk t (tC (.int x)))):=jC Jw h jg Z
theorem iq:ai ["_law_box_here","_law_wide","_law_digit","_law_one","_law_mixed"] z6z (ae uU):=bK
theorem yh(F:aQ K "_law_take" "_law_take" uU f x):af P w K mg base aE 1 f x z6z cn:=by
 refine F.ok iq ?_ λC A o s H V Q E z h=>?_
 ·rintro _ _ _ _ ⟨p,w,rfl,_⟩
  rfl
 obtain⟨p,W,rfl,B,d,g,q⟩:=h
 obtain⟨a,b,l,i,j,e⟩:=B.ob
 refine#[_,jd (jy (jC uf (jv jG (pv 0) jg (λ_ _=>Z)) jg (aN _))
   (jd (jD 2 iq.nd (jx za (jv jG (pv 0) jg (λ_ _=>Z)) (pv 1)))
   (jd (Ke (jx Ko (jv jG (pv 0) jg (λ_ _=>Z)) (pv 1)) (Ya (pv 0) jg Kn))
   (jf (jm (pv 2))))) jr)
  (jd (jD 3 iq.nd (jx za (jx zq (jv jG (pv 0) jg (λ_ _=>Z)) jg) jg))
  (jd (Ke (jx j8 (jx za (jx j8 (jx zq (pv 3) jg) jg) jg) jg) (Ya (pv 0) jg Kn))
  (jd (jD 4 iq.nd (jx Ko (jx j8 (jx zq (pv 3) jg) (jv jG (pv 0) jg (λ_ _=>Z))) jg))
  (jd (jy (jC uf (pv 1) (jx Kf jg jg) (aN _)) (jf (jD 4 iq.nd (jx zq (pv 4) (pv 4)))) jr)
  (jf (jm (jx za (pv 4) (pv 1)))))))),?_]
 refine#[_,Z,p,_,_,_,Z,Z,aJ.of e,Z,_,_,Z,Z,_,Z,?_]
 refine eW (λc=>?_) (λc=>?_)
 ·have D:(0:Int) < a:=Mb c
  refine#[_,Z,p,_,_,_,Z,Z,aJ.of e,Z,_,Z,_,_,Z,Z,d,?_]
  refine#[_,Z,p,_,_,_,Z,Z,aJ.of e,Z,_,Z,_,_,Z,Z,#[d,g],_,Z,p,_,_,0,Z,Z,e,Z,_,Z,?_]
  refine q (a % W) _ (LQ _ Pn) (LC _ d) #[a / W,b,Int.ediv_nonneg l Pn,i,j,jc] λb n=>jh n
 ·have I:0<=b*69621 % 2147483647:=LQ _ Pm
  have J:b*69621 % 2147483647 < 2147483647:=LC _ Pm
  refine#[_,Z,p,_,_,_,Z,Z,aJ.of e,Z,_,_,Z,Z,.inr #[Pm,Pm],_,_,Z,Z,(by show(0:Int) < 2147483647;decide),?_]
  refine#[_,Z,_,_,Z,Z,.inr #[Pm,Pm],_,_,Z,Z,_,_,Z,Z,(by show(0:Int) < 2147483646;decide),_,_,Z,Z,_,Z,p,_,_,1,Z,Z,e,Z,?_]
  generalize m:b*69621 % 2147483647=one at*
  have N:0<=(one*48271+30103) % 2147483646:=LQ _ Pm
  have L:(one*48271+30103) % 2147483646 < 2147483646:=LC _ Pm
  generalize r:(one*48271+30103) % 2147483646=t at*
  refine#[_,Z,_,_,Z,Z,.inr #[Pm,Pm],_,Z,p,_,_,_,Z,Z,aJ.of jc,Z,_,_,Z,Z,_,_,Z,Z,#[Pm,Pm],?_]
  have X:0<=(one*2147483647+(t+1)) / 8191:=by omega
  have O:(one*2147483647+(t+1)) / 8191 < 18446744073709551616:=by omega
  generalize u:(one*2147483647+(t+1)) / 8191=M at*
  refine#[_,Z,_,_,Z,Z,#[Pm,Pm,Pm],_,_,Z,Z,_,Z,?_]
  have v:aF (ah H p (.lst [.int a,.int (t+1)])) p:=#[a,t+1,l,Pn,Pn,jc]
  refine eW (λy=>?_) (λy=>?_)
  ·refine#[_,Z,_,Z,_,_,Z,Z,.inl #[Pn,Pn],?_]
   refine#[_,Z,_,Z,_,_,Z,Z,d,?_]
   exact q _ _ (LQ _ Pn) (LC _ d) v λb n=>jh n
  ·refine#[_,Z,_,Z,_,_,Z,Z,d,?_]
   exact q _ _ (LQ _ Pn) (LC _ d) v λb n=>jh n
theorem mx:ai ["_law_script","_law_k","_law_cell","_law_seed"] ["_law_script","_law_k"] (ae Di):=bK
theorem Cr(F:aQ K "_law_box" "_law_box" Di f I)(m:mg "len"=none)(M:mg "int"=none):af P w K mg base aE 1 f I ["_law_script","_law_k"] (oq K):=by
 refine F.ok mx ?_ λJ A o s H W Q E X h=>?_
 ·rintro _ _ _ _ ⟨a,ns,k,rfl,_⟩
  rfl
 obtain⟨a,ns,k,rfl,d,i,L,q⟩:=h
 refine#[_,jd (jD 2 mx.nd (jx j8 (jx zq jg (pv 1)) jg))
  (jd (jy (jC AV (pv 1) (jO jL Z m Mf (ja (pv 0) jb)) (aN _))
   (jf (jD 2 mx.nd (jv jG (pv 0) (pv 1) (λ_ _=>Z))))
   (jf (jy (jC uf (jO jL Z m Mf (ja (pv 0) jb)) jg (aN _))
    (jf (jD 2 mx.nd (jx j8 (pv 2) (jx zq (jx za (jv jG (pv 0) (jx za (pv 1) (jO jL Z m Mf (ja (pv 0) jb))) (λ_ _=>Z)) jg) jg)))) jr)))
  (jd (jD 3 mx.nd (jx j8 (jx za (jx j8 (jx zq (jx za (pv 2) jg) jg) (jx zq jg (pv 1))) jg) jg))
  (jf (jm (jJ (ja (jx zq (pv 2) (jP Qb Z M boot_int (ja (Y7 ue (pv 2) (jx Kf jg jg) (aN _)) jb))) (ja (pv 3) jb))))))),?_]
 have e:(ns.map V.int).length=ns.length:=IJ _
 have T:∀c:Int,∃v:V,∃x:Int,v= .int x/\1<=x/\x<=2147483646/\v= .int ((c % 2147483629*48271+40692*k) % 2147483646+1):=λc=>by
  have N:0<=(c % 2147483629*48271+40692*k) % 2147483646:=LQ _ Pm
  have O:(c % 2147483629*48271+40692*k) % 2147483646 < 2147483646:=LC _ Pm
  exact#[_,_,Z,Pn,Pn,Z]
 have j:∀(c:Int) (r:Addr),H r=none->Q (.ref r) (ah H r (.lst [.int (c*(if decide ((10:Int) ^ (18:Int).toNat<=c)=true then 1 else 0)),.int ((c % 2147483629*48271+40692*k) % 2147483646+1)])):=λc r R=>by
  refine q r _ R #[_,_,?_,?_,?_,jc] λb n=>jh n
  ·rw[oJ]
   by_cases h:(1000000000000000000:Int)<=c
   ·rw[IV h,IU Z];omega
   ·rw[IQ h,IX IW];omega
  ·have N:0<=(c % 2147483629*48271+40692*k) % 2147483646:=LQ _ Pm
   omega
  ·have O:(c % 2147483629*48271+40692*k) % 2147483646 < 2147483646:=LC _ Pm
   omega
 have B:∀c:Int,wG c (if decide ((10:Int) ^ (18:Int).toNat<=c)=true then 1 else 0):=λc=>.inr (by split<;>decide)
 refine aj λF0 u=>#[_,Z,_,_,Z,Z,.inl #[Pm,Pm],_,_,Z,Z,u _ _ ?_]
 clear u
 refine aj λS y=>?_
 have l:∀c:Int,S [some (.ref a),some (.int k),some (.int c),none] H:=λc=>y _ _ (aj λF2 U=>#[_,Z,_,_,Z,Z,(by show(0:Int) < 2147483629;decide),_,_,Z,Z,.inr #[Pm,Pm],_,Z,_,_,Z,Z,.inl #[Pm,Pm],_,_,Z,Z,_,_,Z,Z,(by show(0:Int) < 2147483646;decide),_,_,Z,Z,U _ _ (#[_,Z,_,Z,_,_,Z,Z,#[Pm,Pm,Pm],_,_,Z,Z,.inr #[_,Z,_,_,Z,Z,B c,_,Z,cg,j c]])])
 clear y
 refine Gi λG g=>#[_,Z,_,Z,a,_,Z,.inl d,_,_,Z,Z,_,Z,g _ _ ?_]
 clear g
 refine eW (λc=>?_) (λc=>?_)
 ·have C:k < (((ns.map V.int).length:Nat):Int):=Mb c
  rw[e]at C
  obtain⟨v,p⟩:=sN (ns:=ns) i C
  exact#[_,Z,_,Z,a,_,_,_,Z,Z,d,p,l v]
 ·have C:¬k < (((ns.map V.int).length:Nat):Int):=of_decide_eq_false (Bool.eq_false_iff.mpr c)
  rw[e]at C
  refine Gi λG g=>#[_,Z,a,_,Z,.inl d,_,_,Z,Z,_,Z,g _ _ ?_]
  clear g
  refine eW (λz=>?_) (λz=>?_)
  ·have D:(0:Int) < (((ns.map V.int).length:Nat):Int):=Mb z
   obtain⟨v,p⟩:=sN (ns:=ns) (k:=k % (((ns.map V.int).length:Nat):Int)) (LQ _ Pn) (by have:=LC k D;rw[e]at this;rw[e];exact this)
   exact#[_,Z,_,Z,_,Z,_,Z,a,_,Z,.inl d,_,_,Z,Z,D,a,_,_,_,Z,Z,d,p,_,_,Z,Z,(by show(0:Int) < 2147483629;decide),_,_,Z,Z,.inr #[Pm,Pm],_,_,Z,Z,l _]
  ·exact l _
theorem nP(i j:Str):(i++j).length=i.length+j.length:=by
 show(i.cps++j.cps).size=i.cps.size+j.cps.size
 exact Array.size_append
theorem zK:1000000<=sizeLine:=by rw[MU];decide
theorem am{H:Hp}(h:H b=some u)(n:H r=none):ah H r o b=some u:=by rw[jh (ji h n)];exact h
theorem vG{z:Str}{k:Int}(H:0<=k)(a:k < (z.length:Int)):∃c:Nat,fz z.cps.toList k=some c:=by
 have b:z.cps.toList.length=z.length:=Ld
 have h:k.toNat < z.cps.toList.length:=by omega
 have e:k=((k.toNat:Nat):Int):=by omega
 have q:fz z.cps.toList ((k.toNat:Nat):Int)=some z.cps.toList[k.toNat]:=jH (IG h)
 rw[<- e]at q
 exact#[_,q]
theorem vY{ys:List Str}(H:0<=k)(a:k < (ys.length:Int)):∃y∈ys,fz (ys.map V.str) k=some (.str y):=by
 have h:k.toNat < ys.length:=by omega
 have e:k=((k.toNat:Nat):Int):=by omega
 have q:fz (ys.map V.str) ((k.toNat:Nat):Int)=some (.str ys[k.toNat]):=jH (by rw[Lc,IG h];rfl)
 rw[<- e]at q
 exact#[_,Nt h,q]
noncomputable def dD(s:List Str)(lo h:Option Int):List Str:=(s.drop (HT.sIx s.length 0 lo)).take (HT.sIx s.length s.length h - HT.sIx s.length 0 lo)
theorem Xs(s:List Str)(lo h:Option Int):cy (s.map V.str) lo h=(dD s lo h).map V.str:=by
 unfold cy dD
 rw[IJ,Pa,List.map_drop]
theorem zL{lo:Option Int}(h:y∈dD s lo H):y∈s:=List.mem_of_mem_drop (Nz h)
theorem Xt(s:List Str)(lo h:Option Int):(dD s lo h).length<=s.length:=by
 unfold dD
 rw[Lo,Mm]
 omega
theorem qQ:∀{ys:List Str},(∀y∈ys,y.length<=1)->(ys.map (·.length)).sum<=ys.length
 | [],_=>IK _
 |y::r,h=>by
  have a:=h y Li
  have b:=qQ (ys:=r) λz H=>h z (Le _ H)
  rw[Mi,List.sum_cons,Lm]
  omega
theorem qR{z:Str}{ys:List Str}(H:z.length=0)(h:∀y∈ys,y.length<=1):(Txt.join z ys).length<=ys.length:=by
 show(Builtin.Str.glued z ys).length<=_
 rw[size_glued,H,Nat.mul_zero,Nat.add_zero]
 exact qQ h
noncomputable def di:Str:="abcdefghijklmnopqrstuvwxyz"
theorem JG:di.length=26:=by decide+kernel
noncomputable def o0(d:Int)(k:Nat):Nat:=97+((d+5*(0+(k:Int))) % 26).toNat
theorem xI(H:i < 20)(a:j < 20)(h:o0 d i=o0 d j):i=j:=by
 unfold o0 at h
 omega
theorem BX(H:0<=k)(a:k < 26)(h:fz di.cps.toList k=some c):c=97+k.toNat:=by
 have q:∀m:Fin 26,fz di.cps.toList (m.val:Int)=some (97+m.val):=by decide+kernel
 have e:=q #[k.toNat,Pn]
 have E:((k.toNat:Nat):Int)=k:=by omega
 dsimp only at e
 rw[E,h]at e
 injection e
def Sh(A S:Str)(d:Int)(c:Nat)(w:Str):Prop:=if d=2 then ∃R:Str,w=R++#[(List.toArray [c])] else w=A++#[(List.toArray [c])]++S∨w=A++#[(List.toArray [c])]++S++"z"∨w="qqqqqqq"++#[(List.toArray [c])]
theorem kM(a b:Str):(a++b).cps.toList=a.cps.toList++b.cps.toList:=by
 show(a.cps++b.cps).toList=_
 exact Array.toList_append
theorem Xu{R:Str}(h:R++(#[(List.toArray [c])]:Str)=r++#[(List.toArray [C])]):c=C:=by
 have e:=LY (Array.toList ∘ Str.cps) h
 have e:(R++(#[(List.toArray [c])]:Str)).cps.toList=(r++(#[(List.toArray [C])]:Str)).cps.toList:=e
 rw[kM,kM]at e
 have:=List.append_inj_right' e Z
 injection this
theorem xJ{S:Str}(h:A++(#[(List.toArray [c])]:Str)++S=A++#[(List.toArray [C])]++S):c=C:=by
 have e:=LY (Array.toList ∘ Str.cps) h
 have e:(A++(#[(List.toArray [c])]:Str)++S).cps.toList=(A++(#[(List.toArray [C])]:Str)++S).cps.toList:=e
 rw[kM,kM,kM,kM]at e
 have:=N6 (NQ e)
 injection this
theorem Fu{A S : Str}{d : Int}{c C : Nat}{w : Str}(i : A.length + S.length <= 5)(h : Sh A S d c w)(H : Sh A S d C w) : c = C := by
  unfold Sh at h H
  have l : ∀ c : Nat, (#[(List.toArray [c])] : Str).length = 1 :=λ_ => Z
  have L : (Str.ofString "z").length = 1 := by decide +kernel
  have f : (Str.ofString "qqqqqqq").length = 7 := by decide +kernel
  split at h
  · rename_i a
    rw [IU a] at H
    obtain ⟨R, rfl⟩ := h
    obtain ⟨r, e⟩ := H
    exact Xu e
  · rename_i a
    rw [IX a] at H
    rcases h with rfl | rfl | rfl <;> rcases H with e | e | e
    · exact xJ e
    all_goals first
      | exact Xu e
      | (have g := LY Str.length e
         simp only [nP, l, L, f] at g
         omega)
      | skip
    have E := LY (Array.toList ∘ Str.cps) e
    have E : (A ++ (#[(List.toArray [c])] : Str) ++ S ++ ("z" : Str)).cps.toList = (A ++ (#[(List.toArray [C])] : Str) ++ S ++ ("z" : Str)).cps.toList := E
    rw [kM, kM (A ++ _ ++ S)] at E
    have b := NQ E
    rw [kM, kM, kM, kM] at b
    have := N6 (NQ b)
    injection this
theorem Xv{y:List Str}:y.Nodup↔∀i j:Nat,i < j->j < y.length->y[i]?≠y[j]?:=by
 unfold List.Nodup
 rw[List.pairwise_iff_getElem]
 refine#[λh i j H a e=>?_,λh i j b a H e=>h i j H a ?_]
 ·rw[IG (by omega:i < y.length),IG a]at e
  injection e with e
  exact h i j Pn a H e
 ·rw[IG b,IG a,e]
theorem vq{A S:Str}{d D:Int}{Y:List Str}(b:A.length+S.length<=5)(g:Y.length<=20)(h:∀j y,Y[j]?=some y->Sh A S D (o0 d j) y):Y.Nodup:=by
 rw[Xv]
 intro i j c H e
 have a:=h i _ (IG (by omega:i < Y.length))
 have f:=h j _ (IG H)
 rw[IG (by omega:i < Y.length),IG H]at e
 injection e with e
 rw[e]at a
 have:=xI Pn Pn (Fu b a f)
 omega
theorem Z8{y:List Str}(h:y.Nodup)(b:a∉y):(y.set n a).Nodup:=by
 rw[Xv]at h ⊢
 intro i j H c e
 rw[OU]at c
 by_cases d:n=i
 ·rw[d,Nl Pn,MH Pn]at e
  exact b (Lb e.symm)
 ·by_cases f:n=j
  ·rw[f,Nl Pn,MH Pn]at e
   exact b (Lb e)
  ·rw[MH d,MH f]at e
   exact h i j H c e
theorem xS{y:List Str}(h:nV (.str a) (y.map V.str)=false):a∉y:=λm=>by
 unfold nV at h
 rw[List.any_eq_false]at h
 exact h (.str a) (List.mem_map.mpr #[a,m,Z]) (by simp [mZ])
theorem wX{ss:List Str}{d1 d2:Int}(h:ss.length=(1+d1).toNat)(a:0<=d2)(b:d2 < 1+d1):(dD ss none (some d2)).length+(dD ss (some (d2+1)) none).length<=d1.toNat:=by
 obtain⟨k,rfl⟩:∃k:Nat,d2=k:=#[d2.toNat,(Int.toNat_of_nonneg a).symm]
 obtain⟨n,rfl⟩:∃n:Nat,d1=n:=#[d1.toNat,(Int.toNat_of_nonneg Pn).symm]
 have H:k<=n:=by omega
 have h:ss.length=n+1:=by rw[h];omega
 clear a b
 unfold dD
 rw[show((k:Int)+1)=((k+1:Nat):Int) from Z,HT.sIx_nat,HT.sIx_nat,Lo,Lo,Mm,h,NA (Ms H),NA (OM H)]
 refine IZ (Nat.add_le_add (OS _ _) (OS _ _)) ?_
 show k - 0+(n+1 - (k+1))<=n
 rw[Oa,Nat.add_sub_add_right,Nat.add_sub_cancel' H]
 exact IK _
theorem Hj{S:Str}:Sh A S d c ("qqqqqqq"++#[(List.toArray [c])]):=by
 unfold Sh
 split
 ·exact#[_,Z]
 ·exact .inr (.inr Z)
theorem Hk{A S:Str}{d:Int}{c:Nat}{w:Str}(h:if d=2 then ∃R:Str,w=R++#[(List.toArray [c])] else w=A++#[(List.toArray [c])]++S∨w=A++#[(List.toArray [c])]++S++"z"):Sh A S d c w:=by
 unfold Sh
 split at h
 ·rename_i e;rw[IU e];exact h
 ·rename_i e;rw[IX e];exact h.elim .inl λz=>.inr (.inl z)
noncomputable def pre(s:List Str)(d:Int):Str:=Txt.join "" (dD s none (some d))
noncomputable def fj(s:List Str)(d:Int):Str:=Txt.join "" (dD s (some (d+1)) none)
inductive gq(b:List V)(H:Hp)(Q:VK)(a:XK):Prop
 |mk(p:Addr)(n:Int)(_:b=[.ref p,.int n])(_:aF H p)(_:1<=n)(_:n<=20)(_:∀(r:Addr) (ys:List Str) (H':Hp),H r=none->H' r=some (.lst (ys.map V.str))->(ys.length:Int)=n->(∀y∈ys,y.length<=20)/\ys.Nodup->aF H' p->aR p H H'->Q (.ref r) H')
theorem a7:ai z25z z22z (ae ik):=bK
noncomputable def K3:Scope:=#[.function,[(".0",.local),("_law_k",.local),("_law_take",.globalImplicit),("_law_box_here",.free),("_law_letters",.free)],false,false,[]]
theorem YQ:(z26z:List Str).Nodup:=by decide+kernel
theorem YR:bn z25z (ae ik) K3 z26z 1 [0,2]:=pY
noncomputable def K4:Scope:=#[.function,[(".0",.local),("_law_j",.local),("_law_take",.globalImplicit),("_law_box_here",.free),("_law_letters",.free)],false,false,[]]
theorem YS:(z27z:List Str).Nodup:=by decide+kernel
theorem YT:bn z25z (ae ik) K4 z27z 1 [0,2]:=pY
theorem Jh{p:Addr}{Q:List V->Hp->Prop}(o:n<=20)(B:aF f p)
  (q:∀(S:List Str) (H:Hp),S.length=n->(∀s∈S,s.length<=1)->aF H p->(∀b,b≠p->H b=f b)->Q (S.map V.str) H):
  eh (pZ 0 n) 1 [some (.ref p),some (.str di)] (bG 0) mW (gE yw (bV 2) (gQ cn [] E0 (ar (bV 1) (ar (tC (.int 26)) bf)))) Q f:=by
 refine XU (λi y H=>∃S:List Str,y=S.map V.str/\S.length=i/\(∀s∈S,s.length<=1)/\aF H p/\∀b,b≠p->H b=f b)
  #[[],Z,Z,(λ_ h=>nomatch h),B,λ_ _=>Z] (IZ o Pm) (λi y H #[S,e,l,_]=>by rw[e,IJ,l];exact IK _) ?_ ?_
 ·intro i y H x a
  obtain⟨S,rfl,g,j,m,E⟩:=a
  refine#[_,Z,_,Z,p,26,Z,m,Pm,Pm,λd A D r t u=>?_]
  obtain⟨c,v⟩:=vG (z:=di) D (by rw[JG];exact r)
  refine#[_,_,c,Z,Z,Pm,v,S++[#[(List.toArray [c])]],by rw[Ln];rfl,by rw[IL,g];rfl,λs hs=>?_,t,λb N=>(u b N).trans (E b N)]
  rcases List.mem_append.mp hs with hs |hs
  ·exact j s hs
  ·rw[List.mem_singleton.mp hs];exact IK 1
 ·intro y H a
  obtain⟨S,rfl,g,j,m,E⟩:=a
  exact q S H g j m E
def Rw(p g r:Addr)(n d D b e:Int)(i c:Nat)(s y:List Str)(H:Hp)(L:Nat)(Z:Str->Prop):_L.St->Hp->Prop:=λa h=>∃W:Str,(W.length<=L/\Z W)/\
 a=[some (.ref p),some (.int n),some (.str di),some (.int (1+d)),some (.int D),some (.ref g),some (.int b),some (.int e),some (.ref r),some (.int (0+(i:Int))),some (.str #[(List.toArray [c])]),some (.str W),none,none]/\
 h g=some (.lst (s.map V.str))/\h r=some (.lst (y.map V.str))/\aF h p/\aR p H h
def Rf(p r:Addr)(n:Int)(H:Hp):_L.St->Hp->Prop:=λa h=>a[8]?=some (some (.ref r))/\∃Y:List Str,h r=some (.lst (Y.map V.str))/\(Y.length:Int)=n/\((∀y∈Y,y.length<=20)/\Y.Nodup)/\aF h p/\aR p H h
theorem Qs(Y:List Str):(Y.map V.str).all cQ=true:=by
 rw[N7]
 intro v h
 obtain⟨y,_,rfl⟩:=List.mem_map.mp h
 rfl
theorem vj(Y:List Str)(j:Nat)(y:Str):(Y.map V.str).set j (V.str y)=(Y.set j y).map V.str:=(List.map_set ..).symm
inductive NI(p g r:Addr)(n b c d e:Int)(v:List Str)(H:Hp)(i:Nat)(x:_L.St)(a:Hp):Prop
 |mk(s t u:Option V)(w:List Str)(f:x=[some (.ref p),some (.int n),some (.str di),some (.int (1+b)),some (.int c),some (.ref g),some (.int d),some (.int e),some (.ref r),s,t,u,none,none])(h:a g=some (.lst (v.map V.str)))(k:a r=some (.lst (w.map V.str)))(l:w.length=i)(m:(∀y∈w,y.length<=20)/\∀j y,w[j]?=some y->Sh (pre v c) (fj v c) e (o0 d j) y)(o:aF a p)(q:aR p H a)
theorem tS(F:aQ K "_law_names" "_law_names" ik f fd)(GT:af P w K mg base aE 1 fT f4 z6z cn)(x:aC K f4 z6z [])(C:keepIn K (.ref fT)=true)
  (M:mg "_law_take"=some (.ref fT)) (mr:mg "range"=none):af P w K mg base aE 2 f fd z22z gq:=by
 refine F.ok a7 ?_ λc1 A o1 s H vs Q E D h=>?_
 ·rintro _ _ _ _ ⟨p,n,rfl,_⟩
  rfl
 obtain⟨p,n,rfl,B,a5,a',q⟩:=h
 refine#[_,(@jd _ _ _ _ _ (@kO _ _ (2) _ _ _ _ a7.nd Z (Or.inr Z) (@jo _ _ _ _) Pq (.inl Z)) (@jd _ _ _ _ _ (@kO _ _ (3) _ _ _ _ a7.nd Z (Or.inl Z) (@jx _ _ _ _ _ _ _ _ j8 (@jg _ _ _ _) (@kL _ _ _ _ _ _ _ _ _ _ _ _ _ _ _ _ GT D Z M C x .nil aY (@ja _ _ _ _ _ (@pv _ 0 _ _ Pq (.inr (.inl Z)) Pm Pm) (@ja _ _ _ _ _ (@jg _ _ _ _) (@jb _) Pq) Pq) Pm Pq Pq)) Pq (.inl Z)) (@jd _ _ _ _ _ (@kO _ _ (4) _ _ _ _ a7.nd Z (Or.inl Z) (@kL _ _ _ _ _ _ _ _ _ _ _ _ _ _ _ _ GT D Z M C x .nil aY (@ja _ _ _ _ _ (@pv _ 0 _ _ Pq (.inr (.inl Z)) Pm Pm) (@ja _ _ _ _ _ (@pv _ 3 _ _ Pq (.inl Z) Pm Pm) (@jb _) Pq) Pq) Pm Pq Pq) Pq (.inl Z)) (@jd _ _ _ _ _ (@qr _ _ _ _ _ _ _ _ _ _ (5) (z26z) (1) ([0,2]) _ _ _ _ a7.nd Z (Or.inl Z) Z (@zk _ _ _ _ _ _ Z mr (@ja _ _ _ _ _ (@pv _ 3 _ _ Pq (by first |exact Or.inl Z |exact Or.inr (Or.inl Z) |exact Or.inr (Or.inr Z)) Pm Pm) (@jb _) Pq) Pq) YR (λ_ _ _ _ _=>(@jw _ _ (0) _ YQ Z (Or.inl Z) (by first |exact .inl Z |exact .inr Z))) (λ_ _ _ _ _=>(@qg _)) (λ_ _ _ _ _=>(@jv _ _ _ _ _ _ _ Kg (@pv _ 2 _ _ Pq (by first |exact Or.inl Z |exact Or.inr (Or.inl Z) |exact Or.inr (Or.inr Z)) Pm Pm) (@kL _ _ _ _ _ _ _ _ _ _ _ _ _ _ _ _ GT D Z M C x .nil aY (@ja _ _ _ _ _ (@pv _ 1 _ _ Pq (by first |exact Or.inl Z |exact Or.inr (Or.inl Z) |exact Or.inr (Or.inr Z)) Pm Pm) (@ja _ _ _ _ _ (@jg _ _ _ _) (@jb _) Pq) Pq) Pm Pq Pq) (λ_ _=>Z))) Pq (by first |exact .inl Z |exact .inr Z) (by intro _;rfl)) (@jd _ _ _ _ _ (@kO _ _ (6) _ _ _ _ a7.nd Z (Or.inl Z) (@kL _ _ _ _ _ _ _ _ _ _ _ _ _ _ _ _ GT D Z M C x .nil aY (@ja _ _ _ _ _ (@pv _ 0 _ _ Pq (.inr (.inl Z)) Pm Pm) (@ja _ _ _ _ _ (@jg _ _ _ _) (@jb _) Pq) Pq) Pm Pq Pq) Pq (.inl Z)) (@jd _ _ _ _ _ (@kO _ _ (7) _ _ _ _ a7.nd Z (Or.inl Z) (@kL _ _ _ _ _ _ _ _ _ _ _ _ _ _ _ _ GT D Z M C x .nil aY (@ja _ _ _ _ _ (@pv _ 0 _ _ Pq (.inr (.inl Z)) Pm Pm) (@ja _ _ _ _ _ (@jg _ _ _ _) (@jb _) Pq) Pq) Pm Pq Pq) Pq (.inl Z)) (@jd _ _ _ _ _ (@kO _ _ (8) _ _ _ _ a7.nd Z (Or.inl Z) (@jJ _ _ _ _ (@jb _)) Pq (.inl Z)) (@jd _ _ _ _ _ (@j7 _ _ _ _ _ _ _ _ Lp Z (@zk _ _ _ _ _ _ Z mr (@ja _ _ _ _ _ (@pv _ 1 _ _ Pq (.inl Z) Pm Pm) (@jb _) Pq) Pq) (@jw _ _ (9) _ a7.nd Z (Or.inl Z) (.inl Z)) (@jd _ _ _ _ _ (@kO _ _ (10) _ _ _ _ a7.nd Z (Or.inl Z) (@jv _ _ _ _ _ _ _ Kg (@pv _ 2 _ _ Pq (.inr (.inl Z)) Pm Pm) (@jx _ _ _ _ _ _ _ _ za (@jx _ _ _ _ _ _ _ _ j8 (@pv _ 6 _ _ Pq (.inl Z) Pm Pm) (@jx _ _ _ _ _ _ _ _ zq (@jg _ _ _ _) (@pv _ 9 _ _ Pq (.inl Z) Pm Pm))) (@jg _ _ _ _)) (λ_ _=>Z)) Pq (.inl Z)) (@jd _ _ _ _ _ (@zf _ _ _ (@kO _ _ (11) _ _ _ _ a7.nd Z (Or.inl Z) (@jx _ _ _ _ _ _ _ _ zA (@jx _ _ _ _ _ _ _ _ zA (@jU _ _ _ _ _ _ _ _ _ _ _ _ N9 Oo On QQ (@jo _ _ _ _) (@ja _ _ _ _ _ (@jK _ _ _ _ _ _ _ _ _ _ qN (@pv _ 5 _ _ Pq (.inl Z) Pm Pm) (@jR _) (@jN _ _ _ (@pv _ 4 _ _ Pq (.inl Z) Pm Pm))) (@jb _) Pq) Pq Pq Pq Pq Pq) (@pv _ 10 _ _ Pq (.inl Z) Pm Pm)) (@jU _ _ _ _ _ _ _ _ _ _ _ _ N9 Oo On QQ (@jo _ _ _ _) (@ja _ _ _ _ _ (@jK _ _ _ _ _ _ _ _ _ _ qN (@pv _ 5 _ _ Pq (.inl Z) Pm Pm) (@jN _ _ _ (@jx _ _ _ _ _ _ _ _ j8 (@pv _ 4 _ _ Pq (.inl Z) Pm Pm) (@jg _ _ _ _))) (@jR _)) (@jb _) Pq) Pq Pq Pq Pq Pq)) Pq (.inl Z))) (@jd _ _ _ _ _ (@zf _ _ _ (@jy _ _ _ _ _ _ _ _ (@PW.pt _ _ _ (@X9 _ _ _ _ _ _ _ (Jl (@pv _ 7 _ _ Pq (.inl Z) Pm Pm)) (@QO _ _ _ _ (Jl (@jx _ _ _ _ _ _ _ _ za (@pv _ 9 _ _ Pq (.inl Z) Pm Pm) (@jg _ _ _ _)))))) (@jf _ _ _ (@kO _ _ (11) _ _ _ _ a7.nd Z (Or.inl Z) (@jx _ _ _ _ _ _ _ _ zA (@pv _ 11 _ _ Pq (.inl Z) Pm Pm) (@jo _ _ _ _)) Pq (.inl Z))) (@jr _))) (@jd _ _ _ _ _ (@zf _ _ _ (@jy _ _ _ _ _ _ _ _ (Jl (@pv _ 7 _ _ Pq (.inl Z) Pm Pm)) (@jf _ _ _ (@kO _ _ (11) _ _ _ _ a7.nd Z (Or.inl Z) (@jx _ _ _ _ _ _ _ _ zA (@jU _ _ _ _ _ _ _ _ _ _ _ _ N9 Oo On QQ (@jo _ _ _ _) (@ja _ _ _ _ _ (@zT _ _ _ _ _ _ _ (z27z) (1) ([0,2]) _ _ _ _ Z (@zk _ _ _ _ _ _ Z mr (@ja _ _ _ _ _ (@kL _ _ _ _ _ _ _ _ _ _ _ _ _ _ _ _ GT D Z M C x .nil aY (@ja _ _ _ _ _ (@pv _ 0 _ _ Pq (by first |exact Or.inl Z |exact Or.inr (Or.inl Z) |exact Or.inr (Or.inr Z)) Pm Pm) (@ja _ _ _ _ _ (@jg _ _ _ _) (@jb _) Pq) Pq) Pm Pq Pq) (@jb _) Pq) Pq) YT (λ_ _ _ _ _=>(@jw _ _ (0) _ YS Z (Or.inl Z) (by first |exact .inl Z |exact .inr Z))) (λ_ _ _ _ _=>(@qg _)) (λ_ _ _ _ _=>(@jv _ _ _ _ _ _ _ Kg (@pv _ 2 _ _ Pq (by first |exact Or.inl Z |exact Or.inr (Or.inl Z) |exact Or.inr (Or.inr Z)) Pm Pm) (@kL _ _ _ _ _ _ _ _ _ _ _ _ _ _ _ _ GT D Z M C x .nil aY (@ja _ _ _ _ _ (@pv _ 1 _ _ Pq (by first |exact Or.inl Z |exact Or.inr (Or.inl Z) |exact Or.inr (Or.inr Z)) Pm Pm) (@ja _ _ _ _ _ (@jg _ _ _ _) (@jb _) Pq) Pq) Pm Pq Pq) (λ_ _=>Z))) (by intro _;rfl)) (@jb _) Pq) Pq Pq Pq Pq Pq) (@pv _ 10 _ _ Pq (.inl Z) Pm Pm)) Pq (.inl Z))) (@jr _))) (@jd _ _ _ _ _ (@zf _ _ _ (@jy _ _ _ _ _ _ _ _ (@jC _ _ _ _ _ _ _ _ zm (@pv _ 11 _ _ Pq (.inl Z) Pm Pm) (@jl _ _ _ _ _ (@QR _ _ Pq)) Z) (@jf _ _ _ (@kO _ _ (11) _ _ _ _ a7.nd Z (Or.inl Z) (@jx _ _ _ _ _ _ _ _ zA (@jo _ _ _ _) (@pv _ 10 _ _ Pq (.inl Z) Pm Pm)) Pq (.inl Z))) (@jr _))) (@jf _ _ _ (@jB _ _ _ _ (@jU _ _ _ _ _ _ _ _ _ _ _ _ IR J' I9 jI (@pv _ 8 _ _ Pq (.inl Z) Pm Pm) (@ja _ _ _ _ _ (@pv _ 11 _ _ Pq (.inl Z) Pm Pm) (@jb _) Pq) Pq Pq Pq Pq Pq) Pq))))))) (by intro _;rfl)) (@jd _ _ _ _ _ (@zf _ _ _ (@jy _ _ _ _ _ _ _ _ (@jC _ _ _ _ _ _ _ _ Jw (@kL _ _ _ _ _ _ _ _ _ _ _ _ _ _ _ _ GT D Z M C x .nil aY (@ja _ _ _ _ _ (@pv _ 0 _ _ Pq (.inr (.inl Z)) Pm Pm) (@ja _ _ _ _ _ (@jg _ _ _ _) (@jb _) Pq) Pq) Pm Pq Pq) (@jg _ _ _ _) (aN _)) (@jd _ _ _ _ _ (@kO _ _ (12) _ _ _ _ a7.nd Z (Or.inl Z) (@jJ _ _ _ _ (@QR _ _ Pq)) Pq (.inl Z)) (@jd _ _ _ _ _ (@kO _ _ (13) _ _ _ _ a7.nd Z (Or.inl Z) (@jv _ _ _ _ _ _ _ jG (@pv _ 12 _ _ Pq (.inl Z) Pm Pm) (@kL _ _ _ _ _ _ _ _ _ _ _ _ _ _ _ _ GT D Z M C x .nil aY (@ja _ _ _ _ _ (@pv _ 0 _ _ Pq (.inr (.inl Z)) Pm Pm) (@ja _ _ _ _ _ (@jg _ _ _ _) (@jb _) Pq) Pq) Pm Pq Pq) (λ_ _=>Z)) Pq (.inl Z)) (@jf _ _ _ (@jy _ _ _ _ _ _ _ _ (@jC _ _ _ _ _ _ _ _ Jc (@pv _ 13 _ _ Pq (.inl Z) Pm Pm) (@pv _ 8 _ _ Pq (.inl Z) Pm Pm) Z) (@jf _ _ _ (@Ke _ _ _ _ _ _ (@pv _ 13 _ _ Pq (.inl Z) Pm Pm) (@Ya _ _ _ _ _ _ _ (@pv _ 8 _ _ Pq (.inl Z) Pm Pm) (@kL _ _ _ _ _ _ _ _ _ _ _ _ _ _ _ _ GT D Z M C x .nil aY (@ja _ _ _ _ _ (@pv _ 0 _ _ Pq (.inr (.inl Z)) Pm Pm) (@ja _ _ _ _ _ (@pv _ 1 _ _ Pq (.inl Z) Pm Pm) (@jb _) Pq) Pq) Pm Pq Pq) Kn (by intro _;rfl)) Pq Pq Pq)) (@jr _))))) (@jr _))) (@jf _ _ _ (@jm _ _ _ _ (@pv _ 8 _ _ Pq (.inl Z) Pm Pm)))))))))))),?_]
 refine fh λE0 f0=>f0 _ _ ?_
 refine fh λG a=>#[_,Z,p,6,Z,B,Pm,Pm,λd1 H1 b0 b1 U e1=>#[_,_,Z,Z,a _ _ ?_]]
 refine fh λE2 f2=>#[_,Z,_,Z,p,_,Z,U,Pn,Pn,λd2 H2 b2 b3 B2 e2=>f2 _ _ ?_]
 clear f0 a f2
 refine fh λG a=>#[_,Z,_,Z,Pn,Pn,?_]
 refine Jh (p:=p) Pn B2 λss H3 a4 e B3 e3 g hg=>a _ _ ?_
 clear a
 have k3:aR p H H3:=(aR.of_eq e1).trans ((aR.of_eq e2).trans (aR.of_eq e3))
 have v:g≠p:=B3.ne hg
 refine fh λG a=>#[_,Z,p,26,Z,B3.upd_new hg,Pm,Pm,λW H4 b4 b5 B4 e4=>a _ _ ?_]
 refine fh λE2 f2=>#[_,Z,p,3,Z,B4,Pm,Pm,λI H5 b6 b7 B5 e5=>f2 _ _ ?_]
 clear a f2
 have h2:H5 g=some (.lst (ss.map V.str)):=by rw[e5 g v,e4 g v];exact jc
 have k5:aR p H H5:=(k3.upd_new hg).trans ((aR.of_eq e4).trans (aR.of_eq e5))
 refine fh λG a=>#[Pm,λr u=>a _ _ ?_]
 clear a
 have m:r≠p:=B5.ne u
 have h4:g≠r:=ji h2 u
 have n3:H g=none:=by
  cases z:H g with
  |none=>rfl
  |some o=>have:=k3 g o v z;rw[hg]at this;cases this
 have X:H r=none:=by
  cases z:H r with
  |none=>rfl
  |some o=>have:=k5 r o m z;rw[u]at this;cases this
 have b8:=zK
 refine fh λG a=>dq λJ j=>#[_,Z,_,Z,Pn,Pn,j _ _ ?_]
 clear j
 refine kQ (lo:=0) (NI p g r n d1 d2 W I ss H) #[none,none,none,[],Z,am h2 u,jc,Z,#[(λ_ h=>nomatch h),(λ_ _ h=>nomatch h)],B5.upd_new u,k5.upd_new u] ?_ ?_
 ·intro E0 _ i σ H' hi fE Gq T b
  obtain⟨ok,oo,ow,ys,rfl,L,Y,h0,d,B',k'⟩:=b
  clear a
  obtain⟨c,hc⟩:=vG (z:=di) (k:=(W+5*(0+(i:Int))) % 26) (LQ _ Pm) (by rw[JG];exact LC _ Pm)
  refine T ?_
  clear T
  show eP (fo _ _) _ E0 _ _
  refine fh λG a=>#[_,Z,_,Z,_,Z,_,_,Z,Z,.inl #[Pm,Pm],_,_,Z,Z,_,_,Z,Z,(by show(0:Int) < 26;decide),_,_,c,Z,Z,Pm,hc,a _ _ ?_]
  clear a
  have b9:(#[(List.toArray [c])]:Str).length=1:=rfl
  have h5:c=o0 W i:=BX (LQ _ Pm) (LC _ Pm) hc
  refine fh λG a=>gT (Rw p g r n d1 d2 W I i c ss ys H 13 (·=pre ss d2++#[(List.toArray [c])]++fj ss d2)) (λE2 _ t=>?_) λO H1 b=>?_
  ·clear a fE
   refine#[Z,_,Z,_,Z,_,Z,g,_,Z,aJ.of L,λs1 n1=>?_]
   have z1:=qQ (ys:=dD ss none (some d2)) λy d=>e y (zL d)
   have z2:=Xt ss none (some d2)
   refine#[_,s1,dD ss none (some d2),Z,Z,aJ.of (by rw[jc,Xs]),Pm,Pn,?_]
   have j1:=qR (z:="") (ys:=dD ss none (some d2)) Pp λy d=>e y (zL d)
   refine#[_,Z,_,_,Z,Z,Pn,?_]
   refine#[Z,_,Z,_,Z,_,_,Z,Z,_,Z,g,_,Z,aJ.of (am L n1),λs2 n2=>?_]
   have z3:=qQ (ys:=dD ss (some (d2+1)) none) λy d=>e y (zL d)
   have z4:=Xt ss (some (d2+1)) none
   refine#[_,s2,dD ss (some (d2+1)) none,Z,Z,aJ.of (by rw[jc,Xs]),Pm,Pn,?_]
   have j2:=qR (z:="") (ys:=dD ss (some (d2+1)) none) Pp λy d=>e y (zL d)
   refine#[_,_,Z,Z,by rw[nP];omega,?_]
   exact t _ _ #[_,#[by show(Txt.join ("":Str) (dD ss none (some d2))++(#[(List.toArray [c])]:Str)++Txt.join ("":Str) (dD ss (some (d2+1)) none)).length<=13;rw[nP,nP];omega,Z],Z,am (am L n1) n2,am (am Y n1) n2,(B'.upd_new n1).upd_new n2,(k'.upd_new n1).upd_new n2]
  obtain⟨w1,⟨b',z1⟩,rfl,g1,r1,U,k1⟩:=b
  refine a _ _ ?_
  clear a
  refine fh λG a=>gT (Rw p g r n d1 d2 W I i c ss ys H 14 (λw=>w=pre ss d2++#[(List.toArray [c])]++fj ss d2∨w=pre ss d2++#[(List.toArray [c])]++fj ss d2++"z")) (λE2 _ t=>?_) λO H2 b=>?_
  ·clear a fE
   refine#[_,Z,Z,_,Z,?_]
   refine eW (λS=>?_) (λS=>?_)
   ·refine#[_,Z,_,_,Z,Z,(by show(0:Int) < 2;decide),Z,_,Z,?_]
    refine eW (λcb=>?_) (λcb=>?_)
    ·have hz:(Str.ofString "z").length=1:=by decide+kernel
     refine#[_,Z,_,_,Z,Z,by rw[hz];omega,?_]
     exact t _ _ #[_,#[by rw[nP,hz];omega,.inr (by rw[z1])],Z,g1,r1,U,k1]
    ·exact t _ _ #[w1,#[Pn,.inl z1],Z,g1,r1,U,k1]
   ·exact sQ (t _ _ #[w1,#[Pn,.inl z1],Z,g1,r1,U,k1])
  obtain⟨w2,⟨c2,z2⟩,rfl,g2,r2,B2,k2⟩:=b
  refine a _ _ ?_
  clear a
  refine fh λG a=>gT (Rw p g r n d1 d2 W I i c ss ys H 14 (λw=>if I=2 then ∃R:Str,w=R++#[(List.toArray [c])] else w=pre ss d2++#[(List.toArray [c])]++fj ss d2∨w=pre ss d2++#[(List.toArray [c])]++fj ss d2++"z")) (λE2 _ t=>?_) λO H3 b=>?_
  ·clear a fE
   refine#[_,Z,Z,_,Z,?_]
   refine eW (λS=>?_) (λS=>?_)
   ·refine#[Z,_,Z,p,8,Z,B2,Pm,Pm,λd6 H6 d0 d3 B6 e6=>?_]
    refine#[_,Z,Pn,Pn,?_]
    refine Jh (p:=p) Pn B6 λtt H7 c3 h3 B7 e7 g7 n7=>?_
    have jt:=qR (z:="") (ys:=tt) Pp h3
    have zt:=qQ h3
    refine#[_,g7,tt,Z,Z,aJ.of jc,Pm,Pn,?_]
    refine#[_,Z,_,_,Z,Z,Pn,?_]
    have g8:H7 g=some (.lst (ss.map V.str)):=by rw[e7 g v,e6 g v];exact g2
    have r8:H7 r=some (.lst (ys.map V.str)):=by rw[e7 r m,e6 r m];exact r2
    have e5:I=2:=by injection Mb S
    exact t _ _ #[_,#[by rw[nP];omega,(IU e5).mpr #[_,Z]],Z,am g8 n7,am r8 n7,B7.upd_new n7,(k2.trans ((aR.of_eq e6).trans (aR.of_eq e7))).upd_new n7]
   ·have e5:I≠2:=λz=>S (by rw[z];exact IV Z)
    exact t _ _ #[w2,#[Pn,(IX e5).mpr z2],Z,g2,r2,B2,k2]
  obtain⟨w3,⟨c4,z3⟩,rfl,g3,r3,B3,k3⟩:=b
  refine a _ _ ?_
  clear a
  refine fh λG a=>gT (Rw p g r n d1 d2 W I i c ss ys H 14 (Sh (pre ss d2) (fj ss d2) I c)) (λE2 _ t=>?_) λO H4 b=>?_
  ·clear a fE
   refine#[_,Z,Pm,λt0 N=>?_]
   refine#[t0,_,Z,.inr (aA.of jc),Z,ZV Pq,_,Z,?_]
   refine eW (λS=>?_) (λS=>?_)
   ·have hq:(Str.ofString "qqqqqqq").length=7:=by decide+kernel
    refine#[_,Z,_,_,Z,Z,by rw[hq];omega,?_]
    exact t _ _ #[_,#[by rw[nP,hq];omega,Hj],Z,am g3 N,am r3 N,B3.upd_new N,k3.upd_new N]
   ·exact t _ _ #[w3,#[Pn,Hk z3],Z,am g3 N,am r3 N,B3.upd_new N,k3.upd_new N]
  obtain⟨w4,⟨c5,z4⟩,rfl,g4,r4,B4,k4⟩:=b
  refine a _ _ ?_
  clear a
  refine#[_,Z,.inl #[Z,_,aJ.of r4],_,Z,r,_,_,Z,Z,r4,by rw[IJ];omega,?_]
  refine fE _ _ #[_,_,_,ys++[w4],Z,by rw[jh h4];exact g4,by rw[jc,Ln];rfl,by rw[IL,h0];rfl,#[λy hm=>?_,λj y hj=>?_],B4.eq (jh (Lr m)),k4.upd_own X]
  ·rcases List.mem_append.mp hm with hm |hm
   ·exact d.1 y hm
   ·rw[List.mem_singleton.mp hm];omega
  ·by_cases h6:j < ys.length
   ·rw[NJ h6]at hj
    exact d.2 j y hj
   ·have lj:=(List.getElem?_eq_some_iff.mp hj).1
    rw[IL,MT]at lj
    have ej:j=ys.length:=by omega
    rw[ej,NG (IK _),OL]at hj
    injection hj with hj
    rw[<- hj,ej,h0,<- h5]
    exact z4
 ·intro σ H' b
  obtain⟨ok,oo,ow,ys,rfl,L,Y,h0,d,B',k'⟩:=b
  have h1:(ys.length:Int)=n:=by omega
  have f5:=wX (ss:=ss) (d1:=d1) (d2:=d2) Pn Pn Pn
  have j1:(pre ss d2).length<=_:=qR (z:="") (ys:=dD ss none (some d2)) Pp λy d=>e y (zL d)
  have j2:(fj ss d2).length<=_:=qR (z:="") (ys:=dD ss (some (d2+1)) none) Pp λy d=>e y (zL d)
  have nd:=vq Pn Pn d.2
  have d:=d.1
  refine a _ _ ?_
  clear a
  refine aj λF1 a=>gT (Rf p r n H) (λE2 _ t=>?_) λO H1 b=>?_
  ·clear a
   refine Gi λG' g'=>#[_,Z,p,6,Z,B',Pm,Pm,λd6 H6 d0 d3 B6 e6=>#[Z,_,Z,g' _ _ ?_]]
   clear g'
   have r6:H6 r=some (.lst (ys.map V.str)):=by rw[e6 r m];exact Y
   have k6:aR p H H6:=k'.trans (aR.of_eq e6)
   refine eW (λS=>?_) (λS=>?_)
   ·refine fh λE3 f3=>#[Pm,λt0 N=>f3 _ _ ?_]
    clear f3
    have t1:t0≠p:=B6.ne N
    refine fh λE4 f3=>#[_,Z,_,Z,p,13,Z,B6.upd_new N,Pm,Pm,λd7 H7 d' a0 B7 e7=>?_]
    have t7:H7 t0=some (.lst ((z28z:List Str).map V.str)):=((e7 t0 t1).trans jc).trans (LY (λl=>some (HO.lst l)) Pp)
    have r7:H7 r=some (.lst (ys.map V.str)):=by rw[e7 r m];exact am r6 N
    have k7:aR p H H7:=(k6.upd_new N).trans (aR.of_eq e7)
    obtain⟨od,h7,h'⟩:=vY (ys:=(z28z:List Str)) d' (by simpa using a0)
    refine#[t0,_,_,_,Z,Z,aJ.of t7,h',f3 _ _ ?_]
    clear f3
    have a1:od.length<=20:=by
     have:∀y∈(z28z:List Str),y.length<=20:=by decide+kernel
     exact this od h7
    refine Gi λG' g'=>#[_,Z,_,Z,r,_,Z,.inl (aJ.of r7),Z,Qs _,_,Z,g' _ _ ?_]
    clear g'
    refine eW (λcb=>?_) (λcb=>?_)
    ·refine#[_,Z,_,Z,_,Z,_,Z,p,n,Z,B7,Pn,Pn,λd8 H8 a2 c6 B8 e8=>?_]
     have r8:H8 r=some (.lst (ys.map V.str)):=by rw[e8 r m];exact r7
     have k8:aR p H H8:=k7.trans (aR.of_eq e8)
     refine#[r,_,d8,d8.toNat,Z,Z,r8,?_,?_]
     ·unfold xF
      rw[IU a2,IJ,IU Pn]
     refine t _ _ #[Z,ys.set d8.toNat od,by rw[jc,vj],by rw[OU];exact h1,#[λy hm=>?_,Z8 nd (xS (by have c0:(!nV (.str od) (ys.map V.str))=true:=cb;rw[Bool.not_eq_true']at c0;exact c0))],B8.eq (jh (Lr m)),k8.upd_own X]
     rcases List.mem_or_eq_of_mem_set hm with hm |hm
     ·exact d y hm
     ·rw[hm];exact a1
    ·exact t _ _ #[Z,ys,r7,h1,#[d,nd],B7,k7]
   ·exact t _ _ #[Z,ys,r6,h1,#[d,nd],B6,k6]
  obtain⟨a3,y0,r1,l1,y1,U,k1⟩:=b
  refine a _ _ ?_
  exact#[_,a3,q r y0 H1 X r1 l1 y1 U k1]
def ax(H h:Hp):Prop:=∀b x,H b=some (.tup x)->h b=some (.tup x)
theorem aa.tm(a:aa H c):ax H c:=λb x h=>a b _ h
theorem je{H:Hp}{o:HO}(n:H p=none):aa H (ah H p o):=λb u e=>am e n
theorem cq{b:Bool}{A B:Prop}(h:b=true)(x:A):if b=true then A else B:=by rw[IU h];exact x
theorem aT{b:Bool}{A B:Prop}(h:b=false)(x:B):if b=true then A else B:=by rw[h,IX IW];exact x
theorem aH:sizeLine=16777216:=by rw[MU]
theorem aF.same(B:aF H p)(s:aa H c):aF c p:=by
 obtain⟨a,b,d,e,f,h⟩:=B.ob
 exact#[a,b,d,e,f,s _ _ h]
theorem aR.of_same(s:aa H h):aR p H h:=λb o _ e=>s _ _ e
theorem aR.tm(k:aR p H h)(B:aF H p):ax H h:=λb x e=>by
 obtain⟨a,c,_,_,_,f⟩:=B.ob
 exact k b _ (jS e f (by intro w;cases w)) e
theorem aR.none(k:aR p H h)(B:aF h p)(n:h r=none):H r=none:=by
 cases z:H r with
 |none=>rfl
 |some o=>have:=k _ _ (B.ne n) z;rw[n]at this;cases this
theorem Z9{K:Frag}{a:Addr}{xs:List V}{t:TE}{Q:List V->Hp->Prop}(u:xs.length<=sizeLine)(Pv:Nat->List V->Hp->Prop)(l:Pv 0 [] H)
  (n:∀i Y h,Pv i Y h->aJ K h a xs/\Y.length<=i) (o:∀i x Y h,xs[i]?=some x->Pv i Y h->t (some x::d) h λy c=>Pv (i+1) (Y++[y]) c) (q:∀Y h,Pv xs.length Y h->Q Y h):
  eh (wz K a) 1 d (bG 0) mW t Q H:=by
 refine#[λi m Y h=>m=xs.length - i/\i<=xs.length/\Pv i Y h,#[xs.length,Po,IS _,l],?_]
 intro i m Y h f
 obtain⟨rfl,z,p⟩:=f
 obtain⟨g,A⟩:=n i Y h p
 by_cases b:i < xs.length
 ·refine .inr #[#[xs,xs[i],g,IG b],Pn,Pv (i+1),λr c s=>#[xs.length - (i+1),Pn,Z,b,s],λv c T j y=>?_]
  obtain⟨e,y⟩:=y
  subst e
  obtain⟨w,rfl⟩:=oZ j
  exact#[#[[some _],Z,Z],o i v Y c (y xs g) p]
 ·have e:i=xs.length:=by omega
  subst e
  exact .inl #[#[xs,g,IK _],q Y h p]
theorem Qt{K:Frag}{xs:List V}{t:TE}{Q:List V->Hp->Prop}(u:xs.length<=sizeLine)(Pv:Nat->List V->Hp->Prop)(l:Pv 0 [] H)
  (n:∀i Y h,Pv i Y h->aA K h a xs/\Y.length<=i) (o:∀i x Y h,xs[i]?=some x->Pv i Y h->t (some x::d) h λy c=>Pv (i+1) (Y++[y]) c) (q:∀Y h,Pv xs.length Y h->Q Y h):
  eh (Ap K a) 1 d (bG 0) mW t Q H:=by
 refine#[λi m Y h=>m=xs.length - i/\i<=xs.length/\Pv i Y h,#[xs.length,Po,IS _,l],?_]
 intro i m Y h f
 obtain⟨rfl,z,p⟩:=f
 obtain⟨g,A⟩:=n i Y h p
 by_cases b:i < xs.length
 ·refine .inr #[#[xs,xs[i],g,IG b],Pn,Pv (i+1),λr c s=>#[xs.length - (i+1),Pn,Z,b,s],λv c T j y=>?_]
  obtain⟨e,y⟩:=y
  subst e
  obtain⟨w,rfl⟩:=oZ j
  exact#[#[[some _],Z,Z],o i v Y c (y xs g) p]
 ·have e:i=xs.length:=by omega
  subst e
  exact .inl #[#[xs,g,IK _],q Y h p]
noncomputable abbrev lH:Stmt:=bM 60
inductive Tm where
 |num (n:Int) |var (x:Str) |op (i:Nat) (a b:Tm)
noncomputable def Tm.depth:Tm->Nat
 | .num _=>0
 | .var _=>0
 | .op _ a b=>max a.depth b.depth+1
noncomputable def Hi:Str:="+-*/<="
noncomputable def Hh(i:Nat):Str:=#[(List.toArray [Hi.cps.toList.getD i 0])]
def Tm.Good(y:List Str):Tm->Prop
 | .num n=>0<=n/\n < 1000000000000000000
 | .var x=>x∈y
 | .op i a b=>i < 6/\a.Good y/\b.Good y
def bY(H:Hp):Tm->Addr->Prop
 | .num n,p=>H p=some (.tup [.str "num",.int n])
 | .var x,p=>H p=some (.tup [.str "var",.str x])
 | .op i a b,p=>∃q r,H p=some (.tup [.str "op",.str (Hh i),.ref q,.ref r])/\bY H a q/\bY H b r
theorem bY.mono{H a:Hp}(h:∀b x,H b=some (.tup x)->a b=some (.tup x)):∀{t:Tm} {p:Addr},bY H t p->bY a t p
 | .num _,_,e=>h _ _ e
 | .var _,_,e=>h _ _ e
 | .op _ _ _,_,z=>by obtain⟨q,r,e,E,c⟩:=z;exact #[q,r,h _ _ e,bY.mono h E,bY.mono h c]
theorem bY.same(h:aa H a)(e:bY H t p):bY a t p:=e.mono λb x z=>h b _ z
inductive mN(c:List V)(H:Hp)(Q:VK)(a:XK):Prop
 |mk(p:Addr)(_:c=[.ref p])(_:aF H p)(_:∀(d:Int) (H':Hp),0<=d->d < 1000000000000000000->aF H' p->(∀b,b≠p->H' b=H b)->Q (.int d) H')
theorem Br{Y:List Str}(B:aF H p)(h:H g=some (.lst (Y.map V.str))):g≠p:=by
 obtain⟨x,y,_,_,_,b⟩:=B.ob
 refine jS h b λz=>?_
 injection z with z
 match Y,z with
 |a::r,z=>injection z with c _;cases c
theorem va:ai z3z z3z (ae lH):=bK
theorem pF(F:aQ K "_law_number" "_law_number" lH f t)(C:Cl P w K mg base 1 I u z6z cn "_law_take"):af P w K mg base aE 2 f t z3z mN:=by
 refine F.ok va (λv H Q E h=>?_) (λx A o s H v Q E a h=>?_)
 ·obtain⟨p,rfl,_⟩:=h
  rfl
 obtain⟨p,rfl,B,q⟩:=h
 refine#[_,(jd (jy (Jl (C.e a (ja (pv 0) (ja jg jb)))) (jf (jm (C.e a (ja (pv 0) (ja (jx Kf jg jg) jb))))) jr) (jf (jm (C.e a (ja (pv 0) (ja jg jb)))))),?_]
 refine#[_,Z,p,4,Z,B,Pm,Pm,λL M y G m r=>#[Z,_,Z,?_]]
 refine eW (λc=>?_) (λc=>?_)
 ·refine#[_,Z,_,_,Z,Z,#[Pm,Pm,Pm],p,_,Z,m,Pm,Pm,λD g d i j k=>?_]
  have z:=oJ
  exact q D g d Pn j λb n=>(k b n).trans (r b n)
 ·refine#[_,Z,p,9,Z,m,Pm,Pm,λD g d i j k=>?_]
  exact q D g d Pn j λb n=>(k b n).trans (r b n)
end _K
namespace _K
open PySem PySem.Spec PyProof.Rows _L
variable {P:Program}{w:World}{K:Frag}{mg:Str->Option Value}{base:Heap}
noncomputable def Tm.vars:Tm->List Str
 | .num _=>[]
 | .var x=>[x]
 | .op _ a b=>a.vars++b.vars
theorem kC:∀{t:Tm},t.Good y->∀x∈t.vars,x∈y
 | .num _,_,_,h=>nomatch h
 | .var _,g,_,h=>by rw[List.mem_singleton.mp h];exact g
 | .op _ _ _,g,_,h=>(List.mem_append.mp h).elim (kC g.2.1 _) (kC g.2.2 _)
theorem ki:∀{l m:List Str},l.Nodup->(∀x∈l,x∈m)->l.length<=m.length
 | [],_,_,_=>IS _
 |x::l,m,n,h=>by
  rw[List.nodup_cons]at n
  have H:=h x Li
  have q:=ki (l:=l) (m:=m.erase x) n.2 λy a=>(List.mem_erase_of_ne (λe=>n.1 (by rw[<- e];exact a))).mpr (h y (Le _ a))
  rw[List.length_erase_of_mem H]at q
  have:0 < m.length:=List.length_pos_of_mem H
  rw[Lm]
  omega
theorem KE:∀{l m:List Str},l.Nodup->m.Nodup->(∀x,x∈l↔x∈m)->l.Perm m
 | [],[],_,_,_=>.nil
 | [],y::m,_,_,h=>absurd ((h y).mpr Li) Po
 |x::l,m,n,N,h=>by
  rw[List.nodup_cons]at n
  have a:x∈m:=(h x).mp Li
  refine(List.Perm.cons x (KE n.2 (N.erase x) λy=>?_)).trans (List.perm_cons_erase a).symm
  rw[N.mem_erase_iff]
  constructor
  ·intro H
   exact#[λe=>n.1 (by rw[<- e];exact H),(h y).mp (Le _ H)]
  ·rintro ⟨b,H⟩
   exact(List.mem_cons.mp ((h y).mpr H)).resolve_left b
theorem Qu:∀{p:Str} {l:List Str},risingS p l=true->(p::l).Pairwise λa b=>a.cps.toList<=b.cps.toList
 |p,[],_=>by simp
 |p,x::r,h=>by
  have H:(!ltCps x.cps.toList p.cps.toList&&risingS x r)=true:=h
  rw[L9]at H
  have i:=Qu H.2
  have c:p.cps.toList<=x.cps.toList:=by
   have z:=H.1
   rw[ltCps_eq]at z
   simpa using z
  rw[List.pairwise_cons]at i ⊢
  refine#[λy hy=>?_,List.pairwise_cons.mpr i]
  rcases List.mem_cons.mp hy with rfl |hy
  ·exact c
  ·exact List.le_trans c (i.1 y hy)
theorem Qv(h:sortedS l=true):l.Pairwise λa b=>a.cps.toList<=b.cps.toList:=by
 cases l with
 |nil=>exact .nil
 |cons x r=>exact Qu h
theorem X6{l:List Str}(p:l.Perm m)(h:sortedS l=true)(H:sortedS m=true):l=m:=by
 refine List.Perm.eq_of_pairwise (λa b _ _ x y=>?_) (Qv h) (Qv H) p
 have e:=List.le_antisymm x y
 cases a
 cases b
 exact LY Str.mk (Array.toList_inj.mp e)
inductive Lf where
 |rd (x:Str) (t:Addr) (T:Tm)
 |st (x:Str) (t:Addr) (T:Tm)
 |wr (t u:Addr) (T U:Tm)
 |cl (x f:Str) (q:Addr) (ts:List (Addr×Tm))
 |gv (t:Addr) (T:Tm)
def Aq(H:Hp):Lf->List V->Prop
 | .rd x t T,v=>v=[.str "read",.str x,.ref t]/\bY H T t
 | .st x t T,v=>v=[.str "set",.str x,.ref t]/\bY H T t
 | .wr t u T U,v=>v=[.str "write",.ref t,.ref u]/\bY H T t/\bY H U u
 | .cl x f q a,v=>v=[.str "call",.str x,.str f,.ref q]/\H q=some (.tup (a.map λc=>V.ref c.1))/\∀c∈a,bY H c.2 c.1
 | .gv t T,v=>v=[.str "give",.ref t]/\bY H T t
theorem Aq.mono(k:ax H a)(h:Aq H l v):Aq a l v:=by
 cases l with
 |rd x t T |st x t T |gv t T=>exact#[h.1,h.2.mono k]
 |wr t u T U=>exact#[h.1,h.2.1.mono k,h.2.2.mono k]
 |cl x f q d=>exact#[h.1,k _ _ h.2.1,λc b=>(h.2.2 c b).mono k]
inductive Bd where
 |nil
 |lf (p:Addr) (l:Lf) (r:Bd)
 |ite (p t:Addr) (T:Tm) (a b r:Bd)
 |loop (p t:Addr) (T:Tm) (a r:Bd)
noncomputable def Bd.app:Bd->Bd->Bd
 | .nil,s=>s
 | .lf p l r,s=>.lf p l (r.app s)
 | .ite p t T a b r,s=>.ite p t T a b (r.app s)
 | .loop p t T a r,s=>.loop p t T a (r.app s)
noncomputable def Bd.size:Bd->Nat
 | .nil=>0
 | .lf _ _ r=>r.size+1
 | .ite _ _ _ a b r=>a.size+b.size+r.size+1
 | .loop _ _ _ a r=>a.size+r.size+1
noncomputable def Bd.dep:Bd->Nat
 | .nil=>0
 | .lf _ _ r=>r.dep
 | .ite _ _ _ a b r=>max (max a.dep b.dep+1) r.dep
 | .loop _ _ _ a r=>max (a.dep+1) r.dep
def er(y:List Str)(T:Tm):Prop:=T.Good y/\T.depth < 6
def Lf.Ok(y:List Str):Lf->Prop
 | .rd x _ T=>x∈y/\er y T
 | .st x _ T=>x∈y/\er y T
 | .wr _ _ T U=>er y T/\er y U
 | .cl x _ _ t=>x∈y/\t.length<=6/\∀c∈t,er y c.2
 | .gv _ T=>er y T
def Bd.Ok(y:List Str):Bd->Prop
 | .nil=>True
 | .lf _ l r=>l.Ok y/\r.Ok y
 | .ite _ _ T a b r=>er y T/\a.Ok y/\b.Ok y/\r.Ok y
 | .loop _ _ T a r=>er y T/\a.Ok y/\r.Ok y
abbrev gV:=List (Str×Nat)
def Lf.Cs(F:gV):Lf->Prop
 | .cl _ f _ t=>(f,t.length)∈F
 |_=>True
def Bd.Cs(F:gV):Bd->Prop
 | .nil=>True
 | .lf _ l r=>l.Cs F/\r.Cs F
 | .ite _ _ _ a b r=>a.Cs F/\b.Cs F/\r.Cs F
 | .loop _ _ _ a r=>a.Cs F/\r.Cs F
theorem QF{F:gV}:∀{a b:Bd},a.Cs F->b.Cs F->(a.app b).Cs F
 | .nil,_,_,h=>h
 | .lf _ _ _,_,h,k=>#[h.1,QF h.2 k]
 | .ite _ _ _ _ _ _,_,h,k=>#[h.1,h.2.1,QF h.2.2 k]
 | .loop _ _ _ _ _,_,h,k=>#[h.1,QF h.2 k]
theorem kG{F:gV}(k:∀f∈F,f∈G):∀{a:Bd},a.Cs F->a.Cs G
 | .nil,_=>trivial
 | .lf _ l _,h=>#[by cases l<;>first |exact k _ h.1 |trivial,kG k h.2]
 | .ite _ _ _ _ _ _,h=>#[kG k h.1,kG k h.2.1,kG k h.2.2]
 | .loop _ _ _ _ _,h=>#[kG k h.1,kG k h.2]
noncomputable def Lf.calls:Lf->gV
 | .cl _ f _ t=>[(f,t.length)]
 |_=>[]
noncomputable def Bd.calls:Bd->gV
 | .nil=>[]
 | .lf _ l r=>l.calls++r.calls
 | .ite _ _ _ a b r=>a.calls++(b.calls++r.calls)
 | .loop _ _ _ a r=>a.calls++r.calls
theorem zx:∀b:Bd,b.Cs b.calls
 | .nil=>trivial
 | .lf _ l r=>#[by cases l<;>first |exact List.mem_append_left _ List.mem_cons_self |trivial,kG (λ_ h=>List.mem_append_right _ h) (zx r)]
 | .ite _ _ _ a b r=>#[kG (λ_ h=>List.mem_append_left _ h) (zx a),kG (λ_ h=>List.mem_append_right _ (List.mem_append_left _ h)) (zx b),kG (λ_ h=>List.mem_append_right _ (List.mem_append_right _ h)) (zx r)]
 | .loop _ _ _ a r=>#[kG (λ_ h=>List.mem_append_left _ h) (zx a),kG (λ_ h=>List.mem_append_right _ h) (zx r)]
theorem zy{F:gV}:∀{b:Bd},b.Cs F->∀f∈b.calls,f∈F
 | .nil,_,_,h=>nomatch h
 | .lf _ l r,k,f,h=>(List.mem_append.mp h).elim (λh=>by cases l<;>first | (rw[List.mem_singleton.mp h];exact k.1) |exact nomatch h) (zy k.2 f)
 | .ite _ _ _ a b r,k,f,h=>(List.mem_append.mp h).elim (zy k.1 f) λh=>(List.mem_append.mp h).elim (zy k.2.1 f) (zy k.2.2 f)
 | .loop _ _ _ a r,k,f,h=>(List.mem_append.mp h).elim (zy k.1 f) (zy k.2 f)
theorem kf:∀(a b:Bd),(a.app b).size=a.size+b.size
 | .nil,b=>by show b.size=0+b.size;omega
 | .lf _ _ r,b=>by have:=kf r b;show(r.app b).size+1=r.size+1+b.size;omega
 | .ite _ _ _ x y r,b=>by have:=kf r b;show x.size+y.size+(r.app b).size+1=x.size+y.size+r.size+1+b.size;omega
 | .loop _ _ _ x r,b=>by have:=kf r b;show x.size+(r.app b).size+1=x.size+r.size+1+b.size;omega
theorem zD:∀(a b:Bd),(a.app b).dep=max a.dep b.dep
 | .nil,b=>(Nat.zero_max b.dep).symm
 | .lf _ _ r,b=>zD r b
 | .ite _ _ _ x y r,b=>by show max _ (r.app b).dep=max (max _ r.dep) b.dep;rw[zD r b,Nat.max_assoc]
 | .loop _ _ _ x r,b=>by show max _ (r.app b).dep=max (max _ r.dep) b.dep;rw[zD r b,Nat.max_assoc]
theorem QG:∀{a b:Bd},a.Ok y->b.Ok y->(a.app b).Ok y
 | .nil,_,_,h=>h
 | .lf _ _ _,_,g,h=>#[g.1,QG g.2 h]
 | .ite _ _ _ _ _ _,_,g,h=>#[g.1,g.2.1,g.2.2.1,QG g.2.2.2 h]
 | .loop _ _ _ _ _,_,g,h=>#[g.1,g.2.1,QG g.2.2 h]
def dQ(H:Hp):Bd->List V->Prop
 | .nil,x=>x=[]
 | .lf p l r,x=>∃v y,x= .ref p::y/\H p=some (.tup v)/\Aq H l v/\dQ H r y
 | .ite p t T a b r,x=>∃q Q A B y,x= .ref p::y/\H p=some (.tup [.str "if",.ref t,.ref q,.ref Q])/\bY H T t/\H q=some (.tup A)/\H Q=some (.tup B)/\dQ H a A/\dQ H b B/\dQ H r y
 | .loop p t T a r,x=>∃q A y,x= .ref p::y/\H p=some (.tup [.str "while",.ref t,.ref q])/\bY H T t/\H q=some (.tup A)/\dQ H a A/\dQ H r y
theorem dQ.mono(k:ax H m):∀{x:List V},dQ H a x->dQ m a x:=by
 induction a with
 |nil=>exactλh=>h
 |lf p l r n=>rintro x ⟨v,y,e,c,d,f⟩;exact#[v,y,e,k _ _ c,d.mono k,n f]
 |ite p t T a b r i o I=>rintro x ⟨q,Q,A,B,y,e,c,g,d,f,j,s,u⟩;exact#[q,Q,A,B,y,e,k _ _ c,g.mono k,k _ _ d,k _ _ f,i j,o s,I u]
 |loop p t T a r i I=>rintro x ⟨q,A,y,e,c,g,d,f,j⟩;exact#[q,A,y,e,k _ _ c,g.mono k,k _ _ d,i f,I j]
theorem dQ.app(k:dQ H b y):∀{x:List V},dQ H a x->dQ H (a.app b) (x++y):=by
 induction a with
 |nil=>intro x h;have e:x=[]:=h;rw[e];exact k
 |lf p l r I=>rintro x ⟨v,z,e,c,d,f⟩;exact#[v,z++y,by rw[e];rfl,c,d,I f]
 |ite p t T a b r _ _ i=>rintro x ⟨q,Q,A,B,z,e,c,g,d,f,j,m,n⟩;exact#[q,Q,A,B,z++y,by rw[e];rfl,c,g,d,f,j,m,i n]
 |loop p t T a r _ i=>rintro x ⟨q,A,z,e,c,g,d,f,j⟩;exact#[q,A,z++y,by rw[e];rfl,c,g,d,f,i j]
theorem dQ.len{a:Bd}:∀{xs:List V},dQ H a xs->xs.length<=a.size:=by
 induction a with
 |nil=>intro xs h;have e:xs=[]:=h;rw[e];exact IK 0
 |lf p l r I=>rintro xs ⟨v,y,e,d,f,c⟩;rw[e];exact Ms (I c)
 |ite p t T a b r _ _ i=>rintro xs ⟨q,Q,A,B,y,e,d,j,f,c,g,m,k⟩;rw[e];exact Ms (IZ (i k) (Nat.le_add_left _ _))
 |loop p t T a r _ i=>rintro xs ⟨q,A,y,e,d,j,f,c,g⟩;rw[e];exact Ms (IZ (i g) (Nat.le_add_left _ _))
inductive gW(H:Hp):V->Bd->Prop
 |lf (p:Addr) (l:Lf) (vs:List V) (h1:H p=some (.tup vs)) (h2:Aq H l vs):gW H (.ref p) (.lf p l .nil)
 |ite (p t:Addr) (T:Tm) (a b:Bd) (qa qb:Addr) (as bs:List V) (h1:H p=some (.tup [.str "if",.ref t,.ref qa,.ref qb])) (h0:bY H T t) (h2:H qa=some (.tup as)) (h3:H qb=some (.tup bs)) (h4:dQ H a as) (h5:dQ H b bs):gW H (.ref p) (.ite p t T a b .nil)
 |loop (p t:Addr) (T:Tm) (a:Bd) (qa:Addr) (as:List V) (h1:H p=some (.tup [.str "while",.ref t,.ref qa])) (h0:bY H T t) (h2:H qa=some (.tup as)) (h3:dQ H a as):gW H (.ref p) (.loop p t T a .nil)
theorem gW.bd(h:gW H v s):dQ H s [v]:=by
 cases h with
 |lf p l V c d=>exact#[V,[],Z,c,d,Z]
 |ite p t T a b q Q A B c e d f g i=>exact#[q,Q,A,B,[],Z,c,e,d,f,g,i,Z]
 |loop p t T a q A c e d f=>exact#[q,A,[],Z,c,e,d,f,Z]
theorem gW.mono(k:ax H g)(h:gW H v s):gW g v s:=by
 cases h with
 |lf p l V c d=>exact .lf p l V (k _ _ c) (d.mono k)
 |ite p t T a b q Q A B c e d f i j=>exact .ite p t T a b q Q A B (k _ _ c) (e.mono k) (k _ _ d) (k _ _ f) (i.mono k) (j.mono k)
 |loop p t T a q A c e d f=>exact .loop p t T a q A (k _ _ c) (e.mono k) (k _ _ d) (f.mono k)
theorem dQ.last:∀{x:List V},dQ H a x->x=[]/\a= .nil∨∃z v b s,x=z++[v]/\a=b.app s/\dQ H b z/\gW H v s:=by
 induction a with
 |nil=>exactλh=>.inl #[h,Z]
 |lf p l r i=>
  rintro x ⟨u,y,e,f,g,n⟩
  rcases i n with ⟨E,d⟩ | ⟨z,v,b,s,E,d,j,k⟩
  ·exact .inr #[[],.ref p,.nil,.lf p l .nil,by rw[e,E];rfl,by rw[d];rfl,Z,.lf p l u f g]
  ·exact .inr #[.ref p::z,v,.lf p l b,s,by rw[e,E];rfl,by rw[d];rfl,#[u,z,Z,f,g,j],k]
 |ite p t T a b r _ _ i=>
  rintro x ⟨q,Q,A,B,y,e,f,m,g,n,G,C,o⟩
  rcases i o with ⟨E,d⟩ | ⟨z,v,c,s,E,d,j,k⟩
  ·exact .inr #[[],.ref p,.nil,.ite p t T a b .nil,by rw[e,E];rfl,by rw[d];rfl,Z,.ite p t T a b q Q A B f m g n G C]
  ·exact .inr #[.ref p::z,v,.ite p t T a b c,s,by rw[e,E];rfl,by rw[d];rfl,#[q,Q,A,B,z,Z,f,m,g,n,G,C,j],k]
 |loop p t T a r _ i=>
  rintro x ⟨q,A,y,e,f,m,g,G,o⟩
  rcases i o with ⟨E,d⟩ | ⟨z,v,c,s,E,d,j,k⟩
  ·exact .inr #[[],.ref p,.nil,.loop p t T a .nil,by rw[e,E];rfl,by rw[d];rfl,Z,.loop p t T a q A f m g G]
  ·exact .inr #[.ref p::z,v,.loop p t T a c,s,by rw[e,E];rfl,by rw[d];rfl,#[q,A,z,Z,f,m,g,G,j],k]
theorem zH:∀{a b:Bd},(a.app b).Ok y->a.Ok y/\b.Ok y
 | .nil,_,h=>#[trivial,h]
 | .lf _ _ _,_,h=>#[#[h.1,(zH h.2).1],(zH h.2).2]
 | .ite _ _ _ _ _ _,_,h=>#[#[h.1,h.2.1,h.2.2.1,(zH h.2.2.2).1],(zH h.2.2.2).2]
 | .loop _ _ _ _ _,_,h=>#[#[h.1,h.2.1,(zH h.2.2).1],(zH h.2.2).2]
structure Nm(ss:List Str)(M:Str->Prop):Prop where
 nd:ss.Nodup
 so:sortedS ss=true
 mem:∀x,x∈ss↔M x
theorem Nm.uniq(h:Nm a M)(g:Nm s M):a=s:=X6 (KE h.nd g.nd λx=>(h.mem x).trans (g.mem x).symm) h.so g.so
open Classical in
noncomputable def canon(M:Str->Prop):List Str:=if h:∃s,Nm s M then Classical.choose h else []
theorem Nm.canon(h:Nm s M):s=canon M:=by
 have e:∃s,Nm s M:=#[s,h]
 unfold _K.canon
 rw[dif_pos e]
 exact h.uniq (Classical.choose_spec e)
theorem Nm.len{s y:List Str}{M:Str->Prop}(h:Nm s M)(H:∀x,M x->x∈y):s.length<=y.length:=ki h.nd λx a=>H x ((h.mem x).mp a)
def Lf.use(M:Str->Prop):Lf->Str->Prop
 | .rd x _ T,y=>(M y/\y≠x)∨y∈T.vars
 | .st x _ T,y=>(M y/\y≠x)∨y∈T.vars
 | .wr _ _ T U,y=>M y∨y∈T.vars∨y∈U.vars
 | .cl x _ _ t,y=>(M y/\y≠x)∨∃c∈t,y∈c.2.vars
 | .gv _ T,y=>y∈T.vars
def Bd.use:Bd->(Str->Prop)->Str->Prop
 | .nil,M=>M
 | .lf _ l r,M=>l.use (r.use M)
 | .ite _ _ T a b r,M=>λy=>(a.use (r.use M) y∨b.use (r.use M) y)∨y∈T.vars
 | .loop _ _ T a r,M=>λy=>(a.use (λ_=>False) y∨r.use M y)∨y∈T.vars
theorem JQ:∀(a b:Bd) (M:Str->Prop),(a.app b).use M=a.use (b.use M)
 | .nil,_,_=>rfl
 | .lf _ l r,b,M=>by show l.use ((r.app b).use M)=l.use (r.use (b.use M));rw[JQ r b M]
 | .ite _ _ T x y r,b,M=>by show(λz=>(x.use ((r.app b).use M) z∨y.use ((r.app b).use M) z)∨z∈T.vars)=λz=>(x.use (r.use (b.use M)) z∨y.use (r.use (b.use M)) z)∨z∈T.vars;rw[JQ r b M]
 | .loop _ _ T x r,b,M=>by show(λz=>(x.use (λ_=>False) z∨(r.app b).use M z)∨z∈T.vars)=λz=>(x.use (λ_=>False) z∨r.use (b.use M) z)∨z∈T.vars;rw[JQ r b M]
theorem Lf.use_in{M:Str->Prop}{l:Lf}(h:l.Ok Y)(a:∀x,M x->x∈Y):∀y,l.use M y->y∈Y:=by
 intro y H
 cases l with
 |rd x t T |st x t T=>exact H.elim (λz=>a y z.1) (kC h.2.1 y)
 |wr t u T U=>exact H.elim (a y) λz=>z.elim (kC h.1.1 y) (kC h.2.1 y)
 |cl x f q d=>exact H.elim (λz=>a y z.1) λ#[c,b,z]=>kC (h.2.2 c b).1 y z
 |gv t T=>exact kC h.1 y H
theorem Bd.use_in:∀{b:Bd} {M:Str->Prop},b.Ok Y->(∀x,M x->x∈Y)->∀y,b.use M y->y∈Y
 | .nil,_,_,H,y,c=>H y c
 | .lf _ l r,_,h,H,y,c=>Lf.use_in h.1 (Bd.use_in h.2 H) y c
 | .ite _ _ T a b r,_,h,H,y,c=>c.elim (λz=>z.elim (Bd.use_in h.2.1 (Bd.use_in h.2.2.2 H) y) (Bd.use_in h.2.2.1 (Bd.use_in h.2.2.2 H) y)) (kC h.1.1 y)
 | .loop _ _ T a r,_,h,H,y,c=>c.elim (λz=>z.elim (Bd.use_in h.2.1 (λ_ w=>w.elim) y) (Bd.use_in h.2.2 H y)) (kC h.1.1 y)
end _K
namespace _K
open PySem PySem.Spec PyProof.Rows _L
variable {P:Program}{w:World}{K:Frag}{mg:Str->Option Value}{base:Heap}
noncomputable abbrev eM:Stmt:=bM 14
noncomputable abbrev Do:Stmt:=bM 39
noncomputable abbrev uV:Stmt:=bM 40
noncomputable abbrev yL:Stmt:=bM 41
noncomputable abbrev yK:Stmt:=bM 42
inductive dh(n:Nat)(c:List V)(H:Hp)(Q:VK)(b:XK):Prop
 |mk(a:Addr)(T:Tm)(d:List Str)(_:c=[.ref a])(_:bY H T a)(_:T.depth < n)(_:T.Good d)(_:d.length<=21)(_:∀(r:Addr) (ss:List Str) (H':Hp),H r=none->H' r=some (.lst (ss.map V.str))->ss.Nodup->(∀x,x∈ss↔x∈T.vars)->sortedS ss=true->aa H H'->Q (.ref r) H')
theorem u9:ai z0z z0z (ae eM):=bK
theorem yc{f:Addr}{o:FuncData}(F:aQ K "names_in" "names_in" eM f o){n:Nat}(C:Cl P w K mg base (n+1) f o z0z (dh n) "names_in")(M:mg "set"=none)(p:mg "sorted"=none):af P w K mg base aE (n+2) f o z0z (dh (n+1)):=by
 refine F.ok u9 (λvs H Q E h=>?_) (λc0 A O s H vs Q E v h=>?_)
 ·obtain⟨a,T,Y,rfl,_⟩:=h
  rfl
 obtain⟨a,T,Y,rfl,t,dp,g,j,q⟩:=h
 refine#[_,(jd (jy (j6 (ju (pv 0))) (jf (jm (jJ jb))) jr) (jd (jy (j6 (ju (pv 0))) (jf (jm (jJ (ja (ju (pv 0)) jb)))) jr) (jf (jm (jO (qc Z) Z p O4 (ja (jP (qL Z) Z M boot_set (ja (jx Jm (C.e v (ja (ju (pv 0)) jb)) (C.e v (ja (ju (pv 0)) jb))) jb)) jb)))))),?_]
 cases T with
 |num m=>
  have b:H a=some (.tup [.str "num",.int m]):=t
  refine(jp b Z #[Z,_,Z,cq Pp ?_])
  exact#[Pm,λr N=>q r [] _ N jc Ou (λx=>OP) Z (je N)]
 |var x=>
  have b:H a=some (.tup [.str "var",.str x]):=t
  refine(jp b Z #[Z,_,Z,aT Pp ?_])
  refine(jp b Z #[Z,_,Z,cq Pp ?_])
  exact(jp b Z #[h8,λr N=>q r [x] _ N jc Po (λy=>OP) Z (je N)])
 |op i B D=>
  obtain⟨p1,p2,b,h1,h2⟩:=t
  have d0:max B.depth D.depth+1 < n+1:=dp
  refine(jp b Z #[Z,_,Z,aT Pp ?_])
  refine(jp b Z #[Z,_,Z,aT Pp ?_])
  refine(jp b Z #[p1,B,Y,Z,h1,Pn,g.2.1,j,λr1 S H1 n1 e1 d1 G o1 u=>?_])
  refine(jp (u _ _ b) Z #[p2,D,Y,Z,h2.same u,Pn,g.2.2,j,λr2 k H2 n2 e2 d2 I o2 J=>?_])
  have l1:S.length<=21:=IZ (ki d1 λx d=>kC g.2.1 x ((G x).mp d)) j
  have l2:k.length<=21:=IZ (ki d2 λx d=>kC g.2.2 x ((I x).mp d)) j
  have b0:=zK
  refine#[r1,r2,_,_,Z,Z,J _ _ e1,e2,(by rw[IJ,IJ];omega),λc nc=>?_]
  refine#[c,S++k,Z,aJ.of (by rw[jc,Ln]),(λL nd hs=>Mu (Ms (ki nd hs)) (by rw[IL];show S.length+k.length+1 < 4096;omega)),λl L nl dL R=>?_]
  have lL:=ki dL λx d=>(R x).mp d
  rw[IL]at lL
  refine#[l,L,Z,jc,Pn,λz ss U W dz oz=>?_]
  have X:aa H (ah (ah H2 c (.lst (S.map V.str++k.map V.str))) l (Ge P w l L)):=(u.trans J).trans ((je nc).trans (je nl))
  refine q z ss _ (X.free U) jc (W.nodup_iff.mpr dz) (λx=>?_) oz (X.trans (je U))
  rw[W.mem_iff,R x,ME,G x,I x]
  exact List.mem_append.symm
theorem xR:af P w K mg base aE 1 f d z0z (dh 0):=by
 have n:∀v H Q E,¬dh 0 v H Q E:=λv H Q E h=>by
  obtain⟨a,T,y,_,_,c,_⟩:=h
  exact absurd c (Oi _)
 exact#[λv H Q E h=>absurd h (n v H Q E),λA o s H b u v Q E _ _ _ _ h=>absurd h (n v H Q E)]
theorem AU(F:aQ K "names_in" "names_in" eM f a)(b:aC K a z0z [])(c:mg "names_in"=some (.ref f))(m:mg "set"=none)(M:mg "sorted"=none):
  ∀n:Nat,af P w K mg base aE (n+1) f a z0z (dh n)
 |0=>xR
 |n+1=>yc F #[(AU F b c m M n),b,F.kp,c] m M
noncomputable def Lf.own:Lf->List (Addr×Tm)
 | .rd _ t T=>[(t,T)]
 | .st _ t T=>[(t,T)]
 | .wr t u T U=>[(t,T),(u,U)]
 | .cl _ _ _ a=>a
 | .gv t T=>[(t,T)]
noncomputable def Bd.own:Bd->List (Addr×Tm)
 | .nil=>[]
 | .lf _ l _=>l.own
 | .ite _ t T _ _ _=>[(t,T)]
 | .loop _ t T _ _=>[(t,T)]
noncomputable def rT(c:Addr×Tm):V:=.ref c.1
inductive mO(b:List V)(H:Hp)(Q:VK)(a:XK):Prop
 |mk(v:V)(s:Bd)(_:b=[v])(_:gW H v s)(_:∀(r:Addr) (H':Hp),H' r=some (.tup (s.own.map rT))->aa H H'->Q (.ref r) H')
theorem Zh:cy (a::b::r) (some 1) (some 2)=[b]:=by
 unfold cy
 have e:(1:Int)=((1:Nat):Int):=rfl
 have E:(2:Int)=((2:Nat):Int):=rfl
 rw[E,e,HT.sIx_nat,HT.sIx_nat,Lm,Lm]
 have c:min 1 (r.length+1+1)=1:=by omega
 have d:min 2 (r.length+1+1) - 1=1:=by omega
 rw[c,d]
 rfl
theorem A2:ai ["statement","word"] z4z (ae Do):=bK
theorem CH{f:Addr}{j:FuncData}(F:aQ K "own_terms" "own_terms" Do f j):af P w K mg base aE 1 f j z4z mO:=by
 refine F.ok A2 ?_ λC A o s H V Q E d h=>?_
 ·rintro _ _ _ _ ⟨v,s,rfl,_⟩
  rfl
 obtain⟨v,st,rfl,m,q⟩:=h
 refine#[_,(jd (jD 1 A2.nd (ju (pv 0))) (jd (jy (jC zm (pv 1) (jl (ja jo (ja jo jb))) Z) (jf (jm (jK jV (pv 0) (jN jg) jR))) jr) (jd (jy (j6 (pv 1)) (jf (jm (jK jV (pv 0) (jN jg) jR))) jr) (jd (jy (j6 (pv 1)) (jf (jm (ju (pv 0)))) jr) (jf (jm (jK jV (pv 0) (jN jg) (jN jg)))))))),?_]
 cases m with
 |lf p l V c g=>
  cases l with
  |rd x t T |st x t T=>
   obtain⟨rfl,i⟩:=g
   refine(jp c Z #[_,Z,cg,λl n=>#[l,_,Z,.inr (aA.of jc),Z,Z,_,Z,cq Pp ?_]])
   exact#[_,Z,_,Z,p,_,Z,am c n,λr e d s=>q r e d ((je n).trans s)]
  |wr t u T U=>
   obtain⟨rfl,i,L⟩:=g
   refine(jp c Z #[_,Z,cg,λl n=>#[l,_,Z,.inr (aA.of jc),Z,Z,_,Z,aT Pp ?_]])
   refine#[_,Z,Z,_,Z,cq Pp ?_]
   exact#[_,Z,_,Z,p,_,Z,am c n,λr e d s=>q r e d ((je n).trans s)]
  |cl x M y N=>
   obtain⟨rfl,z,i⟩:=g
   refine(jp c Z #[_,Z,cg,λl n=>#[l,_,Z,.inr (aA.of jc),Z,Z,_,Z,aT Pp ?_]])
   refine#[_,Z,Z,_,Z,aT Pp ?_]
   refine#[_,Z,Z,_,Z,cq Pp ?_]
   exact(jp (am c n) Z (q y _ (am z n) (je n)))
  |gv t T=>
   obtain⟨rfl,i⟩:=g
   refine(jp c Z #[_,Z,cg,λl n=>#[l,_,Z,.inr (aA.of jc),Z,Z,_,Z,aT Pp ?_]])
   refine#[_,Z,Z,_,Z,aT Pp ?_]
   refine#[_,Z,Z,_,Z,aT Pp ?_]
   exact#[_,Z,_,Z,_,Z,p,_,Z,am c n,λr e d s=>q r e (by rw[Zh]at d;exact d) ((je n).trans s)]
 |ite p t T a b B O D R c G g I S W |loop p t T a B D c G g I=>
  refine(jp c Z #[_,Z,cg,λl n=>#[l,_,Z,.inr (aA.of jc),Z,Z,_,Z,aT Pp ?_]])
  refine#[_,Z,Z,_,Z,aT Pp ?_]
  refine#[_,Z,Z,_,Z,aT Pp ?_]
  exact#[_,Z,_,Z,_,Z,p,_,Z,am c n,λr e d s=>q r e (by rw[Zh]at d;exact d) ((je n).trans s)]
theorem KF{K:Frag}{a:Addr}{Y:List Str}{t:TT}{T:TE}{q:List V->Hp->Prop}{b:_L.St}{H:Hp}(f:Str->Bool)(L:Y.length<=1000)(A:H a=some (.lst (Y.map V.str)))
  (B:∀y g (Q:Bool->Hp->Prop),y∈Y->aa H g->(∀j,aa g j->Q (f y) j)->t (some (.str y)::b) g Q)
  (C:∀y g (Q:VK),y∈Y->Q (.str y) g->T (some (.str y)::b) g Q) (D:∀c,aa H c->q ((Y.filter f).map V.str) c):eh (wz K a) 1 b (bG 0) t T q H:=by
 have F:=zK
 refine#[λi m n c=>m=Y.length - i/\i<=Y.length/\n=((Y.take i).filter f).map V.str/\aa H c,#[Y.length,Po,IS _,Po,aa.refl H],?_]
 rintro i m n c ⟨rfl,M,rfl,k⟩
 have d:aJ K c a (Y.map V.str):=aJ.of (k _ _ A)
 by_cases h:i < Y.length
 ·have o:(Y.map V.str)[i]?=some (.str Y[i]):=by rw[Lc,IG h];rfl
  refine .inr #[#[_,_,d,o],?_,λz j=>z=((Y.take (i+1)).filter f).map V.str/\aa H j,λz j #[G,I]=>#[Y.length - (i+1),Pn,Z,h,G,I],λv j N l y=>?_]
  ·rw[IJ]
   have:=Np f (Y.take i)
   rw[Lo]at this
   omega
  obtain⟨e,y⟩:=y
  subst e
  have p:=y _ d
  rw[o]at p
  cases p
  obtain⟨w,rfl⟩:=oZ l
  have r:Y[i]∈Y:=Nt h
  have s:Y.take (i+1)=Y.take i++[Y[i]]:=by rw[LP,IG h];rfl
  refine#[#[[some _],Z,Z],B Y[i] _ _ r k λJ u=>?_]
  cases x:f Y[i] with
  |true=>
   refine cq Z (C Y[i] J _ r #[?_,k.trans u])
   rw[s,M',Ln]
   have E:[Y[i]].filter f=[Y[i]]:=by simp [x]
   rw[E]
   rfl
  |false=>
   refine aT Z #[?_,k.trans u]
   rw[s,M',Ln]
   have E:[Y[i]].filter f=[]:=by simp [x]
   rw[E]
   simp
 ·have e:i=Y.length:=by omega
  subst e
  refine .inl #[#[_,d,Po],?_]
  rw[Oc (IK _)]
  exact D c k
def Lf.bt(M:Str->Prop):Lf->Str->Prop
 | .rd x _ _,y=>M y/\y≠x
 | .st x _ _,y=>M y/\y≠x
 | .wr _ _ _ _,y=>M y
 | .cl x _ _ _,y=>M y/\y≠x
 | .gv _ _,_=>False
def Bd.bt(M:Str->Prop):Bd->Str->Prop
 | .nil,y=>M y
 | .lf _ l _,y=>l.bt M y
 | .ite _ _ _ a b _,y=>a.use M y∨b.use M y
 | .loop _ _ _ a _,y=>a.use (λ_=>False) y∨M y
theorem v9(h:gW H v s)(M:Str->Prop)(y:Str):s.use M y↔s.bt M y∨∃c∈s.own,y∈c.2.vars:=by
 cases h with
 |lf p l V _ _=>
  cases l with
  |rd x t T |st x t T=>exact#[λz=>z.elim .inl λw=>.inr #[_,List.mem_singleton.mpr Z,w],λz=>z.elim .inl λ#[c,hc,w]=>.inr (by rw[List.mem_singleton.mp hc]at w;exact w)]
  |wr t u T U=>
   refine#[λz=>z.elim .inl λw=>.inr (w.elim (λw=>#[_,Li ..,w]) λw=>#[_,Le _ (List.mem_singleton.mpr Z),w]),λz=>z.elim .inl λ#[c,hc,w]=>.inr ?_]
   rcases List.mem_cons.mp hc with e |hc
   ·rw[e]at w;exact .inl w
   ·rw[List.mem_singleton.mp hc]at w;exact .inr w
  |cl x f q d=>exact OP
  |gv t T=>exact#[λw=>.inr #[_,List.mem_singleton.mpr Z,w],λz=>z.elim False.elim λ#[c,hc,w]=>by rw[List.mem_singleton.mp hc]at w;exact w]
 |ite p t T a b Q g A B _ _ _ _ _ _ |loop p t T a Q A _ _ _ _=>exact#[λz=>z.elim .inl λw=>.inr #[_,List.mem_singleton.mpr Z,w],λz=>z.elim .inl λ#[c,hc,w]=>.inr (by rw[List.mem_singleton.mp hc]at w;exact w)]
structure NL(H:Hp)(g:Addr)(ss:List Str)(M:Str->Prop)(ys:List Str):Prop where
 at':H g=some (.lst (ss.map V.str))
 nm:Nm ss M
 sub:∀x,M x->x∈ys
 y20:ys.length<=21
theorem NL.len{H:Hp}{g:Addr}{s:List Str}{M:Str->Prop}{y:List Str}(h:NL H g s M y):s.length<=21:=IZ (h.nm.len h.sub) h.y20
theorem NL.same(h:NL H g a M y)(s:aa H b):NL b g a M y:=#[s _ _ h.at',h.nm,h.sub,h.y20]
structure NU(H:Hp)(g:Addr)(ss:List Str)(M:Str->Prop)(ys:List Str):Prop where
 at':H g=some (.lst (ss.map V.str))
 nd:ss.Nodup
 mem:∀x,x∈ss↔M x
 sub:∀x,M x->x∈ys
 y20:ys.length<=21
theorem NL.nu(h:NL H g s M y):NU H g s M y:=#[h.at',h.nm.nd,h.nm.mem,h.sub,h.y20]
inductive vE(n:Nat)(c:List V)(H:Hp)(Q:VK)(a:XK):Prop
 |mk(v:V)(g:Addr)(s:Bd)(b:List Str)(M:Str->Prop)(d:List Str)(_:c=[v,.ref g])(_:gW H v s)(_:NL H g b M d)(_:s.Ok d)(_:s.dep < n+1)(_:s.size<=10000000)(_:∀(r:Addr) (zs:List Str) (H':Hp),H' r=some (.lst (zs.map V.str))->(∀y,y∈zs↔s.bt M y)->zs.length<=50->aa H H'->Q (.ref r) H')
inductive gw(n:Nat)(c:List V)(H:Hp)(Q:VK)(a:XK):Prop
 |mk(v:V)(g:Addr)(s:Bd)(b:List Str)(M:Str->Prop)(d:List Str)(_:c=[v,.ref g])(_:gW H v s)(_:NL H g b M d)(_:s.Ok d)(_:s.dep < n+1)(_:s.size<=10000000)(_:∀(r:Addr) (zs:List Str) (H':Hp),H r=none->NL H' r zs (s.use M) d->aa H H'->Q (.ref r) H')
inductive iH(n:Nat)(e:List V)(H:Hp)(Q:VK)(c:XK):Prop
 |mk(a g:Addr)(b:Bd)(f:List V)(d:List Str)(M:Str->Prop)(h:List Str)(_:e=[.ref a,.ref g])(_:H a=some (.tup f))(_:dQ H b f)(_:NU H g d M h)(_:b.Ok h)(_:b.dep < n)(_:b.size<=10000000)(_:∀(r:Addr) (zs:List Str) (H':Hp),H r=none->NL H' r zs (b.use M) h->aa H H'->Q (.ref r) H')
theorem Nm.empty:Nm [] (λ_=>False):=#[Ou,Z,λx=>#[λh=>absurd h Ll,False.elim]]
theorem A6:ai ["statement","behind","word"] z1z (ae uV):=bK
noncomputable def vh:Scope:=#[.function,[(".0",.local),("name",.local),("statement",.free)],false,false,[]]
theorem ER:(["name","statement"]:List Str).Nodup:=by decide+kernel
theorem Er:bn ["statement","behind","word"] (ae uV) vh ["name","statement"] 1 [0]:=pY
theorem tV{L n:Nat}(F:aQ K "used_behind_terms" "used_behind_terms" uV f fd)(J:Cl P w K mg base L fA f0 z13z (iH n) "used_ahead"):af P w K mg base aE (L+1) f fd z1z (vE n):=by
 refine F.ok A6 ?_ λc0 A O s H vs Q E R h=>?_
 ·rintro _ _ _ _ ⟨v,g,s,G,M,Y,rfl,_⟩
  rfl
 obtain⟨v,g,st,G,M,Y,rfl,hs,c,W,hd,hz,q⟩:=h
 refine#[_,(jd (jD 2 A6.nd (ju (pv 0))) (jd (jy (jC zm (pv 2) (jl (ja jo (ja jo (ja jo jb)))) Z) (jf (jm (@zT _ _ _ _ _ _ _ (["name","statement"]) (1) ([0]) _ _ _ _ Z (zh (pv 1)) Er (λ_ _ _ _ _=>(jw (i:=0) ER Z (Or.inl Z))) (λ_ _ _ _ _=>(@Kh _ _ _ (jC Xa (pv 0) (jv (r:=bZ K) jE (pv 1) jg (λ_ _=>Z)) (aN _)))) (λ_ _ _ _ _=>(pv 0)) (by intro _;rfl)))) jr) (jd (jy (j6 (pv 2)) (jf (jm (jx Jm (J.e R.m (ja (ju (pv 0)) (ja (pv 1) jb))) (J.e R.m (ja (ju (pv 0)) (ja (pv 1) jb)))))) jr) (jd (jy (j6 (pv 2)) (jf (jm (jx Jm (J.e R.m (ja (ju (pv 0)) (ja (jJ jb) jb))) (pv 1)))) jr) (jd (jy (j6 (pv 2)) (jf (jm (jJ jb))) jr) (jf (jm (pv 1)))))))),?_]
 have g0:=c.len
 cases hs with
 |lf p l vs d B=>
  cases l with
  |rd x t T |st x t T=>
   obtain⟨rfl,X⟩:=B
   refine(jp d Z #[_,Z,m9,λl N=>#[l,_,Z,.inr (aA.of jc),Z,Z,_,Z,cq Pp ?_]])
   have S:aa H (ah H l (.tup [.str "set",.str "read",.str "call"])):=je N
   refine#[_,Z,g,Z,#[_,aJ.of (S _ _ c.at')],KF (λy=>!decide (V.str y=V.str x)) Pn (S _ _ c.at') (λy I Q' hy k C=>?_) (λy I Q' hy C=>#[_,Z,C]) λH' k r j=>?_]
   ·exact#[_,Z,jp (k _ _ (S _ _ d)) Z #[Z,_,Z,C _ (aa.refl _)]]
   ·refine q r _ _ jc (λy=>?_) (IZ (Np ..) Pn) ((S.trans k).trans (je j))
    rw[List.mem_filter,c.nm.mem y]
    exact and_congr_right λ_=>by simp
  |wr t u T U=>
   obtain⟨rfl,X,hU⟩:=B
   refine(jp d Z #[_,Z,m9,λl N=>#[l,_,Z,.inr (aA.of jc),Z,Z,_,Z,aT Pp ?_]])
   refine#[_,Z,Z,_,Z,aT Pp ?_]
   refine#[_,Z,Z,_,Z,aT Pp ?_]
   refine#[_,Z,Z,_,Z,aT Pp ?_]
   exact#[_,Z,q g G _ (am c.at' N) c.nm.mem Pn (je N)]
  |cl x f' q' ts=>
   obtain⟨rfl,h',X⟩:=B
   refine(jp d Z #[_,Z,m9,λl N=>#[l,_,Z,.inr (aA.of jc),Z,Z,_,Z,cq Pp ?_]])
   have S:aa H (ah H l (.tup [.str "set",.str "read",.str "call"])):=je N
   refine#[_,Z,g,Z,#[_,aJ.of (S _ _ c.at')],KF (λy=>!decide (V.str y=V.str x)) Pn (S _ _ c.at') (λy I Q' hy k C=>?_) (λy I Q' hy C=>#[_,Z,C]) λH' k r j=>?_]
   ·exact#[_,Z,jp (k _ _ (S _ _ d)) Z #[Z,_,Z,C _ (aa.refl _)]]
   ·refine q r _ _ jc (λy=>?_) (IZ (Np ..) Pn) ((S.trans k).trans (je j))
    rw[List.mem_filter,c.nm.mem y]
    exact and_congr_right λ_=>by simp
  |gv t T=>
   obtain⟨rfl,X⟩:=B
   refine(jp d Z #[_,Z,m9,λl N=>#[l,_,Z,.inr (aA.of jc),Z,Z,_,Z,aT Pp ?_]])
   refine#[_,Z,Z,_,Z,aT Pp ?_]
   refine#[_,Z,Z,_,Z,aT Pp ?_]
   refine#[_,Z,Z,_,Z,cq Pp ?_]
   exact#[eY,λr j=>q r [] _ jc (λy=>#[λh=>absurd h Ll,λh=>(show False from h).elim]) (IS _) ((je N).trans (je j))]
 |ite p t T a b qa qb as bs d h0 B h3 h4 h5=>
  refine(jp d Z #[_,Z,m9,λl N=>#[l,_,Z,.inr (aA.of jc),Z,Z,_,Z,aT Pp ?_]])
  refine#[_,Z,Z,_,Z,cq Pp ?_]
  have S:aa H (ah H l (.tup [.str "set",.str "read",.str "call"])):=je N
  have h6:max (max a.dep b.dep+1) 0 < n+1:=hd
  have h7:a.size+b.size+0+1<=10000000:=hz
  refine(jp (S _ _ d) Z #[_,Z,qa,g,a,as,G,M,Y,Z,S _ _ B,h4.mono (aa.tm S),(c.same S).nu,W.2.1,Pn,Pn,λr1 z1 I _ D k1=>?_])
  have z:=S.trans k1
  refine(jp (z _ _ d) Z #[_,Z,qb,g,b,bs,G,M,Y,Z,z _ _ h3,h5.mono (aa.tm z),(c.same z).nu,W.2.2.1,Pn,Pn,λr2 z2 H2 _ n2 k2=>?_])
  have l1:=D.len
  have l2:=n2.len
  have b0:=zK
  refine#[r1,r2,_,_,Z,Z,k2 _ _ D.at',n2.at',by rw[IJ,IJ];omega,λr j=>q r (z1++z2) _ (by rw[jc,Ln]) (λy=>?_) (by rw[IL];omega) ((z.trans k2).trans (je j))]
  rw[ME,D.nm.mem y,n2.nm.mem y]
  exact OP
 |loop p t T a qa as d h0 B h3=>
  refine(jp d Z #[_,Z,m9,λl N=>#[l,_,Z,.inr (aA.of jc),Z,Z,_,Z,aT Pp ?_]])
  refine#[_,Z,Z,_,Z,aT Pp ?_]
  refine#[_,Z,Z,_,Z,cq Pp ?_]
  have S:aa H (ah H l (.tup [.str "set",.str "read",.str "call"])):=je N
  have h6:max (a.dep+1) 0 < n+1:=hd
  have h7:a.size+0+1<=10000000:=hz
  refine(jp (S _ _ d) Z #[eY,λe ne=>?_])
  have z:=S.trans (je (o:=.lst []) ne)
  refine#[qa,e,a,as,[],λ_=>False,Y,Z,z _ _ B,h3.mono (aa.tm z),(NL.nu #[jc,Nm.empty,λ_ w=>w.elim,c.y20]),W.2.1,Pn,Pn,λr1 z1 I _ D k1=>?_]
  have l1:=D.len
  have s3:=z.trans k1
  have b0:=zK
  refine#[_,Z,r1,g,_,_,Z,Z,D.at',s3 _ _ c.at',by rw[IJ,IJ];omega,λr j=>q r (z1++G) _ (by rw[jc,Ln]) (λy=>?_) (by rw[IL];omega) (s3.trans (je j))]
  rw[ME,D.nm.mem y,c.nm.mem y]
  exact OP
theorem C1(h:gW H v s):∀c∈s.own,bY H c.2 c.1:=by
 cases h with
 |lf p l V _ d=>
  cases l with
  |rd x t T |st x t T |gv t T=>intro c hc;rw[List.mem_singleton.mp hc];exact d.2
  |wr t u T U=>
   intro c hc
   rcases List.mem_cons.mp hc with e |hc
   ·rw[e];exact d.2.1
   ·rw[List.mem_singleton.mp hc];exact d.2.2
  |cl x f q i=>exact d.2.2
 |ite p t T a b Q j A B _ g _ _ _ _ |loop p t T a Q A _ g _ _=>intro c hc;rw[List.mem_singleton.mp hc];exact g
theorem C2(h:gW H v s)(o:s.Ok y):s.own.length<=100/\∀c∈s.own,er y c.2:=by
 have one:∀(t:Addr) (T:Tm),er y T->[(t,T)].length<=100/\∀c∈[(t,T)],er y c.2:=λt T h=>#[by show 1<=100;omega,λc hc=>by rw[List.mem_singleton.mp hc];exact h]
 cases h with
 |lf p l V _ g=>
  cases l with
  |rd x t T |st x t T=>exact one t T o.1.2
  |wr t u T U=>
   refine#[by show 2<=100;omega,λc hc=>?_]
   rcases List.mem_cons.mp hc with e |hc
   ·rw[e];exact o.1.1
   ·rw[List.mem_singleton.mp hc];exact o.1.2
  |cl x f q i=>exact#[IZ o.1.2.1 Pm,o.1.2.2]
  |gv t T=>exact one t T o.1
 |ite p t T a b Q j A B _ d _ _ _ _ |loop p t T a Q A _ d _ _=>exact one t T o.1
theorem app_assoc:∀(a b c:Bd),(a.app b).app c=a.app (b.app c)
 | .nil,_,_=>rfl
 | .lf p l r,b,c=>by show Bd.lf p l ((r.app b).app c)=_;rw[app_assoc r b c];rfl
 | .ite p t T x y r,b,c=>by show Bd.ite p t T x y ((r.app b).app c)=_;rw[app_assoc r b c];rfl
 | .loop p t T x r,b,c=>by show Bd.loop p t T x ((r.app b).app c)=_;rw[app_assoc r b c];rfl
theorem app_nil:∀(a:Bd),a.app .nil=a
 | .nil=>rfl
 | .lf p l r=>by show Bd.lf p l (r.app .nil)=_;rw[app_nil r]
 | .ite p t T x y r=>by show Bd.ite p t T x y (r.app .nil)=_;rw[app_nil r]
 | .loop p t T x r=>by show Bd.loop p t T x (r.app .nil)=_;rw[app_nil r]
inductive OI(v:V)(g r k:Addr)(s:Bd)(M:Str->Prop)(b:Hp)(i:Nat)(n:_L.St)(a:Hp):Prop
 |mk(l:Option V)(m:List Str)(d:n=[some v,some (.ref g),some (.ref k),l])(e:a k=some (.lst (m.map V.str)))(f:∀y,y∈m↔s.bt M y∨∃c∈s.own.take i,y∈c.2.vars)(h:m.length<=50+21*i)(j:aR k b a)
theorem ve:ai ["statement","behind","names","term"] z1z (ae yL):=bK
theorem tW{L:Nat}(F:aQ K "used_ahead_of" "used_ahead_of" yL f fd)(cB:Cl P w K mg base (L+9) fB f0 z1z (vE n) "used_behind_terms")(cO:Cl P w K mg base 1 fO f2 z4z mO "own_terms")(cN:Cl P w K mg base 7 fN f3 z0z (dh 6) "names_in")(m0:mg "list"=none)(m2:mg "set"=none)(m3:mg "sorted"=none):af P w K mg base aE (L+10) f fd z1z (gw n):=by
 refine F.ok ve ?_ λc0 A o1 s H vs Q E t h=>?_
 ·rintro _ _ _ _ ⟨v,g,s,ss,M,Y,rfl,_⟩
  rfl
 obtain⟨v,g,st,ss,M,Y,rfl,j,u,U,hd,hz,q⟩:=h
 refine#[_,(jd (jD 2 ve.nd (jP Jd Z m0 boot_list (ja (cB.e t.m (ja (pv 0) (ja (pv 1) jb))) jb))) (jd (j7 Lp Z (qF (cO.e t.m (ja (pv 0) jb))) (jw (i:=3) ve.nd Z (Or.inl Z)) (jf (jB (jU IR Mh Mg zn (pv 2) (ja (cN.e t.m (ja (pv 3) jb)) jb))))) (jf (jm (jO (qc Z) Z m3 O4 (ja (jP (qL Z) Z m2 boot_set (ja (pv 2) jb)) jb)))))),?_]
 refine aj λF1 C=>#[_,Z,_,Z,v,g,st,ss,M,Y,Z,j,u,U,hd,hz,λr1 G H1 e1 m1 l1 k1=>#[r1,_,Z,.inl (aJ.of e1),λN I=>C _ _ ?_]]
 clear C
 have s2:aa H (ah H1 N (.lst (G.map V.str))):=k1.trans (je I)
 have J:=j.mono (aa.tm s2)
 obtain⟨o2,O⟩:=C2 j U
 have a:ah H1 N (.lst (G.map V.str)) N=some (.lst (G.map V.str)):=jc
 have h0:H N=none:=k1.free I
 generalize ah H1 N (.lst (G.map V.str))=H2 at s2 J a
 refine aj λF1 C=>?_
 refine dq λF kF=>#[_,Z,v,st,Z,J,λr H3 t W=>#[r,Z,#[_,aA.of t],kF _ _ ?_]]
 clear kF
 have r0:r≠N:=jS t (W _ _ a) (by intro z;cases z)
 have s3:=s2.trans W
 have b0:=zK
 refine q8 (K:=K) (xs:=st.own.map rT) (OI v g r N st M H3) #[_,G,Z,W _ _ a,λy=>?_,Pn,aR.refl] (λi σ H' hi h=>?_) ?_ (λσ H' h=>C _ _ ?_)
 ·rw[m1 y]
  exact#[.inl,λz=>z.elim (λw=>w) λ#[c,p,_]=>absurd p Ll]
 ·obtain⟨_,_,_,_,_,_,k⟩:=h
  exact aA.of (k _ _ r0 t)
 ·clear C
  intro E _ i x σ H4 B fE Gq D h
  obtain⟨o3,X,rfl,h1,R,h3,k4⟩:=h
  rw[Lc]at B
  cases p:st.own[i]? with
  |none=>rw[p]at B;cases B
  |some c=>
   rw[p]at B
   cases B
   refine D ?_
   clear D
   have cm:=Lb p
   have hi:i < st.own.length:=by
    rcases Ob i st.own.length with z |z
    ·exact z
    ·rw[LV z]at p;cases p
   have tm:ax H3 H4:=λb xs e=>k4 b _ (jS e (W _ _ a) (by intro z;cases z)) e
   show oI _ E [some v,some (.ref g),some (.ref N),some (.ref c.1)] H4
   refine#[_,Z,.inl #[Z,_,aJ.of h1],_,Z,c.1,c.2,Y,Z,((C1 j c cm).mono (aa.tm s3)).mono tm,(O c cm).2,(O c cm).1,u.y20,λr5 s5 H5 n5 e5 d5 m5 o5 k5=>?_]
   have l5:s5.length<=21:=IZ (ki d5 λx B=>kC (O c cm).1 x ((m5 x).mp B)) u.y20
   refine#[N,r5,_,_,Z,Z,k5 _ _ h1,e5,by rw[IJ,IJ];omega,fE _ _ #[_,X++s5,Z,by rw[jc,Ln],λy=>?_,by rw[IL];omega,λb o nb e=>?_]]
   ·rw[ME,R y,m5 y,LP,p]
    refine#[λz=>z.elim (λz=>z.elim .inl λ#[d,hd,w]=>.inr #[d,Ml _ hd,w]) λw=>.inr #[c,La _ (List.mem_singleton.mpr Z),w],λz=>z.elim (λw=>.inl (.inl w)) λ#[d,hd,w]=>?_]
    rcases List.mem_append.mp hd with hd |hd
    ·exact .inl (.inr #[d,hd,w])
    ·have ed:d=c:=List.mem_singleton.mp hd
     rw[ed]at w
     exact .inr w
   ·rw[jh nb]
    exact k5 _ _ (k4 b o nb e)
 ·obtain⟨o3,X,rfl,h1,R,h3,k4⟩:=h
  clear C
  rw[IJ]at R h3
  have s4:aa H H':=λb o e=>k4 b o (ji e h0) (s3 _ _ e)
  refine#[_,Z,N,X,Z,aJ.of h1,(λL nd j=>Mu (Ms (ki nd j)) (by show X.length+1 < 4096;omega)),λl L S h4 hm=>?_]
  have sub:∀y∈L,y∈Y:=λy hy=>Bd.use_in U u.sub y ((v9 j M y).mpr (by have:=(R y).mp ((hm y).mp hy);rwa [LA]at this))
  have lL:=IZ (ki h4 sub) u.y20
  refine#[l,L,Z,jc,Pn,λr' s0 T pm nd so=>?_]
  refine q r' s0 _ ((s4.trans (je S)).free T) #[jc,#[pm.nodup_iff.mpr nd,so,λy=>?_],Bd.use_in U u.sub,u.y20] ((s4.trans (je S)).trans (je T))
  rw[pm.mem_iff,hm y,R y,v9 j M y,LA]
theorem none_of(s:aa H h)(n:h r=none):H r=none:=by
 cases z:H r with
 |none=>rfl
 |some o=>have:=s _ _ z;rw[n]at this;cases this
inductive UI(a g:Addr)(b:Bd)(p:List V)(M:Str->Prop)(q:List Str)(H:Hp)(i:Nat)(s:_L.St)(d:Hp):Prop
 |mk(n:Addr)(o:Option V)(c m:Bd)(r:List Str)(e:s=[some (.ref a),some (.ref g),some (.ref n),o])(f:b=c.app m)(h:dQ H c (p.take (p.length - i)))(j:NL d n r (m.use M) q)(k:aa H d)(l:H n=none)
theorem om:ai ["body","behind","names","statement"] z13z (ae yK):=bK
theorem CS{L:Nat}(F:aQ K "used_ahead" "used_ahead" yK f fd)(cU:Cl P w K mg base (L+10) fU f0 z1z (gw n) "used_ahead_of")(J:mg "sorted"=none)(N:mg "reversed"=none):af P w K mg base aE (L+11) f fd z13z (iH (n+1)):=by
 refine F.ok om ?_ λc0 A O s H vs Q E hr h=>?_
 ·rintro _ _ _ _ ⟨a,g,b,xs,R,M,Y,rfl,_⟩
  rfl
 obtain⟨a,g,b,xs,R,M,Y,rfl,ha,hb,d,ho,hd,hz,q⟩:=h
 refine#[_,(jd (jD 2 om.nd (jO Q3 Z J O4 (ja (pv 1) jb))) (jd (j7 Lp Z (@uo _ _ _ _ _ _ _ Z N boot_reversed (pv 0) Pm Pm Pq Pq) (jw (i:=3) om.nd Z (Or.inl Z)) (jf (jD 2 om.nd (cU.e hr.m (ja (pv 3) (ja (pv 2) jb)))))) (jf (jm (pv 2))))),?_]
 have g0:R.length<=21:=IZ (ki d.nd λx o=>d.sub x ((d.mem x).mp o)) d.y20
 have b0:=aH
 refine aj λF1 t=>#[_,Z,g,R,Z,aJ.of d.at',Pn,λl c nl pm so=>t _ _ ?_]
 clear t
 have T:Nm c M:=#[pm.nodup_iff.mpr d.nd,so,λx=>pm.mem_iff.trans (d.mem x)]
 have U:aa H (ah H l (.lst (c.map V.str))):=je nl
 have u:NL (ah H l (.lst (c.map V.str))) l c M Y:=#[jc,T,d.sub,d.y20]
 generalize ah H l (.lst (c.map V.str))=H1 at U u
 have xl:=hb.len
 refine aj λF1 t=>?_
 refine dq λF kF=>#[_,Z,a,xs,Z,aA.of (U _ _ ha),kF _ _ ?_]
 clear kF
 refine Xp (K:=K) (xs:=xs) (UI a g b xs M Y H) #[l,_,b,.nil,c,Z,(app_nil b).symm,by rw[Oa,LA];exact hb,u,U,nl] (λi σ H' hi h=>?_) ?_ (λσ H' h=>t _ _ ?_)
 ·obtain⟨_,_,_,_,_,_,_,_,_,k,_⟩:=h
  exact aA.of (k _ _ ha)
 ·clear t
  intro E _ i x σ H2 o fE Gq p h
  obtain⟨I,o3,pre,fj,W,rfl,j,y,X,B,n2⟩:=h
  have hi:i < xs.length:=by
   rcases Ob i xs.length with z |z
   ·exact z
   ·rw[LV (by simpa using z)]at o;cases o
  rw[Nq hi]at o
  have et:xs.take (xs.length - i)=xs.take (xs.length - (i+1))++[x]:=by
   have C:xs.length - i=(xs.length - 1 - i)+1:=by omega
   have e2:xs.length - (i+1)=xs.length - 1 - i:=by omega
   rw[C,e2,LP,o]
   rfl
  rw[et]at y
  rcases y.last with ⟨e,_⟩ | ⟨ws,v,D,S,C,e2,h4,h5⟩
  ·exact absurd e Po
  obtain⟨ew,ev⟩:=List.append_inj' C Z
  cases ev
  subst e2
  have h0:=zH (j▸ho)
  have G:=zH h0.1
  have a1:b.dep=max (D.app S).dep fj.dep:=by rw[j,zD]
  have a2:(D.app S).dep=max D.dep S.dep:=zD ..
  have h6:S.dep<=b.dep:=by rw[a1,a2];exact IZ (M0 ..) (M5 ..)
  clear a1 a2
  have h7:S.size<=b.size:=by rw[j,kf,kf];omega
  refine p ?_
  clear p
  show fo _ _ E [some (.ref a),some (.ref g),some (.ref I),some x] H2
  refine#[_,Z,_,Z,x,I,S,W,fj.use M,Y,Z,h5.mono (aa.tm B),X,G.2,Pn,Pn,λr z H3 nr n3 k3=>fE _ _ #[r,_,D,S.app fj,z,Z,by rw[j,app_assoc],?_,by rw[JQ];exact n3,B.trans k3,none_of B nr]]
  rw[ew]
  exact h4
 ·obtain⟨I,o3,pre,fj,W,rfl,j,y,X,B,n2⟩:=h
  rw[OL]at y
  have ep:pre= .nil:=by
   rcases y.last with ⟨_,e⟩ | ⟨ws,v,D,S,C,_⟩
   ·exact e
   ·exact absurd C Po
  rw[ep]at j
  refine#[_,Z,q I W H' n2 ?_ B]
  rw[j]
  exact X
theorem Ci:af P w K mg base aE k f e z13z (iH 0):=by
 have n:∀v H Q E,¬iH 0 v H Q E:=λv H Q E h=>by
  obtain⟨a,g,b,x,S,M,y,_,_,_,_,_,d,_⟩:=h
  exact absurd d (Oi _)
 exact#[λv H Q E h=>absurd h (n v H Q E),λA o s H c u v Q E _ _ _ _ h=>absurd h (n v H Q E)]
theorem FR(F:aQ K "used_ahead" "used_ahead" yK f e)(FB:aQ K "used_behind_terms" "used_behind_terms" uV r g)(d:aQ K "used_ahead_of" "used_ahead_of" yL o b)
  (B:aC K e z13z []) (i:mg "used_ahead"=some (.ref f)) (j:aC K g z1z []) (k:mg "used_behind_terms"=some (.ref r)) (p:aC K b z1z []) (q:mg "used_ahead_of"=some (.ref o)) (C:Cl P w K mg base 1 u s z4z mO "own_terms") (l:Cl P w K mg base 7 v t z0z (dh 6) "names_in") (M:mg "list"=none) (a:mg "set"=none) (m:mg "sorted"=none) (c:mg "reversed"=none):
  ∀n:Nat,af P w K mg base aE (3*n+8) f e z13z (iH n)/\af P w K mg base aE (3*n+10) o b z1z (gw n)
 |0=>by
  have h:af P w K mg base aE 8 f e z13z (iH 0):=Ci
  have H:=tV (L:=8) (n:=0) FB #[h,B,F.kp,i]
  exact#[h,tW (L:=0) d #[H,j,FB.kp,k] C l M a m]
 |n+1=>by
  have I:=(FR F FB d B i j k p q C l M a m c n).2
  have h:=CS (L:=3*n) F #[I,p,d.kp,q] m c
  have E:3*n+11=3*(n+1)+8:=by omega
  rw[E]at h
  have H:=tV (L:=3*(n+1)+8) (n:=n+1) FB #[h,B,F.kp,i]
  exact#[h,tW (L:=3*(n+1)) d #[H,j,FB.kp,k] C l M a m]
noncomputable abbrev Dh:Stmt:=bM 44
noncomputable abbrev uP:Stmt:=bM 47
noncomputable abbrev uI:Stmt:=bM 48
noncomputable abbrev lK:Stmt:=bM 49
noncomputable abbrev uR:Stmt:=bM 50
noncomputable def Lf.cut:Lf->Nat
 | .st _ _ _=>0
 | .gv _ _=>0
 |_=>1
noncomputable def Bd.cuts:Bd->Nat
 | .nil=>0
 | .lf _ l r=>l.cut+r.cuts
 | .ite _ _ _ a b r=>1+a.cuts+b.cuts+r.cuts
 | .loop _ _ _ a r=>1+a.cuts+r.cuts
noncomputable def Bd.inn:Bd->Bd
 | .ite _ _ _ a b _=>a.app b
 | .loop _ _ _ a _=>a
 |_=>.nil
theorem zM:∀(a b:Bd),(a.app b).cuts=a.cuts+b.cuts
 | .nil,b=>by show b.cuts=0+b.cuts;omega
 | .lf _ l r,b=>by have:=zM r b;show l.cut+(r.app b).cuts=l.cut+r.cuts+b.cuts;omega
 | .ite _ _ _ x y r,b=>by have:=zM r b;show 1+x.cuts+y.cuts+(r.app b).cuts=1+x.cuts+y.cuts+r.cuts+b.cuts;omega
 | .loop _ _ _ x r,b=>by have:=zM r b;show 1+x.cuts+(r.app b).cuts=1+x.cuts+r.cuts+b.cuts;omega
inductive mE(b:List V)(H:Hp)(Q:VK)(a:XK):Prop
 |mk(v:V)(s:Bd)(_:b=[v])(_:gW H v s)(_:s.size<=10000000)(_:∀(r:Addr) (xs:List V) (H':Hp),H' r=some (.tup xs)->dQ H' s.inn xs->aa H H'->Q (.ref r) H')
inductive gK(d:List V)(H:Hp)(Q:VK)(c:XK):Prop
 |mk(a:Addr)(b:Bd)(e:List V)(_:d=[.ref a])(_:H a=some (.tup e))(_:dQ H b e)(_:b.size<=10000000)(_:∀H',aa H H'->Q (.int (b.cuts:Int)) H')
theorem Fj:ai z4z z4z (ae Dh):=bK
theorem Cq(F:aQ K "bodies_in" "bodies_in" Dh f y):af P w K mg base aE 1 f y z4z mE:=by
 refine F.ok Fj ?_ λC A o s H V Q E j h=>?_
 ·rintro _ _ _ _ ⟨v,s,rfl,_⟩
  rfl
 obtain⟨v,st,rfl,z,B,q⟩:=h
 refine#[_,(jd (jy (j6 (ju (pv 0))) (jf (jm (jx ke (ju (pv 0)) (ju (pv 0))))) jr) (jd (jy (j6 (ju (pv 0))) (jf (jm (ju (pv 0)))) jr) (jf (jm (jl jb))))),?_]
 have D:=aH
 cases z with
 |lf p l V c d=>
  cases l with
  |rd x t T |st x t T |wr t u T U |cl x f R S |gv t T=>
   obtain⟨rfl,_⟩:=d
   refine(jp c Z #[Z,_,Z,aT Pp ?_])
   refine(jp c Z #[Z,_,Z,aT Pp ?_])
   exact#[eY,λr N=>q r [] _ jc Z (je N)]
 |ite p t T a b e G g I c J d i m n=>
  refine(jp c Z #[Z,_,Z,cq Pp ?_])
  have L:a.size+b.size+0+1<=10000000:=B
  have W:=m.len
  have X:=n.len
  exact(jp c Z (jp c Z #[e,G,g,I,Z,Z,d,i,Pn,λr M j s=>q r _ M j ((n.mono (aa.tm s)).app (m.mono (aa.tm s))) s]))
 |loop p t T a e g c J d i=>
  refine(jp c Z #[Z,_,Z,aT Pp ?_])
  refine(jp c Z #[Z,_,Z,cq Pp ?_])
  exact(jp c Z (q e g H d i (aa.refl H)))
theorem y7(h:gW H v s):s.inn.size < s.size/\∃(p:Addr) (w:Str) (r:List V),v= .ref p/\H p=some (.tup (.str w::r))/\s.cuts=(if nV (.str w) [.str "set",.str "give"]=true then 0 else 1)+s.inn.cuts:=by
 cases h with
 |lf p l i c d=>
  refine#[Nat.zero_lt_succ _,?_]
  cases l with
  |rd x t T |wr t u T U |cl x f Q j=>obtain⟨rfl,_⟩:=d;exact#[p,_,_,Z,c,by rw[IX Pp];rfl]
  |st x t T |gv t T=>obtain⟨rfl,_⟩:=d;exact#[p,_,_,Z,c,by rw[IU Pp];rfl]
 |ite p t T a b q k A B c e d g m n=>
  refine#[by show(a.app b).size < a.size+b.size+0+1;rw[kf];omega,p,_,_,Z,c,?_]
  rw[IX Pp]
  show 1+a.cuts+b.cuts+0=1+(a.app b).cuts
  rw[zM]
  omega
 |loop p t T a q A c e d g=>
  refine#[by show a.size < a.size+0+1;omega,p,_,_,Z,c,?_]
  rw[IX Pp]
  show 1+a.cuts+0=1+a.cuts
  omega
theorem dS:fz (v::y) 0=some v:=jH (j:=0) Z
inductive MI(a n:Addr)(b:Bd)(H:Hp)(m:Nat)(p:_L.St)(c:Hp):Prop
 |mk(l:Option V)(W:Bd)(o:List V)(k:Nat)(d:m=W.size)(e:p=[some (.ref a),some (.int (k:Int)),some (.ref n),l])(f:c n=some (.lst o))(g:dQ c W o)(h:k+W.cuts=b.cuts)(i:W.size<=10000000)(j:aR n H c)
theorem ip:ai ["body","many","todo","statement"] ["body"] (ae uP):=bK
theorem yb(F:aQ K "many_cuts" "many_cuts" uP f fd)(cB:Cl P w K mg base 1 fB f0 z4z mE "bodies_in")(m0:mg "list"=none):af P w K mg base aE 2 f fd ["body"] gK:=by
 refine F.ok ip ?_ λc0 A o1 s H vs Q E hr h=>?_
 ·rintro _ _ _ _ ⟨a,b,xs,rfl,_⟩
  rfl
 obtain⟨a,b,xs,rfl,ha,hb,hz,q⟩:=h
 refine#[_,(jd (jD 1 ip.nd jg) (jd (jD 2 ip.nd (jP Jd Z m0 boot_list (ja (pv 0) jb))) (jd (Xg Lp (@ux _ _ _ (pv 2) (λ_=>Z)) (jd (jD 3 ip.nd (ui IR PySem.F.slot_list_pop PySem.F.type_list_pop BZ (pv 2))) (jd (zf (jy (jC Jc (ju (pv 3)) (jl (ja jo (ja jo jb))) Z) (jf (Db (i:=1) ip.nd Z (Or.inl Z) jg BN)) jr)) (jf (jB (jU IR Mh Mg YJ (pv 2) (ja (cB.e hr.m (ja (pv 3) jb)) jb))))))) (jf (jm (pv 1)))))),?_]
 have b0:=aH
 refine aj λU d=>d _ _ ?_
 clear d
 refine aj λU d=>#[_,Z,a,_,Z,.inr (aA.of ha),λt C=>d _ _ ?_]
 clear d
 have s0:aa H (ah H t (.lst xs)):=je C
 refine aj λU d=>?_
 refine wg (MI a t b H) b.size #[_,b,xs,0,Z,Z,jc,hb.mono (aa.tm s0),Pn,hz,λc o N e=>s0 _ _ e] ?_
 intro m σ D E _ fE F X Y Gq y h
 obtain⟨o3,W,zs,k,rfl,rfl,x,h2,h3,h4,h5⟩:=h
 refine y #[_,Z,!zs.isEmpty,.inl #[zs,aJ.of x,Z],?_]
 clear y
 rcases h2.last with ⟨e1,e2⟩ | ⟨g,v,B,n,e1,e2,g1,g2⟩
 ·rw[e1]
  refine Y _ (d _ _ #[_,Z,?_])
  rw[e2]at h3
  have e3:k=b.cuts:=by have:k+0=b.cuts:=h3;omega
  rw[e3]
  exact q _ λc o e=>h5 c o (ji e C) e
 ·rw[e1]
  have ne:(!(g++[v]).isEmpty)=true:=by cases g<;>rfl
  rw[ne]
  refine X _ ?_
  clear Y X d
  have h6:W.size=B.size+n.size:=by rw[e2,kf]
  have h7:W.cuts=B.cuts+n.cuts:=by rw[e2,zM]
  obtain⟨h',p,w',r,rfl,hp,hc⟩:=y7 g2
  rw[e1]at x
  refine aj λU d=>#[_,Z,.inl #[Z,_,aJ.of x],t,_,.ref p,Z,Z,x,Po,d _ _ ?_]
  clear d
  rw[List.dropLast_concat]
  have T:ax D (ah D t (.lst g)):=λc ys e=>by rw[jh (jS e x (by intro z;cases z))];exact e
  have t2:ah D t (.lst g) t=some (.lst g):=jc
  have u:=g1.mono T
  have I:=g2.mono T
  have J:=T _ _ hp
  have k2:aR t H (ah D t (.lst g)):=λc o N e=>by rw[jh N];exact h5 c o N e
  generalize ah D t (.lst g)=H2 at t2 u I J k2
  clear T x h2 h5 g1 g2 hp
  have R:∀(j:Nat) (H3:Hp),aa H2 H3->j+B.cuts+n.inn.cuts=b.cuts->oI (Hm K "list" (ig K) (bV 2) (ar (gQ mE [] E0 (ar (bV 3) bf)) bf)) E [some (.ref a),some (.int (j:Int)),some (.ref t),some (.ref p)] H3:=λj H3 L hk=>by
   have g0:=I.mono (aa.tm L)
   refine#[_,Z,.inl #[Z,_,aJ.of (L _ _ t2)],_,Z,.ref p,n,Z,g0,Pn,λr' ys H4 h0 hy s4=>?_]
   have S:=L.trans s4
   have l1:=u.len
   have l2:=hy.len
   refine#[t,r',g,ys,Z,Z,S _ _ t2,aA.of h0,Pn,fE (B.app n.inn).size _ _ (by rw[kf];omega) #[_,B.app n.inn,g++ys,j,Z,Z,jc,?_,by rw[zM];omega,by rw[kf];omega,λc o N e=>?_]]
   ·have M:ax H4 (ah H4 t (.lst (g++ys))):=λc z0 e=>by rw[jh (jS e (S _ _ t2) (by intro z;cases z))];exact e
    exact(hy.mono M).app ((u.mono (aa.tm S)).mono M)
   ·rw[jh N]
    exact S _ _ (k2 c o N e)
  refine aj λU d=>gT (λO H'=>∃j:Nat,O=[some (.ref a),some (.int (j:Int)),some (.ref t),some (.ref p)]/\aa H2 H'/\j+B.cuts+n.inn.cuts=b.cuts) (λE2 _ fm=>?_) λO H' h=>?_
  ·clear d fE
   refine iS λG X Y=>(jp J dS #[cg,λl nl=>#[l,_,Z,.inr (aA.of jc),Z,Z,_,Z,?_]])
   cases hv:nV (.str w') [.str "set",.str "give"] with
   |true=>
    rw[hv,IU Z]at hc
    exact Y _ (fm _ _ #[k,Z,je nl,Pn])
   |false=>
    rw[hv,IX IW]at hc
    refine X _ #[_,Z,_,_,Z,Z,fm _ _ #[k+1,?_,je nl,Pn]]
    show [_,some (V.int ((k:Int)+1)),_,_]=[_,some (V.int ((k+1:Nat):Int)),_,_]
    rfl
  ·obtain⟨j,rfl,L,hk⟩:=h
   exact d _ _ (R j H' L hk)
end _K
namespace _K
open PySem PySem.Spec PyProof.Rows _L
variable {P:Program}{w:World}{K:Frag}{mg:Str->Option Value}{base:Heap}
inductive Ga where
 |go (n:Int) |give (t:Addr)
structure Wy where
 sets:List (Str×Addr)
 goal:Ga
inductive Dd where
 |st (p:Addr) |ask (t:Addr)
structure Ct where
 M:Str->Prop
 d:Dd
 ws:List Wy
structure Pc where
 M:Str->Prop
 w:Wy
def aP(H:Hp):Tr->V->List V->Prop
 | .lf v,x,_=>x=v/\Ir v=true
 | .tp l,x,_=>l.isL=true/\∃a X,x= .ref a/\H a=some (.tup X)/\aP H l .non X
 | .nil,_,X=>X=[]
 | .cons h t,_,X=>h.isL=false/\t.isL=true/\∃y Y,X=y::Y/\aP H h y []/\aP H t .non Y
theorem aP.mono(k:ax H d):∀{t:Tr} {x:V} {X:List V},aP H t x X->aP d t x X:=by
 intro t
 induction t with
 |lf v |nil=>exactλh=>h
 |tp l f=>rintro x X ⟨h,a,Y,e,b,c⟩;exact#[h,a,Y,e,k _ _ b,f c]
 |cons h t i I=>rintro x X ⟨E,g,y,Y,e,b,c⟩;exact#[E,g,y,Y,e,i b,I c]
noncomputable def au:List Tr->Tr
 | []=>.nil
 |t::T=>.cons t (au T)
theorem Qw:∀t:List Tr,(au t).isL=true
 | []=>rfl
 |_::_=>rfl
noncomputable def ay(t:List Tr):Tr:=.tp (au t)
noncomputable def aK(x:Str):Tr:=.lf (.str x)
noncomputable def pM(a:Addr):Tr:=.lf (.ref a)
noncomputable def ap(n:Int):Tr:=.lf (.int n)
section
variable {H:Hp}
theorem jz:aP H (au []) .non []:=rfl
theorem jk{t:Tr}(h:t.isL=false)(a:aP H t y [])(b:aP H (au T) .non Y):aP H (au (t::T)) .non (y::Y):=#[h,Qw T,y,Y,Z,a,b]
theorem jA(h:H a=some (.tup x))(b:aP H (au t) .non x):aP H (ay t) (.ref a) []:=#[Qw t,a,x,Z,h,b]
theorem jQ:aP H (aK x) (.str x) []:=#[Z,Z]
theorem Jn:aP H (pM a) (.ref a) []:=#[Z,Z]
theorem jT:aP H (ap n) (.int n) []:=#[Z,Z]
theorem JR(a:aP H (au s) .non Y):∀{T:List Tr} {x:List V},aP H (au T) .non x->aP H (au (T++s)) .non (x++Y)
 | [],x,h=>by have e:x=[]:=h;rw[e];exact a
 |t::T,x,h=>by obtain⟨E,_,y,z,e,b,c⟩:=h;rw[e];exact jk E b (JR a c)
theorem zd:∀{T:List Tr} {x:List V},aP H (au T) .non x->x.length=T.length
 | [],x,h=>by have e:x=[]:=h;rw[e];rfl
 |t::T,x,h=>by obtain⟨_,_,y,z,e,_,a⟩:=h;rw[e,Lm,Lm,zd a]
theorem Xw:∀(S:List Str),aP H (au (S.map aK)) .non (S.map V.str)
 | []=>rfl
 |s::S=>jk Z jQ (Xw S)
theorem Zi:∀{T:List Tr} {x:List V},aP H (au T) .non x->aP H (au T.reverse) .non x.reverse
 | [],x,h=>by have e:x=[]:=h;rw[e];rfl
 |t::T,x,h=>by
  obtain⟨E,_,y,z,e,a,b⟩:=h
  rw[e,NN,NN]
  exact JR (jk E a jz) (Zi b)
theorem qH:∀{T:List Tr} {X:List V},aP H (au T) .non X->∀(i:Nat) (x:V),X[i]?=some x->∃t,T[i]?=some t/\aP H t x []
 | [],X,h,i,x,a=>by have e:X=[]:=h;rw[e]at a;simp at a
 |t::T,X,h,0,x,a=>by obtain⟨_,_,y,z,e,b,c⟩:=h;rw[e]at a;cases a;exact#[t,Z,b]
 |t::T,X,h,i+1,x,a=>by obtain⟨_,_,y,z,e,b,c⟩:=h;rw[e]at a;simpa using qH c i x (by simpa using a)
end
noncomputable def setT(s:Str×Addr):Tr:=ay [aK s.1,pM s.2]
noncomputable def xz:Ga->Tr
 | .go n=>ay [aK "go",ap n]
 | .give t=>ay [aK "give",pM t]
noncomputable def gU(w:Wy):Tr:=ay [ay (w.sets.map setT),xz w.goal]
noncomputable def Gh:Dd->Tr
 | .st p=>pM p
 | .ask t=>ay [aK "ask",pM t]
noncomputable def Es(c:Ct):Tr:=ay [ay ((canon c.M).map aK),Gh c.d,ay (c.ws.map gU)]
theorem BJ(g:Ga):(xz g).isL=false:=by cases g<;>rfl
theorem Ew(d:Dd):(Gh d).isL=false:=by cases d<;>rfl
def mY(H:Hp)(p:Pc)(v:V)(g:Addr)(y:List Str):Prop:=∃(r:Addr) (s:List Str) (W:V),v= .ref r/\H r=some (.tup [.ref g,W])/\NL H g s p.M y/\aP H (gU p.w) W []
theorem mY.same(h:mY H p v g y)(s:aa H a):mY a p v g y:=by
 obtain⟨r,S,W,e,b,c,d⟩:=h
 exact#[r,S,W,e,s _ _ b,c.same s,d.mono (aa.tm s)]
theorem mY.but(h:mY H p v g y)(k:aR f H c)(d:H f=some (.lst C))(n:g≠f):mY c p v g y:=by
 obtain⟨r,s,W,e,i,a,j⟩:=h
 have t:ax H c:=λb x e=>k b _ (jS e d (by intro z;cases z)) e
 exact#[r,s,W,e,t _ _ i,#[k _ _ n a.at',a.nm,a.sub,a.y20],j.mono t]
noncomputable def Lf.isCut:Lf->Bool
 | .st _ _ _=>false
 | .gv _ _=>false
 |_=>true
noncomputable def Bd.deed:Bd->Dd
 | .lf p _ _=>.st p
 | .ite _ t _ _ _ _=>.ask t
 | .loop _ t _ _ _=>.ask t
 | .nil=>.st 0
inductive iz(b:List V)(H:Hp)(Q:VK)(a:XK):Prop
 |mk(v:V)(s:Bd)(_:b=[v])(_:gW H v s)(_:∀(d:V) (H':Hp),aP H' (Gh s.deed) d []->aa H H'->Q d H')
inductive gu(b:List V)(H:Hp)(Q:VK)(a:XK):Prop
 |mk(t:Addr)(T:Tm)(c:List Str)(_:b=[.ref t])(_:bY H T t)(_:er c T)(_:c.length<=21)(_:∀(v:V) (g:Addr) (H':Hp),mY H' #[λx=>x∈T.vars,#[[],.give t]] v g c->H g=none->aa H H'->Q v H')
inductive oC(K:Frag)(c:List V)(H:Hp)(Q:VK)(b:XK):Prop
 |mk(a:Addr)(_:c=[.ref a])(_:aA K H a [.str "num",.int 0])(_:∀(r:Addr),H r=none->Q (.ref r) (ah H r (.lst [])))
inductive oE(K:Frag)(b:List V)(H:Hp)(Q:VK)(a:XK):Prop
 |mk(t:Addr)(c:List Str)(_:b=[.ref t])(_:aA K H t [.str "num",.int 0])(_:c.length<=21)(_:∀(v:V) (g:Addr) (H':Hp),mY H' #[λx=>x∈(Tm.num 0).vars,#[[],.give t]] v g c->H g=none->aa H H'->Q v H')
open Classical in
noncomputable def iw(x:Str)(t:Addr)(p:Pc):Wy:=if p.M x then #[(x,t)::p.w.sets,p.w.goal] else p.w
inductive iF(d:List V)(H:Hp)(Q:VK)(a:XK):Prop
 |mk(v b:V)(p t:Addr)(x:Str)(T:Tm)(c:Pc)(g:Addr)(e:List Str)(_:d=[v,b])(_:gW H v (.lf p (.st x t T) .nil))(_:mY H c b g e)(_:x∈e)(_:er e T)(_:c.w.sets.length<=10000000)(_:∀(v':V) (g':Addr) (H':Hp),mY H' #[(Lf.st x t T).use c.M,iw x t c] v' g' e->H g'=none->aa H H'->Q v' H')
theorem Du:ai z4z z4z (ae uI):=bK
theorem xU(F:aQ K "deed_of" "deed_of" uI f e):af P w K mg base aE 1 f e z4z iz:=by
 refine F.ok Du ?_ λC A o s H V Q E z h=>?_
 ·rintro _ _ _ _ ⟨v,s,rfl,_⟩
  rfl
 obtain⟨v,st,rfl,g,q⟩:=h
 refine#[_,(jd (jy (jC zm (ju (pv 0)) (jl (ja jo (ja jo jb))) Z) (jf (jm (jl (ja jo (ja (ju (pv 0)) jb))))) jr) (jf (jm (pv 0)))),?_]
 cases g with
 |lf p l V c d=>
  cases l with
  |rd x t T |st x t T |wr t u T U |cl x f B D |gv t T=>
   obtain⟨rfl,_⟩:=d
   refine(jp c Z #[cg,λl n=>#[l,_,Z,.inr (aA.of jc),Z,Z,_,Z,aT Pp ?_]])
   exact#[_,Z,q _ _ Jn (je n)]
 |ite p t T a b i I j J c m d y L M |loop p t T a i j c m d y=>
  refine(jp c Z #[cg,λl n=>#[l,_,Z,.inr (aA.of jc),Z,Z,_,Z,cq Pp ?_]])
  refine(jp (am c n) Z #[cg,λr N=>?_])
  exact q _ _ (jA jc (jk Z jQ (jk Z Jn jz))) ((je n).trans (je N))
theorem CG{fN:Addr}{fdN:FuncData}(F:aQ K "names_in" "names_in" eM f b)(c:Cl P w K mg base (n+1) f b z0z (dh n) "names_in")(m:mg "set"=none)(M:mg "sorted"=none):af P w K mg base aE (n+2) f b z0z (oC K):=by
 refine F.ok u9 (λv H Q E h=>?_) (λC A o s H v Q E d h=>?_)
 ·obtain⟨a,rfl,_⟩:=h
  rfl
 obtain⟨a,rfl,g,q⟩:=h
 refine#[_,(jd (jy (j6 (ju (pv 0))) (jf (jm (jJ jb))) jr) (jd (jy (j6 (ju (pv 0))) (jf (jm (jJ (ja (ju (pv 0)) jb)))) jr) (jf (jm (jO (qc Z) Z M O4 (ja (jP (qL Z) Z m boot_set (ja (jx Jm (c.e d (ja (ju (pv 0)) jb)) (c.e d (ja (ju (pv 0)) jb))) jb)) jb)))))),?_]
 refine#[_,Z,a,_,_,_,Z,Z,g,Z,Z,_,Z,cq Pp ?_]
 exact#[eY,λr N=>q r N]
theorem oj:ai z0z z0z (ae lK):=bK
theorem tT(F:aQ K "place_of_give" "place_of_give" lK f d)(C:Cl P w K mg base 7 U i z0z (dh 6) "names_in"):af P w K mg base aE 8 f d z0z gu:=by
 refine F.ok oj ?_ λj A o s H V Q E l h=>?_
 ·rintro _ _ _ _ ⟨t,T,y,rfl,_⟩
  rfl
 obtain⟨t,T,y,rfl,p,O,b,q⟩:=h
 refine#[_,(jf (jm (jl (ja (C.e l.m (ja (pv 0) jb)) (ja (jl (ja (jl jb) (ja (jl (ja jo (ja (pv 0) jb))) jb))) jb))))),?_]
 refine#[_,Z,t,T,y,Z,p,O.2,O.1,b,λg v a z B D M G I=>?_]
 have J:NL a g v (λx=>x∈T.vars) y:=#[B,#[D,G,M],kC O.1,b]
 refine#[eY,λe L=>#[_,Z,cg,λu c=>#[cg,λx N=>#[cg,λr n=>?_]]]]
 have S:aa a (ah (ah (ah (ah a e (.tup [])) u (.tup [.str "give",.ref t])) x (.tup [.ref e,.ref u])) r (.tup [.ref g,.ref x])):=(((je L).trans (je c)).trans (je N)).trans (je n)
 refine q _ g _ #[r,_,.ref x,Z,jc,J.same S,?_] z (I.trans S)
 exact jA (am jc n) (jk Z (jA (am (am (am jc c) N) n) jz) (jk Z (jA (am (am jc N) n) (jk Z jQ (jk Z Jn jz))) jz))
theorem CM(F:aQ K "place_of_give" "place_of_give" lK f j)(C:Cl P w K mg base 7 G l z0z (oC K) "names_in"):af P w K mg base aE 8 f j z0z (oE K):=by
 refine F.ok oj ?_ λp A o s H V Q E v h=>?_
 ·rintro _ _ _ _ ⟨t,y,rfl,_⟩
  rfl
 obtain⟨t,y,rfl,z,B,q⟩:=h
 refine#[_,(jf (jm (jl (ja (C.e v.m (ja (pv 0) jb)) (ja (jl (ja (jl jb) (ja (jl (ja jo (ja (pv 0) jb))) jb))) jb))))),?_]
 refine#[_,Z,t,Z,z,λg a=>?_]
 have b:aa H (ah H g (.lst [])):=je a
 have c:NL (ah H g (.lst [])) g [] (λx=>x∈(Tm.num 0).vars) y:=#[jc,#[Ou,Z,λx=>OP],λx h=>absurd h Ll,B]
 generalize ah H g (.lst [])=d at b c
 refine#[eY,λe D=>#[_,Z,cg,λu i=>#[cg,λx N=>#[cg,λr n=>?_]]]]
 have S:aa d (ah (ah (ah (ah d e (.tup [])) u (.tup [.str "give",.ref t])) x (.tup [.ref e,.ref u])) r (.tup [.ref g,.ref x])):=(((je D).trans (je i)).trans (je N)).trans (je n)
 refine q _ g _ #[r,_,.ref x,Z,jc,c.same S,?_] a (b.trans S)
 exact jA (am jc n) (jk Z (jA (am (am (am jc i) N) n) jz) (jk Z (jA (am (am jc N) n) (jk Z jQ (jk Z Jn jz))) jz))
end _K
namespace _K
open PySem PySem.Spec PyProof.Rows _L
variable {P:Program}{w:World}{K:Frag}{mg:Str->Option Value}{base:Heap}
theorem xA{Y:List Str}:nV (.str x) (Y.map V.str)=decide (x∈Y):=by
 by_cases h:x∈Y
 ·rw[IV h]
  unfold nV
  rw[List.any_eq_true]
  exact#[.str x,List.mem_map.mpr #[x,h,Z],by simp [mZ]]
 ·rw[IQ h]
  unfold nV
  rw[Bool.eq_false_iff]
  intro z
  rw[List.any_eq_true]at z
  obtain⟨v,a,e⟩:=z
  obtain⟨y,H,rfl⟩:=List.mem_map.mp a
  have E:x=y∨y=x:=by
   first
    |exact .inl (by simpa [mZ] using e)
    |exact .inr (by simpa [mZ] using e)
  rcases E with rfl |rfl
  ·exact h H
  ·exact h H
theorem DP{H:Hp}{w:Wy}{v:V}(h:aP H (gU w) v []):∃(W s:Addr) (S:List V) (y:V),v= .ref W/\H W=some (.tup [.ref s,y])/\H s=some (.tup S)/\aP H (au (w.sets.map setT)) .non S/\aP H (xz w.goal) y []:=by
 obtain⟨_,W,x,rfl,a,_,_,l,b,e,⟨_,s,S,c,d,f⟩,_,_,g,Y,E,i,j⟩:=h
 have k:Y=[]:=j
 rw[k]at E
 rw[E]at e
 rw[e,c]at a
 exact#[W,s,S,g,Z,a,d,f,i]
theorem nO:ai ["statement","behind","way"] z1z (ae uR):=bK
theorem yg(F:aQ K "place_of_set" "place_of_set" uR f fd)(cU:Cl P w K mg base 10 fU f0 z1z (gw 0) "used_ahead_of"):af P w K mg base aE 11 f fd z1z iF:=by
 refine F.ok nO ?_ λc0 A O s H vs Q E hr h=>?_
 ·rintro _ _ _ _ ⟨v,bv,p,t,x,T,C,g,Y,rfl,_⟩
  rfl
 obtain⟨v,bv,p,t,x,T,C,g,Y,rfl,X,hp,hx,ok,hl,q⟩:=h
 refine#[_,(jd (jD 2 nO.nd (ju (pv 1))) (jd (zf (jy (jC zm (ju (pv 0)) (ju (pv 1)) Z) (jf (jD 2 nO.nd (jl (ja (jx ke (jl (ja (jK jV (pv 0) (jN jg) jR) jb)) (ju (pv 2))) (ja (ju (pv 2)) jb))))) jr)) (jf (jm (jl (ja (cU.e hr.m (ja (pv 0) (ja (ju (pv 1)) jb))) (ja (pv 2) jb))))))),?_]
 have b0:=aH
 obtain⟨r,ss,wv,rfl,b,B,hW⟩:=hp
 have h0:=X
 cases X with
 |lf _ _ vs h1 h2=>
  obtain⟨rfl,hT⟩:=h2
  obtain⟨wa,sa,sx,y,rfl,i,D,j,hy⟩:=DP hW
  refine aj λF1 d=>(jp b Z (d _ _ ?_))
  clear d
  have sl:=zd j
  rw[IJ]at sl
  refine aj λF1 d=>gT (λl I=>∃W:V,l=[some (.ref p),some (.ref r),some W]/\aP I (gU (iw x t C)) W []/\aa H I) (λE2 _ fm=>?_) λl I h=>?_
  ·clear d
   refine iS λG kT kF=>(jp h1 Z (jp b Z #[g,_,Z,.inl (aJ.of B.at'),Z,Qs _,_,Z,?_]))
   rw[xA]
   by_cases a:x∈ss
   ·rw[IV a]
    refine kT _ #[_,Z,_,Z,p,_,Z,h1,λs1 H1 J k1=>#[h8,λu nu=>?_]]
    have L:=k1.trans (je (o:=.tup [.ref s1]) nu)
    refine(jp (L _ _ i) Z #[u,sa,_,_,Z,Z,jc,L _ _ D,by show 1+sx.length<=_;omega,λc H2 hc z=>?_])
    have R:=L.trans z
    refine(jp (R _ _ i) Z #[cg,λnw n=>fm _ _ #[.ref nw,Z,?_,R.trans (je n)]])
    have tm:=aa.tm (R.trans (je (o:=.tup [.ref c,y]) n))
    unfold iw
    rw[IU ((B.nm.mem x).mp a)]
    refine jA jc (jk Z (jA (am hc n) (jk Z ?_ (j.mono tm))) (jk (BJ _) (hy.mono tm) jz))
    exact jA (am (z _ _ (am J nu)) n) (jk Z jQ (jk Z Jn jz))
   ·rw[IQ a]
    refine kF _ (fm _ _ #[_,Z,?_,aa.refl _])
    unfold iw
    rw[IX λw=>a ((B.nm.mem x).mpr w)]
    exact hW
  ·obtain⟨W,rfl,S,k⟩:=h
   refine d _ _ ?_
   clear d
   refine#[_,Z,jp (k _ _ b) Z #[.ref p,g,.lf p (.st x t T) .nil,ss,C.M,Y,Z,h0.mono (aa.tm k),B.same k,#[#[hx,ok],trivial],(by show 0 < 1;decide),(by show 0+1<=10000000;decide),λg' zs H3 n3 N3 z=>?_]]
   refine#[_,Z,cg,λr' N=>q _ g' _ #[r',zs,W,Z,jc,N3.same (je N),S.mono (aa.tm (z.trans (je N)))] (k.free n3) ((k.trans z).trans (je N))]
noncomputable abbrev yA:Stmt:=be (bM 51) 1
noncomputable abbrev yI:Stmt:=be (bM 51) 2
noncomputable abbrev yB:Stmt:=be (bM 51) 3
noncomputable abbrev yM:Stmt:=be (bM 51) 4
noncomputable abbrev uK:Stmt:=be (bM 51) 0
noncomputable def pL(m:Int)(p:Addr)(l:Lf)(q:Pc×List Ct):Pc×List Ct:=match l with
 | .gv t T=>(#[λx=>x∈T.vars,#[[],.give t]],q.2)
 | .st x t T=>(#[(Lf.st x t T).use q.1.M,iw x t q.1],q.2)
 | .rd x t T=>(#[(Lf.rd x t T).use q.1.M,#[[],.go (m - (q.2.length:Int) - 1)]],q.2++[#[(Lf.rd x t T).use q.1.M,.st p,[q.1.w]]])
 | .wr t u T U=>(#[(Lf.wr t u T U).use q.1.M,#[[],.go (m - (q.2.length:Int) - 1)]],q.2++[#[(Lf.wr t u T U).use q.1.M,.st p,[q.1.w]]])
 | .cl x f a b=>(#[(Lf.cl x f a b).use q.1.M,#[[],.go (m - (q.2.length:Int) - 1)]],q.2++[#[(Lf.cl x f a b).use q.1.M,.st p,[q.1.w]]])
noncomputable def pB(m:Int):Bd->Pc->List Ct->Pc×List Ct
 | .nil,c,f=>(c,f)
 | .lf p l r,c,f=>pL m p l (pB m r c f)
 | .ite p t T a b r,c,f=>
  let q:=pB m r c f
  let o:=pB m b q.1 q.2
  let s:=pB m a q.1 o.2
  (#[(Bd.ite p t T a b .nil).use q.1.M,#[[],.go (m - (q.2.length:Int) - ((Bd.ite p t T a b .nil).cuts:Int))]],s.2++[#[(Bd.ite p t T a b .nil).use q.1.M,.ask t,[s.1.w,o.1.w]]])
 | .loop p t T a r,c,f=>
  let q:=pB m r c f
  let d:Pc:=#[(Bd.loop p t T a .nil).use q.1.M,#[[],.go (m - (q.2.length:Int) - ((Bd.loop p t T a .nil).cuts:Int))]]
  let s:=pB m a d q.2
  (d,s.2++[#[(Bd.loop p t T a .nil).use q.1.M,.ask t,[s.1.w,q.1.w]]])
theorem Kj(m:Int):∀(a b:Bd) (c:Pc) (f:List Ct),pB m (a.app b) c f=pB m a (pB m b c f).1 (pB m b c f).2
 | .nil,_,_,_=>rfl
 | .lf p l r,b,c,f=>by show pL m p l (pB m (r.app b) c f)=pL m p l (pB m r _ _);rw[Kj m r b c f]
 | .ite p t T x y r,b,c,f=>by
  have e:=Kj m r b c f
  show pB m (.ite p t T x y (r.app b)) c f=_
  unfold pB
  rw[e]
 | .loop p t T x r,b,c,f=>by
  have e:=Kj m r b c f
  show pB m (.loop p t T x (r.app b)) c f=_
  unfold pB
  rw[e]
theorem kj(m:Int):∀(b:Bd) (c:Pc) (F:List Ct),(pB m b c F).2.length=F.length+b.cuts
 | .nil,_,_=>rfl
 | .lf p l r,c,F=>by
  have e:=kj m r c F
  show(pL m p l (pB m r c F)).2.length=F.length+(l.cut+r.cuts)
  cases l with
  |rd x t T |wr t u T U |cl x f a d=>show((pB m r c F).2++[_]).length=F.length+(1+r.cuts);rw[IL,e];show _+1=_;omega
  |st x t T |gv t T=>show(pB m r c F).2.length=F.length+(0+r.cuts);omega
 | .ite p t T x y r,c,F=>by
  have e:=kj m r c F
  show((pB m x _ (pB m y _ _).2).2++[_]).length=_
  rw[IL,kj m x,kj m y,e]
  show _+1=F.length+(1+x.cuts+y.cuts+r.cuts)
  omega
 | .loop p t T x r,c,F=>by
  have e:=kj m r c F
  show((pB m x _ _).2++[_]).length=_
  rw[IL,kj m x,e]
  show _+1=F.length+(1+x.cuts+r.cuts)
  omega
theorem Xx(x:Str)(t:Addr)(p:Pc):(iw x t p).sets.length<=p.w.sets.length+1:=by
 unfold iw
 split
 ·exact IK _
 ·exact LH _
theorem Zj(m:Int):∀(b:Bd) (a:Pc) (f:List Ct),(pB m b a f).1.w.sets.length<=a.w.sets.length+b.size
 | .nil,_,_=>IK _
 | .lf p l r,a,f=>by
  have e:=Zj m r a f
  show(pL m p l (pB m r a f)).1.w.sets.length<=a.w.sets.length+(r.size+1)
  cases l with
  |st x t T=>have:=Xx x t (pB m r a f).1;show(iw x t (pB m r a f).1).sets.length<=_;omega
  |_=>exact IS _
 | .ite p t T x y r,a,f=>IS _
 | .loop p t T x r,a,f=>IS _
theorem kN:∀b:Bd,b.cuts<=b.size
 | .nil=>IK _
 | .lf _ l r=>by
  have:=kN r
  have h:l.cut<=1:=by cases l<;>first |exact IK _ |exact IS _
  show l.cut+r.cuts<=r.size+1
  omega
 | .ite _ _ _ a b r=>by have:=kN a;have:=kN b;have:=kN r;show 1+a.cuts+b.cuts+r.cuts<=a.size+b.size+r.size+1;omega
 | .loop _ _ _ a r=>by have:=kN a;have:=kN r;show 1+a.cuts+r.cuts<=a.size+r.size+1;omega
structure CK(K:Frag)(C:Addr):Prop where
 cl:nR K C
 nm:aX K C "many"
 nf:aX K C "found"
structure Cg(H:Hp)(C ia dx fa:Addr)(m:Int)(cts:List Ct)(cs:List V):Prop where
 ins:H ia=some (.ins C dx [("many",.int m),("found",.ref fa)])
 fd:H fa=some (.lst cs)
 tr:aP H (au (cts.map Es)) .non cs
theorem Cg.same(h:Cg H C i d f m c a)(s:aa H b):Cg b C i d f m c a:=#[s _ _ h.ins,s _ _ h.fd,h.tr.mono (aa.tm s)]
theorem Cg.len(h:Cg H C i d f m c a):a.length=c.length:=by rw[zd h.tr,IJ]
theorem Cg.tm(h:Cg H C i d f m c g)(k:aR f H a):ax H a:=λb x e=>k b _ (jS e h.fd (by intro z;cases z)) e
structure wK(H:Hp)(C ia dx fa:Addr)(m:Int)(cts:List Ct)(cs:List V)(pc:Pc)(bv:V)(g:Addr)(ys:List Str)(b:Bd):Prop where
 c:Cg H C ia dx fa m cts cs
 p:mY H pc bv g ys
 ng:g≠fa
 ok:b.Ok ys
 sz:cts.length+pc.w.sets.length+b.size<=10000000
def p4(H:Hp)(C i d f:Addr)(m:Int)(y:List Str)(q:Pc×List Ct)(Q:VK):Prop:=∀(v:V) (g:Addr) (c:List V) (h:Hp),mY h q.1 v g y->g≠f->Cg h C i d f m q.2 c->aR f H h->Q v h
inductive mP(C:Addr)(n:Nat)(l:List V)(H:Hp)(Q:VK)(c:XK):Prop
 |mk(j h i a g:Addr)(m:Int)(d:List Ct)(f o:List V)(k:Pc)(e:V)(p:List Str)(b:Bd)(_:l=[.ref j,.ref a,e])(_:wK H C j h i m d f k e g p b)(_:H a=some (.tup o))(_:dQ H b o)(_:b.dep < n)(_:p4 H C j h i m p (pB m b k d) Q)
inductive DC(C:Addr)(n:Nat)(j:List V)(H:Hp)(Q:VK)(a:XK):Prop
 |mk(h e f g:Addr)(m:Int)(b:List Ct)(d:List V)(i:Pc)(v c:V)(k:List Str)(s:Bd)(_:j=[.ref h,v,c])(_:wK H C h e f m b d i c g k s)(_:gW H v s)(_:s.dep < n+1)(_:p4 H C h e f m k (pB m s i b) Q)
noncomputable def Bd.isCut:Bd->Bool
 | .lf _ l _=>l.isCut
 | .nil=>false
 |_=>true
inductive yZ(C:Addr)(n:Nat)(j:List V)(H:Hp)(Q:VK)(a:XK):Prop
 |mk(h e f g:Addr)(m:Int)(b:List Ct)(d:List V)(i:Pc)(v c:V)(k:List Str)(s:Bd)(_:j=[.ref h,v,c])(_:wK H C h e f m b d i c g k s)(_:gW H v s)(_:s.dep < n+1)(_:s.isCut=true)(_:p4 H C h e f m k (pB m s i b) Q)
noncomputable def gL(m:Int)(c:Pc)(p:Pc)(f:List Ct):Bd->List Wy×List Ct
 | .ite _ _ _ a b _=>([(pB m a p (pB m b p f).2).1.w,(pB m b p f).1.w],(pB m a p (pB m b p f).2).2)
 | .loop _ _ _ a _=>([(pB m a c f).1.w,p.w],(pB m a c f).2)
 |_=>([p.w],f)
inductive DE(C:Addr)(n:Nat)(o:List V)(H:Hp)(Q:VK)(a:XK):Prop
 |mk(i e f g h:Addr)(m:Int)(b:List Ct)(d:List V)(j k:Pc)(v c l:V)(p:List Str)(s:Bd)(_:o=[.ref i,v,l,c])(_:wK H C i e f m b d j c g p s)(_:mY H k l h p)(_:h≠f)(_:k.w.sets=[])(_:gW H v s)(_:s.dep < n+1)(_:∀(wv:V) (cs':List V) (H':Hp),aP H' (ay ((gL m k j b s).1.map gU)) wv []->Cg H' C i e f m (gL m k j b s).2 cs'->aR f H H'->Q wv H')
theorem Yc(h:gW H v s)(g:s.isCut=true)(m:Int)(c:Pc)(F:List Ct):
  pB m s c F=(#[s.use c.M,#[[],.go (m - (F.length:Int) - (s.cuts:Int))]],(gL m #[s.use c.M,#[[],.go (m - (F.length:Int) - (s.cuts:Int))]] c F s).2++[#[s.use c.M,s.deed,(gL m #[s.use c.M,#[[],.go (m - (F.length:Int) - (s.cuts:Int))]] c F s).1]]):=by
 cases h with
 |lf p l V d e=>
  cases l with
  |rd x t T |wr t u T U |cl x f a k=>rfl
  |st x t T |gv t T=>cases g
 |ite p t T a b q Q A B d i e j n o |loop p t T a q A d i e j=>rfl
theorem wf(h:mY H p v g y):∃(r:Addr) (W:V),v= .ref r/\H r=some (.tup [.ref g,W])/\aP H (gU p.w) W []:=by
 obtain⟨r,s,W,e,a,c,b⟩:=h
 exact#[r,W,e,a,b]
theorem Fq:ai ["self","statement","place","behind","other"] z18z (ae yM):=bK
theorem EY(F:aQ K "ways_of" "Cutting.ways_of" yM f fd)(X:CK K C)(GB:af P w K mg base aE (4*n+31) fB f0 z9z (mP C n))(bB:aC K f0 z9z [])(hB:ba K C "place_of_body" fB):af P w K mg base aE (4*n+32) f fd z18z (DE C n):=by
 refine F.ok Fq ?_ λc3 A o1 s H vs Q E hr h=>?_
 ·rintro _ _ _ _ ⟨i,D,R,g,g2,m,d,S,y,pl,v,bv,pv,Y,s,rfl,_⟩
  rfl
 obtain⟨i,D,R,g,g2,m,d,S,y,pl,v,bv,G,Y,st,rfl,I,h6,n0,h7,hs,hd,q⟩:=h
 refine#[_,(jd (jy (j6 (ju (pv 1))) (jd (jD 4 Fq.nd (jZ (pv 0) X.cl hB GB hr.m bB .nil aY (ja (ju (pv 1)) (ja (pv 3) jb)))) (jf (jm (jl (ja (jv jE (jZ (pv 0) X.cl hB GB hr.m bB .nil aY (ja (ju (pv 1)) (ja (pv 3) jb))) jg (λ_ _=>Z)) (ja (ju (pv 4)) jb)))))) jr) (jd (jy (j6 (ju (pv 1))) (jf (jm (jl (ja (jv jE (jZ (pv 0) X.cl hB GB hr.m bB .nil aY (ja (ju (pv 1)) (ja (pv 2) jb))) jg (λ_ _=>Z)) (ja (ju (pv 3)) jb))))) jr) (jf (jm (jl (ja (ju (pv 3)) jb)))))),?_]
 have b0:=aH
 obtain⟨br,bw,rfl,J,L⟩:=wf I.p
 cases hs with
 |lf p l vs e M=>
  have f2:iM (cV (ar (gE (bZ K) (bV 3) (tC (V.int 1))) bf)) { nx:=λx H'=>Q V.non H',rt:=Q } [some (.ref i),some (.ref p),some G,some (.ref br),none] H:=by
   refine(jp J Z #[h8,λr N=>q (.ref r) S _ (jA jc (jk Z (L.mono (aa.tm (je N))) jz)) (I.c.same (je N)) (aR.of_same (je N))])
  cases l with
  |rd x t T |st x t T |wr t u T U |cl x f q2 ts |gv t T=>
   obtain⟨rfl,_⟩:=M
   refine(jp e Z #[Z,_,Z,aT Pp ?_])
   refine(jp e Z #[Z,_,Z,aT Pp ?_])
   exact f2
 |ite p t T a b qa qb as bs e h0 M h3 h4 h5=>
  refine(jp e Z #[Z,_,Z,cq Pp ?_])
  have h':max (max a.dep b.dep+1) 0 < n+1:=hd
  have hz:d.length+y.w.sets.length+(a.size+b.size+0+1)<=10000000:=I.sz
  have W:=I.ok
  refine aj λF1 f1=>#[_,Z,i,D,_,Z,I.c.ins,Z,jp e Z #[_,Z,i,D,R,qb,g,m,d,S,bs,y,.ref br,Y,b,Z,#[I.c,I.p,I.ng,W.2.2.1,Pn],h3,h5,Pn,λv1 g1 j H1 p1 n1 O z=>f1 _ _ ?_]]
  clear f1
  have B:=I.c.tm z
  have lc:=kj m b y d
  have cb:=kN b
  refine#[_,Z,i,D,_,Z,O.ins,Z,jp (B _ _ e) Z #[_,Z,i,D,R,qa,g,m,_,j,as,y,.ref br,Y,a,Z,#[O,I.p.but z I.c.fd I.ng,I.ng,W.2.1,Pn],B _ _ M,h4.mono B,Pn,λv2 g2 c0 H2 p2 n2 c2 k2=>?_]]
  obtain⟨r2,w2,rfl,a0,a1⟩:=wf p2
  obtain⟨r1,w1,rfl,k,o⟩:=wf (p1.but k2 O.fd n1)
  refine#[r2,_,_,_,Z,Z,aA.of a0,Z,jp k Z #[cg,λr N=>q (.ref r) c0 _ (jA jc (jk Z (a1.mono (aa.tm (je N))) (jk Z (o.mono (aa.tm (je N))) jz))) (c2.same (je N)) ((z.trans k2).trans (aR.of_same (je N)))]]
 |loop p t T a qa as e h0 M h3=>
  refine(jp e Z #[Z,_,Z,aT Pp ?_])
  refine(jp e Z #[Z,_,Z,cq Pp ?_])
  have h':max (a.dep+1) 0 < n+1:=hd
  have hz:d.length+y.w.sets.length+(a.size+0+1)<=10000000:=I.sz
  have W:=I.ok
  refine#[_,Z,i,D,_,Z,I.c.ins,Z,jp e Z #[_,Z,i,D,R,qa,g2,m,d,S,as,pl,G,Y,a,Z,#[I.c,h6,n0,W.2.1,by rw[h7];show d.length+0+a.size<=_;omega],M,h3,Pn,λv1 g1 j H1 p1 n1 O z=>?_]]
  obtain⟨r1,w1,rfl,k,o⟩:=wf p1
  have B:=I.c.tm z
  refine#[r1,_,_,_,Z,Z,aA.of k,Z,jp (B _ _ J) Z #[cg,λr N=>q (.ref r) j _ (jA jc (jk Z (o.mono (aa.tm (je N))) (jk Z ((L.mono B).mono (aa.tm (je N))) jz))) (O.same (je N)) (z.trans (aR.of_same (je N)))]]
theorem uW:ai ["self","statement","behind","n","names","place","ways"] z7z (ae yB):=bK
theorem EW(F:aQ K "place_of_cut" "Cutting.place_of_cut" yB f fd)(y:CK K C)(h7:n<=7)(GW:af P w K mg base aE (4*n+32) fW f0 z18z (DE C n))(bW:aC K f0 z18z [])(hW:ba K C "ways_of" fW)(cM:Cl P w K mg base 2 fM f2 ["body"] gK "many_cuts")(cU:Cl P w K mg base 31 fU f3 z1z (gw 7) "used_ahead_of")(cD:Cl P w K mg base 1 fD f4 z4z iz "deed_of")(ml:mg "len"=none)(m0:mg "tuple"=none):af P w K mg base aE (4*n+33) f fd z7z (yZ C n):=by
 refine F.ok uW ?_ λc0 A o1 s H vs Q E Y h=>?_
 ·rintro _ _ _ _ ⟨z,L,l,g,m,a,cs,j,v,bv,ys,s,rfl,_⟩
  rfl
 obtain⟨z,L,l,g,m,a,cs,j,v,bv,ys,st,rfl,I,B,hd,hc,q⟩:=h
 refine#[_,(jd (jD 3 uW.nd (jx qG (jx qG (jX (pv 0) Z) (jO jL Z ml Mf (ja (jX (pv 0) Z) jb))) (cM.e Y.m (ja (jl (ja (pv 1) jb)) jb)))) (jd (jD 4 uW.nd (cU.e Y.m (ja (pv 1) (ja (ju (pv 2)) jb)))) (jd (jD 5 uW.nd (jl (ja (pv 4) (ja (jl (ja (jl jb) (ja (jl (ja jo (ja (pv 3) jb))) jb))) jb)))) (jd (jD 6 uW.nd (jZ (pv 0) y.cl hW GW Y.m bW .nil aY (ja (pv 1) (ja (pv 5) (ja (pv 2) jb))))) (jd (jB (jU IR J' I9 jI (jX (pv 0) Z) (ja (jl (ja (jP jY Z m0 NB (ja (pv 4) jb)) (ja (cD.e Y.m (ja (pv 1) jb)) (ja (pv 6) jb)))) jb))) (jf (jm (pv 5)))))))),?_]
 have b0:=aH
 obtain⟨br,ss,bw,rfl,h0,hN,h1⟩:=id I.p
 have hz:=I.sz
 have lc:=I.c.len
 refine aj λF1 i=>#[_,Z,z,C,L,_,_,Z,I.c.ins,y.cl,y.nm,Z,_,Z,z,C,L,_,_,Z,I.c.ins,y.cl,y.nf,Z,l,_,Z,.inl (aJ.of I.c.fd),_,_,Z,Z,_,Z,h8,λu nu=>?_]
 have s1:aa H (ah H u (.tup [v])):=je nu
 refine#[u,st,_,Z,jc,(B.mono (aa.tm s1)).bd,Pn,λH1 k1=>#[_,_,Z,Z,i _ _ ?_]]
 clear i
 have S:=s1.trans k1
 rw[lc]
 refine aj λF1 i=>#[_,Z,jp (S _ _ h0) Z #[v,g,st,ss,j.M,ys,Z,B.mono (aa.tm S),hN.same S,I.ok,Pn,Pn,λG zs H2 n2 N2 k2=>i _ _ ?_]]
 clear i
 have s3:=S.trans k2
 have N:G≠l:=λe=>by rw[e,S _ _ I.c.fd]at n2;cases n2
 refine aj λF1 i=>#[_,Z,eY,λe ne=>#[_,Z,cg,λU O=>#[cg,λx nx=>#[cg,λr nr=>i _ _ ?_]]]]
 clear i
 have s4:aa H2 (ah (ah (ah (ah H2 e (.tup [])) U (.tup [.str "go",.int (m - (a.length:Int) - (st.cuts:Int))])) x (.tup [.ref e,.ref U])) r (.tup [.ref G,.ref x])):=(((je ne).trans (je O)).trans (je nx)).trans (je nr)
 have P4:mY (ah (ah (ah (ah H2 e (.tup [])) U (.tup [.str "go",.int (m - (a.length:Int) - (st.cuts:Int))])) x (.tup [.ref e,.ref U])) r (.tup [.ref G,.ref x])) #[st.use j.M,#[[],.go (m - (a.length:Int) - (st.cuts:Int))]] (.ref r) G ys:=
  #[r,zs,.ref x,Z,jc,N2.same s4,jA (am jc nr) (jk Z (jA (am (am (am jc O) nx) nr) jz) (jk Z (jA (am (am jc nx) nr) (jk Z jQ (jk Z jT jz))) jz))]
 generalize ah (ah (ah (ah H2 e (.tup [])) U (.tup [.str "go",.int (m - (a.length:Int) - (st.cuts:Int))])) x (.tup [.ref e,.ref U])) r (.tup [.ref G,.ref x])=H4 at s4 P4
 have R:=s3.trans s4
 have c5:=I.c.same R
 refine aj λF1 i=>#[_,Z,z,L,_,Z,c5.ins,Z,_,Z,_,Z,_,Z,z,L,l,g,G,m,a,cs,j,_,v,.ref br,.ref r,ys,st,Z,#[c5,I.p.same R,I.ng,I.ok,I.sz],P4,N,Z,B.mono (aa.tm R),hd,λwv D H6 w6 c6 k6=>i _ _ ?_]
 clear i
 have t0:=c5.tm k6
 have p6:=P4.but k6 c5.fd N
 have z6:H6 G=some (.lst (zs.map V.str)):=k6 _ _ N (s4 _ _ N2.at')
 have ez:=N2.nm.canon
 have l6:=c6.len
 have lw:(gL m #[st.use j.M,#[[],.go (m - (a.length:Int) - (st.cuts:Int))]] j a st).2.length+1=a.length+st.cuts:=by
  have:=kj m st j a
  rw[Yc B hc m j a,IL]at this
  exact this
 have cl:=kN st
 refine aj λF1 i=>#[_,Z,z,C,L,_,_,Z,c6.ins,y.cl,y.nf,Z,.inl #[Z,_,aJ.of c6.fd],_,Z,G,_,Z,.inl #[aJ.of z6,λnt n0=>?_]]
 have s7:aa H6 (ah H6 nt (.tup (zs.map V.str))):=je n0
 refine#[_,Z,v,st,Z,((B.mono (aa.tm R)).mono t0).mono (aa.tm s7),λd H8 d8 k8=>#[_,Z,m9,λW J=>?_]]
 have X:=(s7.trans k8).trans (je (o:=.tup [.ref nt,d,wv]) J)
 have t:=c6.same X
 refine#[l,D,_,Z,Z,t.fd,Pn,i _ _ ?_]
 clear i
 have T9:aP (ah H8 W (.tup [.ref nt,d,wv])) (Es #[st.use j.M,st.deed,(gL m #[st.use j.M,#[[],.go (m - (a.length:Int) - (st.cuts:Int))]] j a st).1]) (.ref W) []:=by
  refine jA jc (jk Z (jA (am (k8 _ _ jc) J) ?_) (jk (Ew _) (d8.mono (aa.tm (je J))) (jk Z (w6.mono (aa.tm X)) jz)))
  rw[<- ez]
  exact Xw zs
 have p9:=p6.same X
 generalize ah H8 W (.tup [.ref nt,d,wv])=H9 at X t T9 p9
 have k:aR l H9 (ah H9 l (.lst (D++[.ref W]))):=λb o nb e=>by rw[jh nb];exact e
 have T:=t.tm k
 have n1:z≠l:=λe=>by have:=t.ins;rw[e,t.fd]at this;cases this
 refine#[_,Z,q (.ref r) G (D++[.ref W]) _ ?_ N ?_ (λb o nb e=>k b o nb (X _ _ (k6 b o nb (R _ _ e))))]
 ·rw[Yc B hc m j a]
  exact p9.but k t.fd N
 ·rw[Yc B hc m j a]
  refine#[k _ _ n1 t.ins,jc,?_]
  rw[Ln]
  exact JR (jk Z (T9.mono T) jz) (t.tr.mono T)
inductive BI(C u j s a:Addr)(m:Int)(c:List Ct)(x:Pc)(f:V)(z:List Str)(b:Bd)(y:List V)(H:Hp)(i:Nat)(A:_L.St)(e:Hp):Prop
 |mk(d t:Bd)(v:V)(g:Addr)(h:List V)(w:Option V)(k:A=[some (.ref u),some (.ref a),some f,some v,w])(l:b=d.app t)(n:dQ H d (y.take (y.length - i)))(o:mY e (pB m t x c).1 v g z)(p:g≠s)(q:Cg e C u j s m (pB m t x c).2 h)(r:aR s H e)
theorem JS(m:Int):∀(b:Bd) (c:Pc) (F:List Ct),(pB m b c F).2.length+(pB m b c F).1.w.sets.length<=F.length+c.w.sets.length+b.size
 | .nil,_,_=>IK _
 | .lf p l r,c,F=>by
  have e:=JS m r c F
  show(pL m p l (pB m r c F)).2.length+(pL m p l (pB m r c F)).1.w.sets.length<=F.length+c.w.sets.length+(r.size+1)
  cases l with
  |st x t T=>have:=Xx x t (pB m r c F).1;show(pB m r c F).2.length+(iw x t (pB m r c F).1).sets.length<=_;omega
  |gv t T=>show(pB m r c F).2.length+0<=_;omega
  |rd x t T |wr t u T U |cl x f a d=>show((pB m r c F).2++[_]).length+0<=_;rw[IL];show _+1+0<=_;omega
 | .ite p t T x y r,c,F=>by
  have e:=JS m r c F
  have h:=kN x
  have H:=kN y
  show((pB m x _ (pB m y _ _).2).2++[_]).length+0<=F.length+c.w.sets.length+(x.size+y.size+r.size+1)
  rw[IL,kj m x,kj m y]
  show _+1+0<=_
  omega
 | .loop p t T x r,c,F=>by
  have e:=JS m r c F
  have h:=kN x
  show((pB m x _ _).2++[_]).length+0<=F.length+c.w.sets.length+(x.size+r.size+1)
  rw[IL,kj m x]
  show _+1+0<=_
  omega
theorem Hg:ai z7z z7z (ae yI):=bK
theorem EX(F:aQ K "place_of" "Cutting.place_of" yI f fd)(ck:CK K C)(GC:af P w K mg base aE (4*n+33) fC D z7z (yZ C n))(bC:aC K D z7z [])(hC:ba K C "place_of_cut" fC)(cG:Cl P w K mg base 8 fG f0 z0z gu "place_of_give")(cS:Cl P w K mg base 11 fS f1 z1z iF "place_of_set"):af P w K mg base aE (4*n+34) f fd z7z (DC C n):=by
 refine F.ok Hg ?_ λc0 A O s H vs Q E G h=>?_
 ·rintro _ _ _ _ ⟨r,J,fa,g,m,j,z,L,v,B,y,s,rfl,_⟩
  rfl
 obtain⟨r,J,fa,g,m,j,z,L,v,B,y,st,rfl,I,M,hd,q⟩:=h
 refine#[_,(jd (jy (j6 (ju (pv 1))) (jf (jm (cG.e G.m (ja (ju (pv 1)) jb)))) jr) (jd (jy (j6 (ju (pv 1))) (jf (jm (cS.e G.m (ja (pv 1) (ja (pv 2) jb))))) jr) (jf (jm (jZ (pv 0) ck.cl hC GC G.m bC .nil aY (ja (pv 1) (ja (pv 2) jb))))))),?_]
 have hz:=I.sz
 have R:=M
 have i:st.isCut=true->iM (vM C "place_of_cut" (yZ C n) [] E0 (bV 0) (ar (bV 1) (ar (bV 2) bf))) { nx:=λx k=>Q V.non k,rt:=Q } [some (.ref r),some v,some B] H:=λhc=>
  #[_,Z,r,J,_,Z,I.c.ins,Z,_,Z,_,Z,r,J,fa,g,m,j,z,L,v,B,y,st,Z,I,M,hd,hc,q]
 cases M with
 |lf p l vs d o=>
  cases l with
  |rd x t T |wr t u T U |cl x f q2 ts=>
   obtain⟨rfl,_⟩:=o
   refine(jp d Z #[Z,_,Z,aT Pp ?_])
   refine(jp d Z #[Z,_,Z,aT Pp ?_])
   exact i Z
  |gv t T=>
   obtain⟨rfl,hT⟩:=o
   refine(jp d Z #[Z,_,Z,cq Pp ?_])
   clear i
   have Y:y.length<=21:=by obtain⟨_,_,_,_,_,hN,_⟩:=I.p;exact hN.y20
   exact(jp d Z #[t,T,y,Z,hT,I.ok.1,Y,λW X k p' N S=>q W X z k p' (λe=>by rw[e,I.c.fd]at N;cases N) (I.c.same S) (aR.of_same S)])
  |st x t T=>
   obtain⟨rfl,hT⟩:=o
   refine(jp d Z #[Z,_,Z,aT Pp ?_])
   refine(jp d Z #[Z,_,Z,cq Pp ?_])
   clear i
   exact#[_,Z,_,Z,.ref p,B,p,t,x,T,L,g,y,Z,R,I.p,I.ok.1.1,I.ok.1.2,Pn,λW X k p' N S=>q W X z k p' (λe=>by rw[e,I.c.fd]at N;cases N) (I.c.same S) (aR.of_same S)]
 |ite p t T a b qa qb as bs d h0 o h3 h4 h5 |loop p t T a qa as d h0 o h3=>
  refine(jp d Z #[Z,_,Z,aT Pp ?_])
  refine(jp d Z #[Z,_,Z,aT Pp ?_])
  exact i Z
theorem yP:ai ["self","body","behind","place","statement"] z9z (ae yA):=bK
theorem EV(F:aQ K "place_of_body" "Cutting.place_of_body" yA f fd)(ck:CK K C)(GO:af P w K mg base aE (4*n+34) fO T z7z (DC C n))(bO:aC K T z7z [])(hO:ba K C "place_of" fO)(R:mg "reversed"=none):af P w K mg base aE (4*n+35) f fd z9z (mP C (n+1)):=by
 refine F.ok yP ?_ λc1 A U s H vs Q E hr h=>?_
 ·rintro _ _ _ _ ⟨r,J,V,a,g,m,d,cs,xs,l,L,Y,b,rfl,_⟩
  rfl
 obtain⟨r,J,V,a,g,m,d,cs,xs,l,L,Y,b,rfl,I,ha,hb,hd,q⟩:=h
 refine#[_,(jd (jD 3 yP.nd (pv 2)) (jd (j7 Lp Z (@uo _ _ _ _ _ _ _ Z R boot_reversed (pv 1) Pm Pm Pq Pq) (jw (i:=4) yP.nd Z (Or.inl Z)) (jf (jD 3 yP.nd (jZ (pv 0) ck.cl hO GO hr.m bO .nil aY (ja (pv 4) (ja (pv 3) jb)))))) (jf (jm (pv 3))))),?_]
 have b0:=aH
 have hz:=I.sz
 have xl:=hb.len
 refine aj λF1 u=>#[_,Z,u _ _ ?_]
 clear u
 refine aj λF1 u=>?_
 refine dq λF kF=>#[_,Z,a,xs,Z,aA.of ha,kF _ _ ?_]
 clear kF
 refine Xp (K:=K) (xs:=xs) (BI C r J V a m d l L Y b xs H) #[b,.nil,L,g,cs,_,Z,(app_nil b).symm,by rw[Oa,LA];exact hb,I.p,I.ng,I.c,aR.refl] (λi σ H' hi h=>?_) ?_ (λσ H' h=>u _ _ ?_)
 ·obtain⟨_,_,_,_,_,_,_,_,_,_,_,_,k⟩:=h
  exact aA.of (I.c.tm k _ _ ha)
 ·clear u
  intro E _ i x σ H2 M fE Gq t h
  obtain⟨pre,fj,v,W,o,o4,rfl,j,y,X,h4,N,O⟩:=h
  have hi:i < xs.length:=by
   rcases Ob i xs.length with z |z
   ·exact z
   ·rw[LV (by simpa using z)]at M;cases M
  rw[Nq hi]at M
  have et:xs.take (xs.length - i)=xs.take (xs.length - (i+1))++[x]:=by
   have D:xs.length - i=(xs.length - 1 - i)+1:=by omega
   have e2:xs.length - (i+1)=xs.length - 1 - i:=by omega
   rw[D,e2,LP,M]
   rfl
  rw[et]at y
  rcases y.last with ⟨e,_⟩ | ⟨ws,v',B,S,D,e2,h6,h7⟩
  ·exact absurd e Po
  obtain⟨ew,ev⟩:=List.append_inj' D Z
  cases ev
  subst e2
  have h0:=zH (j▸I.ok)
  have G:=zH h0.1
  have a1:b.dep=max (B.app S).dep fj.dep:=by rw[j,zD]
  have a2:(B.app S).dep=max B.dep S.dep:=zD ..
  have h':S.dep<=b.dep:=by rw[a1,a2];exact IZ (M0 ..) (M5 ..)
  clear a1 a2
  have a0:b.size=B.size+S.size+fj.size:=by rw[j,kf,kf]
  have hl:=kj m fj l d
  have a3:=kN fj
  have a4:=Zj m fj l d
  have a5:(pB m fj l d).1.w.sets.length+(pB m fj l d).2.length+S.size<=10000000:=by have:=JS m fj l d;omega
  refine t ?_
  clear t
  have tm:=I.c.tm O
  show fo _ _ E [some (.ref r),some (.ref a),some L,some v,some x] H2
  refine#[_,Z,r,J,_,Z,N.ins,Z,_,Z,_,Z,r,J,V,W,m,_,o,_,x,v,Y,S,Z,#[N,X,h4,G.2,Pn],h7.mono tm,Pn,λv3 g3 c0 H3 p3 n3 c3 k3=>fE _ _ #[B,S.app fj,v3,g3,c0,_,Z,by rw[j,app_assoc],?_,by rw[Kj];exact p3,n3,by rw[Kj];exact c3,O.trans k3]]
  rw[ew]
  exact h6
 ·obtain⟨pre,fj,v,W,o,o4,rfl,j,y,X,h4,N,O⟩:=h
  rw[OL]at y
  have ep:pre= .nil:=by
   rcases y.last with ⟨_,e⟩ | ⟨ws,v,B,S,D,_⟩
   ·exact e
   ·exact absurd D Po
  rw[ep]at j
  refine#[_,Z,q v W o H' ?_ h4 ?_ O]
  ·rw[j];exact X
  ·rw[j];exact N
theorem ET:af P w K mg base aE k f i z9z (mP C 0):=by
 have n:∀v H Q E,¬mP C 0 v H Q E:=λv H Q E h=>by
  obtain⟨I,D,F,a,g,m,d,j,x,p,B,y,b,_,_,_,_,e,_⟩:=h
  exact absurd e (Oi _)
 exact#[λv H Q E h=>absurd h (n v H Q E),λA o s H c u v Q E _ _ _ _ h=>absurd h (n v H Q E)]
theorem Ii(c:CK K C)(FB:aQ K "place_of_body" "Cutting.place_of_body" yA g f)(F:aQ K "place_of" "Cutting.place_of" yI A a)(i:aQ K "place_of_cut" "Cutting.place_of_cut" yB D b)(j:aQ K "ways_of" "Cutting.ways_of" yM E d)
  (B:aC K f z9z []) (H:ba K C "place_of_body" g) (k:aC K a z7z []) (l:ba K C "place_of" A) (o:aC K b z7z []) (p:ba K C "place_of_cut" D) (q:aC K d z18z []) (r:ba K C "ways_of" E)
  (s:Cl P w K mg base 2 T G ["body"] gK "many_cuts") (t:Cl P w K mg base 31 U I z1z (gw 7) "used_ahead_of") (u:Cl P w K mg base 1 Y J z4z iz "deed_of") (v:Cl P w K mg base 8 fG L z0z gu "place_of_give") (x:Cl P w K mg base 11 fS N z1z iF "place_of_set") (y:mg "len"=none) (m:mg "tuple"=none) (M:mg "reversed"=none):
  ∀n:Nat,n<=8->af P w K mg base aE (4*n+31) g f z9z (mP C n)
 |0,_=>ET
 |n+1,h=>by
  have O:=Ii c FB F i j B H k l o p q r s t u v x y m M n Pn
  have Q:=EY j c O B H
  have R:=EW i c Pn Q q r s t u y m
  have S:=EX F c R o p v x
  have z:=EV FB c S k l M
  have e:4*n+35=4*(n+1)+31:=by omega
  rw[e]at z
  exact z
theorem Zk{X:Cx}{K:Frag}{n:Nat}(a:X.K=K)(b:X.calm=true)(h:D2 X e t)
  (c:(assignEach e X.env).length=n) (H:(assignEach e X.env).findIdx? (·.1)=none):PG X (.Tuple e k p) (sj K n t):=by
 subst a
 exact qf b h c H
abbrev g3(K:Frag)(i j k:Nat):TG:=sj K 3 (eI (bG i) (eI (bG j) (eI (bG k) xq)))
theorem G4{t:_L.St}(h:t.length=3):∃a b c,t=[a,b,c]:=by
 cases t with
 |nil=>cases h
 |cons a r=>
  cases r with
  |nil=>cases h
  |cons b R=>
   cases R with
   |nil=>cases h
   |cons c d=>
    cases d with
    |nil=>exact#[a,b,c,Z]
    |cons _ _=>cases h
noncomputable abbrev uQ:Stmt:=bM 52
noncomputable abbrev n8:Stmt:=bM 53
structure Df where
 f:Str
 p:Addr
 pa:Addr
 pb:Addr
 b:Bd
def DV(H:Hp)(d:Df)(v:V):Prop:=∃B,v= .ref d.p/\H d.p=some (.tup [.str d.f,.ref d.pa,.ref d.pb])/\H d.pb=some (.tup B)/\dQ H d.b B
def dH(H:Hp):List Df->List V->Prop
 | [],a=>a=[]
 |d::D,a=>∃v r,a=v::r/\DV H d v/\dH H D r
theorem DV.mono(k:ax H a)(h:DV H d v):DV a d v:=by
 obtain⟨b,e,c,f,g⟩:=h
 exact#[b,e,k _ _ c,k _ _ f,g.mono k]
theorem dH.mono(k:ax H b):∀{a:List V},dH H D a->dH b D a:=by
 induction D with
 |nil=>exactλh=>h
 |cons d D i=>rintro a ⟨v,r,e,c,f⟩;exact#[v,r,e,c.mono k,i f]
theorem dH.len:∀{d:List Df} {v:List V},dH H d v->v.length=d.length
 | [],_,h=>by have e:_=[]:=h;rw[e];rfl
 |_::_,_,z=>by obtain⟨u,r,e,b,a⟩:=z;rw[e,Lm,Lm,dH.len a]
theorem dH.at:∀{D:List Df} {b:List V},dH H D b->∀(i:Nat) (v:V),b[i]?=some v->∃d,D[i]?=some d/\DV H d v
 | [],_,h,i,v,a=>by have e:_=[]:=h;rw[e]at a;simp at a
 |d::_,_,q,0,v,a=>by obtain⟨u,r,e,c,f⟩:=q;rw[e]at a;cases a;exact#[d,Z,c]
 |_::D,_,q,i+1,v,a=>by obtain⟨u,r,e,c,f⟩:=q;rw[e]at a;simpa using dH.at f i v (by simpa using a)
def wI(d:Df):Prop:=(∃y:List Str,y.length<=20/\d.b.Ok y)/\d.b.dep < 8/\d.b.size<=3000
noncomputable def Hd(n:Addr):Pc:=#[λx=>x∈(Tm.num 0).vars,#[[],.give n]]
noncomputable def gN(n:Addr)(d:Df):Pc×List Ct:=pB (d.b.cuts:Int) d.b (Hd n) []
noncomputable def fe(n:Addr)(d:Df):Tr:=ay [aK d.f,pM d.pa,gU (gN n d).1.w,ay ((gN n d).2.reverse.map Es)]
def ny(K:Frag)(n:Addr):Prop:=∀H:Hp,aA K H n [.str "num",.int 0]
inductive oA(C:Addr)(f:List V)(H:Hp)(Q:VK)(c:XK):Prop
 |mk(e d a:Addr)(b:Bd)(g:List V)(_:f=[.ref e,.ref a])(_:H e=some (.ins C d []))(_:H a=some (.tup g))(_:dQ H b g)(_:b.size<=10000000)(_:∀(fa:Addr) (H':Hp),H fa=none->Cg H' C e d fa (b.cuts:Int) [] []->aR e H H'->Q .non H')
inductive lW(K:Frag)(c:Addr)(e:List V)(H:Hp)(Q:VK)(a:XK):Prop
 |mk(d:Df)(b:List V)(_:e=[.str d.f,.ref d.pa,.ref d.pb])(_:H d.pb=some (.tup b))(_:dQ H d.b b)(_:wI d)(_:∀(v:V) (H':Hp),aP H' (fe c d) v []->aa H H'->Q v H')
inductive lS(K:Frag)(e:Addr)(f:List V)(H:Hp)(Q:VK)(b:XK):Prop
 |mk(a:Addr)(c:List Df)(g:List V)(_:f=[.ref a])(_:H a=some (.tup g))(_:dH H c g)(_:c.length<=1000)(_:∀d∈c,wI d)(_:∀(v:V) (H':Hp),aP H' (ay (c.map (fe e))) v []->aa H H'->Q v H')
theorem oW{K:Frag}{t:TE}{Q:List V->Hp->Prop}{H:Hp}(x:H a=some (.tup g))(u:dH H D g)(R:D.length<=1000)
  (Pv:Nat->List V->Hp->Prop) (z:Pv 0 [] H) (A:∀i Y h,Pv i Y h->aa H h/\Y.length<=i)
  (C:∀i d B Y h,D[i]?=some d->h d.pb=some (.tup B)->dQ h d.b B->Pv i Y h->t (some (.str d.f)::some (.ref d.pa)::some (.ref d.pb)::l) h λy j=>Pv (i+1) (Y++[y]) j)
  (E:∀Y h,Pv D.length Y h->Q Y h):eh (Ap K a) 3 l (g3 K 0 1 2) mW t Q H:=by
 have F:=aH
 have S:=u.len
 refine#[λi m Y h=>m=D.length - i/\i<=D.length/\Pv i Y h,#[D.length,Po,IS _,z],?_]
 intro i m Y h c
 obtain⟨rfl,T,p⟩:=c
 obtain⟨s,U⟩:=A i Y h p
 have c:aA K h a g:=aA.of (s _ _ x)
 by_cases n:i < D.length
 ·have I:i < g.length:=by omega
  refine .inr #[#[g,g[i],c,IG I],Pn,Pv (i+1),λJ j L=>#[D.length - (i+1),Pn,Z,n,L],λv j W o y=>?_]
  obtain⟨e,y⟩:=y
  subst e
  have q:=y g c
  obtain⟨d,r,B,rfl,M,N,O⟩:=(u.mono (aa.tm s)).at i v q
  obtain⟨X,t2,t3,rfl⟩:=G4 o
  refine#[d.p,_,Z,aA.of M,Z,_,_,Z,_,_,Z,_,_,Z,Z,#[[some _,some _,some _],Z,Z],?_]
  exact C i d B Y j r N O p
 ·have e:i=D.length:=by omega
  subst e
  exact .inl #[#[g,c,Pn],E Y h p]
theorem Fm:ai ["self","body"] ["self","body"] (ae uK):=bK
theorem CA(F:aQ K "__init__" "Cutting.__init__" uK f t)(d:CK K C)(u:Cl P w K mg base 2 M v ["body"] gK "many_cuts"):af P w K mg base aE 3 f t ["self","body"] (oA C):=by
 refine F.ok Fm ?_ λy A O s H V Q E B h=>?_
 ·rintro _ _ _ _ ⟨i,D,a,b,x,rfl,_⟩
  rfl
 obtain⟨i,D,a,b,x,rfl,G,I,J,L,q⟩:=h
 refine#[_,(jd (@zr _ _ _ _ _ _ _ _ (pv 0) (u.e B.m (ja (pv 1) jb)) Z) (jf (@zr _ _ _ _ _ _ _ _ (pv 0) (jJ jb) Z))),?_]
 refine aj λS l=>#[_,Z,a,b,x,Z,I,J,L,λT k=>#[_,Z,i,C,D,_,Z,k _ _ G,d.cl,d.nm,Pm,l _ _ ?_]]
 clear l
 refine#[eY,λg n=>#[_,Z,i,C,D,_,Z,am jc n,d.cl,d.nf,(by show 1 < 1000;decide),?_]]
 have N:g≠i:=λe=>by rw[e,jc]at n;cases n
 have p:H g=none:=by
  cases e:H g with
  |none=>rfl
  |some o=>rw[jh N,k _ _ e]at n;cases n
 refine q g _ p #[jc,by rw[jh N,jc],Z] λc o r e=>?_
 rw[jh r,jh (λz=>by rw[z,p]at e;cases e),jh r]
 exact k _ _ e
theorem nM:ai ["name","params","body","cutting","first"] z15z (ae uQ):=bK
theorem yd(F:aQ K "part_made" "part_made" uQ f fd)(t:CK K C)(mk:Mk K C fI)(GI:af P w K mg base aE 3 fI u ["self","body"] (oA C))(bI:aC K u ["self","body"] [])(mC:mg "Cutting"=some (.ref C))(M:mg "NOUGHT"=some (.ref n))(no:ny K n)(GB:af P w K mg base aE 63 fB x z9z (mP C 8))(bB:aC K x z9z [])(hB:ba K C "place_of_body" fB)(cG:Cl P w K mg base 8 fG f0 z0z (oE K) "place_of_give")(y:mg "tuple"=none)(z:mg "reversed"=none):af P w K mg base aE 64 f fd z15z (lW K n):=by
 refine F.ok nM ?_ λc0 A O s H vs Q E B h=>?_
 ·rintro _ _ _ _ ⟨d,G,rfl,_⟩
  rfl
 obtain⟨d,G,rfl,hb,a,I,q⟩:=h
 refine#[_,(jd (jD 3 nM.nd (Y8 mk GI B.m Z mC bI .nil aY (ja (pv 2) jb))) (jd (jD 4 nM.nd (jZ (pv 3) t.cl hB GB B.m bB .nil aY (ja (pv 2) (ja (cG.e B.m (ja (qM (v:=.ref n) Z M Z) jb)) jb)))) (jf (jm (jl (ja (pv 0) (ja (pv 1) (ja (ju (pv 4)) (ja (@Z3 _ _ _ _ _ _ _ _ _ Z Z y NB Z z boot_reversed (jX (pv 3) Z) Pm Pm Pm Pm Pq Pq Pq Pq) jb))))))))),?_]
 have b0:=aH
 obtain⟨⟨ys,y0,ok⟩,J,hz⟩:=I
 refine aj λF1 j=>#[_,Z,λi D N L n0=>?_]
 have S:aa H (ah (ah H D (.own i)) i (.ins C D [])):=λc o e=>by rw[jh (ji e N),jh (ji e L)];exact e
 refine#[i,D,d.pb,d.b,G,Z,jc,S _ _ hb,a.mono (aa.tm S),Pn,λp H1 nf R k1=>#[Z,j _ _ ?_]]
 clear j
 have s1:aa H H1:=λc o e=>k1 c o (ji e N) (S _ _ e)
 have T:H p=none:=S.free nf
 refine aj λF1 j=>#[_,Z,i,D,_,Z,R.ins,Z,_,Z,n,ys,Z,no _,Pn,λv g H2 p2 n2 k2=>?_]
 have ng:g≠p:=λe=>by rw[e,R.fd]at n2;cases n2
 have U:=s1.trans k2
 refine#[i,D,p,d.pb,g,_,[],[],G,Hd n,v,ys,d.b,Z,#[R.same k2,p2,ng,ok,by show 0+0+d.b.size<=_;omega],U _ _ hb,a.mono (aa.tm U),J,λv3 g3 k V p3 n3 W k3=>j _ _ ?_]
 clear j
 obtain⟨r3,w3,rfl,X,Y⟩:=wf p3
 have s3:aa H V:=λc o e=>k3 c o (ji e T) (U _ _ e)
 refine#[_,Z,_,Z,jp X Z #[_,Z,i,C,D,_,_,Z,W.ins,t.cl,t.nf,Z,p,k,Z,aJ.of W.fd,λl nl=>#[Aa,λr nr=>?_]]]
 have s5:aa V (ah (ah V l (.tup k.reverse)) r (.tup [.str d.f,.ref d.pa,w3,.ref l])):=(je nl).trans (je nr)
 refine q (.ref r) _ ?_ (s3.trans s5)
 refine jA jc (jk Z jQ (jk Z Jn (jk Z (Y.mono (aa.tm s5)) (jk Z (jA (am jc nr) ?_) jz))))
 have e:=Zi (W.tr.mono (aa.tm s5))
 rw[<- List.map_reverse]at e
 exact e
theorem Dw:ai ["program"] ["program"] (ae n8):=bK
noncomputable def vg:Scope:=#[.function,[(".0",.local),("name",.local),("params",.local),("body",.local),("part_made",.globalImplicit)],false,false,[]]
theorem tH:(z15z:List Str).Nodup:=by decide+kernel
theorem Ep:bn ["program"] (ae n8) vg z15z 3 []:=pY
theorem ya(F:aQ K "made" "made" n8 f p)(C:Cl P w K mg base 64 U t z15z (lW K N) "part_made")(M:mg "tuple"=none):af P w K mg base aE 65 f p ["program"] (lS K N):=by
 refine F.ok Dw ?_ λu A o s H V Q E x h=>?_
 ·rintro _ _ _ _ ⟨a,D,X,rfl,_⟩
  rfl
 obtain⟨a,D,X,rfl,g,y,B,O,q⟩:=h
 refine#[_,(jf (jm (jP jY Z M NB (ja (@zT _ _ _ _ _ _ _ (z15z) (3) ([]) _ _ _ _ Z (qF (pv 0)) Ep (λ_ _ _ _ _=>(Zk (K:=K) (n:=3) Z Z (jF (jw (i:=0) tH Z (Or.inl Z)) (jF (jw (i:=1) tH Z (Or.inl Z)) (jF (jw (i:=2) tH Z (Or.inl Z)) kU))) Z Z)) (λ_ _ _ _ _=>(@qg _)) (λ_ _ _ _ _=>(C.e x.m (ja (pv 0) (ja (pv 1) (ja (pv 2) jb))))) (by intro _;rfl)) jb)))),?_]
 refine#[_,Z,a,Z,#[_,aA.of g],?_]
 refine oW g y B (λi V b=>aP b (au ((D.take i).map (fe N))) .non V/\aa H b/\i<=D.length) #[Z,aa.refl _,IS _] (λi V b h=>#[h.2.1,?_]) (λi d G V b c I J h=>?_) (λV b h l L=>?_)
 ·rw[zd h.1,IJ,Lo]
  exact OS ..
 ·have R:i < D.length:=by
   rcases Ob i D.length with z |z
   ·exact z
   ·rw[LV z]at c;cases c
  refine#[_,Z,_,Z,_,Z,d,G,Z,I,J,O d (Lb c),λv Y T j=>#[?_,h.2.1.trans j,R]]
  rw[LP,c,Ln]
  exact JR (jk Z T jz) (h.1.mono (aa.tm j))
 ·refine#[l,V,Z,.inl #[aJ.of jc,λr S=>?_]]
  have s:aa b (ah (ah b l (.lst V)) r (.tup V)):=(je L).trans (je S)
  refine q (.ref r) _ (jA jc ?_) (h.2.1.trans s)
  have e:=h.1
  rw[LA]at e
  exact e.mono (aa.tm s)
def dy(p q:Addr)(H h:Hp):Prop:=∀b o,b≠p->b≠q->H b=some o->h b=some o
theorem dy.trans(a:dy p q H d)(b:dy p q d e):dy p q H e:=λc o n m h=>b c o n m (a c o n m h)
theorem dy.of_same(a:aa H b):dy p q H b:=λc o _ _ h=>a c o h
theorem GN{x:List V}(h:k<=x.length):cy x none (some (k:Int))=x.take k:=by
 unfold cy
 rw[HT.sIx_nat,HT.sIx_none]
 have e:min k x.length=k:=by omega
 rw[e]
 simp
def Io(H:Hp)(D:List Df):Prop:=∀d∈D,∃p:List Str,H d.pa=some (.tup (p.map V.str))/\p.length<=100
theorem tq{a:Type}{P:a->Prop}{X:List a}{x:a}(h:∀c∈X,P c)(H:P x):∀c∈X++[x],P c:=λc b=>by
 rcases List.mem_append.mp b with h1 |h1
 ·exact h c h1
 ·rw[List.mem_singleton.mp h1];exact H
def pW(H:Hp)(D:List Df)(N:List Nat):Prop:=D.length=N.length/\∀(i:Nat) (d:Df) (n:Nat),D[i]?=some d->N[i]?=some n->∃p:List Str,H d.pa=some (.tup (p.map V.str))/\p.length=n/\n<=100
theorem pW.mono(h:pW H D N)(k:ax H a):pW a D N:=#[h.1,λi d n b c=>let #[p,e,l]:=h.2 i d n b c;#[p,k _ _ e,l]]
theorem pW.v(h:pW H D n):Io H D:=λd b=>by
 obtain⟨i,a,e⟩:=List.mem_iff_getElem.mp b
 have c:D[i]?=some d:=by rw[<- e];exact IG a
 obtain⟨p,e,l,k⟩:=h.2 i d _ c (IG (by rw[<- h.1];exact a))
 exact#[p,e,Pn]
def oM(D:List Df)(n:List Nat):Prop:=(∀d∈D,wI d/\d.b.Cs ((D.map Df.f).zip n))/\(D.map Df.f).Nodup/\∀y∈D.map Df.f,y.length<=20
theorem eY:0<=sizeLine:=by decide
theorem h8:1<=sizeLine:=by decide
theorem cg:2<=sizeLine:=by decide
theorem m9:3<=sizeLine:=by decide
theorem Aa:4<=sizeLine:=by decide
theorem ax.trans(a:ax H h)(b:ax h d):ax H d:=λc x e=>b c x (a c x e)
theorem ax.refl:ax H H:=λ_ _ e=>e
def iZ(H:Hp)(y:List Str)(k:Nat)(a:Addr):Prop:=∃T,bY H T a/\T.Good y/\T.depth<=k
theorem iZ.mono(h:iZ H y k a)(m:ax H b):iZ b y k a:=let #[T,c,d]:=h;#[T,c.mono m,d]
theorem iZ.ok(h:iZ H y k a)(m:k < 6):∃T,bY H T a/\er y T:=let #[T,b,c,d]:=h;#[T,b,c,Mu d m]
section
variable {Cf:gV}{H:Hp}{ys:List Str}
theorem DO(h:H a=some (.tup [.str "num",.int n]))(b:0<=n)(c:n < 1000000000000000000):iZ H ys 0 a:=#[.num n,h,#[b,c],IS _]
theorem vX(h:H a=some (.tup [.str "var",.str x]))(b:x∈ys):iZ H ys 0 a:=#[.var x,h,b,IS _]
def Sg(s:Str):Prop:=∃i,i < 6/\s=Hh i
theorem FQ(h:H a=some (.tup [.str "op",.str s,.ref b,.ref c]))(d:Sg s)(e:iZ H ys j b)(f:iZ H ys k c)(q:j < n)(r:k < n):iZ H ys n a:=by
 obtain⟨i,g,rfl⟩:=d
 obtain⟨B,l,m,t⟩:=e
 obtain⟨C,o,p,u⟩:=f
 exact#[.op i B C,#[b,c,h,l,o],#[g,m,p],by show max B.depth C.depth+1<=n;omega]
theorem zU:Sg "+":=#[0,Pm,Pp]
theorem Xy:Sg "-":=#[1,Pm,Pp]
theorem vm:Sg "*":=#[2,Pm,Pp]
theorem yV:Sg "/":=#[3,Pm,Pp]
theorem JT:Sg "<":=#[4,Pm,Pp]
theorem A8:Sg "=":=#[5,Pm,Pp]
theorem C8(h:0<=d)(a:d < 3):∃c,fz (Str.cps "<=-").toList d=some c/\Sg #[(List.toArray [c])]:=by
 rcases(by omega:d=0∨d=1∨d=2) with rfl |rfl |rfl
 ·exact#[_,Z,JT]
 ·exact#[_,Z,A8]
 ·exact#[_,Z,Xy]
theorem C9(h:0<=d)(a:d < 4):∃c,fz (Str.cps "+-*=").toList d=some c/\Sg #[(List.toArray [c])]:=by
 rcases(by omega:d=0∨d=1∨d=2∨d=3) with rfl |rfl |rfl |rfl
 ·exact#[_,Z,zU]
 ·exact#[_,Z,Xy]
 ·exact#[_,Z,vm]
 ·exact#[_,Z,A8]
theorem E7{P:Addr->Prop}(e:0<=d)(f:d < 2)(h:P a)(c:P b):∃x,fz [V.ref a,.ref b] d=some (.ref x)/\P x:=by
 rcases(by omega:d=0∨d=1) with rfl |rfl
 ·exact#[_,Z,h]
 ·exact#[_,Z,c]
noncomputable def zz:Nat->Nat
 |0=>1
 |d+1=>20*zz d+1
theorem wu:∀d,1<=zz d
 |0=>IK 1
 |_+1=>Ms (IS _)
def du(Cf:gV)(H:Hp)(ys:List Str)(d:Nat)(v:V):Prop:=∃s,gW H v s/\(s.Ok ys/\s.Cs Cf)/\s.dep<=d/\s.size<=zz d
def h9(Cf:gV)(H:Hp)(ys:List Str)(d:Nat)(x:List V):Prop:=∃b,dQ H b x/\(b.Ok ys/\b.Cs Cf)/\b.dep<=d/\b.size<=zz d*x.length
theorem du.mono(h:du Cf H ys d v)(m:ax H a):du Cf a ys d v:=let #[s,b,c]:=h;#[s,b.mono m,c]
theorem h9.mono(h:h9 Cf H ys d x)(m:ax H a):h9 Cf a ys d x:=let #[s,b,c]:=h;#[s,b.mono m,c]
theorem du.up(h:du Cf H ys 0 v):du Cf H ys d v:=let #[s,a,b,e,c]:=h;#[s,a,b,Pn,IZ c (wu d)]
theorem Bs:h9 Cf H ys d []:=#[.nil,Z,#[trivial,trivial],IS _,IS _]
theorem Yd{xs:List V}(h:h9 Cf H ys d xs)(g:h9 Cf H ys d z):h9 Cf H ys d (xs++z):=by
 obtain⟨a,c,A,f,i⟩:=h
 obtain⟨b,e,B,j,k⟩:=g
 refine#[a.app b,e.app c,#[QG A.1 B.1,QF A.2 B.2],by rw[zD];omega,?_]
 rw[kf,IL,Nat.mul_add]
 omega
theorem zI(h:du Cf H ys d v):h9 Cf H ys d [v]:=by
 obtain⟨s,a,b,c,e⟩:=h
 exact#[s,a.bd,b,c,by show s.size<=zz d*1;omega]
theorem JU(h:du Cf H ys d v)(g:h9 Cf H ys d xs):h9 Cf H ys d (v::xs):=Yd (xs:=[v]) (zI h) g
theorem YZ{l:Lf}(h:H p=some (.tup v))(a:Aq H l v)(b:l.Ok ys)(c:l.Cs Cf):du Cf H ys 0 (.ref p):=#[.lf p l .nil,.lf p l v h a,#[#[b,trivial],c,trivial],IK 0,IK 1]
theorem FD(h:H p=some (.tup [.str "read",.str x,.ref t]))(a:x∈ys)(b:iZ H ys k t)(c:k < 6:=by decide):du Cf H ys 0 (.ref p):=by
 obtain⟨T,d,e⟩:=b.ok c
 exact YZ (l:=.rd x t T) h #[Z,d] #[a,e] trivial
theorem FE(h:H p=some (.tup [.str "set",.str x,.ref t]))(a:x∈ys)(b:iZ H ys k t)(c:k < 6:=by decide):du Cf H ys 0 (.ref p):=by
 obtain⟨T,d,e⟩:=b.ok c
 exact YZ (l:=.st x t T) h #[Z,d] #[a,e] trivial
theorem Fy(h:H p=some (.tup [.str "give",.ref t]))(a:iZ H ys k t)(b:k < 6:=by decide):du Cf H ys 0 (.ref p):=by
 obtain⟨T,c,d⟩:=a.ok b
 exact YZ (l:=.gv t T) h #[Z,c] d trivial
theorem FF(h:H p=some (.tup [.str "write",.ref t,.ref u]))(a:iZ H ys k t)(b:iZ H ys j u)(c:k < 6:=by decide)(d:j < 6:=by decide):du Cf H ys 0 (.ref p):=by
 obtain⟨T,e,f⟩:=a.ok c
 obtain⟨U,g,i⟩:=b.ok d
 exact YZ (l:=.wr t u T U) h #[Z,e,g] #[f,i] trivial
theorem ww{m:Nat}(h:a<=zz d*n)(g:b<=zz d*m)(l:n+m<=20):a+b+0+1<=zz (d+1):=by
 have:=Nat.mul_le_mul_left (zz d) l
 rw[Nat.mul_add]at this
 show a+b+0+1<=20*zz d+1
 omega
theorem Fz(h:H p=some (.tup [.str "if",.ref t,.ref q,.ref Q]))(f:iZ H ys k t)(g:H q=some (.tup A))(i:H Q=some (.tup B))(G:h9 Cf H ys d A)(j:h9 Cf H ys d B)(l:A.length+B.length<=20)(m:k < 6:=by decide):du Cf H ys (d+1) (.ref p):=by
 obtain⟨T,n,o⟩:=f.ok m
 obtain⟨a,r,c,x,s⟩:=G
 obtain⟨b,u,e,y,v⟩:=j
 exact#[.ite p t T a b .nil,.ite p t T a b q Q A B h n g i r u,#[#[o,c.1,e.1,trivial],c.2,e.2,trivial],(by show max (max a.dep b.dep+1) 0<=d+1;omega),(by show a.size+b.size+0+1<=zz (d+1);exact ww s v l)]
theorem vH(h:H p=some (.tup [.str "while",.ref t,.ref q]))(c:iZ H ys k t)(e:H q=some (.tup A))(g:h9 Cf H ys d A)(f:A.length<=20)(i:k < 6:=by decide):du Cf H ys (d+1) (.ref p):=by
 obtain⟨T,j,l⟩:=c.ok i
 obtain⟨a,n,b,r,o⟩:=g
 exact#[.loop p t T a .nil,.loop p t T a q A h j e n,#[#[l,b.1,trivial],b.2,trivial],(by show max (a.dep+1) 0<=d+1;omega),(by show a.size+0+0+1<=zz (d+1);exact ww (m:=0) o (IS _) f)]
def wJ(Cf:gV)(n:Nat)(H:Hp)(r:Addr)(f:Str):Prop:=∃d:Df,DV H d (.ref r)/\(wI d/\d.b.Cs Cf)/\∃p:List Str,H d.pa=some (.tup (p.map V.str))/\p.length=n/\d.f=f
theorem wJ.mono(h:wJ Cf n H r f)(m:ax H a):wJ Cf n a r f:=let #[d,b,c,p,e,g]:=h;#[d,b.mono m,c,p,m _ _ e,g]
theorem EB{f:Str}{p:List Str}(h:H r=some (.tup [.str f,.ref a,.ref b]))(d:H a=some (.tup (p.map V.str)))(e:p.length=n)(i:H b=some (.tup x))(g:h9 Cf H ys 2 x)(j:x.length<=5)(k:ys.length<=20):wJ Cf n H r f:=by
 obtain⟨c,l,C,o,m⟩:=g
 exact#[#[f,r,a,b,c],#[x,Z,h,i,l],#[#[#[ys,k,C.1],(by show c.dep < 8;omega),(by have:=Nat.mul_le_mul_left (zz 2) j;have z:zz 2=421:=rfl;show c.size<=3000;rw[z]at this m;omega)],C.2],p,d,e,Z]
structure Wd(H0 H:Hp)(p wl:Addr)(ys:List Str):Prop where
 B:aF H p
 K:aR p H0 H
 w:H wl=some (.lst (ys.map V.str))
theorem Wd.np(h:Wd b H p a ys):a≠p:=Br h.B h.w
theorem Wd.same(h:Wd a H p b ys)(s:aa H c):Wd a c p b ys:=#[h.B.same s,h.K.trans (aR.of_same s),s _ _ h.w]
theorem Wd.but(h:Wd b H p c ys)(B:aF a p)(k:aR p H a):Wd b a p c ys:=#[B,h.K.trans k,k _ _ h.np h.w]
theorem Wd.own{xs:List V}(h:Wd a H p b ys)(n:a l=none)(L:l≠p)(c:l≠b):Wd a (ah H l (.lst z)) p b ys:=#[h.B.eq (jh (Lr L)),h.K.upd_own n,by rw[jh (Lr c)];exact h.w]
theorem Ye(h:H l=some (.lst x)):ax H (ah H l (.lst a)):=λb u e=>by rw[jh (jS e h (by intro z;cases z))];exact e
end
theorem gX:fz (v::u::y) 1=some u:=jH (j:=1) Z
structure Fw(p:Addr)(H H':Hp):Prop where
 t:ax H H'
 b:aR p H H'
theorem Fw.refl:Fw p H H:=#[ax.refl,aR.refl]
theorem Fw.trans(a:Fw p H h)(b:Fw p h c):Fw p H c:=#[a.t.trans b.t,a.b.trans b.b]
theorem Fw.new{p:Addr}{H:Hp}{o:HO}(n:H r=none):Fw p H (ah H r o):=#[aa.tm (je n),aR.of_same (je n)]
theorem Fw.same(s:aa H h):Fw p H h:=#[aa.tm s,aR.of_same s]
theorem Fw.but(B:aF H p)(c:aR p H h):Fw p H h:=#[c.tm B,c]
def oQ(P:Hp->V->Prop):Prop:=∀H h v,ax H h->P H v->P h v
def Ev(a:Hp)(p W:Addr)(y:List Str)(b:Hp)(c:_L.St)(t:TE)(P:Hp->V->Prop):Prop:=∀(H:Hp) (Q:VK),Fw p b H->Wd a H p W y->(∀v h,P h v->Wd a h p W y->Fw p H h->Q v h)->t c H Q
def PT(y:List Str)(k:Nat)(H:Hp)(v:V):Prop:=∃a,v= .ref a/\iZ H y k a
def PB(C:gV)(y:List Str)(d n:Nat)(H:Hp)(v:V):Prop:=∃a x,v= .ref a/\H a=some (.tup x)/\h9 C H y d x/\x.length<=n
def PN(y:List Str)(_:Hp)(v:V):Prop:=∃x,v= .str x/\x∈y
def PG(_:Hp)(v:V):Prop:=∃s,v= .str s/\Sg s
def PP(n:Nat)(H:Hp)(v:V):Prop:=∃(a:Addr) (x:List Str),v= .ref a/\H a=some (.tup (x.map V.str))/\x.length=n
def HY(y:Str)(_:Hp)(v:V):Prop:=v= .str y
def PD(C:gV)(n:Nat)(f:Str)(H:Hp)(v:V):Prop:=∃a,v= .ref a/\wJ C n H a f
section
variable {Cf:gV}{ys:List Str}{H0 Hb:Hp}{p wl:Addr}{σ:_L.St}
theorem aI:oQ (PT ys k):=λ_ _ _ m #[a,e,h]=>#[a,e,h.mono m]
theorem pi:oQ (PB Cf ys d n):=λ_ _ _ m #[a,x,e,h,H,b]=>#[a,x,e,m _ _ h,H.mono m,b]
theorem xK:oQ λH v=>du Cf H ys d v:=λ_ _ _ m h=>h.mono m
theorem G6:oQ (PD Cf n f):=λ_ _ _ m #[a,e,h]=>#[a,e,h.mono m]
theorem Ev.up{P R:Hp->V->Prop}(h:Ev H0 p wl ys Hb σ t P)(k:∀H v,P H v->R H v):Ev H0 p wl ys Hb σ t R:=λH Q m W q=>h H Q m W λv a x=>q v a (k _ _ x)
theorem kJ{P:Hp->V->Prop}(e:σ[i]?=some (some v))(M:oQ P)(h:P Hb v):Ev H0 p wl ys Hb σ (bV i) P:=λH Q m W q=>#[v,e,q v H (M _ _ _ m.t h) W .refl]
theorem qx(h:Sg s):Ev H0 p wl ys Hb σ (tC (.str s)) PG:=λH Q m W q=>q _ H #[s,Z,h] W .refl
theorem qw{K:Frag}(e:σ[j]?=some (some (.ref wl)))(a:0<=i)(b:i < (ys.length:Int)):Ev H0 p wl ys Hb σ (gE (pK K) (bV j) (tC (.int i))) (PN ys):=λH Q m W q=>by
 obtain⟨y,c,h⟩:=vY (ys:=ys) a b
 exact#[_,e,wl,_,_,_,Z,Z,aJ.of W.w,h,q _ H #[y,Z,c] W .refl]
theorem zb{Q:VK}{P:Hp->V->Prop}(W:Wd H0 H p wl ys)(q:∀v h,P h v->Wd H0 h p wl ys->Fw p H h->Q v h)(n:H r=none)(x:ax H (ah H r o)->ah H r o r=some o->P (ah H r o) (.ref r)):Q (.ref r) (ah H r o):=
 q _ _ (x (aa.tm (je n)) jc) (W.same (je n)) (.new n)
abbrev Be(n:Int):TE:=gQ cn [] E0 (ar (bV 0) (ar (tC (.int n)) bf))
def PK(n:Int)(_:Hp)(v:V):Prop:=∃d:Int,v= .int d/\0<=d/\d < n
theorem kS(e:σ[0]?=some (some (.ref p)))(h:1<=n)(c:n<=1000):Ev H0 p wl ys Hb σ (Be n) (PK n):=λH Q m W q=>
 #[_,e,p,n,Z,W.B,Pn,Pn,λd f D a b E=>q _ _ #[d,Z,D,a] (W.but b (aR.of_eq E)) (.but W.B (aR.of_eq E))]
theorem zg(h:Ev H0 p wl ys Hb σ t (PK n))(g:n<=1000000000000000000):Ev H0 p wl ys Hb σ (cV (ar (tC (.str "num")) (ar t bf))) (PT ys 0):=λH Q m W q=>
 h H _ m W λv i #[d,e,D,j] a b=>#[cg,λr N=>zb (P:=PT ys 0) a (λV c x f k=>q V c x f (b.trans k)) N λ_ z=>#[r,Z,DO (by rw[z,e]) D Pn]]
theorem EE(h:0<=n)(a:n < m):Ev H0 p wl ys Hb σ (tC (.int n)) (PK m):=λH Q _ W q=>q _ H #[n,Z,h,a] W .refl
theorem Yf(h:Ev H0 p wl ys Hb σ t (PK n))(c:0<=m):Ev H0 p wl ys Hb σ (gE (wE λi j=>V.int (i+j)) (tC (.int m)) t) (PK (m+n)):=λH Q M W q=>
 h H _ M W λv a #[d,e,D,f] b k=>#[m,d,Z,e,q _ a #[m+d,Z,Pn,Pn] b k]
theorem EF(h:Ev H0 p wl ys Hb σ t (PN ys)):Ev H0 p wl ys Hb σ (cV (ar (tC (.str "var")) (ar t bf))) (PT ys 0):=λH Q m W q=>
 h H _ m W λv i #[d,e,a] b c=>#[cg,λr n=>zb (P:=PT ys 0) b (λV f x g k=>q V f x g (c.trans k)) n λ_ z=>#[r,Z,vX (by rw[z,e]) a]]
theorem qd{n:Nat}(h:Ev H0 p wl ys Hb σ T PG)(f:Ev H0 p wl ys Hb σ g (PT ys j))(i:Ev H0 p wl ys Hb σ l (PT ys k))(o:j < n)(u:k < n):Ev H0 p wl ys Hb σ (cV (ar (tC (.str "op")) (ar T (ar g (ar l bf))))) (PT ys n):=λH Q m W q=>
 h H _ m W λM v #[s,E,X] y c=>f v _ (m.trans c) y λO A #[a,B,C] D d=>i A _ ((m.trans c).trans d) D λR S #[b,F,G] I e=>#[Aa,λr N=>zb (P:=PT ys n) I (λV J x L k=>q V J x L (((c.trans d).trans e).trans k)) N λt z=>
  #[r,Z,FQ (by rw[z,E,B,F]) X ((C.mono e.t).mono t) (G.mono t) o u]]
theorem AG{g:Str}(e:σ[0]?=some (some (.ref p)))(a:1<=n)(b:n<=1000)(f:g.length<=100)(h:∀d:Int,0<=d->d < n->∃c,fz (Str.cps g).toList d=some c/\Sg #[(List.toArray [c])]):Ev H0 p wl ys Hb σ (gE yw (tC (.str g)) (Be n)) PG:=λH Q m W q=>
 kS e a b H _ m W λv j #[d,E,D,k] l o=>by
  obtain⟨c,i,x⟩:=h d D k
  exact#[g,d,c,Z,E,IZ f Pm,i,q _ j #[_,Z,x] l o]
theorem AE{K:Frag}(e:σ[0]?=some (some (.ref p)))(r:Ev H0 p wl ys Hb σ T (PT ys k))(s:Ev H0 p wl ys Hb σ u (PT ys k)):Ev H0 p wl ys Hb σ (gE (pK K) (vK (ar T (ar u bf))) (Be 2)) (PT ys k):=λH Q m W q=>
 r H _ m W λV y #[a,E,X] z c=>s y _ (m.trans c) z λA C #[b,D,F] h f=>#[cg,λl n=>kS e Pm Pm _ _ (((m.trans c).trans f).trans (.new n)) (h.same (je n)) λv G #[d,I,J,L] M j=>by
  obtain⟨g,i,x⟩:=E7 (P:=iZ C ys k) J L (X.mono f.t) F
  rw[<- E,<- D]at i
  have t:=(Fw.new (p:=p) (o:=HO.lst [V,A]) n).trans j
  exact#[l,_,d,_,Z,I,aJ.of (j.b _ _ (h.B.ne n) jc),i,q _ G #[g,Z,x.mono t.t] M ((c.trans f).trans t)]]
theorem xg{w:Str}{T a:TE}{A B R:Hp->V->Prop}(M:oQ A)(d:oQ B)(e:Ev H0 p wl ys Hb σ T A)(f:Ev H0 p wl ys Hb σ a B)(h:∀H r u v,H r=some (.tup [.str w,u,v])->A H u->B H v->R H (.ref r)):Ev H0 p wl ys Hb σ (cV (ar (tC (.str w)) (ar T (ar a bf)))) R:=λH Q m W q=>
 e H _ m W λC g X i b=>f g _ (m.trans b) i λD E j l c=>#[m9,λr n=>zb (P:=R) l (λo s x y k=>q o s x y ((b.trans c).trans k)) n λt z=>h _ _ _ _ z (M _ _ _ t (M _ _ _ c.t X)) (d _ _ _ t j)]
theorem GU{w:Str}{T:TE}{A R:Hp->V->Prop}(M:oQ A)(a:Ev H0 p wl ys Hb σ T A)(h:∀H r u,H r=some (.tup [.str w,u])->A H u->R H (.ref r)):Ev H0 p wl ys Hb σ (cV (ar (tC (.str w)) (ar T bf))) R:=λH Q m W q=>
 a H _ m W λf g X b c=>#[cg,λr n=>zb (P:=R) b (λv d x e k=>q v d x e (c.trans k)) n λt z=>h _ _ _ z (M _ _ _ t X)]
theorem GV{w:Str}{T d e:TE}{A B C R:Hp->V->Prop}(M:oQ A)(f:oQ B)(g:oQ C)(i:Ev H0 p wl ys Hb σ T A)(j:Ev H0 p wl ys Hb σ d B)(l:Ev H0 p wl ys Hb σ e C)(h:∀H r u v x,H r=some (.tup [.str w,u,v,x])->A H u->B H v->C H x->R H (.ref r)):Ev H0 p wl ys Hb σ (cV (ar (tC (.str w)) (ar T (ar d (ar e bf))))) R:=λH Q m W q=>
 i H _ m W λL n X o a=>j n _ (m.trans a) o λO s y D b=>l s _ ((m.trans a).trans b) D λS U E F c=>#[Aa,λr N=>zb (P:=R) F (λG I x J k=>q G I x J (((a.trans b).trans c).trans k)) N λt z=>h _ _ _ _ _ z (M _ _ _ t (M _ _ _ (b.trans c).t X)) (f _ _ _ t (f _ _ _ c.t y)) (g _ _ _ t E)]
theorem EQ:oQ (PN ys):=λ_ _ _ _ h=>h
theorem J8{t T:TE}{k:Nat}(h:Ev H0 p wl ys Hb σ t (PN ys))(b:Ev H0 p wl ys Hb σ T (PT ys k))(c:k < 6):Ev H0 p wl ys Hb σ (cV (ar (tC (.str "read")) (ar t (ar T bf)))) (λH v=>du Cf H ys 0 v):=xg EQ aI h b λH r u v z #[x,e,d] #[a,E,f]=>FD (by rw[z,e,E]) d f c
theorem K7{t T:TE}{k:Nat}(h:Ev H0 p wl ys Hb σ t (PN ys))(b:Ev H0 p wl ys Hb σ T (PT ys k))(c:k < 6):Ev H0 p wl ys Hb σ (cV (ar (tC (.str "set")) (ar t (ar T bf)))) (λH v=>du Cf H ys 0 v):=xg EQ aI h b λH r u v z #[x,e,d] #[a,E,f]=>FE (by rw[z,e,E]) d f c
theorem Y0{t T:TE}{j k:Nat}(h:Ev H0 p wl ys Hb σ t (PT ys j))(b:Ev H0 p wl ys Hb σ T (PT ys k))(c:j < 6)(d:k < 6):Ev H0 p wl ys Hb σ (cV (ar (tC (.str "write")) (ar t (ar T bf)))) (λH v=>du Cf H ys 0 v):=xg aI aI h b λH r u v z #[x,e,f] #[a,E,g]=>FF (by rw[z,e,E]) f g c d
theorem AB{t:TE}{k:Nat}(h:Ev H0 p wl ys Hb σ t (PT ys k))(b:k < 6):Ev H0 p wl ys Hb σ (cV (ar (tC (.str "give")) (ar t bf))) (λH v=>du Cf H ys 0 v):=GU aI h λH r v z #[a,e,c]=>Fy (by rw[z,e]) c b
theorem AC{t T b:TE}{k n m:Nat}(h:Ev H0 p wl ys Hb σ t (PT ys k)){d:Nat}(c:Ev H0 p wl ys Hb σ T (PB Cf ys d n))(e:Ev H0 p wl ys Hb σ b (PB Cf ys d m))(f:k < 6)(y:n+m<=20):Ev H0 p wl ys Hb σ (cV (ar (tC (.str "if")) (ar t (ar T (ar b bf))))) (λH v=>du Cf H ys (d+1) v):=
 GV aI pi pi h c e λH r u v x z #[a,E,g] #[Q,X,i,j,l,A] #[B,C,o,q,s,D]=>Fz (by rw[z,E,i,o]) g j q l s Pn f
theorem AI{t T:TE}{k n:Nat}(h:Ev H0 p wl ys Hb σ t (PT ys k)){d:Nat}(b:Ev H0 p wl ys Hb σ T (PB Cf ys d n))(c:k < 6)(j:n<=20):Ev H0 p wl ys Hb σ (cV (ar (tC (.str "while")) (ar t (ar T bf)))) (λH v=>du Cf H ys (d+1) v):=
 xg aI pi h b λH r u v z #[a,e,f] #[q,x,E,g,i,l]=>vH (by rw[z,e,E]) f g i Pn c
theorem ED{d:Nat}:Ev H0 p wl ys Hb σ (cV bf) (PB Cf ys d 0):=λH Q m W q=>#[eY,λr n=>zb (P:=PB Cf ys d 0) W q n λt z=>#[r,[],Z,z,Bs,IK 0]]
theorem rV(h:Ev H0 p wl ys Hb σ T (λH v=>du Cf H ys d v)):Ev H0 p wl ys Hb σ (cV (ar T bf)) (PB Cf ys d 1):=λH Q m W q=>
 h H _ m W λf g X a b=>#[h8,λr n=>zb (P:=PB Cf ys d 1) a (λV c x e k=>q V c x e (b.trans k)) n λt z=>#[r,_,Z,z,zI (X.mono t),IK 1]]
theorem Ay(h:Ev H0 p wl ys Hb σ T (λH v=>du Cf H ys d v))(c:Ev H0 p wl ys Hb σ e (λH v=>du Cf H ys d v)):Ev H0 p wl ys Hb σ (cV (ar T (ar e bf))) (PB Cf ys d 2):=λH Q m W q=>
 h H _ m W λs f X g a=>c f _ (m.trans a) g λu y i j b=>#[cg,λr n=>zb (P:=PB Cf ys d 2) j (λV l x o k=>q V l x o ((a.trans b).trans k)) n λt z=>#[r,_,Z,z,JU ((X.mono b.t).mono t) (zI (i.mono t)),IK 2]]
theorem rW(h:Ev H0 p wl ys Hb σ T (PB Cf ys d n))(e:Ev H0 p wl ys Hb σ f (PB Cf ys d m))(B:n+m<=100):Ev H0 p wl ys Hb σ (gE uA T f) (PB Cf ys d (n+m)):=λH Q M W q=>
 h H _ M W λV g #[a,x,E,i,X,L] j c=>e g _ (M.trans c) j λC D #[b,z,l,o,u,F] v k=>#[a,b,x,z,E,l,k.t _ _ i,o,IZ (show x.length+z.length<=100 by omega) Pm,λr y A s=>q _ y #[r,_,Z,A,Yd ((X.mono k.t).mono (aa.tm s)) (u.mono (aa.tm s)),by rw[IL];omega] (v.same s) ((c.trans k).trans (.same s))]
theorem AA(h:Ev H0 p wl ys Hb σ T (HY f))(g:Ev H0 p wl ys Hb σ i (PP m))(j:Ev H0 p wl ys Hb σ l (PB Cf ys 2 n))(O:n<=5)(o:ys.length<=20):Ev H0 p wl ys Hb σ (cV (ar T (ar i (ar l bf)))) (PD Cf m f):=λH Q M W q=>
 h H _ M W λv s (E:v= .str f) u c=>g s _ (M.trans c) u λR y #[a,S,A,B,L] C d=>j y _ ((M.trans c).trans d) C λU Y #[b,xs,D,F,X,l4] G e=>#[m9,λr N=>zb (P:=PD Cf m f) G (λV I x J k=>q V I x J (((c.trans d).trans e).trans k)) N λt z=>
  #[r,Z,EB (f:=f) (by rw[z,E,A,D]) (t _ _ (e.t _ _ B)) L (t _ _ F) (X.mono t) Pn o]]
theorem AF(h:Ev H0 p wl ys Hb σ T (PN ys)):Ev H0 p wl ys Hb σ (cV (ar T bf)) (PP 1):=λH Q m W q=>
 h H _ m W λV f #[X,e,_] a b=>#[h8,λr n=>zb (P:=PP 1) a (λv c x d k=>q v c x d (b.trans k)) n λt z=>#[r,[X],Z,by rw[z,e];rfl,Z]]
theorem PB.lift(h:PB Cf ys 0 n H v):PB Cf ys d n H v:=let #[a,x,e,c,#[b,B,f,j,g],i]:=h;#[a,x,e,c,#[b,B,f,Pn,IZ g (Nat.mul_le_mul_right _ (wu d))],i]
theorem Y1{a b:TS}(W:Wd H0 H p wl ys)(e:σ[0]?=some (some (.ref p)))(g:1<=n)(i:n<=1000)(j:∀h,Wd H0 h p wl ys->Fw p H h->a D σ h)(l:∀h,Wd H0 h p wl ys->Fw p H h->b D σ h):gD (iY (gE Gk (Be n) (tC (.int 0)))) a b D σ H:=
 kS (Hb:=H) e g i H _ .refl W λv c #[d,E,m,o] f k=>by
  subst E
  exact#[Z,_,Z,eW (λ_=>j c f k) (λ_=>l c f k)]
theorem zu{D:bp}{P:Hp->V->Prop}(W:Wd H0 H p wl ys)(h:Ev H0 p wl ys H σ t P)(q:∀v a,P a v->Wd H0 a p wl ys->Fw p H a->D.nx (σ.set i (some v)) a):fo t (bG i) D σ H:=h H _ .refl W q
theorem uD{D:bp}{P:Hp->V->Prop}(W:Wd H0 H p wl ys)(h:Ev H0 p wl ys H σ t P)(q:∀v a,P a v->Wd H0 a p wl ys->D.rt v a):iM t D σ H:=h H _ .refl W λv a x b _=>q v a x b
structure Ow(H0 H:Hp)(p wl l:Addr)(xs:List V):Prop where
 hl:H l=some (.lst xs)
 np:l≠p
 lw:l≠wl
 l0:H0 l=none
theorem Ow.fw(o:Ow H0 H p wl l x)(k:Fw p H h):Ow H0 h p wl l x:=#[k.b _ _ o.np o.hl,o.np,o.lw,o.l0]
theorem Ow.new(W:Wd H0 H p wl ys)(n:H l=none):Ow H0 (ah H l (.lst x)) p wl l x:=#[jc,W.B.ne n,(λe=>by have z:=W.w;rw[<- e,n]at z;cases z),W.K.none W.B n]
theorem G8{d:Nat}{D:bp}(W:Wd H0 H p wl ys)(b:Ev H0 p wl ys H σ t (λH v=>du Cf H ys d v))(q:∀l v h,Ow H0 h p wl l [v]->du Cf h ys d v->Wd H0 h p wl ys->Fw p H h->D.nx (σ.set i (some (.ref l))) h):fo (vK (ar t bf)) (bG i) D σ H:=
 b H _ .refl W λV c x a k=>#[h8,λl n=>q l V _ (.new a n) (x.mono (aa.tm (je n))) (a.same (je n)) (k.trans (.new n))]
theorem G9{d:Nat}{D:bp}(W:Wd H0 H p wl ys)(c:Ev H0 p wl ys H σ T (λH v=>du Cf H ys d v))(e:Ev H0 p wl ys H σ f (λH v=>du Cf H ys d v))(q:∀l u v h,Ow H0 h p wl l [u,v]->du Cf h ys d u->du Cf h ys d v->Wd H0 h p wl ys->Fw p H h->D.nx (σ.set i (some (.ref l))) h):fo (vK (ar T (ar f bf))) (bG i) D σ H:=
 c H _ .refl W λV g x j k=>e g _ k j λm o X a b=>#[cg,λl n=>q l V m _ (.new a n) ((x.mono b.t).mono (aa.tm (je n))) (X.mono (aa.tm (je n))) (a.same (je n)) ((k.trans b).trans (.new n))]
theorem qh{K:Frag}{d:Nat}{D:bp}(W:Wd H0 H p wl ys)(a:σ[i]?=some (some (.ref l)))(o:Ow H0 H p wl l xs)(B:h9 Cf H ys d xs){n:Nat}(b:xs.length<=n)(c:n<=100)(e:Ev H0 p wl ys H σ T (λH v=>du Cf H ys d v))
  (q:∀u h,Ow H0 h p wl l u->h9 Cf h ys d u->u.length<=n+1->Wd H0 h p wl ys->ax H h->D.nx σ h):oI (Hm K "list" lr (bV i) (ar T bf)) D σ H:=
 #[_,a,.inl #[Z,_,aJ.of o.hl],e H _ .refl W λv g x f k=>#[l,xs,v,Z,Z,(o.fw k).hl,Mu (IZ b c) Pm,q (xs++[v]) _ #[jc,o.np,o.lw,o.l0] (Yd ((B.mono k.t).mono (Ye (o.fw k).hl)) (zI (x.mono (Ye (o.fw k).hl)))) (by rw[IL];exact Ms b) (f.own (xs:=xs) o.l0 o.np o.lw) (k.t.trans (Ye (o.fw k).hl))]]
theorem AH{K:Frag}{n:Nat}(e:σ[i]?=some (some (.ref l)))(o:Ow H0 Hb p wl l x)(h:h9 Cf Hb ys d x)(a:x.length<=n):Ev H0 p wl ys Hb σ (Ho (λx H Q=>∃p ys,x=[V.ref p]/\((aJ K H p ys/\∀(l:Addr),H l=none->Q (V.ref l) (ah H l (HO.tup ys)))∨aA K H p ys/\Q (V.ref p) H)) (ar (bV i) bf)) (PB Cf ys d n):=λH Q m W q=>
 #[_,e,l,x,Z,.inl #[aJ.of (o.fw m).hl,λr N=>zb (P:=PB Cf ys d n) W q N λt z=>#[r,x,Z,z,(h.mono m.t).mono t,a]]]
end
theorem GK(b:0<=d)(c:d < 2)(h:du C H y 0 u)(a:du C H y 0 v):h9 C H y 0 (cy [u,v] none (some (1+d)))/\(cy [u,v] none (some (1+d))).length<=2:=by
 rcases(by omega:d=0∨d=1) with rfl |rfl
 ·exact#[zI h,by show 1<=2;decide]
 ·exact#[JU h (zI a),by show 2<=2;decide]
def P2(C:gV)(y:List Str)(H:Hp)(w:V):Prop:=∃a u v,w= .ref a/\H a=some (.tup [u,v])/\du C H y 0 u/\du C H y 0 v
theorem tw:oQ (P2 C y):=λ_ _ _ m #[a,u,v,e,h,H,b]=>#[a,u,v,e,m _ _ h,H.mono m,b.mono m]
section
variable {Cf:gV}{ys:List Str}{H0 Hb:Hp}{p wl:Addr}{σ:_L.St}
theorem rY(h:Ev H0 p wl ys Hb σ T (λH v=>du Cf H ys 0 v))(c:Ev H0 p wl ys Hb σ d (λH v=>du Cf H ys 0 v)):Ev H0 p wl ys Hb σ (cV (ar T (ar d bf))) (P2 Cf ys):=λH Q m W q=>
 h H _ m W λo e X f a=>c e _ (m.trans a) f λs u g i b=>#[cg,λr n=>zb (P:=P2 Cf ys) i (λV j x l k=>q V j x l ((a.trans b).trans k)) n λt z=>#[r,_,_,Z,z,(X.mono b.t).mono t,g.mono t]]
theorem rX(e:σ[i]?=some (some v))(E:σ[0]?=some (some (.ref p)))(h:P2 Cf ys Hb v):Ev H0 p wl ys Hb σ (Hu De (bV i) lY (vP (gE (wE λi j=>V.int (i+j)) (tC (.int 1)) (Be 2)))) (PB Cf ys 0 2):=λH Q m W q=>
 #[v,e,kS E Pm Pm H _ m W λw y #[d,b,D,c] f k=>#[1,d,Z,b,_,Z,by
  obtain⟨a,u,A,rfl,g,l,n⟩:=tw _ _ _ (m.trans k).t h
  have z:=GK D c l n
  exact#[a,_,Z,g,λr o x s=>q _ o #[r,_,Z,x,z.1.mono (aa.tm s),z.2] (f.same s) (k.trans (.same s))]]]
end
theorem wJ.more(h:wJ C n H r f)(k:∀y∈C,y∈D):wJ D n H r f:=let #[d,b,a,c]:=h;#[d,b,#[a.1,kG k a.2],c]
theorem GQ(c:wJ [(f,n)] n H a f)(g:n<=100)(j:f.length<=20):∃D,dH H D [.ref a]/\D.length=1/\oM D [n]/\pW H D [n]/\D.map Df.f=[f]:=by
 obtain⟨d,k,l,r,m,o,E⟩:=c
 have e:[d].map Df.f=[f]:=by rw[<- E];rfl
 refine#[[d],#[_,_,Z,k,Z],Z,#[λx p=>?_,?_],#[Z,λi x n h b=>?_],e]
 ·rw[e,List.mem_singleton.mp p];exact l
 ·rw[e];exact#[List.pairwise_singleton _ _,λy q=>by rw[List.mem_singleton.mp q];exact j]
 ·match i,h,b with
  |0,h,b=>cases h;cases b;exact#[_,m,o,g]
inductive fi(b:List V)(H:Hp)(Q:VK)(a:XK):Prop
 |mk(p:Addr)(_:b=[.ref p])(_:aF H p)(_:∀(r:Addr) (d:Df) (ps:List Str) (H':Hp),H' r=some (.tup [.ref d.p])->dH H' [d] [.ref d.p]->oM [d] [1]->pW H' [d] [1]->H' d.pa=some (.tup (ps.map V.str))->ps.length=1->aF H' p->aR p H H'->Q (.ref r) H')
section
variable {Cf:gV}{ys:List Str}{H0 Hb:Hp}{p wl:Addr}{σ:_L.St}
theorem AD{K:Frag}{k:Nat}(e:σ[j]?=some (some (.ref wl)))(a:i=(k:Int))(h:ys[k]?=some y):Ev H0 p wl ys Hb σ (gE (pK K) (bV j) (tC (.int i))) (HY y):=λH Q m W q=>
 #[_,e,wl,_,_,_,Z,Z,aJ.of W.w,(by rw[a];exact jH (by rw[Lc,h];rfl)),q _ H Z W .refl]
theorem Az{f:Str}(h:f.length<=20)(i:Ev H0 p wl ys Hb σ T (PD [(f,1)] 1 f)):Ev H0 p wl ys Hb σ (cV (ar T bf)) (λH v=>∃(r:Addr) (d:Df) (b:List Str),v= .ref r/\H r=some (.tup [.ref d.p])/\dH H [d] [.ref d.p]/\oM [d] [1]/\pW H [d] [1]/\H d.pa=some (.tup (b.map V.str))/\b.length=1):=λH Q m W q=>
 i H _ m W λj B x k l=>#[h8,λr n=>q _ _ (by
  have t:=aa.tm (je (o:=HO.tup [j]) n)
  obtain⟨a,E,s⟩:=G6 _ _ _ t x
  obtain⟨D,g,u,g3,G,C⟩:=GQ s Pm h
  match D,g,u,g3,G with
  | [d],g,_,g3,G=>
   obtain⟨b,y,z,_⟩:=G.2 0 d 1 Z Z
   have c:=g
   obtain⟨U,R,e,⟨F,A,_⟩,_⟩:=c
   cases e
   cases A
   exact#[r,d,b,Z,by rw[jc,E],g,g3,G,y,z]) (k.same (je n)) (l.trans (.new n))]
theorem G5{A:List V}(h:A.length=4):∃a b c d,A=[a,b,c,d]:=by
 cases A with
 |nil=>cases h
 |cons a r=>
  cases r with
  |nil=>cases h
  |cons b R=>
   cases R with
   |nil=>cases h
   |cons c e=>
    cases e with
    |nil=>cases h
    |cons d f=>
     cases f with
     |nil=>exact#[a,b,c,d,Z]
     |cons _ _=>cases h
theorem Zl{K:Frag}{D:bp}(W:Wd H0 H p wl ys)(j:σ[1]?=some (some (.ref wl)))(k:4<=ys.length)(u:ys.length<=20)
  (q:∀a b c d f,PT ys 0 f a->PT ys 0 f b->PT ys 0 f c->PT ys 0 f d->Wd H0 f p wl ys->D.nx ((((σ.set 2 (some a)).set 3 (some b)).set 4 (some c)).set 5 (some d)) f):
  fo (vI (AM K (Hu (Dg K) (bV 1) lY (vP (tC (V.int 4))))) 1 [] (bG 0) mW (cV (ar (tC (V.str "var")) (ar (bV 0) bf)))) (GX K 4 (eI (bG 2) (eI (bG 3) (eI (bG 4) (eI (bG 5) xq))))) D σ H:=by
 have B:=aH
 refine#[_,j,_,Z,wl,_,Z,aJ.of W.w,λs n=>?_]
 have E:cy (ys.map V.str) none (some 4)=(ys.take 4).map V.str:=by rw[show(4:Int)=((4:Nat):Int) from Z,GN (by rw[IJ];omega),Pa]
 have t:ah H s (.lst (cy (ys.map V.str) none (some 4))) s=some (.lst ((ys.take 4).map V.str)):=by rw[E];exact jc
 have S:=je (o:=HO.lst (cy (ys.map V.str) none (some 4))) n
 generalize ah H s (.lst (cy (ys.map V.str) none (some 4)))=A at t S
 refine#[s,Z,#[_,aJ.of t],?_]
 refine Z9 (K:=K) (a:=s) (xs:=(ys.take 4).map V.str) (by rw[IJ,Lo];omega) (λi g f=>g.length=i/\(∀v∈g,PT ys 0 f v)/\aa A f) #[Z,(λ_ h=>absurd h Ll),aa.refl _] (λi g f h=>#[aJ.of (h.2.2 _ _ t),ON h.1]) (λi x g f C h=>?_) (λg F h L N=>?_)
 ·obtain⟨y,k,rfl⟩:=List.mem_map.mp (Lb C)
  exact#[_,Z,cg,λr l=>#[by rw[IL,h.1];rfl,tq (λa z=>aI _ _ _ (aa.tm (je l)) (h.2.1 a z)) #[r,Z,vX jc (Nz k)],h.2.2.trans (je l)]]
 ·have e:=h.1
  rw[IJ,Lo]at e
  obtain⟨a,b,c,d,rfl⟩:=G5 (show g.length=4 by omega)
  have m:=aa.tm (je (o:=HO.lst [a,b,c,d]) N)
  exact#[L,_,Z,aJ.of jc,Z,_,_,Z,_,_,Z,_,_,Z,_,_,Z,Z,q a b c d _ (aI _ _ _ m (h.2.1 a Po)) (aI _ _ _ m (h.2.1 b Po)) (aI _ _ _ m (h.2.1 c Po)) (aI _ _ _ m (h.2.1 d Po)) (((W.same S).same h.2.2).same (je N))]
theorem BE{K:Frag}(e:σ[0]?=some (some (.ref p)))(r:Ev H0 p wl ys Hb σ T (λH v=>du Cf H ys k v))(s:Ev H0 p wl ys Hb σ y (λH v=>du Cf H ys k v)):Ev H0 p wl ys Hb σ (gE (pK K) (vK (ar T (ar y bf))) (Be 2)) (λH v=>du Cf H ys k v):=λH Q m W q=>
 r H _ m W λV z X A a=>s z _ (m.trans a) A λf C D h c=>#[cg,λl n=>kS e Pm Pm _ _ (((m.trans a).trans c).trans (.new n)) (h.same (je n)) λv E #[d,F,I,J] G j=>by
  have t:=(Fw.new (p:=p) (o:=HO.lst [V,f]) n).trans j
  have g:∃u,fz [V,f] d=some u/\du Cf C ys k u:=by
   rcases(by omega:d=0∨d=1) with rfl |rfl
   ·exact#[_,Z,X.mono c.t]
   ·exact#[_,Z,D]
  obtain⟨u,i,x⟩:=g
  exact#[l,_,d,_,Z,F,aJ.of (j.b _ _ (h.B.ne n) jc),i,q _ E (x.mono t.t) G ((a.trans c).trans t)]]
end
noncomputable abbrev nZ:Stmt:=bM 76
theorem cK:ai z31z z3z (ae nZ):=bK
noncomputable def X7:Scope:=#[.function,[(".0",.local),("_law_one",.local)],false,false,[]]
theorem tG:(["_law_one"]:List Str).Nodup:=by decide+kernel
theorem rE:bn z31z (ae nZ) X7 ["_law_one"] 1 []:=pY
theorem xW{f:Addr}{fd:FuncData}{fT fA:Addr}{f0 f9:FuncData}(F:aQ K "_law_flat" "_law_flat" nZ f fd)(C:Cl P w K mg base 1 fT f0 z6z cn "_law_take")(cA:Cl P w K mg base 2 fA f9 z22z gq "_law_names")(m0:mg "tuple"=none):af P w K mg base aE 3 f fd z3z fi:=by
 refine F.ok cK ?_ λc0 A o1 s H vs Q E c h=>?_
 ·rintro _ _ _ _ ⟨p,rfl,_⟩
  rfl
 obtain⟨p,rfl,B,q⟩:=h
 refine#[_,(jd (jD 1 cK.nd (cA.e c.m (ja (pv 0) (ja jg jb)))) (jd (Ke (@zT _ _ _ _ _ _ _ (["_law_one"]) (1) ([]) _ _ _ _ Z (zh (jK qN (pv 1) jR (jN jg))) rE (λ_ _ _ _ _=>(jw (i:=0) tG Z (Or.inl Z))) (λ_ _ _ _ _=>(@qg _)) (λ_ _ _ _ _=>(jl (ja jo (ja (pv 0) jb)))) (by intro _;rfl)) (@Zc _ _ _ _ (4) _ Z (jF (jw (i:=2) cK.nd Z (Or.inl Z)) (jF (jw (i:=3) cK.nd Z (Or.inl Z)) (jF (jw (i:=4) cK.nd Z (Or.inl Z)) (jF (jw (i:=5) cK.nd Z (Or.inl Z)) kU)))) Pq Pq)) (jd (jD 6 cK.nd (jJ (ja (jl (ja jo (ja (jv jG (pv 1) jg (λ_ _=>Z)) (ja (jl (ja jo (ja jo (ja (pv 3) (ja (jl (ja jo (ja (C.e c.m (ja (pv 0) (ja jg jb))) jb))) jb))))) jb)))) jb))) (jd (jD 7 cK.nd (jl (ja (jl (ja jo (ja (jv jG (pv 1) jg (λ_ _=>Z)) (ja (jl (ja jo (ja (C.e c.m (ja (pv 0) (ja jg jb))) jb))) jb)))) jb))) (jd (zf (jy (Jl (C.e c.m (ja (pv 0) (ja jg jb)))) (jd (jD 8 cK.nd (jl (ja jo (ja jo (ja (pv 3) (ja (jl (ja jo (ja (C.e c.m (ja (pv 0) (ja jg jb))) jb))) jb)))))) (jd (jD 9 cK.nd (jl (ja jo (ja (jv Kg jo (C.e c.m (ja (pv 0) (ja jg jb))) (λ_ _=>Z)) (ja (pv 5) (ja (jl (ja jo (ja (C.e c.m (ja (pv 0) (ja jg jb))) jb))) jb)))))) (jf (jB (jU PySem.F.plainAttrs_list PySem.F.slot_list_append PySem.F.type_list_append jI (pv 6) (ja (jl (ja jo (ja (pv 9) (ja (jl (ja (jl (ja jo (ja (pv 8) (ja (pv 4) jb)))) jb)) (ja (pv 7) jb))))) jb)))))) jr)) (jd (jB (jU PySem.F.plainAttrs_list PySem.F.slot_list_append PySem.F.type_list_append jI (pv 6) (ja (jl (ja jo (ja (jv jG (pv 1) jg (λ_ _=>Z)) (ja (jl (ja jo (ja (jv Kg jo (C.e c.m (ja (pv 0) (ja jg jb))) (λ_ _=>Z)) (ja (jv jG (jJ (ja (pv 4) (ja (pv 5) jb))) (C.e c.m (ja (pv 0) (ja jg jb))) (λ_ _=>Z)) (ja (pv 5) jb))))) jb)))) jb))) (jd (jB (jU PySem.F.plainAttrs_list PySem.F.slot_list_append PySem.F.type_list_append jI (pv 6) (ja (jl (ja jo (ja (jv jG (pv 1) jg (λ_ _=>Z)) (ja (jl (ja jo (ja jo (ja (pv 3) (ja (jl (ja jo (ja (jx j8 jg (C.e c.m (ja (pv 0) (ja jg jb)))) jb))) jb))))) jb)))) jb))) (jd (jD 10 cK.nd (jl (ja (jl (ja jo (ja (jv jG (pv 1) jg (λ_ _=>Z)) (ja (jl (ja jo (ja (C.e c.m (ja (pv 0) (ja jg jb))) jb))) jb)))) (ja (jl (ja jo (ja (jv jG (pv 1) jg (λ_ _=>Z)) (ja (jl (ja jo (ja (C.e c.m (ja (pv 0) (ja jg jb))) jb))) jb)))) jb)))) (jd (jD 11 cK.nd (jl (ja jo (ja (jl (ja jo (ja jo (ja (pv 3) (ja (jl (ja jo (ja jo (ja (pv 2) (ja (jl (ja jo (ja (jx j8 jg (C.e c.m (ja (pv 0) (ja jg jb)))) jb))) jb))))) jb))))) (ja (jP jY Z m0 boot_tuple (ja (pv 6) jb)) jb))))) (jf (jm (jl (ja (jl (ja (jv jG (pv 1) jg (λ_ _=>Z)) (ja (jl (ja (jv jG (pv 1) jg (λ_ _=>Z)) jb)) (ja (jx ke (jK jV (pv 10) jR (jN (jx j8 jg (C.e c.m (ja (pv 0) (ja jg jb)))))) (jl (ja (pv 11) (ja (jl (ja jo (ja (pv 4) jb))) jb)))) jb)))) jb))))))))))))),?_]
 refine aj λFa fa=>#[_,Z,p,5,Z,B,Pm,Pm,λR Y Ha n0 I h0 h1 Ba ka=>fa _ _ ?_]
 clear fa
 have h0:Y.length=5:=by omega
 obtain⟨yf,hf⟩:∃y,Y[4]?=some y:=#[_,List.getElem?_eq_getElem (by omega:4 < Y.length)]
 have h2:yf.length<=20:=h1.1 _ (List.mem_of_getElem? hf)
 have W0:Wd H Ha p R Y:=#[Ba,ka,I]
 clear I Ba ka
 refine aj λF1 f1=>Zl W0 Z Pn Pn λvn vi vs vx H1 xn X xs xx W1=>f1 _ _ ?_
 clear f1
 refine aj λF2 f2=>G8 (d:=1) W1 (Ev.up (J8 (Cf:=[]) (qw Z Pm Pn) (qd (n:=1) (qx zU) (kJ Z aI X) (zg (kS Z Pm Pm) Pm) Pm Pm) Pm) λ_ _ h=>h.up) λlb u2 H2 o2 x2 W2 k2=>f2 _ _ ?_
 clear f2
 refine aj λF3 f3=>zu W2 (rV (J8 (Cf:=[]) (qw Z Pm Pn) (zg (kS Z Pm Pm) Pm) Pm)) λvo H3 x3 W3 S=>f3 _ _ ?_
 clear f3
 have o3:=o2.fw S
 have l:=k2.t.trans S.t
 refine aj λF4 T=>gT (λσ0 G=>∃(a b:Option V) (u:List V),σ0=[some (V.ref p),some (V.ref R),some vn,some vi,some vs,some vx,some (V.ref lb),some vo,a,b,none,none]/\Ow H G p R lb u/\h9 [] G Y 1 u/\u.length<=2/\Wd H G p R Y/\ax H3 G) (λE4 _ fm=>Y1 W3 Z Pm Pm (λH5 W g=>?_) (λH5 W g=>?_)) λσ1 H4 hq=>?_
 ·clear T
  have J:=l.trans g.t
  refine aj λF6 L=>zu W (qd (n:=1) (qx zU) (kJ Z aI (aI _ _ _ J X)) (zg (kS Z Pm Pm) Pm) Pm Pm) λv6 H6 x6 W6 N=>L _ _ ?_
  clear L
  refine aj λF7 O=>zu W6 (qd (n:=1) (AG Z Pm Pm Pp λ_=>C8) (kJ Z aI (aI _ _ _ (J.trans N.t) xx)) (zg (kS Z Pm Pm) Pm) Pm Pm) λv7 H7 x7 W7 o=>O _ _ ?_
  clear O
  have j:=g.t.trans (N.t.trans o.t)
  have o7:=((o3.fw g).fw N).fw o
  exact qh (Cf:=[]) (d:=1) (n:=1) W7 Z o7 ((zI x2).mono (S.t.trans j)) (Nat.le_refl 1) Pm (AC (kJ Z aI x7) (rV (Y0 (kJ Z aI (aI _ _ _ o.t x6)) (kJ Z aI (aI _ _ _ (l.trans j) xs)) Pm Pm)) (kJ Z pi (pi _ _ _ j x3)) Pm Pm) λu H8 o8 b8 l8 W8 U=>fm _ _ #[_,_,u,Z,o8,b8,l8,W8,j.trans U]
 ·clear T
  exact fm _ _ #[_,_,_,Z,o3.fw g,(zI x2).mono (S.t.trans g.t),Nat.le_succ 1,W,g.t]
 obtain⟨oa,ob,u,rfl,o4,b4,l4,W4,k4⟩:=hq
 refine T _ _ ?_
 clear T
 have M:=l.trans k4
 refine aj λF5 f5=>qh (d:=1) W4 Z o4 b4 l4 Pm (Ev.up (K7 (qw Z Pm Pn) (qd (n:=1) (AG Z Pm Pm Pp λ_=>C9) (AE Z (kJ Z aI (aI _ _ _ M xs)) (kJ Z aI (aI _ _ _ M xx))) (kJ Z aI (aI _ _ _ M xx)) Pm Pm) Pm) λ_ _ h=>h.up) λu H5 o5 b5 l5 W g=>f5 _ _ ?_
 clear f5 o4 b4 l4
 refine aj λF6 L=>qh (d:=1) W Z o5 b5 l5 Pm (Ev.up (K7 (qw Z Pm Pn) (qd (n:=1) (qx zU) (kJ Z aI (aI _ _ _ (M.trans g) X)) (zg (Yf (kS Z Pm Pm) Pm) Pm) Pm Pm) Pm) λ_ _ h=>h.up) λu H6 o6 b6 l6 W6 N=>L _ _ ?_
 clear L o5 b5 l5
 have m1:=M.trans (g.trans N)
 refine aj λF7 O=>zu W6 (rY (Cf:=[]) (K7 (qw Z Pm Pn) (zg (kS Z Pm Pm) Pm) Pm) (J8 (qw Z Pm Pn) (zg (kS Z Pm Pm) Pm) Pm)) λv7 H7 x7 W7 o=>O _ _ ?_
 clear O
 have D:=m1.trans o.t
 refine aj λF8 f8=>zu W7 (AI (qd (n:=2) (qx JT) (kJ Z aI (aI _ _ _ D X)) (qd (n:=1) (qx yV) (kJ Z aI (aI _ _ _ D xn)) (zg (Yf (kS Z Pm Pm) Pm) Pm) Pm Pm) Pm Pm) (AH (n:=4) Z (o6.fw o) (b6.mono o.t) l6) Pm Pm) λv8 H8 x8 W8 U=>f8 _ _ ?_
 clear f8
 refine uD W8 (Az h2 (Ev.up (AA (Cf:=[]) (AD (k:=4) Z Z hf) (AF (qw Z Pm Pn)) (rW (Ev.up (rX Z Z (tw _ _ _ U.t x7)) λ_ _=>PB.lift) (Ay (kJ Z xK x8) (Ev.up (AB (kJ Z aI (aI _ _ _ (D.trans U.t) xs)) Pm) λ_ _ h=>h.up)) Pm) Pm Pn) λ_ _ #[a,e,h]=>#[a,e,h.more (λ_ z=>nomatch z)])) λv G x W'=>?_
 obtain⟨r,d,ps,rfl,g1,g2,g3,g4,g5,g6⟩:=x
 exact q r d ps G g1 g2 g3 g4 g5 g6 W'.B W'.K
noncomputable abbrev yJ:Stmt:=bM 77
theorem dG:ai z32z z3z (ae yJ):=bK
noncomputable def YU:Scope:=#[.function,[(".0",.local),("_law_one",.local)],false,false,[]]
theorem xO:(["_law_one"]:List Str).Nodup:=by decide+kernel
theorem wV:bn z32z (ae yJ) YU ["_law_one"] 1 []:=pY
theorem CN{f:Addr}{fd:FuncData}{fT fA:Addr}{a1 a2:FuncData}(F:aQ K "_law_round" "_law_round" yJ f fd)(C:Cl P w K mg base 1 fT a1 z6z cn "_law_take")(cA:Cl P w K mg base 2 fA a2 z22z gq "_law_names")(m7:mg "tuple"=none):af P w K mg base aE 3 f fd z3z fi:=by
 refine F.ok dG ?_ λc0 A o1 s H vs Q E g h=>?_
 ·rintro _ _ _ _ ⟨p,rfl,_⟩
  rfl
 obtain⟨p,rfl,B,q⟩:=h
 refine#[_,(jd (jD 1 dG.nd (cA.e g.m (ja (pv 0) (ja jg jb)))) (jd (Ke (@zT _ _ _ _ _ _ _ (["_law_one"]) (1) ([]) _ _ _ _ Z (zh (jK qN (pv 1) jR (jN jg))) wV (λ_ _ _ _ _=>(jw (i:=0) xO Z (Or.inl Z))) (λ_ _ _ _ _=>(@qg _)) (λ_ _ _ _ _=>(jl (ja jo (ja (pv 0) jb)))) (by intro _;rfl)) (@Zc _ _ _ _ (4) _ Z (jF (jw (i:=2) dG.nd Z (Or.inl Z)) (jF (jw (i:=3) dG.nd Z (Or.inl Z)) (jF (jw (i:=4) dG.nd Z (Or.inl Z)) (jF (jw (i:=5) dG.nd Z (Or.inl Z)) kU)))) Pq Pq)) (jd (jD 6 dG.nd (jl (ja jo (ja (jx j8 jg (C.e g.m (ja (pv 0) (ja jg jb)))) jb)))) (jd (jD 7 dG.nd (jv jG (jJ (ja (pv 3) (ja (jl (ja jo (ja (C.e g.m (ja (pv 0) (ja jg jb))) jb))) jb))) (C.e g.m (ja (pv 0) (ja jg jb))) (λ_ _=>Z))) (jd (jD 8 dG.nd (jJ (ja (jl (ja jo (ja (jv jG (pv 1) jg (λ_ _=>Z)) (ja (pv 6) jb)))) (ja (jl (ja jo (ja (jv jG (pv 1) jg (λ_ _=>Z)) (ja (pv 7) jb)))) jb)))) (jd (zf (jy (Jl (C.e g.m (ja (pv 0) (ja jg jb)))) (jd (jD 9 dG.nd (jl (ja (jl (ja jo (ja (jv jG (pv 1) jg (λ_ _=>Z)) (ja (jl (ja jo (ja (C.e g.m (ja (pv 0) (ja jg jb))) jb))) jb)))) jb))) (jf (jB (jU PySem.F.plainAttrs_list PySem.F.slot_list_append PySem.F.type_list_append jI (pv 8) (ja (jl (ja jo (ja (jl (ja jo (ja jo (ja (pv 5) (ja (jl (ja jo (ja (C.e g.m (ja (pv 0) (ja jg jb))) jb))) jb))))) (ja (pv 9) (ja (jl jb) jb))))) jb))))) jr)) (jd (zf (jy (Jl (C.e g.m (ja (pv 0) (ja jg jb)))) (jf (jB (jU PySem.F.plainAttrs_list PySem.F.slot_list_append PySem.F.type_list_append jI (pv 8) (ja (jl (ja jo (ja (jl (ja jo (ja jo (ja (pv 3) (ja (jl (ja jo (ja (C.e g.m (ja (pv 0) (ja jg jb))) jb))) jb))))) (ja (pv 5) jb)))) jb)))) jr)) (jd (zf (jy (Jl (C.e g.m (ja (pv 0) (ja jg jb)))) (jf (jB (jU PySem.F.plainAttrs_list PySem.F.slot_list_append PySem.F.type_list_append jI (pv 8) (ja (jl (ja jo (ja (jv jG (pv 1) jg (λ_ _=>Z)) (ja (jl (ja jo (ja jo (ja (pv 4) (ja (pv 5) jb))))) jb)))) jb)))) jr)) (jd (jB (jU PySem.F.plainAttrs_list PySem.F.slot_list_append PySem.F.type_list_append jI (pv 8) (ja (jl (ja jo (ja (pv 6) (ja (jl (ja jo (ja jo (ja (pv 3) (ja (jl (ja jo (ja jg jb))) jb))))) jb)))) jb))) (jd (jB (jU PySem.F.plainAttrs_list PySem.F.slot_list_append PySem.F.type_list_append jI (pv 8) (ja (jl (ja jo (ja (jv jG (pv 1) jg (λ_ _=>Z)) (ja (jl (ja jo (ja jo (ja (pv 3) (ja (pv 2) jb))))) jb)))) jb))) (jd (jD 10 dG.nd (jl (ja (jl (ja jo (ja (jv jG (pv 1) jg (λ_ _=>Z)) (ja (jl (ja jo (ja jg jb))) jb)))) (ja (jl (ja jo (ja (pv 6) (ja (jl (ja jo (ja (C.e g.m (ja (pv 0) (ja jg jb))) jb))) jb)))) jb)))) (jd (jD 11 dG.nd (jv jG (jJ (ja (jl (ja jo (ja (pv 4) jb))) (ja (jl (ja jo (ja (jv jG (pv 1) jg (λ_ _=>Z)) (ja (pv 6) jb)))) jb))) (C.e g.m (ja (pv 0) (ja jg jb))) (λ_ _=>Z))) (jd (jD 12 dG.nd (jl (ja jo (ja (jl (ja jo (ja (jv jG (pv 1) jg (λ_ _=>Z)) jb))) (ja (jP jY Z m7 boot_tuple (ja (pv 8) jb)) jb))))) (jf (jm (jl (ja (jl (ja (jv jG (pv 1) jg (λ_ _=>Z)) (ja (jl (ja (jv jG (pv 1) jg (λ_ _=>Z)) jb)) (ja (jx ke (jK jV (pv 10) jR (jN (jx j8 jg (C.e g.m (ja (pv 0) (ja jg jb)))))) (jl (ja (pv 12) (ja (pv 11) jb)))) jb)))) jb))))))))))))))))),?_]
 refine aj λFa fa=>#[_,Z,p,6,Z,B,Pm,Pm,λW Y Ha n0 X h0 h1 Ba ka=>fa _ _ ?_]
 clear fa
 have h0:Y.length=6:=by omega
 obtain⟨yf,hf⟩:∃y,Y[5]?=some y:=#[_,List.getElem?_eq_getElem (by omega:5 < Y.length)]
 have h2:yf.length<=20:=h1.1 _ (List.mem_of_getElem? hf)
 have W0:Wd H Ha p W Y:=#[Ba,ka,X]
 clear X Ba ka
 refine aj λF1 f1=>Zl W0 Z Pn Pn λvn vi vs vx H1 xn xi xs xx W1=>f1 _ _ ?_
 clear f1
 refine aj λF2 f2=>zu W1 (zg (Yf (kS Z Pm Pm) Pm) Pm) λvp H2 xp W2 k2=>f2 _ _ ?_
 clear f2
 refine aj λF3 f3=>zu W2 (AE Z (kJ Z aI (aI _ _ _ k2.t xi)) (zg (kS Z Pm Pm) Pm)) λvw H3 xw W3 k3=>f3 _ _ ?_
 clear f3
 refine aj λF4 f4=>G9 (d:=1) W3 (Ev.up (J8 (Cf:=[]) (qw Z Pm Pn) (kJ Z aI (aI _ _ _ k3.t xp)) Pm) λ_ _ h=>h.up) (Ev.up (J8 (Cf:=[]) (qw Z Pm Pn) (kJ Z aI xw) Pm) λ_ _ h=>h.up) λU u1 u2 H4 o4 y1 y2 W4 k4=>f4 _ _ ?_
 clear f4
 have m0:=(k2.t.trans k3.t).trans k4.t
 have m8:=k3.t.trans k4.t
 refine aj λF5 f5=>gT (λj c=>∃(a:Option V) (u:List V),j=[some (V.ref p),some (V.ref W),some vn,some vi,some vs,some vx,some vp,some vw,some (V.ref U),a,none,none,none]/\Ow H c p W U u/\h9 [] c Y 1 u/\u.length<=3/\Wd H c p W Y/\ax H4 c) (λE5 _ D=>Y1 W4 Z Pm Pm (λH6 W6 l=>?_) (λH6 W6 l=>?_)) λσ0 H5 hq=>?_
 ·clear f5
  refine aj λF7 J=>zu W6 (rV (J8 (Cf:=[]) (qw Z Pm Pn) (zg (kS Z Pm Pm) Pm) Pm)) λv7 H7 x7 W7 k7=>J _ _ ?_
  clear J
  have M:=l.t.trans k7.t
  have o7:=(o4.fw l).fw k7
  exact qh (Cf:=[]) (d:=1) (n:=2) W7 Z o7 ((JU y1 (zI y2)).mono M) (Nat.le_refl 2) Pm (AC (qd (n:=1) (qx JT) (kJ Z aI (aI _ _ _ (m0.trans M) xx)) (zg (kS Z Pm Pm) Pm) Pm Pm) (kJ Z pi x7) (ED (d:=0)) Pm Pm) λu H8 O G L N I=>D _ _ #[_,u,Z,O,G,L,N,M.trans I]
 ·clear f5
  exact D _ _ #[_,_,Z,o4.fw l,(JU y1 (zI y2)).mono l.t,Nat.le_succ 2,W6,l.t]
 obtain⟨oa,u,rfl,o5,b5,l5,W5,k5⟩:=hq
 refine f5 _ _ ?_
 clear f5 o4 y1 y2
 have m1:=m0.trans k5
 refine aj λF6 f6=>gT (λj c=>∃(u:List V),j=[some (V.ref p),some (V.ref W),some vn,some vi,some vs,some vx,some vp,some vw,some (V.ref U),oa,none,none,none]/\Ow H c p W U u/\h9 [] c Y 1 u/\u.length<=4/\Wd H c p W Y/\ax H5 c) (λE _ D=>Y1 W5 Z Pm Pm (λHx R b=>?_) (λHx R b=>?_)) λσ1 H6 hq=>?_
 ·clear f6
  have mm:=m1.trans b.t
  exact qh (d:=1) R Z (o5.fw b) (b5.mono b.t) l5 Pm (Ev.up (Y0 (qd (n:=1) (qx zU) (kJ Z aI (aI _ _ _ mm xi)) (zg (kS Z Pm Pm) Pm) Pm Pm) (kJ Z aI (aI _ _ _ mm xx)) Pm Pm) λ_ _ h=>h.up) λu H8 O G L N I=>D _ _ #[u,Z,O,G,L,N,b.t.trans I]
 ·clear f6
  exact D _ _ #[_,Z,o5.fw b,b5.mono b.t,Nat.le_succ_of_le l5,R,b.t]
 obtain⟨u,rfl,o6,b6,l6,W6,l⟩:=hq
 refine f6 _ _ ?_
 clear f6 o5 b5 l5
 have m2:=m1.trans l
 refine aj λF7 J=>gT (λj c=>∃(u:List V),j=[some (V.ref p),some (V.ref W),some vn,some vi,some vs,some vx,some vp,some vw,some (V.ref U),oa,none,none,none]/\Ow H c p W U u/\h9 [] c Y 1 u/\u.length<=5/\Wd H c p W Y/\ax H6 c) (λE _ D=>Y1 W6 Z Pm Pm (λHx R b=>?_) (λHx R b=>?_)) λσ2 H7 hq=>?_
 ·clear J
  have mm:=m2.trans b.t
  exact qh (d:=1) R Z (o6.fw b) (b6.mono b.t) l6 Pm (Ev.up (K7 (qw Z Pm Pn) (qd (n:=1) (qx zU) (kJ Z aI (aI _ _ _ mm xs)) (kJ Z aI (aI _ _ _ mm xx)) Pm Pm) Pm) λ_ _ h=>h.up) λu H8 O G L N I=>D _ _ #[u,Z,O,G,L,N,b.t.trans I]
 ·clear J
  exact D _ _ #[_,Z,o6.fw b,b6.mono b.t,Nat.le_succ_of_le l6,R,b.t]
 obtain⟨u,rfl,o7,b7,l7,W7,k7⟩:=hq
 refine J _ _ ?_
 clear J o6 b6 l6
 have m3:=m2.trans k7
 have m4:=(m8.trans k5).trans (l.trans k7)
 refine aj λF8 f8=>qh (d:=1) W7 Z o7 b7 l7 Pm (Ev.up (Y0 (kJ Z aI (aI _ _ _ m4 xp)) (qd (n:=1) (qx zU) (kJ Z aI (aI _ _ _ m3 xi)) (zg (EE Pm (by decide:(1:Int) < 2)) Pm) Pm Pm) Pm Pm) λ_ _ h=>h.up) λu H8 O G L N I=>f8 _ _ ?_
 clear f8 o7 b7 l7
 have S:=m3.trans I
 refine aj λF9 f9=>qh (d:=1) N Z O G L Pm (Ev.up (K7 (qw Z Pm Pn) (qd (n:=1) (qx JT) (kJ Z aI (aI _ _ _ S xi)) (kJ Z aI (aI _ _ _ S xn)) Pm Pm) Pm) λ_ _ h=>h.up) λu H9 o9 b9 l9 W9 k9=>f9 _ _ ?_
 clear f9 O G L
 have m':=S.trans k9
 have m5:=m4.trans (I.trans k9)
 refine aj λF0 f0=>zu W9 (rY (Cf:=[]) (K7 (qw Z Pm Pn) (zg (EE Pm (by decide:(1:Int) < 2)) Pm) Pm) (Y0 (kJ Z aI (aI _ _ _ m5 xp)) (zg (kS Z Pm Pm) Pm) Pm Pm)) λv0 H0 x0 a3 o=>f0 _ _ ?_
 clear f0
 refine aj λa' f'=>zu a3 (BE (Cf:=[]) Z (AB (kJ Z aI (aI _ _ _ (m'.trans o.t) xs)) Pm) (J8 (qw Z Pm Pn) (kJ Z aI (aI _ _ _ (m5.trans o.t) xp)) Pm)) λv1 b0 x1 a4 T=>f' _ _ ?_
 clear f'
 refine aj λb1 a0=>zu a4 (AI (EF (qw Z Pm Pn)) (AH (n:=7) Z ((o9.fw o).fw T) ((b9.mono o.t).mono T.t) l9) Pm Pm) λv2 b2 x2 a5 k0=>a0 _ _ ?_
 clear a0
 refine uD a5 (Az h2 (Ev.up (AA (Cf:=[]) (AD (k:=5) Z Z hf) (AF (qw Z Pm Pn)) (rW (Ev.up (rX Z Z (tw _ _ _ (T.t.trans k0.t) x0)) λ_ _=>PB.lift) (Ay (kJ Z xK x2) (Ev.up (kJ Z xK (xK _ _ _ k0.t x1)) λ_ _ h=>h.up)) Pm) Pm Pn) λ_ _ #[a,e,h]=>#[a,e,h.more (λ_ z=>nomatch z)])) λv c x W'=>?_
 obtain⟨r,d,ps,rfl,g1,g2,g3,g4,g5,g6⟩:=x
 exact q r d ps c g1 g2 g3 g4 g5 g6 W'.B W'.K
noncomputable abbrev lF:Stmt:=bM 12
noncomputable abbrev lM:Stmt:=bM 13
abbrev a9:=List (bo×V)
def gF(x:Int):Prop:=0<=x/\x < 1000000000000000000
def GT(k:a9):Prop:=∀p∈k,∃i,p.2= .int i/\gF i
theorem GT.nil:GT []:=λ_ h=>absurd h Ll
theorem GT.put(h:GT a)(k:bo)(H:gF i):GT (aZ a k (.int i)):=by
 intro p hp
 unfold aZ at hp
 split at hp
 ·obtain⟨q,b,rfl⟩:=List.mem_map.mp hp
  by_cases e:q.1=k
  ·rw[IU e];exact#[i,Z,H]
  ·rw[IX e];exact h q b
 ·rcases List.mem_append.mp hp with hp |hp
  ·exact h p hp
  ·rw[List.mem_singleton.mp hp];exact#[i,Z,H]
theorem GT.val(h:GT a)(e:bN a k=some v):∃i,v= .int i/\gF i:=by
 unfold bN at e
 obtain⟨p,H,rfl⟩:=Option.map_eq_some_iff.mp e
 exact h p (List.mem_of_find?_eq_some H)
noncomputable def look(a:a9)(k:bo)(z:Int):Int:=match bN a k with
 |some (.int i)=>i
 |_=>z
theorem Kr(h:GT a)(k:bo)(z:Int):(bN a k).getD (.int z)= .int (look a k z):=by
 unfold look
 cases e:bN a k with
 |none=>rfl
 |some v=>obtain⟨i,rfl,_⟩:=h.val e;rfl
theorem ph(h:GT a)(e:bN a k=some v)(z:Int):v= .int (look a k z):=by
 unfold look
 obtain⟨i,rfl,_⟩:=h.val e
 rw[e]
theorem pf(e:bN a k=none)(z:Int):look a k z=z:=by
 unfold look
 rw[e]
theorem JV(h:GT a)(H:gF z):gF (look a k z):=by
 unfold look
 cases e:bN a k with
 |none=>exact H
 |some v=>obtain⟨i,rfl,b⟩:=h.val e;exact b
theorem JW:gF 0:=#[Pm,Pm]
noncomputable def jn(i:Nat)(x y:Int):Int:=match i with
 |0=>(x+y) % 1000000000000000000
 |1=>(x - y) % 1000000000000000000
 |2=>x*y % 1000000000000000000
 |3=>if y=0 then 0 else x / y
 |4=>if x < y then 1 else 0
 |_=>if x=y then 1 else 0
noncomputable def Tm.ev(k:a9):Tm->Int
 | .num n=>n
 | .var x=>look k (.inr x) 0
 | .op i a b=>jn i (a.ev k) (b.ev k)
theorem EJ(H:gF x)(c:gF y):gF (jn i x y):=by
 have a:(1000000000000000000:Int)≠0:=by decide
 have b:(0:Int) < 1000000000000000000:=by decide
 match i with
 |0=>exact#[LQ _ a,LC _ b]
 |1=>exact#[LQ _ a,LC _ b]
 |2=>exact#[LQ _ a,LC _ b]
 |3=>
  show gF (if y=0 then 0 else x / y)
  by_cases h:y=0
  ·rw[IU h];exact#[Pm,Pm]
  ·rw[IX h]
   have e:=c.1
   have d:0 < y:=by omega
   refine#[Int.ediv_nonneg H.1 Pn,Int.lt_of_le_of_lt ?_ H.2]
   exact Int.ediv_le_self _ H.1
 |4=>
  show gF (if x < y then 1 else 0)
  split<;>exact#[Pm,Pm]
 |n+5=>
  show gF (if x=y then 1 else 0)
  split<;>exact#[Pm,Pm]
theorem Jx(g:GT k):∀{t:Tm},t.Good y->gF (t.ev k)
 | .num _,h=>h
 | .var x,_=>JV g JW
 | .op _ _ _,h=>EJ (Jx g h.2.1) (Jx g h.2.2)
inductive iE(b:List V)(H:Hp)(Q:VK)(a:XK):Prop
 |mk(i:Nat)(x y:Int)(_:b=[.str (Hh i),.int x,.int y])(_:i < 6)(_:gF x)(_:gF y)(_:Q (.int (jn i x y)) H)
def Ic(K:Frag)(H:Hp)(T:Tm)(a:Addr):Prop:=bY H T a∨(T= .num 0/\aA K H a [.str "num",.int 0])
inductive cw(K:Frag)(n:Nat)(e:List V)(H:Hp)(Q:VK)(b:XK):Prop
 |mk(a d:Addr)(T:Tm)(f:List Str)(c:a9)(_:e=[.ref a,.ref d])(_:Ic K H T a)(_:T.depth < n)(_:T.Good f)(_:H d=some (.dK c))(_:GT c)(_:Q (.int (T.ev c)) H)
theorem u4:ai z19z z19z (ae lF):=bK
theorem pC(F:aQ K "joined" "joined" lF f b)(m:mg "TOP"=some (.int 1000000000000000000 t)):af P w K mg base aE 1 f b z19z iE:=by
 refine F.ok u4 (λd H Q E h=>?_) (λe A o s H d Q E r h=>?_)
 ·obtain⟨i,x,y,rfl,_⟩:=h
  rfl
 obtain⟨i,x,y,rfl,u,g,j,q⟩:=h
 refine#[_,(jd (jy (j6 (pv 0)) (jf (jm (jx za (jx j8 (pv 1) (pv 2)) (qM (v:=.int 1000000000000000000) Z m #[_,Z])))) jr) (jd (jy (j6 (pv 0)) (jf (jm (jx za (jx qG (pv 1) (pv 2)) (qM (v:=.int 1000000000000000000) Z m #[_,Z])))) jr) (jd (jy (j6 (pv 0)) (jf (jm (jx za (jx zq (pv 1) (pv 2)) (qM (v:=.int 1000000000000000000) Z m #[_,Z])))) jr) (jd (jy (j6 (pv 0)) (jf (jm (kK (Jl (pv 2)) jg (jx Ko (pv 1) (pv 2))))) jr) (jd (jy (j6 (pv 0)) (jf (jm (kK (jC AV (pv 1) (pv 2) (aN _)) jg jg))) jr) (jf (jm (kK (jC Jw (pv 1) (pv 2) (aN _)) jg jg)))))))),?_]
 obtain⟨k,l⟩:=g
 obtain⟨n,p⟩:=j
 rcases(by omega:i=0∨i=1∨i=2∨i=3∨i=4∨i=5) with rfl |rfl |rfl |rfl |rfl |rfl
 ·refine#[_,Z,Z,_,Z,cq Pp ?_]
  exact#[_,Z,_,Z,_,_,Z,Z,_,_,Z,Z,(by show(0:Int) < 1000000000000000000;decide),q]
 ·refine#[_,Z,Z,_,Z,aT Pp ?_]
  refine#[_,Z,Z,_,Z,cq Pp ?_]
  exact#[_,Z,_,Z,_,_,Z,Z,_,_,Z,Z,(by show(0:Int) < 1000000000000000000;decide),q]
 ·refine#[_,Z,Z,_,Z,aT Pp ?_]
  refine#[_,Z,Z,_,Z,aT Pp ?_]
  refine#[_,Z,Z,_,Z,cq Pp ?_]
  exact#[_,Z,_,Z,_,_,Z,Z,.inl #[Pn,Pn],_,_,Z,Z,(by show(0:Int) < 1000000000000000000;decide),q]
 ·refine#[_,Z,Z,_,Z,aT Pp ?_]
  refine#[_,Z,Z,_,Z,aT Pp ?_]
  refine#[_,Z,Z,_,Z,aT Pp ?_]
  refine#[_,Z,Z,_,Z,cq Pp ?_]
  have a:Q (.int (if y=0 then 0 else x / y)) H:=q
  refine#[_,Z,Z,_,Z,?_]
  refine eW (λc=>?_) (λc=>?_)
  ·have C:V.int y=V.int 0:=Mb c
   injection C with C
   rw[IU C]at a
   exact a
  ·have C:y≠0:=λz=>c (by rw[z];rfl)
   rw[IX C]at a
   exact#[_,Z,_,Z,_,_,Z,Z,#[Pn,Pn],a]
 ·refine#[_,Z,Z,_,Z,aT Pp ?_]
  refine#[_,Z,Z,_,Z,aT Pp ?_]
  refine#[_,Z,Z,_,Z,aT Pp ?_]
  refine#[_,Z,Z,_,Z,aT Pp ?_]
  refine#[_,Z,Z,_,Z,cq Pp ?_]
  have a:Q (.int (if x < y then 1 else 0)) H:=q
  refine#[_,Z,_,Z,_,_,Z,Z,_,Z,?_]
  refine eW (λc=>?_) (λc=>?_)
  ·rw[IU (Mb c)]at a
   exact a
  ·rw[IX (of_decide_eq_false (Bool.eq_false_iff.mpr c))]at a
   exact a
 ·refine#[_,Z,Z,_,Z,aT Pp ?_]
  refine#[_,Z,Z,_,Z,aT Pp ?_]
  refine#[_,Z,Z,_,Z,aT Pp ?_]
  refine#[_,Z,Z,_,Z,aT Pp ?_]
  refine#[_,Z,Z,_,Z,aT Pp ?_]
  have a:Q (.int (if x=y then 1 else 0)) H:=q
  refine#[_,Z,_,Z,Z,_,Z,?_]
  refine eW (λc=>?_) (λc=>?_)
  ·have C:V.int x=V.int y:=Mb c
   injection C with C
   rw[IU C]at a
   exact a
  ·have C:x≠y:=λz=>c (by rw[z];exact IV Z)
   rw[IX C]at a
   exact a
theorem yS:ai z8z z8z (ae lM):=bK
theorem t9(F:aQ K "worth" "worth" lM f p)(C:Cl P w K mg base (n+1) f p z8z (cw K n) "worth")(v:Cl P w K mg base 1 R B z19z iE "joined"):af P w K mg base aE (n+2) f p z8z (cw K (n+1)):=by
 refine F.ok yS (λV H Q E h=>?_) (λD A o s H V Q E j h=>?_)
 ·obtain⟨a,d,T,y,c,rfl,_⟩:=h
  rfl
 obtain⟨a,d,T,y,c,rfl,t,I,g,l,G,q⟩:=h
 refine#[_,(jd (jy (j6 (ju (pv 0))) (jf (jm (ju (pv 0)))) jr) (jd (jy (j6 (ju (pv 0))) (jf (jm (@Kq _ _ _ _ _ _ _ _ _ (zB j) (pv 1) (ju (pv 0)) jg #[Pq,Pq,Pq,Pq]))) jr) (jf (jm (v.e j.m (ja (ju (pv 0)) (ja (C.e j (ja (ju (pv 0)) (ja (pv 1) jb))) (ja (C.e j (ja (ju (pv 0)) (ja (pv 1) jb))) jb)))))))),?_]
 cases T with
 |num m=>
  have b:aA K H a [.str "num",.int m]:=t.elim (λh=>aA.of h) λz=>by cases z.1;exact z.2
  refine#[_,Z,a,_,_,_,Z,Z,b,Z,Z,_,Z,cq Pp ?_]
  exact#[_,Z,a,_,_,_,Z,Z,b,Z,q]
 |var x=>
  have b:H a=some (.tup [.str "var",.str x]):=t.resolve_right λz=>by cases z.1
  refine(jp b Z #[Z,_,Z,aT Pp ?_])
  refine(jp b Z #[Z,_,Z,cq Pp ?_])
  refine#[_,Z,d,Z,.inl #[c,.inl l],jp b Z #[_,fK.k (k:=Sum.inr x) l,?_]]
  rw[Kr G]
  exact q
 |op i r u=>
  obtain⟨J,L,b,M,N⟩:=t.resolve_right λz=>by cases z.1
  have O:max r.depth u.depth+1 < n+1:=I
  refine(jp b Z #[Z,_,Z,aT Pp ?_])
  refine(jp b Z #[Z,_,Z,aT Pp ?_])
  refine(jp b Z ?_)
  refine(jp b Z #[_,Z,J,d,r,y,c,Z,.inl M,Pn,g.2.1,l,G,?_])
  refine(jp b Z #[_,Z,L,d,u,y,c,Z,.inl N,Pn,g.2.2,l,G,?_])
  exact#[i,_,_,Z,g.1,Jx G g.2.1,Jx G g.2.2,q]
theorem tK:af P w K mg base aE 1 f e z8z (cw K 0):=by
 have n:∀v H Q E,¬cw K 0 v H Q E:=λv H Q E h=>by
  obtain⟨a,d,T,y,k,_,_,c,_⟩:=h
  exact absurd c (Oi _)
 exact#[λv H Q E h=>absurd h (n v H Q E),λA o s H b u v Q E _ _ _ _ h=>absurd h (n v H Q E)]
theorem wj(F:aQ K "worth" "worth" lM f a)(b:aC K a z8z [])(m:mg "worth"=some (.ref f))(c:Cl P w K mg base 1 e d z19z iE "joined"):
  ∀n:Nat,af P w K mg base aE (n+1) f a z8z (cw K n)
 |0=>tK
 |n+1=>t9 F #[(wj F b m c n),b,F.kp,m] c
def TV(H:Hp)(y:List Str)(t:Addr)(T:Tm):Prop:=bY H T t/\er y T
theorem TV.mono(k:ax H a)(h:TV H y t T):TV a y t T:=#[h.1.mono k,h.2]
inductive Gl where
 |give (t:Addr) (T:Tm) |nought |go (n:Nat)
structure WD where
 sets:List (Str×Addr×Tm)
 goal:Gl
noncomputable def Gl.gol(N:Addr):Gl->Ga
 | .give t _=>.give t
 | .nought=>.give N
 | .go n=>.go (n:Int)
noncomputable def WD.wy(n:Addr)(w:WD):Wy:=#[w.sets.map λs=>(s.1,s.2.1),w.goal.gol n]
def Eb(H:Hp)(y:List Str)(m:Nat):Gl->Prop
 | .give t T=>TV H y t T
 | .nought=>True
 | .go n=>n < m
structure wB(H:Hp)(ys:List Str)(m N:Nat)(w:WD):Prop where
 sets:∀s∈w.sets,TV H ys s.2.1 s.2.2
 len:w.sets.length<=N
 goal:Eb H ys m w.goal
def mq(H:Hp)(y:List Str)(n:Addr)(m N:Nat)(w:Wy):Prop:=∃d:WD,d.wy n=w/\wB H y m N d
def HS(F:gV)(H:Hp)(y:List Str):Dd->Prop
 | .st p=>∃(l:Lf) (v:List V),H p=some (.tup v)/\Aq H l v/\l.Ok y/\l.isCut=true/\l.Cs F
 | .ask t=>∃T,TV H y t T
noncomputable def Dd.ways:Dd->Nat
 | .st _=>1
 | .ask _=>2
structure wH(F:gV)(H:Hp)(ys:List Str)(nA:Addr)(m N:Nat)(c:Ct):Prop where
 mem:∀x,c.M x->x∈ys
 deed:HS F H ys c.d
 ways:∀w∈c.ws,mq H ys nA m N w
 len:c.ws.length=c.d.ways
structure wA(H:Hp)(ys:List Str)(nA:Addr)(m N:Nat)(pc:Pc):Prop where
 mem:∀x,pc.M x->x∈ys
 way:mq H ys nA m N pc.w
section
variable {F:gV}{H H':Hp}{ys:List Str}{nA:Addr}{m N N':Nat}
theorem Eb.mono(k:ax H H')(h:Eb H ys m g):Eb H' ys m g:=by
 cases g with
 |give t T=>exact TV.mono k h
 |nought=>trivial
 |go n=>exact h
theorem wB.mono(k:ax H H'){w:WD}(h:wB H ys m N w):wB H' ys m N w:=#[λs a=>(h.sets s a).mono k,h.len,h.goal.mono k]
theorem mq.up(a:N<=N'){w:Wy}(h:mq H ys nA m N w):mq H ys nA m N' w:=let #[d,e,v]:=h;#[d,e,v.sets,IZ v.len a,v.goal]
theorem wH.up(a:N<=N')(h:wH F H ys nA m N c):wH F H ys nA m N' c:=#[h.mem,h.deed,λw b=>(h.ways w b).up a,h.len]
theorem wA.up(a:N<=N')(h:wA H ys nA m N p):wA H ys nA m N' p:=#[h.mem,h.way.up a]
theorem Yg{n:Nat}(a:k=(n:Int))(b:n < m):mq H ys nA m N #[[],.go k]:=#[#[[],.go n],by rw[a];rfl,(λ_ h=>absurd h Ll),IS _,b]
theorem J9:∀(b:Bd) {X:List V} {g:Pc} {fs:List Ct} {N:Nat},dQ H b X->b.Ok ys->b.Cs F->wA H ys nA m N g->(∀c∈fs,wH F H ys nA m N c)->fs.length+b.cuts<=m->
  wA H ys nA m (N+b.size) (pB (m:Int) b g fs).1/\∀c∈(pB (m:Int) b g fs).2,wH F H ys nA m (N+b.size) c
 | .nil,_,_,_,_,_,_,_,o,y,_=>#[o,y]
 | .lf p l r,X,g,fs,N,C,i,k,o,y,D=>by
  obtain⟨vs,zs,_,h1,I,h3⟩:=C
  have E:fs.length+(l.cut+r.cuts)<=m:=D
  obtain⟨R,A⟩:=J9 r h3 i.2 k.2 o y Pn
  have hl:=kj (m:Int) r g fs
  have S:N+r.size<=N+(r.size+1):=by omega
  have j:=Lf.use_in i.1 R.mem
  have J:l.isCut=true->l.cut=1->wA H ys nA m (N+(r.size+1)) #[l.use (pB (m:Int) r g fs).1.M,#[[],.go ((m:Int) - ((pB (m:Int) r g fs).2.length:Int) - 1)]]/\∀c∈(pB (m:Int) r g fs).2++[#[l.use (pB (m:Int) r g fs).1.M,.st p,[(pB (m:Int) r g fs).1.w]]],wH F H ys nA m (N+(r.size+1)) c:=λG h0=>
   #[#[j,Yg (n:=m - (fs.length+r.cuts) - 1) (by rw[hl];omega) Pn],λc L=>by
    rcases List.mem_append.mp L with z |z
    ·exact(A c z).up S
    ·rw[List.mem_singleton.mp z]
     exact#[j,#[l,vs,h1,I,i.1,G,k.1],λw hw=>by rw[List.mem_singleton.mp hw];exact R.way.up S,Z]]
  show wA H ys nA m (N+(r.size+1)) (pL (m:Int) p l (pB (m:Int) r g fs)).1/\∀c∈(pL (m:Int) p l (pB (m:Int) r g fs)).2,wH F H ys nA m (N+(r.size+1)) c
  cases l with
  |gv t T=>exact#[#[j,#[#[[],.give t T],Z,(λ_ h=>absurd h Ll),IS _,I.2,i.1]],λc G=>(A c G).up S]
  |st x t T=>
   refine#[#[j,?_],λc G=>(A c G).up S]
   show mq H ys nA m _ (iw x t (pB (m:Int) r g fs).1)
   unfold iw
   split
   ·obtain⟨d,e,v⟩:=R.way
    refine#[#[(x,t,T)::d.sets,d.goal],by rw[<- e];rfl,λs hs=>?_,Ms v.len,v.goal]
    rcases List.mem_cons.mp hs with rfl |hs
    ·exact#[I.2,i.1.2]
    ·exact v.sets s hs
   ·exact R.way.up S
  |rd x t T |wr t u T U |cl x f q ts=>exact J Z Z
 | .ite p t T a c r,X,g,fs,N,C,i,k,o,y,D=>by
  obtain⟨qa,qb,as,bs,zs,_,g1,O,g2,g3,Q,g5,W⟩:=C
  have E:fs.length+(1+a.cuts+c.cuts+r.cuts)<=m:=D
  obtain⟨R,A⟩:=J9 r W i.2.2.2 k.2.2 o y Pn
  have B:=kj (m:Int) r g fs
  obtain⟨c1,c2⟩:=J9 c g5 i.2.2.1 k.2.1 R A Pn
  have h4:=kj (m:Int) c (pB (m:Int) r g fs).1 (pB (m:Int) r g fs).2
  obtain⟨Y,a2⟩:=J9 a Q i.2.1 k.1 (R.up (Nr _ _)) c2 Pn
  have S:N+r.size+c.size+a.size<=N+(a.size+c.size+r.size+1):=by omega
  have j:∀x,(Bd.ite p t T a c .nil).use (pB (m:Int) r g fs).1.M x->x∈ys:=Bd.use_in #[i.1,i.2.1,i.2.2.1,trivial] R.mem
  have hk:(m:Int) - ((pB (m:Int) r g fs).2.length:Int) - ((Bd.ite p t T a c .nil).cuts:Int)=((m - (fs.length+r.cuts) - (1+a.cuts+c.cuts):Nat):Int):=by
   show(m:Int) - _ - ((1+a.cuts+c.cuts+0:Nat):Int)=_
   rw[B]
   omega
  unfold pB
  dsimp only
  refine#[#[j,Yg hk Pn],λe he=>?_]
  rcases List.mem_append.mp he with z |z
  ·exact(a2 e z).up S
  ·rw[List.mem_singleton.mp z]
   refine#[j,#[T,O,i.1],λw hw=>?_,Z]
   rcases List.mem_cons.mp hw with rfl |hw
   ·exact Y.way.up S
   ·rw[List.mem_singleton.mp hw]
    exact c1.way.up (by show _<=N+(a.size+c.size+r.size+1);omega)
 | .loop p t T a r,X,g,fs,N,C,i,k,o,y,D=>by
  obtain⟨qa,as,zs,_,g1,O,g2,Q,W⟩:=C
  have E:fs.length+(1+a.cuts+r.cuts)<=m:=D
  obtain⟨R,A⟩:=J9 r W i.2.2 k.2 o y Pn
  have B:=kj (m:Int) r g fs
  have j:∀x,(Bd.loop p t T a .nil).use (pB (m:Int) r g fs).1.M x->x∈ys:=Bd.use_in #[i.1,i.2.1,trivial] R.mem
  have hk:(m:Int) - ((pB (m:Int) r g fs).2.length:Int) - ((Bd.loop p t T a .nil).cuts:Int)=((m - (fs.length+r.cuts) - (1+a.cuts):Nat):Int):=by
   show(m:Int) - _ - ((1+a.cuts+0:Nat):Int)=_
   rw[B]
   omega
  have pl:wA H ys nA m (N+r.size) #[(Bd.loop p t T a .nil).use (pB (m:Int) r g fs).1.M,#[[],.go ((m:Int) - ((pB (m:Int) r g fs).2.length:Int) - ((Bd.loop p t T a .nil).cuts:Int))]]:=#[j,Yg hk Pn]
  obtain⟨Y,a2⟩:=J9 a Q i.2.1 k.1 pl A Pn
  have S:N+r.size+a.size<=N+(a.size+r.size+1):=by omega
  unfold pB
  dsimp only
  refine#[pl.up (by show _<=N+(a.size+r.size+1);omega),λe he=>?_]
  rcases List.mem_append.mp he with z |z
  ·exact(a2 e z).up S
  ·rw[List.mem_singleton.mp z]
   refine#[j,#[T,O,i.1],λw hw=>?_,Z]
   rcases List.mem_cons.mp hw with rfl |hw
   ·exact Y.way.up S
   ·rw[List.mem_singleton.mp hw]
    exact R.way.up (by show _<=N+(a.size+r.size+1);omega)
end
noncomputable def bJ(n:Addr)(d:Df):List Ct:=(gN n d).2.reverse
theorem Zm(n:Addr)(d:Df):(bJ n d).length=d.b.cuts:=by
 unfold bJ
 rw[List.length_reverse]
 exact(kj _ _ _ _).trans (MZ _)
theorem A0{nA:Addr}{d:Df}(f:dQ H d.b B)(g:d.b.Ok y):wA H y nA d.b.cuts d.b.size (gN nA d).1/\∀c∈bJ nA d,wH d.b.calls H y nA d.b.cuts d.b.size c:=by
 have p:wA H y nA d.b.cuts 0 (Hd nA):=#[λx i=>absurd i Ll,#[[],.nought],Z,(λ_ h=>absurd h Ll),IK _,trivial]
 obtain⟨a,e⟩:=J9 (m:=d.b.cuts) d.b f g (zx d.b) p (fs:=[]) (λ_ h=>absurd h Ll) (by show 0+_<=_;omega)
 rw[MZ]at a e
 exact#[a,λc j=>e c (List.mem_reverse.mp j)]
theorem Qx{M:Str->Prop}{y:List Str}(h:∀x,M x->x∈y):(canon M).length<=y.length:=by
 by_cases e:∃s,Nm s M
 ·obtain⟨s,H⟩:=e
  rw[<- H.canon]
  exact H.len h
 ·unfold canon
  rw[dif_neg e]
  exact IS _
noncomputable def db:List (Str×Addr×Tm)->a9->a9
 | [],k=>k
 |s::r,k=>db r (aZ k (.inr s.1) (.int (s.2.2.ev k)))
noncomputable def dW(N:Addr)(d:Df)(n:Nat):List Str:=match (bJ N d)[n]? with
 |some c=>canon c.M
 |none=>[]
noncomputable def sV(N:Nat->List Str)(k:a9):Gl->Tr
 | .give _ T=>ay [aK "give",ap (T.ev k)]
 | .nought=>ay [aK "give",ap 0]
 | .go n=>ay [aK "go",ap (n:Int),ay ((N n).map λx=>ap (look k (.inr x) 0))]
theorem qS{H:Hp}{ys:List Str}:∀{ss:List (Str×Addr×Tm)} {k:a9},(∀s∈ss,TV H ys s.2.1 s.2.2)->GT k->GT (db ss k)
 | [],_,_,g=>g
 |s::r,k,h,g=>qS (H:=H) (ys:=ys) (ss:=r) (λS a=>h S (Le _ a)) (g.put _ (Jx g (h s Li).2.1))
theorem pN{S:List (Str×Addr×Tm)}:∀{i:Nat} {s:Str×Addr×Tm} {k:a9},S[i]?=some s->db (S.take (i+1)) k=aZ (db (S.take i) k) (.inr s.1) (.int (s.2.2.ev (db (S.take i) k))):=by
 induction S with
 |nil=>intro i s k h;simp at h
 |cons a r I=>
  intro i s k h
  cases i with
  |zero=>
   cases h
   rfl
  |succ i=>exact I (by simpa using h)
theorem zN{kvs:a9}{k:bo}{v:V}:(aZ kvs k v).length<=kvs.length+1:=by
 unfold aZ
 split
 ·rw[IJ];exact LH _
 ·rw[IL];exact IK _
theorem Xz:∀{ss:List (Str×Addr×Tm)} {k:a9},(db ss k).length<=k.length+ss.length
 | [],_=>IK _
 |s::r,k=>by
  have h:=Xz (ss:=r) (k:=aZ k (.inr s.1) (.int (s.2.2.ev k)))
  have H:=zN (kvs:=k) (k:=.inr s.1) (v:=.int (s.2.2.ev k))
  show(db r _).length<=k.length+(r.length+1)
  omega
noncomputable def bg(n:List Str)(i:List Int):a9:=c8 [] ((n.map Sum.inr).zip (i.map V.int))
theorem XA:∀{m:a9} {k:a9},GT k->GT m->GT (c8 k m)
 | [],_,g,_=>g
 |p::r,k,g,h=>by
  obtain⟨i,e,H⟩:=h p Li
  have E:aZ k p.1 p.2=aZ k p.1 (.int i):=by rw[e]
  show GT (c8 (aZ k p.1 p.2) r)
  rw[E]
  exact XA (g.put _ H) λq a=>h q (Le _ a)
theorem Kk(h:∀i∈I,gF i):GT (bg n I):=by
 refine XA GT.nil λp H=>?_
 obtain⟨i,a,e⟩:=List.mem_map.mp (Oj H).2
 exact#[i,e.symm,h i a]
theorem Zn{ns:List Str}{is:List Int}:(bg ns is).length<=ns.length:=by
 have h:=qB ((ns.map Sum.inr).zip (is.map V.int)) []
 rw[OT,IJ]at h
 show(c8 [] _).length<=_
 have H:(c8 [] ((ns.map Sum.inr).zip (is.map V.int))).length<=0+min ns.length (is.map V.int).length:=h
 omega
noncomputable abbrev nH:Stmt:=bM 23
noncomputable abbrev lE:Stmt:=bM 24
noncomputable abbrev gf:Stmt:=bM 28
noncomputable abbrev lD:Stmt:=bM 29
noncomputable abbrev ij:Stmt:=bM 30
noncomputable abbrev lI:Stmt:=bM 31
structure mj(H:Hp)(nA:Addr)(d:Df)(ys:List Str)(v:V):Prop where
 tr:aP H (fe nA d) v []
 bd:∃bs,dQ H d.b bs
 ok:d.b.Ok ys
 y20:ys.length<=20
 sz:d.b.size<=3000
structure Ea(H:Hp)(nA:Addr)(d:Df)(ys:List Str)(c:Ct)(ka na wa:Addr)(dv:V)(wvs:List V):Prop where
 at':H ka=some (.tup [.ref na,dv,.ref wa])
 nms:H na=some (.tup ((canon c.M).map V.str))
 deed:aP H (Gh c.d) dv []
 wat:H wa=some (.tup wvs)
 ways:aP H (au (c.ws.map gU)) .non wvs
 v:wH d.b.calls H ys nA d.b.cuts d.b.size c
theorem Zo:∀{S:List Str} {v:List V},aP H (au (S.map aK)) .non v->v=S.map V.str
 | [],v,h=>h
 |s::S,v,h=>by
  obtain⟨_,_,y,Y,rfl,⟨rfl,_⟩,a⟩:=h
  rw[Zo a]
  rfl
section
variable {H H':Hp}{nA:Addr}{d:Df}{ys:List Str}{v:V}
theorem mj.mono(k:ax H H')(h:mj H nA d ys v):mj H' nA d ys v:=#[h.tr.mono k,let #[b,a]:=h.bd;#[b,a.mono k],h.ok,h.y20,h.sz]
theorem mj.parts(h:mj H nA d ys v):∃(a c:Addr) (W:V) (C:List V),v= .ref a/\H a=some (.tup [.str d.f,.ref d.pa,W,.ref c])/\aP H (gU (gN nA d).1.w) W []/\H c=some (.tup C)/\aP H (au ((bJ nA d).map Es)) .non C:=by
 obtain⟨_,a,x,rfl,i,_,_,n,Y,rfl,⟨rfl,_⟩,_,_,o,j,rfl,⟨rfl,_⟩,_,_,W,k,rfl,l,_,_,p,y,rfl,m,e⟩:=h.tr
 have e:y=[]:=e
 subst e
 obtain⟨_,c,C,rfl,b,g⟩:=m
 exact#[a,c,W,C,Z,i,l,b,g]
theorem mj.cut{C:List V}(h:mj H nA d ys v)(a:aP H (au ((bJ nA d).map Es)) .non C){n:Nat}{c:Ct}(g:(bJ nA d)[n]?=some c):∃k N i D W,C[n]?=some (.ref k)/\Ea H nA d ys c k N i D W:=by
 have L:=zd a
 rw[IJ]at L
 have u:n < C.length:=by rw[L];exact(List.getElem?_eq_some_iff.mp g).1
 have j:C[n]?=some C[n]:=IG u
 obtain⟨T,b,t⟩:=qH a n _ j
 rw[Lc,g]at b
 cases b
 obtain⟨B,y⟩:=h.bd
 have z:=(A0 (nA:=nA) y h.ok).2 c (Lb g)
 generalize C[n]=x at j t
 obtain⟨_,k,E,rfl,l,_,_,F,G,rfl,m,_,_,D,I,rfl,o,_,_,J,A,rfl,p,e⟩:=t
 have e:A=[]:=e
 subst e
 obtain⟨_,N,M,rfl,f,q⟩:=m
 obtain⟨_,i,W,rfl,r,s⟩:=p
 rw[Zo q]at f
 exact#[k,N,i,D,W,j,l,f,o,r,s,z]
theorem mj.way(h:mj H nA d ys v):mq H ys nA d.b.cuts d.b.size (gN nA d).1.w:=let #[B,a]:=h.bd;(A0 (nA:=nA) a h.ok).1.way
theorem tJ(h:(bJ nA d)[n]?=some c):dW nA d n=canon c.M:=by
 unfold dW
 rw[h]
end
structure GG(H:Hp)(nA:Addr)(w:WD)(wa sa ga:Addr)(ss:List V)(wd:Str)(u:V):Prop where
 at':H wa=some (.tup [.ref sa,.ref ga])
 sat:H sa=some (.tup ss)
 sets:∀(i:Nat) (x:V),ss[i]?=some x->∃(s:Str×Addr×Tm) (p:Addr),w.sets[i]?=some s/\x= .ref p/\H p=some (.tup [.str s.1,.ref s.2.1])
 len:ss.length=w.sets.length
 gat:H ga=some (.tup [.str wd,u])
 goal:match w.goal with
  | .give t _=>wd="give"/\u= .ref t
  | .nought=>wd="give"/\u= .ref nA
  | .go n=>wd="go"/\u= .int (n:Int)
theorem Ag{w:WD}(h:aP H (gU (w.wy N)) v []):∃(l S G:Addr) (A:List V) (W:Str) (u:V),v= .ref l/\GG H N w l S G A W u:=by
 obtain⟨_,r,X,rfl,C,_,_,y0,D,rfl,⟨_,s,c,rfl,E,m⟩,_,_,Y,y,rfl,b,e⟩:=h
 have e:y=[]:=e
 subst e
 have L:=zd m
 have st:∀(i:Nat) (x:V),c[i]?=some x->∃(s:Str×Addr×Tm) (p:Addr),w.sets[i]?=some s/\x= .ref p/\H p=some (.tup [.str s.1,.ref s.2.1]):=λi x F=>by
  obtain⟨tr,o,I⟩:=qH m i x F
  rw[Lc]at o
  obtain⟨q,J,rfl⟩:=Option.map_eq_some_iff.mp o
  have a:(w.sets.map λs=>(s.1,s.2.1))[i]?=some q:=J
  rw[Lc]at a
  obtain⟨z,M,rfl⟩:=Option.map_eq_some_iff.mp a
  obtain⟨_,p,X,rfl,O,_,_,Q,R,rfl,⟨rfl,_⟩,_,_,U,B,rfl,⟨rfl,_⟩,e⟩:=I
  have e:B=[]:=e
  subst e
  exact#[z,p,M,Z,O]
 have ln:c.length=w.sets.length:=by
  rw[L,IJ]
  exact IJ ..
 have f:∀g:Gl,w.goal=g->aP H (xz (g.gol N)) Y []->∃(G:Addr) (W:Str) (u:V),Y= .ref G/\H G=some (.tup [.str W,u])/\match g with
  | .give t _=>W="give"/\u= .ref t
  | .nought=>W="give"/\u= .ref N
  | .go n=>W="go"/\u= .int (n:Int):=λg _ b=>by
  cases g with
  |give t T |nought |go n=>
   obtain⟨_,gl,X,rfl,d,_,_,Q,R,rfl,⟨rfl,_⟩,_,_,U,B,rfl,⟨rfl,_⟩,e⟩:=b
   have e:B=[]:=e
   subst e
   exact#[gl,_,_,Z,d,Z,Z]
 obtain⟨G,W,u,rfl,j,k⟩:=f w.goal Z b
 exact#[r,s,G,c,W,u,Z,C,E,st,ln,j,k]
inductive iy(b:Addr)(e:List V)(H:Hp)(Q:VK)(a:XK):Prop
 |mk(v:V)(n:Nat)(d:Df)(f:List Str)(c:Ct)(_:e=[v,.int (n:Int)])(_:mj H b d f v)(_:(bJ b d)[n]?=some c)(_:∀(ka na wa:Addr) (dv:V) (wvs:List V),Ea H b d f c ka na wa dv wvs->Q (.ref ka) H)
inductive iD(f:Addr)(g:List V)(H:Hp)(Q:VK)(a:XK):Prop
 |mk(v:V)(n:Nat)(b:Addr)(d:Df)(h:List Str)(c:Ct)(e:List Int)(_:g=[v,.int (n:Int),.ref b])(_:mj H f d h v)(_:(bJ f d)[n]?=some c)(_:H b=some (.tup (e.map V.int)))(_:e.length=(canon c.M).length)(_:∀dd:Addr,H dd=none->Q (.ref dd) (ah H dd (.dK (bg (canon c.M) e))))
theorem Zp:∀(s:List Str),(s.map (Sum.inr:Str->bo)).map kV=s.map V.str:=λs=>by rw[M1];rfl
theorem yQ:ai ["part","n"] ["part","n"] (ae nH):=bK
theorem tN{f:Addr}{g:FuncData}{N:Addr}(F:aQ K "cut_at" "cut_at" nH f g):af P w K mg base aE 1 f g ["part","n"] (iy N):=by
 refine F.ok yQ ?_ λl A o s H V Q E B h=>?_
 ·rintro _ _ _ _ ⟨v,n,d,y,c,rfl,_⟩
  rfl
 obtain⟨v,n,d,y,c,rfl,i,m,q⟩:=h
 refine#[_,(jf (jm (jv jE (ju (pv 0)) (pv 1) (λ_ _=>Z)))),?_]
 obtain⟨a,p,I,J,rfl,r,L,b,e⟩:=i.parts
 obtain⟨t,u,x,D,W,z,C⟩:=i.cut e m
 exact#[_,Z,a,_,_,_,Z,Z,aA.of r,jH (j:=3) Z,_,Z,p,_,_,_,Z,Z,aA.of b,jH z,q t u x D W C]
theorem uZ:ai z10z z10z (ae lE):=bK
theorem px(F:aQ K "held_at" "held_at" lE f g)(i:Cl P w K mg base 1 J j ["part","n"] (iy N) "cut_at")(m:mg "dict"=none)(a:mg "zip"=none):af P w K mg base aE 2 f g z10z (iD N):=by
 refine F.ok uZ ?_ λp A o s H V Q E r h=>?_
 ·rintro _ _ _ _ ⟨v,n,b,d,y,c,I,rfl,_⟩
  rfl
 obtain⟨v,n,b,d,y,c,I,rfl,t,u,x,z,q⟩:=h
 refine#[_,(jf (jm (@Ze _ _ _ _ _ _ _ _ Z m Z a Z (ja (jv jE (i.e r (ja (pv 0) (ja (pv 1) jb))) jg (λ_ _=>Z)) (ja (pv 2) jb)) Pq Pq Pq Pq))),?_]
 refine#[_,Z,_,Z,v,n,d,y,c,Z,t,u,λB D O R W C=>#[B,_,_,_,Z,Z,aA.of C.at',dS,_,Z,D,b,(canon c.M).map Sum.inr,_,Z,by rw[Zp];exact aA.of C.nms,aA.of x,by rw[IJ,IJ,z],λl G=>q l G]]
inductive Wh where
 |rd (a i:Int) |wr (a b:Int) |ask (b:Int) |cl (f:Str) (is:List Int) (i:Int)
def Bm(H:Hp)(u:V):Wh->Prop
 | .rd a i=>∃p,u= .ref p/\H p=some (.tup [.str "read",.int a,.int i])
 | .wr a b=>∃p,u= .ref p/\H p=some (.tup [.str "write",.int a,.int b])
 | .ask b=>∃p,u= .ref p/\H p=some (.tup [.str "ask",.int b])
 | .cl f I i=>∃p c g e,u= .ref p/\H p=some (.tup [.str "call",.ref c])/\H c=some (.tup [.str f,.ref g,e,.int i])/\H g=some (.tup (I.map V.int))
theorem Bm.mono{H d:Hp}(k:ax H d){u:V}{w:Wh}(h:Bm H u w):Bm d u w:=by
 cases w with
 |rd a i |wr a b |ask b=>obtain⟨p,e,h⟩:=h;exact#[p,e,k _ _ h]
 |cl f I i=>obtain⟨p,c,g,e,E,j,l,m⟩:=h;exact#[p,c,g,e,E,k _ _ j,k _ _ l,k _ _ m]
inductive DD where
 |st (p:Addr) (l:Lf) |ask (t:Addr) (T:Tm)
noncomputable def DD.dd:DD->Dd
 | .st p _=>.st p
 | .ask t _=>.ask t
def Am(H:Hp)(y:List Str):DD->Prop
 | .st p l=>∃v,H p=some (.tup v)/\Aq H l v/\l.Ok y/\l.isCut=true
 | .ask t T=>TV H y t T
theorem Am.mono(k:ax H a)(h:Am H y d):Am a y d:=by
 cases d with
 |st p l=>obtain⟨v,b,c,e⟩:=h;exact#[v,k _ _ b,c.mono k,e]
 |ask t T=>exact TV.mono k h
def DD.Cs(F:gV):DD->Prop
 | .st _ l=>l.Cs F
 | .ask _ _=>True
theorem Ex{F:gV}(h:HS F H y d):∃e:DD,e.dd=d/\Am H y e/\e.Cs F:=by
 cases d with
 |st p=>obtain⟨l,v,a,b,c,f,g⟩:=h;exact#[.st p l,Z,#[v,a,b,c,f],g]
 |ask t=>obtain⟨T,h⟩:=h;exact#[.ask t T,Z,h,trivial]
def FY:DD->Wh->Prop
 | .st _ (.rd _ _ _),.rd _ i=>gF i
 | .st _ (.wr _ _ _ _),.wr _ _=>True
 | .st _ (.cl _ _ _ _),.cl _ _ i=>gF i
 | .ask _ _,.ask b=>b=0∨b=1
 |_,_=>False
noncomputable def pX(d:DD)(w:Wh)(k:a9):a9:=match d,w with
 | .st _ (.rd x _ _),.rd _ i=>aZ k (.inr x) (.int i)
 | .st _ (.cl x _ _ _),.cl _ _ i=>aZ k (.inr x) (.int i)
 |_,_=>k
noncomputable def Wh.side:Wh->Nat
 | .ask b=>if b=0 then 1 else 0
 |_=>0
def se(Q:VK)(H:Hp):Wh->Prop
 | .rd _ i=>Q (.int i) H
 | .cl _ _ i=>Q (.int i) H
 |_=>False
inductive eR(b:List V)(H:Hp)(Q:VK)(a:XK):Prop
 |mk(u:V)(w:Wh)(_:b=[u])(_:Bm H u w)(_:se Q H w)
inductive mH(c:Addr)(e:List V)(H:Hp)(Q:VK)(a:XK):Prop
 |mk(v f:V)(b:Addr)(d:Df)(g:List Str)(w:WD)(k:a9)(_:e=[v,f,.ref b])(_:mj H c d g v)(_:aP H (gU (w.wy c)) f [])(_:wB H g d.b.cuts d.b.size w)(_:H b=some (.dK k))(_:GT k)(_:k.length<=200)(_:∀(u:V) (H':Hp),aP H' (sV (dW c d) (db w.sets k) w.goal) u []->aR b H H'->Q u H')
inductive EI(c:Addr)(a:_L.St)(j:List (Str×Addr×Tm))(k:a9)(H:Hp)(i:Nat)(l:_L.St)(b:Hp):Prop
 |mk(g h:Option V)(d:l=a++[g,h,none,none])(e:b c=some (.dK (db (j.take i) k)))(f:aR c H b)
theorem JX{H:Hp}:∀{is:List Int},aP H (au (is.map ap)) .non (is.map V.int)
 | []=>rfl
 |i::is=>jk Z jT (JX (is:=is))
theorem iV:ai ["what"] ["what"] (ae gf):=bK
theorem tP(F:aQ K "found_in" "found_in" gf f n):af P w K mg base aE 1 f n ["what"] eR:=by
 refine F.ok iV ?_ λC A o s H v Q E t h=>?_
 ·rintro _ _ _ _ ⟨u,W,rfl,_⟩
  rfl
 obtain⟨u,W,rfl,d,q⟩:=h
 refine#[_,(jf (jm (kK (j6 (ju (pv 0))) (ju (jv jE (pv 0) jg (λ_ _=>Z))) (jv jE (pv 0) (ul Yb jg) (λ_ _=>Z))))),?_]
 cases W with
 |rd a i=>
  obtain⟨p,rfl,l⟩:=d
  exact(jp l dS #[Z,_,Z,aT Pp #[_,Z,_,Z,p,_,_,_,Z,Z,aA.of l,Z,q]])
 |cl f I i=>
  obtain⟨p,c,g,e,rfl,m,r,_⟩:=d
  exact(jp m dS #[Z,_,Z,cq Pp (jp m gX #[c,_,_,_,Z,Z,aA.of r,jH (j:=3) Z,q])])
 |wr a b |ask b=>exact q.elim
theorem gj:ai ["part","way","numbers","name","term","goal","held"] ["part","way","numbers"] (ae lD):=bK
noncomputable def YV:Scope:=#[.function,[(".0",.local),("name",.local),("numbers",.free)],false,false,[]]
theorem xN:(["name","numbers"]:List Str).Nodup:=by decide+kernel
theorem wU:bn ["part","way","numbers","name","term","goal","held"] (ae lD) YV ["name","numbers"] 1 [2]:=pY
theorem tO(F:aQ K "end_of" "end_of" lD f fd)(cC:Cl P w K mg base 1 fC f2 ["part","n"] (iy U) "cut_at")(cW:Cl P w K mg base 7 fW f3 z8z (cw K 6) "worth")(m0:mg "tuple"=none)(no:ny K U):af P w K mg base aE 8 f fd ["part","way","numbers"] (mH U):=by
 refine F.ok gj ?_ λc0 A o1 s H vs Q E Y h=>?_
 ·rintro _ _ _ _ ⟨v,w1,D,d,ys,O,k,rfl,_⟩
  rfl
 obtain⟨v,w1,D,d,ys,O,k,rfl,hp,hw,wv,hd,gk,hk,q⟩:=h
 refine#[_,(jd (j7 Lp Z (qF (ju (pv 1))) (qf (n:=2) Z (jF (jw (i:=3) gj.nd Z (Or.inl Z)) (jF (jw (i:=4) gj.nd Z (Or.inl Z)) kU))) (jf (qP (zB Y) (pv 2) (pv 3) (cW.e Y.m (ja (pv 4) (ja (pv 2) jb))) Z))) (jd (jD 5 gj.nd (ju (pv 1))) (jd (jy (j6 (ju (pv 5))) (jf (jm (jl (ja jo (ja (cW.e Y.m (ja (ju (pv 5)) (ja (pv 2) jb))) jb))))) jr) (jd (@qr _ _ _ _ _ _ _ _ _ _ (6) (["name","numbers"]) (1) ([2]) _ _ _ _ gj.nd Z (Or.inl Z) Z (qF (jv jE (cC.e Y.m (ja (pv 0) (ja (ju (pv 5)) jb))) jg (λ_ _=>Z))) wU (λ_ _ _ _ _=>(jw (i:=0) xN Z (Or.inl Z))) (λ_ _ _ _ _=>(@qg _)) (λ_ _ _ _ _=>(@Kq _ _ _ _ _ _ _ _ _ (zB Y) (pv 1) (pv 0) jg #[Pq,Pq,Pq,Pq])) Pq (by first |exact .inl Z |exact .inr Z) (by intro _;rfl)) (jf (jm (jl (ja jo (ja (ju (pv 5)) (ja (jP jY Z m0 NB (ja (pv 6) jb)) jb)))))))))),?_]
 have b0:=aH
 obtain⟨wa,sa,ga,ss,wd,u,rfl,W⟩:=Ag hw
 have R:∀g,aR D H g->ax H g:=λg k b xs e=>k b _ (jS e hd (by intro z;cases z)) e
 have h2:=hp.sz
 have h3:=wv.len
 refine aj λF1 C=>dq λJ j=>(jp W.at' dS #[sa,Z,#[_,aA.of W.sat],j _ _ ?_])
 clear j
 refine q8 (K:=K) (xs:=ss) (EI D [some v,some (.ref wa),some (.ref D)] O.sets k H) #[_,_,Z,hd,aR.refl] (λi σ g _ h=>?_) ?_ (λσ g h=>C _ _ ?_)
 ·obtain⟨_,_,_,_,I⟩:=h
  exact aA.of (R _ I _ _ W.sat)
 ·intro E _ i x σ H1 hx f0 Gq kq h
  obtain⟨o3,o4,rfl,L,I⟩:=h
  clear C
  obtain⟨s,p,hs,rfl,h0⟩:=W.sets i x hx
  have S:=R _ I
  have tv:=(wv.sets s (Lb hs)).mono S
  have g1:GT (db (O.sets.take i) k):=qS (H:=H) (ys:=ys) (λs hs=>wv.sets s (Nz hs)) gk
  have l1:=Xz (ss:=O.sets.take i) (k:=k)
  rw[Lo]at l1
  refine kq ?_
  clear kq
  refine#[p,_,Z,aA.of (S _ _ h0),Z,_,_,Z,_,_,Z,Z,?_]
  refine#[_,Z,_,Z,s.2.1,D,s.2.2,ys,_,Z,.inl tv.1,tv.2.2,tv.2.1,L,g1,_,Z,_,Z,D,_,Z,.inl #[_,.inr s.1,L,Z,Pn,Z],f0 _ _ #[_,_,Z,?_,λc o X e=>by rw[jh X];exact I c o X e]]
  rw[pN hs]
  exact jc
 ·obtain⟨o3,o4,rfl,L,I⟩:=h
  rw[W.len,LA]at L
  have S:=R _ I
  have g1:GT (db O.sets k):=qS (H:=H) (ys:=ys) wv.sets gk
  have B:=wv.goal
  have a:=W.goal
  generalize db O.sets k=N at L g1 q
  refine aj λF1 C=>(jp (S _ _ W.at') gX (C _ _ ?_))
  clear C
  have G:=S _ _ W.gat
  refine aj λF1 C=>iS λG1 k3 k0=>(jp G dS #[Z,_,Z,?_])
  have give:∀(t:Addr) (T:Tm),wd="give"->u= .ref t->Ic K g T t->er ys T->(∀(u':V) (H9:Hp),aP H9 (ay [aK "give",ap (T.ev N)]) u' []->aR D H H9->Q u' H9)->G1 (decide (V.str wd=V.str "give")) g:=by
   intro t T e1 e2 x1 x2 x3
   subst e1
   subst e2
   rw[IV Z]
   refine k3 _ (jp G gX #[_,Z,t,D,T,ys,N,Z,x1,x2.2,x2.1,L,g1,cg,λr nr=>?_])
   exact x3 _ _ (jA jc (jk Z jQ (jk Z jT jz))) λc o X e=>je nr _ _ (I c o X e)
  cases hg:O.goal with
  |give t T=>
   rw[hg]at B a q
   exact give t T a.1 a.2 (.inl (B.1.mono S)) B.2 q
  |nought=>
   rw[hg]at a q
   exact give U (.num 0) a.1 a.2 (.inr #[Z,no _]) #[#[Pm,Pm],Pm] q
  |go n=>
   rw[hg]at B a q
   clear give k3
   obtain⟨e1,e2⟩:=a
   subst e1
   subst e2
   have hn:n < (bJ U d).length:=by rw[Zm];exact B
   obtain⟨c,hc⟩:∃c,(bJ U d)[n]?=some c:=#[_,IG hn]
   have e0:decide (V.str "go"=V.str "give")=false:=by decide+kernel
   rw[e0]
   refine k0 _ (C _ _ ?_)
   clear k0 C
   refine aj λF1 C=>#[_,Z,jp G gX #[v,n,d,ys,c,Z,hp.mono S,hc,λka na w2 dv w3 ca=>#[ka,_,_,_,Z,Z,aA.of ca.at',dS,na,Z,#[_,aA.of ca.nms],?_]]]
   have cl:=IZ (Qx ca.v.mem) hp.y20
   have q:∀(u:V) (g:Hp),aP g (ay [aK "go",ap (n:Int),ay ((dW U d n).map λx=>ap (look N (.inr x) 0))]) u []->aR D H g->Q u g:=q
   rw[tJ hc]at q
   refine Qt (K:=K) (xs:=(canon c.M).map V.str) (by rw[IJ];omega) (λi zs Hx=>zs=((canon c.M).take i).map (λx=>V.int (look N (.inr x) 0))/\Hx=g) #[Z,Z] (λi zs Hx h=>?_) (λi x zs Hx hx h=>?_) (λzs Hx h l nl=>C _ _ ?_)
   ·obtain⟨rfl,rfl⟩:=h
    exact#[aA.of ca.nms,by rw[IJ,Lo];omega]
   ·obtain⟨rfl,rfl⟩:=h
    rw[Lc]at hx
    obtain⟨y,hy,rfl⟩:=Option.map_eq_some_iff.mp hx
    refine#[_,Z,D,Z,.inl #[N,.inl L],_,Z,_,fK.k (k:=Sum.inr y) L,?_,Z]
    rw[Kr g1,LP,hy,Ln]
    rfl
   ·obtain⟨rfl,rfl⟩:=h
    rw[IJ,LA]
    refine(jp (je nl _ _ G) gX #[_,Z,l,_,Z,.inl #[aJ.of jc,λtl n0=>#[m9,λr nr=>?_]]])
    refine q _ _ (jA jc (jk Z jQ (jk Z jT (jk Z (jA (am jc nr) ?_) jz)))) λc' o X e=>je nr _ _ (je n0 _ _ (je nl _ _ (I c' o X e)))
    have:=JX (H:=ah (ah (ah Hx l (.lst ((canon c.M).map (λx=>V.int (look N (.inr x) 0))))) tl (.tup ((canon c.M).map (λx=>V.int (look N (.inr x) 0))))) r (.tup [.str "go",.int (n:Int),.ref tl])) (is:=(canon c.M).map λx=>look N (.inr x) 0)
    rw[M1,M1]at this
    exact this
structure mn(H:Hp)(nA:Addr)(d:Df)(ys:List Str)(v:V)(sa:Addr)(n:Nat)(hv:Addr)(uw:V)(c:Ct)(is:List Int)(wh:Wh)(e:DD)(wd:WD):Prop where
 prt:mj H nA d ys v
 at':H sa=some (.tup [.int (n:Int),.ref hv,uw])
 cut:(bJ nA d)[n]?=some c
 hat:H hv=some (.tup (is.map V.int))
 hl:is.length=(canon c.M).length
 hin:∀i∈is,gF i
 whv:Bm H uw wh
 ed:e.dd=c.d
 dv:Am H ys e
 fit:FY e wh
 way:c.ws[wh.side]?=some (wd.wy nA)
 wdv:wB H ys d.b.cuts d.b.size wd
theorem mn.mono(k:ax H a)(h:mn H N d y v s n b u c i f e g):mn a N d y v s n b u c i f e g:=
 #[h.prt.mono k,k _ _ h.at',h.cut,k _ _ h.hat,h.hl,h.hin,h.whv.mono k,h.ed,h.dv.mono k,h.fit,h.way,h.wdv.mono k]
noncomputable def G7(n:Addr)(d:Df)(c:Ct)(i:List Int)(a:Wh)(e:DD)(W:WD):Tr:=sV (dW n d) (db W.sets (pX e a (bg (canon c.M) i))) W.goal
inductive gp(e:Addr)(g:List V)(H:Hp)(Q:VK)(a:XK):Prop
 |mk(v:V)(b:Addr)(d:Df)(h f:List Str)(c:List Int)(w:WD)(_:g=[v,.ref b])(_:mj H e d h v)(_:H d.pa=some (.tup (f.map V.str)))(_:f.length<=100)(_:H b=some (.tup (c.map V.int)))(_:c.length=f.length)(_:∀i∈c,gF i)(_:w.wy e=(gN e d).1.w)(_:wB H h d.b.cuts d.b.size w)(_:∀(u:V) (H':Hp),aP H' (sV (dW e d) (db w.sets (bg f c)) w.goal) u []->aa H H'->Q u H')
inductive vC(g:Addr)(j:List V)(H:Hp)(Q:VK)(a:XK):Prop
 |mk(v i:V)(h b:Addr)(n:Nat)(d:Df)(m:List Str)(c:Ct)(f:List Int)(l:Wh)(e:DD)(k:WD)(_:j=[v,.ref h])(_:mn H g d m v h n b i c f l e k)(_:∀(u:V) (H':Hp),aP H' (G7 g d c f l e k) u []->aa H H'->Q u H')
theorem rg(h:FY e a)(g:GT k):GT (pX e a k):=by
 unfold pX
 split
 ·exact g.put _ h
 ·exact g.put _ h
 ·exact g
theorem wP{e:DD}{wh:Wh}{k:a9}:(pX e wh k).length<=k.length+1:=by
 unfold pX
 split
 ·exact zN
 ·exact zN
 ·exact LH _
theorem pP:ai ["part","args"] ["part","args"] (ae ij):=bK
theorem YW(F:aQ K "first_of" "first_of" ij f I)(J:Cl P w K mg base 8 fE L ["part","way","numbers"] (mH T) "end_of")(M:mg "dict"=none)(b:mg "zip"=none):af P w K mg base aE 9 f I ["part","args"] (gp T):=by
 refine F.ok pP ?_ λR A O s H vs Q E U h=>?_
 ·rintro _ _ _ _ ⟨v,x,d,y,p,is,z,rfl,_⟩
  rfl
 obtain⟨v,x,d,y,p,is,z,rfl,C,g,V,i,n,r,t,W,q⟩:=h
 refine#[_,(jf (jm (J.e U.m (ja (pv 0) (ja (ju (pv 0)) (ja (@Ze _ _ _ _ _ _ _ _ Z M Z b Z (ja (ju (pv 0)) (ja (pv 1) jb)) Pq Pq Pq Pq) jb)))))),?_]
 obtain⟨a,ca,X,cs,rfl,D,G,Y,h0⟩:=C.parts
 rw[<- t]at G
 refine#[_,Z,_,Z,a,_,_,_,Z,Z,aA.of D,jH (j:=2) Z,jp D gX #[_,Z,d.pa,x,p.map Sum.inr,_,Z,by rw[Zp];exact aA.of g,aA.of i,by rw[IJ,IJ,n],λl N=>?_]]
 have S:aa H (ah H l (.dK (bg p is))):=je N
 have zl:=Zn (ns:=p) (is:=is)
 exact#[.ref a,X,l,d,y,z,bg p is,Z,C.mono (aa.tm S),G.mono (aa.tm S),W.mono (aa.tm S),jc,Kk r,Pn,λu H' tu k=>q u H' tu λc o e=>k c o (ji e N) (S _ _ e)]
theorem eN:ai ["part","step","cut","numbers","what","way"] ["part","step"] (ae lI):=bK
theorem pG{f:Addr}{fd:FuncData}{nA fC fD fF fE:Addr}{f0 f3 f4 f5:FuncData}(F:aQ K "onward" "onward" lI f fd)(cC:Cl P w K mg base 1 fC f0 ["part","n"] (iy nA) "cut_at")(cD:Cl P w K mg base 2 fD f3 z10z (iD nA) "held_at")(cF:Cl P w K mg base 1 fF f4 ["what"] eR "found_in")(cE:Cl P w K mg base 8 fE f5 ["part","way","numbers"] (mH nA) "end_of"):af P w K mg base aE 9 f fd ["part","step"] (vC nA):=by
 refine F.ok eN ?_ λc0 A o2 s H vs Q E hr h=>?_
 ·rintro _ _ _ _ ⟨v,L,Y,hv,n,d,ys,c,is,wh,e,wd,rfl,_⟩
  rfl
 obtain⟨v,L,Y,hv,n,d,ys,c,is,wh,e,wd,rfl,C,q⟩:=h
 refine#[_,(jd (jD 2 eN.nd (cC.e hr.m (ja (pv 0) (ja (ju (pv 1)) jb)))) (jd (jD 3 eN.nd (cD.e hr.m (ja (pv 0) (ja (ju (pv 1)) (ja (ju (pv 1)) jb))))) (jd (jD 4 eN.nd (ju (pv 1))) (jd (jy (jC zm (ju (pv 4)) (jl (ja jo (ja jo jb))) Z) (jf (qP (zB hr) (pv 3) (ju (jv jE (pv 2) jg (λ_ _=>Z))) (cF.e hr.m (ja (pv 4) jb)) Z)) jr) (jd (jD 5 eN.nd (kK (jC (CY (zB hr)) (pv 4) (jl (ja jo (ja jg jb))) (aN _)) (ju (jv jE (pv 2) jg (λ_ _=>Z))) (ju (jv jE (pv 2) jg (λ_ _=>Z))))) (jf (jm (cE.e hr.m (ja (pv 0) (ja (pv 5) (ja (pv 3) jb))))))))))),?_]
 have b0:=aH
 obtain⟨a,ca,wv,cs,rfl,ha,hw,a1,a2⟩:=C.prt.parts
 have h0:=C.at'
 refine aj λF1 J=>#[_,Z,jp h0 dS #[_,n,d,ys,c,Z,C.prt,C.cut,λka na wa dv w0 cu=>J _ _ ?_]]
 clear J
 refine aj λF1 J=>#[_,Z,jp h0 dS (jp h0 gX #[_,n,hv,d,ys,c,is,Z,C.prt,C.cut,C.hat,C.hl,λD n0=>J _ _ ?_])]
 clear J
 have s1:aa H (ah H D (.dK (bg (canon c.M) is))):=je n0
 have d1:ah H D (.dK (bg (canon c.M) is)) D=some (.dK (bg (canon c.M) is)):=jc
 generalize ah H D (.dK (bg (canon c.M) is))=H1 at s1 d1
 have O:=C.mono (aa.tm s1)
 have g0:GT (bg (canon c.M) is):=Kk C.hin
 have z0:=Zn (ns:=canon c.M) (is:=is)
 have z1:=Qx cu.v.mem
 have z2:=C.prt.y20
 generalize h7:bg (canon c.M) is=k0 at d1 g0 z0
 refine aj λF1 J=>#[_,Z,Y,_,_,_,Z,Z,aA.of O.at',jH (j:=2) Z,J _ _ ?_]
 clear J
 have o1:G7 nA d c is wh e wd=sV (dW nA d) (db wd.sets (pX e wh k0)) wd.goal:=by unfold G7;rw[h7]
 rw[o1]at q
 have h1:=zd cu.ways
 rw[IJ]at h1
 have G:∃x,w0[wh.side]?=some x/\aP H (gU (wd.wy nA)) x []:=by
  have hj:wh.side < w0.length:=by rw[h1];exact(List.getElem?_eq_some_iff.mp C.way).1
  obtain⟨tr,ht,tx⟩:=qH cu.ways wh.side _ (IG hj)
  rw[Lc,C.way]at ht
  cases ht
  exact#[_,IG hj,tx]
 obtain⟨wx,G,t0⟩:=G
 have h4:=cu.at'
 have h':=cu.wat
 refine aj λF1 J=>?_
 have r0:∀(H3:Hp),H3 D=some (.dK (pX e wh k0))->aR D H1 H3->F1 [some (.ref a),some (.ref Y),some (.ref ka),some (.ref D),some L,none] H3:=by
  intro H3 h3 k3
  refine J _ _ ?_
  clear J
  have s3:aa H H3:=λc o x=>k3 c o (ji x n0) (s1 _ _ x)
  have l3:=wP (e:=e) (wh:=wh) (k:=k0)
  refine aj λF2 f2=>?_
  have f6:∀H4,aa H3 H4->F2 [some (.ref a),some (.ref Y),some (.ref ka),some (.ref D),some L,some wx] H4:=λH4 s4=>f2 _ _ (by
   have S:=s3.trans s4
   exact#[_,Z,_,Z,_,Z,.ref a,wx,D,d,ys,wd,_,Z,C.prt.mono (aa.tm S),t0.mono (aa.tm S),C.wdv.mono (aa.tm S),s4 _ _ h3,rg C.fit g0,Pn,λu R tu k=>q u R tu λc o x=>k c o (ji x n0) (S _ _ x)])
  clear f2
  have wk:=C.whv.mono (aa.tm s3)
  have eX:∀(H4:Hp) (j:Nat),aa H3 H4->w0[j]?=some wx->gE (bZ K) (gE (bZ K) (bV 2) (tC (.int 2))) (tC (.int (j:Int))) [some (.ref a),some (.ref Y),some (.ref ka),some (.ref D),some L,none] H4 λx H5=>F2 ([some (.ref a),some (.ref Y),some (.ref ka),some (.ref D),some L,none].set 5 (some x)) H5:=λH4 j s4 hj=>
   #[_,Z,ka,_,_,_,Z,Z,aA.of ((s3.trans s4) _ _ h4),jH (j:=2) Z,wa,_,_,_,Z,Z,aA.of ((s3.trans s4) _ _ h'),jH hj,f6 H4 s4]
  cases wh with
  |rd a' i |wr a' b=>
   obtain⟨p,rfl,B⟩:=wk
   exact#[_,Z,cg,λt N=>#[p,t,_,_,Z,Z,aA.of (je N _ _ B),aA.of jc,.inl #[Z,Z,_,Z,aT (by unfold rR;exact Ox _) (eX _ 0 (je N) G)]]]
  |ask b=>
   obtain⟨p,rfl,B⟩:=wk
   have hb:b=0∨b=1:=by
    have:=C.fit
    cases e with
    |st p l=>cases l<;>exact this.elim
    |ask t T=>exact this
   rcases hb with rfl |rfl
   ·exact#[_,Z,cg,λt N=>#[p,t,_,_,Z,Z,aA.of (je N _ _ B),aA.of jc,.inl #[Z,Z,_,Z,cq Pp (eX _ 1 (je N) G)]]]
   ·exact#[_,Z,cg,λt N=>#[p,t,_,_,Z,Z,aA.of (je N _ _ B),aA.of jc,.inl #[Z,Z,_,Z,aT Pp (eX _ 0 (je N) G)]]]
  |cl f' i0 i=>
   obtain⟨p,c',g,e',rfl,B,a0,_⟩:=wk
   exact#[_,Z,cg,λt N=>#[p,t,_,_,Z,Z,aA.of (je N _ _ B),aA.of jc,.inr #[_,c',_,_,_,Z,aA.of (je N _ _ a0),Z,_,Z,aT Z (eX _ 0 (je N) G)]]]
 have wk:=O.whv
 have dk:=O.dv
 have fk:=O.fit
 have h5:=s1 _ _ h4
 have d0:=cu.deed
 rw[<- C.ed]at d0
 have skip:∀(p:Addr) (W:Str) (r:List V),L= .ref p->H1 p=some (.tup (.str W::r))->nV (.str W) [.str "read",.str "call"]=false->pX e wh k0=k0->gD (iY (gE (Fe K false) (gE (bZ K) (bV 4) (tC (.int 0))) (cV (ar (tC (.str "read")) (ar (tC (.str "call")) bf))))) (uG (bV 3) (gE (bZ K) (gE (bZ K) (bV 2) (tC (.int 1))) (tC (.int 1))) (gQ eR [] E0 (ar (bV 4) bf))) vO { nx:=F1,rt:=Q } [some (.ref a),some (.ref Y),some (.ref ka),some (.ref D),some L,none] H1:=by
  intro p W r I B e2 e3
  subst I
  refine iS λG1 k1 k2=>(jp B dS #[cg,λt N=>#[t,_,Z,.inr (aA.of jc),Z,Z,_,Z,?_]])
  show G1 (nV (.str W) [.str "read",.str "call"]) _
  rw[e2]
  exact k2 _ (r0 _ (by rw[e3];exact am d1 N) λc o _ x=>je N _ _ x)
 have p0:∀(p p':Addr) (W:Str) (r:List V) (i:Int) (x:Str) (y:V) (r':List V),L= .ref p->H1 p=some (.tup (.str W::r))->nV (.str W) [.str "read",.str "call"]=true->dv= .ref p'->H1 p'=some (.tup (y:: .str x::r'))->(∀R:Hp,aa H1 R->Bm R L wh)->(∀(Q':VK) (R:Hp),Q' (.int i) R->se Q' R wh)->pX e wh k0=aZ k0 (.inr x) (.int i)->gD (iY (gE (Fe K false) (gE (bZ K) (bV 4) (tC (.int 0))) (cV (ar (tC (.str "read")) (ar (tC (.str "call")) bf))))) (uG (bV 3) (gE (bZ K) (gE (bZ K) (bV 2) (tC (.int 1))) (tC (.int 1))) (gQ eR [] E0 (ar (bV 4) bf))) vO { nx:=F1,rt:=Q } [some (.ref a),some (.ref Y),some (.ref ka),some (.ref D),some L,none] H1:=by
  intro p p' W r i x y r' I B e2 e4 X e5 e6 e3
  subst I
  subst e4
  refine iS λG1 k1 k2=>(jp B dS #[cg,λt N=>#[t,_,Z,.inr (aA.of jc),Z,Z,_,Z,?_]])
  show G1 (nV (.str W) [.str "read",.str "call"]) _
  rw[e2]
  refine k1 _ #[_,Z,.ref p,wh,Z,e5 _ (je N),e6 _ _ ?_]
  exact#[_,Z,jp (je N _ _ h5) gX #[p',_,_,_,Z,Z,aA.of (je N _ _ X),gX,D,_,Z,.inl #[k0,.inr x,am d1 N,Z,Pn,Z],r0 _ (by rw[e3];exact jc) λc o nc z=>by rw[jh nc];exact je N _ _ z]]
 cases e with
 |ask t T=>
  cases wh with
  |ask b=>obtain⟨p,I,B⟩:=wk;exact skip p _ _ I B Pp Z
  |_=>exact fk.elim
 |st p' l=>
  obtain⟨vs,X,h6,_⟩:=dk
  have ed:dv= .ref p':=d0.1
  cases l with
  |rd x t T=>
   cases wh with
   |rd b i=>obtain⟨p,I,B⟩:=wk;obtain⟨rfl,_⟩:=h6;exact p0 p p' _ _ i x _ _ I B Pp ed X (λR s'=>#[p,I,s' _ _ B]) (λ_ _ h=>h) Z
   |_=>exact fk.elim
  |wr t u T U=>
   cases wh with
   |wr b i=>obtain⟨p,I,B⟩:=wk;exact skip p _ _ I B Pp Z
   |_=>exact fk.elim
  |cl x f' q' ts=>
   cases wh with
   |cl f2 i1 i=>obtain⟨p,c2,g2,e2,I,B,h2,h3⟩:=wk;obtain⟨rfl,_⟩:=h6;exact p0 p p' _ _ i x _ _ I B Pp ed X (λR s'=>#[p,c2,g2,e2,I,s' _ _ B,s' _ _ h2,s' _ _ h3]) (λ_ _ h=>h) Z
   |_=>exact fk.elim
  |st x t T |gv t T=>cases wh<;>exact fk.elim
noncomputable abbrev g9:Stmt:=bM 25
noncomputable abbrev lv:Stmt:=bM 26
noncomputable def Ey(k:a9):DD->Tr
 | .st _ (.rd _ _ T)=>ay [aK "read",ap (T.ev k)]
 | .st _ (.wr _ _ T U)=>ay [aK "write",ap (T.ev k),ap (U.ev k)]
 | .st _ (.cl _ f _ t)=>ay [aK "call",aK f,ay (t.map λc=>ap (c.2.ev k))]
 | .ask _ T=>ay [aK "ask",ap (if T.ev k=0 then 0 else 1)]
 |_=>.nil
inductive gm(g:Addr)(h:List V)(H:Hp)(Q:VK)(a:XK):Prop
 |mk(v:V)(n:Nat)(b:Addr)(d:Df)(j:List Str)(c:Ct)(f:List Int)(e:DD)(_:h=[v,.int (n:Int),.ref b])(_:mj H g d j v)(_:(bJ g d)[n]?=some c)(_:H b=some (.tup (f.map V.int)))(_:f.length=(canon c.M).length)(_:∀i∈f,gF i)(_:e.dd=c.d)(_:Am H j e)(_:∀(u:V) (H':Hp),aP H' (Ey (bg (canon c.M) f) e) u []->aa H H'->Q u H')
inductive gA(f:List V)(H:Hp)(Q:VK)(b:XK):Prop
 |mk(a d:Addr)(e:List (Addr×Tm))(g:List Str)(k:a9)(_:f=[.ref a,.ref d])(_:H a=some (.tup (e.map λc=>V.ref c.1)))(_:e.length<=6)(_:∀c∈e,bY H c.2 c.1/\er g c.2)(_:H d=some (.dK k))(_:GT k)(_:∀(r:Addr) (H':Hp),H' r=some (.tup (e.map λc=>V.int (c.2.ev k)))->aa H H'->Q (.ref r) H')
theorem vf:ai ["terms","numbers"] ["terms","numbers"] (ae g9):=bK
noncomputable def YX:Scope:=#[.function,[(".0",.local),("term",.local),("worth",.globalImplicit),("numbers",.free)],false,false,[]]
theorem xP:(["term","numbers"]:List Str).Nodup:=by decide+kernel
theorem wW:bn ["terms","numbers"] (ae g9) YX ["term","numbers"] 1 [1]:=pY
theorem pI(F:aQ K "worths" "worths" g9 f v)(C:Cl P w K mg base 7 U B z8z (cw K 6) "worth")(M:mg "tuple"=none):af P w K mg base aE 8 f v ["terms","numbers"] gA:=by
 refine F.ok vf ?_ λG A o s H R Q E I h=>?_
 ·rintro _ _ _ _ ⟨a,D,t,g,k,rfl,_⟩
  rfl
 obtain⟨a,D,t,g,k,rfl,p,W,b,J,L,q⟩:=h
 refine#[_,(jf (jm (jP jY Z M NB (ja (@zT _ _ _ _ _ _ _ (["term","numbers"]) (1) ([1]) _ _ _ _ Z (qF (pv 0)) wW (λ_ _ _ _ _=>(jw (i:=0) xP Z (Or.inl Z))) (λ_ _ _ _ _=>(@qg _)) (λ_ _ _ _ _=>(C.e I.m (ja (pv 0) (ja (pv 1) jb)))) (by intro _;rfl)) jb)))),?_]
 have N:=aH
 refine#[_,Z,a,Z,#[_,aA.of p],?_]
 refine Qt (K:=K) (xs:=t.map λc=>V.ref c.1) (by rw[IJ];omega) (λi z d=>z=(t.take i).map (λc=>V.int (c.2.ev k))/\d=H) #[Z,Z] (λi z d h=>?_) (λi x z d r h=>?_) (λz d h l O=>?_)
 ·obtain⟨rfl,rfl⟩:=h
  exact#[aA.of p,by rw[IJ,Lo];omega]
 ·obtain⟨rfl,rfl⟩:=h
  rw[Lc]at r
  obtain⟨y,u,rfl⟩:=Option.map_eq_some_iff.mp r
  have Y:=Lb u
  refine#[_,Z,_,Z,y.1,D,y.2,g,k,Z,.inl (b y Y).1,(b y Y).2.2,(b y Y).2.1,J,L,?_,Z]
  rw[LP,u,Ln]
  rfl
 ·obtain⟨rfl,rfl⟩:=h
  rw[IJ,LA]
  exact#[l,_,Z,.inl #[aJ.of jc,λT n=>q T _ jc ((je O).trans (je n))]]
theorem gi:ai ["part","n","held","numbers","deed","word"] z10z (ae lv):=bK
theorem pk(F:aQ K "deed_at" "deed_at" lv f fd)(cH:Cl P w K mg base 2 fH f0 z10z (iD nA) "held_at")(cC:Cl P w K mg base 1 fC f2 ["part","n"] (iy nA) "cut_at")(cW:Cl P w K mg base 7 fW f3 z8z (cw K 6) "worth")(cS:Cl P w K mg base 8 fS f4 ["terms","numbers"] gA "worths"):af P w K mg base aE 9 f fd z10z (gm nA):=by
 refine F.ok gi ?_ λc0 A o1 s H vs Q E L h=>?_
 ·rintro _ _ _ _ ⟨v,n,hv,d,Y,c,is,e,rfl,_⟩
  rfl
 obtain⟨v,n,hv,d,Y,c,is,e,rfl,hp,hc,hh,hl,h0,h1,h2,q⟩:=h
 refine#[_,(jd (jD 3 gi.nd (cH.e L.m (ja (pv 0) (ja (pv 1) (ja (pv 2) jb))))) (jd (jD 4 gi.nd (jv jE (cC.e L.m (ja (pv 0) (ja (pv 1) jb))) jg (λ_ _=>Z))) (jd (jD 5 gi.nd (ju (pv 4))) (jd (jy (j6 (pv 5)) (jf (jm (jl (ja (pv 5) (ja (kK (jC Jw (cW.e L.m (ja (ju (pv 4)) (ja (pv 3) jb))) jg (aN _)) jg jg) jb))))) jr) (jd (jy (j6 (pv 5)) (jf (jm (jl (ja (pv 5) (ja (ju (pv 4)) (ja (cS.e L.m (ja (ju (pv 4)) (ja (pv 3) jb))) jb)))))) jr) (jd (jy (j6 (pv 5)) (jf (jm (jl (ja (pv 5) (ja (cW.e L.m (ja (ju (pv 4)) (ja (pv 3) jb))) jb))))) jr) (jf (jm (jx ke (jl (ja (pv 5) jb)) (cS.e L.m (ja (jK jV (pv 4) (jN jg) jR) (ja (pv 3) jb)))))))))))),?_]
 have b0:=aH
 obtain⟨a,ca,p0,cs,rfl,ha,_,h7,h'⟩:=hp.parts
 refine aj λi b=>#[_,Z,_,Z,_,Z,.ref a,n,hv,d,Y,c,is,Z,hp,hc,hh,hl,λC n0=>b _ _ ?_]
 clear b
 have S:aa H (ah H C (.dK (bg (canon c.M) is))):=je n0
 have O:ah H C (.dK (bg (canon c.M) is)) C=some (.dK (bg (canon c.M) is)):=jc
 show eP _ _ _ _ (ah H C (.dK (bg (canon c.M) is)))
 generalize ah H C (.dK (bg (canon c.M) is))=H1 at S O
 have V:GT (bg (canon c.M) is):=Kk h0
 generalize bg (canon c.M) is=k at O V q
 have dk:=h2.mono (aa.tm S)
 refine aj λi b=>#[_,Z,_,Z,.ref a,n,d,Y,c,Z,hp.mono (aa.tm S),hc,λka na wa dv w0 cu=>#[ka,_,_,_,Z,Z,aA.of cu.at',gX,b _ _ ?_]]
 clear b
 have D:=cu.deed
 rw[<- h1]at D
 cases e with
 |ask t T=>
  obtain⟨_,p,xs,rfl,g,_,_,y0,z0,rfl,⟨rfl,_⟩,_,_,y1,z1,rfl,⟨rfl,_⟩,e⟩:=D
  have e:z1=[]:=e
  subst e
  refine aj λi b=>(jp g dS (b _ _ ?_))
  clear b
  refine aj λi b=>#[_,Z,Z,_,Z,cq Pp #[_,Z,jp g gX #[_,Z,t,C,T,Y,k,Z,.inl dk.1,dk.2.2,dk.2.1,O,V,Z,_,Z,?_]]]
  by_cases z:T.ev k=0
  ·refine cq (by rw[z];decide+kernel) #[cg,λr G=>q _ _ (jA jc (jk Z jQ (jk Z #[?_,Z] jz))) (S.trans (je G))]
   rw[IU z]
  ·refine aT (by rw[IQ];intro e;injection e with e;exact z e) #[cg,λr G=>q _ _ (jA jc (jk Z jQ (jk Z #[?_,Z] jz))) (S.trans (je G))]
   rw[IX z]
 |st p l=>
  have ed:dv= .ref p:=D.1
  subst ed
  obtain⟨vs,g,I,B,h3⟩:=dk
  cases l with
  |rd x t T=>
   obtain⟨rfl,ht⟩:=I
   refine aj λi b=>(jp g dS (b _ _ ?_))
   clear b
   refine aj λi b=>#[_,Z,Z,_,Z,aT Pp (b _ _ ?_)]
   clear b
   refine aj λi b=>#[_,Z,Z,_,Z,aT Pp (b _ _ ?_)]
   clear b
   refine aj λi b=>#[_,Z,Z,_,Z,cq Pp #[_,Z,_,Z,p,_,_,_,Z,Z,aA.of g,jH (j:=2) Z,_,Z,t,C,T,Y,k,Z,.inl ht,B.2.2,B.2.1,O,V,cg,λr G=>?_]]
   exact q _ _ (jA jc (jk Z jQ (jk Z jT jz))) (S.trans (je G))
  |wr t u T U=>
   obtain⟨rfl,ht,hu⟩:=I
   refine aj λi b=>(jp g dS (b _ _ ?_))
   clear b
   refine aj λi b=>#[_,Z,Z,_,Z,aT Pp (b _ _ ?_)]
   clear b
   refine aj λi b=>#[_,Z,Z,_,Z,aT Pp (b _ _ ?_)]
   clear b
   refine aj λi b=>#[_,Z,Z,_,Z,aT Pp (b _ _ ?_)]
   clear b
   refine#[_,Z,h8,λr1 N=>#[_,Z,1,Z,p,_,Z,je N _ _ g,λr2 H2 J R=>#[_,Z,r2,C,[(t,T),(u,U)],Y,k,Z,J,(by show 2<=6;decide),?_,R _ _ (je N _ _ O),V,λr3 H3 h4 s3=>#[r1,r3,_,_,Z,Z,s3 _ _ (R _ _ jc),h4,m9,λr4 H4 h5 s4=>?_]]]]
   ·intro y W
    have X:=(je (o:=.tup [.str "write"]) N).trans R
    simp only[My,Ll,Nx]at W
    rcases W with rfl |rfl
    ·exact#[ht.same X,B.1]
    ·exact#[hu.same X,B.2]
   ·exact q _ _ (jA h5 (jk Z jQ (jk Z jT (jk Z jT jz)))) (S.trans ((je N).trans (R.trans (s3.trans s4))))
  |cl x f' qa ts=>
   obtain⟨rfl,hq,h6⟩:=I
   refine aj λi b=>(jp g dS (b _ _ ?_))
   clear b
   refine aj λi b=>#[_,Z,Z,_,Z,aT Pp (b _ _ ?_)]
   clear b
   have l6:ts.length<=6:=B.2.1
   refine aj λi b=>#[_,Z,Z,_,Z,cq Pp #[_,Z,_,Z,p,_,_,_,Z,Z,aA.of g,jH (j:=2) Z,_,Z,p,_,_,_,Z,Z,aA.of g,jH (j:=3) Z,_,Z,qa,C,ts,Y,k,Z,hq,l6,λy W=>#[h6 y W,B.2.2 y W],O,V,λr2 H2 J R=>#[m9,λr G=>?_]]]
   refine q _ _ (jA jc (jk Z jQ (jk Z jQ (jk Z (jA (am J G) ?_) jz)))) (S.trans (R.trans (je G)))
   have:=JX (H:=ah H2 r (.tup [.str "call",.str f',.ref r2])) (is:=ts.map λc=>c.2.ev k)
   rw[M1,M1]at this
   exact this
  |st x t T |gv t T=>cases h3
noncomputable abbrev lG:Stmt:=bM 17
noncomputable abbrev nF:Stmt:=bM 18
noncomputable abbrev lB:Stmt:=bM 19
noncomputable abbrev uS:Stmt:=be (bM 20) 0
noncomputable abbrev nL:Stmt:=be (bM 20) 1
noncomputable abbrev uT:Stmt:=be (bM 20) 2
noncomputable abbrev lJ:Stmt:=bM 22
def DZ(H:Hp)(x:V)(g:Str):Prop:=∃p r,x= .ref p/\H p=some (.tup (.str g::r))
inductive lT(c:List V)(H:Hp)(Q:VK)(b:XK):Prop
 |mk(a:Addr)(f:Str)(d:List V)(i:Nat)(v:V)(_:c=[.ref a,.str f])(_:H a=some (.tup d))(_:d[i]?=some v)(_:DZ H v f)(_:∀j x,j < i->d[j]?=some x->∃g,DZ H x g/\g≠f)(_:Q v H)
inductive hX(e:List V)(H:Hp)(Q:VK)(b:XK):Prop
 |mk(a g:Addr)(f:Str)(h k:List V)(i:Nat)(v:V)(p c:Addr)(r d:List V)(_:e=[.ref a,.str f,.ref g])(_:H a=some (.tup h))(_:h[i]?=some v)(_:v= .ref p)(_:H p=some (.tup (.str f:: .ref c::r)))(_:H c=some (.tup d))(_:H g=some (.tup k))(_:k.length=d.length)(_:∀j x,j < i->h[j]?=some x->∃g,DZ H x g/\g≠f)(_:Q v H)
noncomputable def ie(c l p:Addr)(m:Int)(t:Nat):List (Str×V):=[("cells",.ref c),("most",.int m),("left",.ref l),("turns",.int (t:Int)),("parts",.ref p)]
structure Rn(H:Hp)(C r dx cA lA pA:Addr)(m:Int)(t:Nat)(L Cs:a9):Prop where
 ins:H r=some (.ins C dx (ie cA lA pA m t))
 lf:H lA=some (.dK L)
 ce:H cA=some (.dK Cs)
 iL:GT L
 iC:GT Cs
 cl:cA≠lA
structure RK(K:Frag)(C:Addr):Prop where
 cl:nR K C
 n1:aX K C "cells"
 n2:aX K C "most"
 n3:aX K C "left"
 n4:aX K C "turns"
 n5:aX K C "parts"
inductive gr(C:Addr)(h:List V)(H:Hp)(Q:VK)(a:XK):Prop
 |mk(r e d f g:Addr)(m c:Int)(t:Nat)(L b:a9)(_:h=[.ref r,.int c])(_:Rn H C r e d f g m t L b)(_:Q (.int (look L (.inl c) (look b (.inl c) 0))) H)
inductive lX(C:Addr)(d:List V)(H:Hp)(Q:VK)(a:XK):Prop
 |mk(r c b:Addr)(m:Int)(_:d=[.ref r,.ref b,.int m])(_:H r=some (.ins C c []))(_:∀lA,H lA=none->Q .non (ah (ah H lA (.dK [])) r (.ins C c [("cells",.ref b),("most",.int m),("left",.ref lA),("turns",.int 0)])))
structure XM(K:Frag)(mg:Str->Option Value)(x:Str)(L:Addr):Prop where
 ex:excIn K L oU "ValueError.__new__"=true
 kp:keepIn K (.ref L)=true
 xc:rf K L
 ty:typeIn K (.ref L)=some (.type "type")
 m:mg x=some (.ref L)
def NX(o:HO):Prop:=∀a,o≠ .ext a
def Kp(H h:Hp):Prop:=∀b o,NX o->H b=some o->h b=some o
theorem Kp.of_same(s:aa H h):Kp H h:=λb o _ e=>s _ _ e
theorem Kp.trans(a:Kp H h)(b:Kp h d):Kp H d:=λc o n e=>b c o n (a c o n e)
def nX(E:XK):XK:=λC d H=>∀x T t c,C= .ref c->H x=some (gR c d T x)->H T=some (gH T)->H t=none->E (.ref c) d (ah (ah H t (gH t)) x (gR c d t x))
theorem zR{P:Program}{w:World}{K:Frag}{mg:Str->Option Value}{base:Heap}:c7 (fu P w) (fV (fu P w) P w K mg base N q s f g A o a H E) (nX E):=
 yo λx C d T t i b c e h=>h x T t C Z b c e
theorem JY{H h:Hp}(e:h b=some o)(n:NX o)(a:h x=some (gR C d T x))(c:h t=none):ah (ah h t (gH t)) x (gR C d t x) b=some o:=by
 have N:b≠x:=λz=>by
  rw[z,a]at e
  injection e with e
  exact n _ e.symm
 rw[jh N,jh (ji e c)]
 exact e
def Fl(E:XK)(L:Addr)(R:Hp->Prop):Prop:=∀(_:Unit) H,R H->E (.ref L) none H
inductive iG(C L:Addr)(e:List V)(H:Hp)(Q:VK)(E:XK):Prop
 |mk(r b a c d:Addr)(m:Int)(t:Nat)(_:e=[.ref r])(_:H r=some (.ins C b (ie a c d m t)))(_:(t:Int) < m->Q .non (ah H r (.ins C b (ie a c d m (t+1)))))(_:m<=(t:Int)->Fl E L (Kp H))
inductive eO(D:Addr)(a:List V)(H:Hp)(Q:VK)(E:XK):Prop
 |mk(d:Int)(_:a=[.int d])(_:d < 15->Q (.int (d+1)) H)(_:15<=d->Fl E D (Kp H))
theorem XB{H:Hp}(a:H x=none)(N:ah H x (An L none x) T=none):aa H (ah (ah (ah H x (An L none x)) T (gH T)) x (gR L d T x)):=by
 intro b o e
 have n:b≠x:=ji e a
 rw[jh n,jh (λz=>by rw[<- z,jh n,e]at N;cases N),jh n]
 exact e
theorem mz:ai ["ones","f","one"] ["ones","f"] (ae lG):=bK
theorem pE(F:aQ K "named" "named" lG f D):af P w K mg base aE 1 f D ["ones","f"] lT:=by
 refine F.ok mz ?_ λG A o s H W Q E X h=>?_
 ·rintro _ _ _ _ ⟨a,f,xs,i,v,rfl,_⟩
  rfl
 obtain⟨a,f,xs,i,v,rfl,t,u,L,d,q⟩:=h
 refine#[_,(jd (j7 Lp Z (qF (pv 0)) (jw (i:=2) mz.nd Z (Or.inl Z)) (jf (jy (jC Jw (ju (pv 2)) (pv 1) (aN _)) (jf (jm (pv 2))) jr))) (@uu _ _)),?_]
 have M:i < xs.length:=(List.getElem?_eq_some_iff.mp u).1
 refine aj λY f1=>dq λJ j=>#[_,Z,a,Z,#[_,aA.of t],j _ _ ?_]
 clear j
 refine q8 (K:=K) (xs:=xs) (λk c e=>(∃O,c=[some (.ref a),some (.str f),O])/\e=H/\k<=i) #[#[_,Z],Z,IS _] (λk c e _ h=>by rw[h.2.1];exact aA.of t) ?_ (λc e h=>?_)
 ·intro l R k x c H2 m N I b h
  obtain⟨⟨O,rfl⟩,rfl,y⟩:=h
  refine b ?_
  clear b
  by_cases S:k=i
  ·subst S
   rw[u]at m
   cases m
   obtain⟨p,r,rfl,n⟩:=id L
   show gD _ _ _ l _ _
   refine iS λT B C=>(jp n dS #[_,Z,Z,_,Z,?_])
   rw[IV (Z:V.str f=V.str f)]
   refine B _ ?_
   show iM _ l _ _
   unfold iM
   rw[R]
   exact#[_,Z,q]
  ·obtain⟨g,⟨p,r,rfl,n⟩,U⟩:=d k x Pn m
   show gD _ _ _ l _ _
   refine iS λT B C=>(jp n dS #[_,Z,Z,_,Z,?_])
   rw[IQ (λz=>U (by injection z))]
   exact C _ (N _ _ #[#[_,Z],Z,Pn])
 ·obtain⟨_,_,y⟩:=h
  exact absurd y Pn
theorem vb:ai ["parts","f"] ["parts","f"] (ae lJ):=bK
theorem pH(F:aQ K "part_of" "part_of" lJ f c)(C:Cl P w K mg base 1 r d ["ones","f"] lT "named"):af P w K mg base aE 2 f c ["parts","f"] lT:=by
 refine F.ok vb ?_ λg A o s H V Q E j h=>?_
 ·rintro _ _ _ _ ⟨a,f,x,i,v,rfl,_⟩
  rfl
 obtain⟨a,f,x,i,v,rfl,l,n,p,b,q⟩:=h
 refine#[_,(jf (jm (C.e j.m (ja (pv 0) (ja (pv 1) jb))))),?_]
 exact#[_,Z,_,Z,a,f,x,i,v,Z,l,n,p,b,q]
theorem oh:ai ["ones","f","args","one"] ["ones","f","args"] (ae nF):=bK
theorem tL(F:aQ K "begun" "begun" nF f j)(C:Cl P w K mg base 1 N l ["ones","f"] lT "named")(M:mg "len"=none):af P w K mg base aE 2 f j ["ones","f","args"] hX:=by
 refine F.ok oh ?_ λn A o s H V Q E t h=>?_
 ·rintro _ _ _ _ ⟨a,g,f,x,y,i,v,p,c,r,u,rfl,_⟩
  rfl
 obtain⟨a,g,f,x,y,i,v,p,c,r,u,rfl,z,B,rfl,d,D,G,I,J,q⟩:=h
 refine#[_,(jd (jD 3 oh.nd (C.e t.m (ja (pv 0) (ja (pv 1) jb)))) (jd (jy (jC Xa (jO jL Z M Mf (ja (pv 2) jb)) (jO jL Z M Mf (ja (ju (pv 3)) jb)) (aN _)) (@uu _ _) jr) (jf (jm (pv 3))))),?_]
 refine aj λL b=>#[_,Z,_,Z,a,f,x,i,.ref p,Z,z,B,#[p,_,Z,d],J,b _ _ ?_]
 clear b
 refine aj λL b=>#[_,Z,g,_,Z,.inr (aA.of G),jp d gX #[c,_,Z,.inr (aA.of D),Z,_,Z,aT (by rw[I];simp) (b _ _ #[_,Z,q])]]
theorem uX:ai ["deep"] ["deep"] (ae lB):=bK
theorem pq(F:aQ K "deeper" "deeper" lB f a)(M:mg "DEEPEST"=some (.int 15 t))(X:XM K mg "TooDeep" D):af P w K mg base (fu P w) 1 f a ["deep"] (eO D):=by
 refine F.ok1 uX ?_ λC A o s H V Q E g h=>?_
 ·rintro _ _ _ _ ⟨d,rfl,_⟩
  rfl
 obtain⟨d,rfl,q,e⟩:=h
 refine#[_,(jd (jy (jC ue (pv 0) (qM (v:=.int 15) Z M #[t,Z]) (aN _)) (jf (@Xn _ _ _ _ _ Z Qo (@Ql _ _ _ _ _ X.ex X.kp Z X.m Pm))) jr) (jf (jm (jx j8 (pv 0) jg)))),?_]
 refine aj λi b=>#[_,Z,_,_,Z,Z,_,Z,?_]
 by_cases c:(15:Int)<=d
 ·refine cq (IV c) λx n=>?_
  exact#[x,D,none,Z,jc,X.xc,X.ty,λT N=>e c () _ (Kp.of_same (XB n N))]
 ·exact aT (IQ c) (b _ _ #[_,Z,_,_,Z,Z,q Pn])
theorem Dy:ai z20z z20z (ae uS):=bK
theorem yi(F:aQ K "__init__" "Turns.__init__" uS f v)(c:RK K C):af P w K mg base aE 1 f v z20z (lX C):=by
 refine F.ok Dy ?_ λx A o s H V Q E B h=>?_
 ·rintro _ _ _ _ ⟨r,D,y,m,rfl,_⟩
  rfl
 obtain⟨r,D,y,m,rfl,g,q⟩:=h
 refine#[_,(jd (@zr _ _ _ _ _ _ _ _ (pv 0) (pv 1) Z) (jd (@zr _ _ _ _ _ _ _ _ (pv 0) (pv 2) Z) (jd (@zr _ _ _ _ _ _ _ _ (pv 0) Xm Z) (jf (@zr _ _ _ _ _ _ _ _ (pv 0) jg Z))))),?_]
 refine aj λj a=>#[_,Z,_,Z,r,C,D,_,Z,g,c.cl,c.n1,Pm,a _ _ ?_]
 clear a
 refine aj λj a=>#[_,Z,_,Z,r,C,D,_,Z,jc,c.cl,c.n2,(by show 1 < 1000;decide),a _ _ ?_]
 clear a
 refine aj λj a=>λl n=>#[_,Z,r,C,D,_,Z,am jc n,c.cl,c.n3,(by show 2 < 1000;decide),a _ _ ?_]
 clear a
 refine#[_,Z,r,C,D,_,Z,jc,c.cl,c.n4,(by show 3 < 1000;decide),?_]
 have N:l≠r:=λe=>by rw[e,jc]at n;cases n
 have z:H l=none:=by rw[jh N,jh N]at n;exact n
 have e:∀p t u O:HO,ah (ah (ah (ah (ah H r p) r t) l (.dK [])) r u) r O=ah (ah H l (.dK [])) r O:=λp t u O=>by
  funext b
  by_cases d:b=r
  ·rw[d,jc,jc]
  ·rw[jh d,jh d,jh d]
   by_cases i:b=l
   ·rw[i,jc,jc]
   ·rw[jh i,jh d,jh d,jh i]
 rw[e]
 exact q l z
theorem yR:ai ["self"] ["self"] (ae nL):=bK
theorem tU(F:aQ K "take_turn" "Turns.take_turn" nL f g)(b:RK K C)(X:XM K mg "TooLong" L):af P w K mg base (fu P w) 1 f g ["self"] (iG C L):=by
 refine F.ok1 yR ?_ λi A o s H v Q E y h=>?_
 ·rintro _ _ _ _ ⟨r,d,j,l,p,m,t,rfl,_⟩
  rfl
 obtain⟨r,d,j,l,p,m,t,rfl,a,q,e⟩:=h
 refine#[_,(jd (jy (jC ue (jX (pv 0) Z) (jX (pv 0) Z) (aN _)) (jf (@Xn _ _ _ _ _ Z Qo (@Ql _ _ _ _ _ X.ex X.kp Z X.m Pm))) jr) (jf (@ZO _ _ _ _ _ _ _ _ _ _ (pv 0) jg BM))),?_]
 refine aj λz n=>#[_,Z,r,C,d,_,_,Z,a,b.cl,b.n4,Z,_,Z,r,C,d,_,_,Z,a,b.cl,b.n2,Z,_,_,Z,Z,_,Z,?_]
 by_cases c:m<=(t:Int)
 ·refine cq (IV c) λx N=>?_
  exact#[x,L,none,Z,jc,X.xc,X.ty,λT u=>e c () _ (Kp.of_same (XB N u))]
 ·exact aT (IQ c) (n _ _ #[_,Z,r,C,d,_,_,Z,a,b.cl,b.n4,Z,_,_,Z,Z,d,_,a,(by show 5 < 1000;decide),q Pn])
theorem DA:ai ["self","cell"] ["self","cell"] (ae uT):=bK
theorem yj(F:aQ K "number_in" "Turns.number_in" uT f p)(b:RK K C):af P w K mg base aE 1 f p ["self","cell"] (gr C):=by
 refine F.ok DA ?_ λu A o s H V Q E g h=>?_
 ·rintro _ _ _ _ ⟨r,d,i,l,x,m,c,t,L,j,rfl,_⟩
  rfl
 obtain⟨r,d,i,l,x,m,c,t,L,j,rfl,a,q⟩:=h
 refine#[_,(jf (jm (kK (Kd (@C4 _ _ _ _ _ (zB g) (pv 1) (jX (pv 0) Z))) (yq (zB g) (jX (pv 0) Z) (pv 1) (λ_ _=>Z)) (@Kq _ _ _ _ _ _ _ _ _ (zB g) (jX (pv 0) Z) (pv 1) jg #[Pq,Pq,Pq,Pq])))),?_]
 refine#[_,Z,_,Z,r,C,d,_,_,Z,a.ins,b.cl,b.n3,Z,l,_,Z,fK.k (k:=.inl c) a.lf,_,Z,?_]
 cases e:bN L (.inl c) with
 |some v=>
  refine cq Z #[_,Z,r,C,d,_,_,Z,a.ins,b.cl,b.n3,Z,_,Z,l,v,Z,by rw[<- e];exact fK.k (k:=.inl c) a.lf,?_]
  rw[ph a.iL e (look j (.inl c) 0)]
  exact q
 |none=>
  refine aT Z #[_,Z,r,C,d,_,_,Z,a.ins,b.cl,b.n1,Z,i,Z,.inl #[_,.inl a.ce],_,Z,_,fK.k (k:=.inl c) a.ce,?_]
  rw[Kr a.iC]
  rw[pf e]at q
  exact q
noncomputable abbrev uF:Stmt:=be (bM 55) 0
noncomputable abbrev yy:Stmt:=be (bM 55) 1
noncomputable abbrev yz:Stmt:=be (bM 55) 2
noncomputable abbrev Dq:Stmt:=bM 56
inductive Sk where
 |nil |st (n:Int) (hs:List Int) (w r:Sk) |ask (b:Int) |rd (c i:Int) |wr (c i:Int) |cl (f:Str) (is:List Int) (s:Sk) (a:Int)
noncomputable def Sk.dep:Sk->Nat
 | .st _ _ w r=>max w.dep r.dep
 | .cl _ _ s _=>s.dep+1
 |_=>0
noncomputable def Sk.size:Sk->Nat
 | .st _ _ w r=>w.size+r.size+1
 | .cl _ _ s _=>s.size
 |_=>0
def Sk.ok:Bool->Sk->Prop
 |true,.nil=>True
 |true,.st _ _ w r=>w.ok false/\r.ok true
 |false,.cl _ _ s _=>s.ok true
 |false,.ask _=>True
 |false,.rd _ _=>True
 |false,.wr _ _=>True
 |_,_=>False
def dm(H:Hp):Sk->V->List V->Prop
 | .nil,_,x=>x=[]
 | .st n d w r,_,x=>∃p h u y,x= .ref p::y/\H p=some (.tup [.int n,.ref h,u])/\H h=some (.tup (d.map V.int))/\dm H w u []/\dm H r .non y
 | .ask b,u,_=>∃p,u= .ref p/\H p=some (.tup [.str "ask",.int b])
 | .rd c i,u,_=>∃p,u= .ref p/\H p=some (.tup [.str "read",.int c,.int i])
 | .wr c i,u,_=>∃p,u= .ref p/\H p=some (.tup [.str "write",.int c,.int i])
 | .cl f I s a,u,_=>∃p c g e S,u= .ref p/\H p=some (.tup [.str "call",.ref c])/\H c=some (.tup [.str f,.ref g,.ref e,.int a])/\H g=some (.tup (I.map V.int))/\H e=some (.tup S)/\dm H s .non S
theorem dm.mono(k:ax H i):∀{s:Sk} {u:V} {x:List V},dm H s u x->dm i s u x
 | .nil,_,_,h=>h
 | .st _ _ _ _,_,_,z=>by obtain⟨p,h,u,y,e,a,b,d,f⟩:=z;exact #[p,h,u,y,e,k _ _ a,k _ _ b,dm.mono k d,dm.mono k f]
 | .ask _,_,_,z=>by obtain⟨p,e,h⟩:=z;exact #[p,e,k _ _ h]
 | .rd _ _,_,_,z=>by obtain⟨p,e,h⟩:=z;exact #[p,e,k _ _ h]
 | .wr _ _,_,_,z=>by obtain⟨p,e,h⟩:=z;exact #[p,e,k _ _ h]
 | .cl _ _ _ _,_,_,z=>by obtain⟨p,c,g,e,S,E,a,b,d,f,j⟩:=z;exact #[p,c,g,e,S,E,k _ _ a,k _ _ b,k _ _ d,k _ _ f,dm.mono k j]
noncomputable def Sk.put(n:Int)(h:List Int)(W:Sk):Sk->Sk
 | .st a b c r=>.st a b c (Sk.put n h W r)
 |_=>.st n h W .nil
theorem AW{H:Hp}{n:Int}{a:List Int}{w:Sk}{p h:Addr}{u:V}(b:H p=some (.tup [.int n,.ref h,u]))(c:H h=some (.tup (a.map V.int)))(d:dm H w u []):∀{s:Sk} {x:List V},s.ok true->dm H s .non x->dm H (Sk.put n a w s) .non (x++[.ref p])
 | .nil,_,_,e=>by have e:_=[]:=e;rw[e];exact#[p,h,u,[],Z,b,c,d,Z]
 | .st _ _ _ r,_,o,z=>by obtain⟨f,g,U,y,e,i,j,k,l⟩:=z;rw[e];exact#[f,g,U,y++[.ref p],Z,i,j,k,AW b c d o.2 l]
theorem Zq{w:Sk}(h:w.ok false):∀{s:Sk},s.ok true->(Sk.put n H w s).ok true
 | .nil,_=>#[h,trivial]
 | .st _ _ _ _,o=>#[o.1,Zq h o.2]
theorem XC{n:Int}{hs:List Int}{w:Sk}:∀{s:Sk},s.ok true->(Sk.put n hs w s).size=s.size+(w.size+1)
 | .nil,_=>by show w.size+0+1=0+(w.size+1);omega
 | .st _ _ c r,o=>by have:=XC (n:=n) (hs:=hs) (w:=w) (s:=r) o.2;show c.size+(Sk.put n hs w r).size+1=c.size+r.size+1+(w.size+1);omega
theorem Zr{n:Int}{hs:List Int}{w:Sk}{j:Nat}(H:w.dep<=j):∀{s:Sk},s.ok true->s.dep<=j->(Sk.put n hs w s).dep<=j
 | .nil,_,_=>by show max w.dep 0<=j;omega
 | .st _ _ c r,o,h=>by have h:max c.dep r.dep<=j:=h;have:=Zr (n:=n) (hs:=hs) H (s:=r) o.2 Pn;show max c.dep (Sk.put n hs w r).dep<=j;omega
theorem qI:∀{s:Sk} {x:List V},s.ok true->dm H s .non x->x.length<=s.size
 | .nil,_,_,e=>by have e:_=[]:=e;rw[e];exact IK 0
 | .st _ _ w r,_,o,z=>by obtain⟨_,_,_,y,e,_,_,_,h⟩:=z;have:=qI o.2 h;rw[e];show y.length+1<=w.size+r.size+1;omega
def mf(H:Hp)(f:Str)(i:List Int)(s:Sk)(a:Int)(u:V):Prop:=∃c g e S,u= .ref c/\H c=some (.tup [.str f,.ref g,.ref e,.int a])/\H g=some (.tup (i.map V.int))/\H e=some (.tup S)/\dm H s .non S
noncomputable def Sk.wh:Sk->Wh
 | .ask b=>.ask b
 | .rd c i=>.rd c i
 | .wr c i=>.wr c i
 | .cl f I _ a=>.cl f I a
 |_=>.ask 0
theorem HK{s:Sk}(o:s.ok false)(h:dm H s u []):Bm H u s.wh:=by
 cases s with
 |nil |st=>exact o.elim
 |ask b |rd c i |wr c i=>exact h
 |cl f I s a=>obtain⟨p,c,g,e,S,E,d,j,k,_⟩:=h;exact#[p,c,g,.ref e,E,d,j,k]
inductive Gd where
 |give (a:Int) |go (n:Nat) (hs:List Int)
noncomputable def kb(N:Nat->List Str)(k:a9):Gl->Gd
 | .give _ T=>.give (T.ev k)
 | .nought=>.give 0
 | .go n=>.go n ((N n).map λx=>look k (.inr x) 0)
structure D9 where
 nm:List Str
 e:DD
 ws:List WD
structure eV where
 f:Str
 ps:List Str
 way:WD
 cs:List D9
structure D'(H:Hp)(ys:List Str)(nA:Addr)(d:Df)(c:Ct)(cd:D9):Prop where
 nm:cd.nm=canon c.M
 ed:cd.e.dd=c.d
 dv:Am H ys cd.e
 cs:cd.e.Cs d.b.calls
 len:cd.ws.length=c.ws.length
 ws:∀(j:Nat) (w:Wy) (wd:WD),c.ws[j]?=some w->cd.ws[j]?=some wd->wd.wy nA=w/\wB H ys d.b.cuts d.b.size wd
structure wL(H:Hp)(nA:Addr)(d:Df)(ys:List Str)(pd:eV):Prop where
 f:pd.f=d.f
 ps:H d.pa=some (.tup (pd.ps.map V.str))
 wy:pd.way.wy nA=(gN nA d).1.w
 wv:wB H ys d.b.cuts d.b.size pd.way
 len:pd.cs.length=(bJ nA d).length
 cs:∀(n:Nat) (c:Ct) (cd:D9),(bJ nA d)[n]?=some c->pd.cs[n]?=some cd->D' H ys nA d c cd
theorem D'.mono(k:ax H f)(h:D' H y n d c C):D' f y n d c C:=#[h.nm,h.ed,h.dv.mono k,h.cs,h.len,λj w W a b=>let #[e,v]:=h.ws j w W a b;#[e,v.mono k]]
theorem wL.mono(k:ax H e)(h:wL H N d y p):wL e N d y p:=#[h.f,k _ _ h.ps,h.wy,h.wv.mono k,h.len,λn c C a b=>(h.cs n c C a b).mono k]
theorem wQ{c d:Type}{R:c->d->Prop}:∀(l:List c),(∀a∈l,∃b,R a b)->∃m:List d,m.length=l.length/\∀(i:Nat) (a:c) (b:d),l[i]?=some a->m[i]?=some b->R a b
 | [],_=>#[[],Z,λi a b h=>by simp at h]
 |a::l,h=>by
  obtain⟨b,g⟩:=h a Li
  obtain⟨m,e,j⟩:=wQ l λx k=>h x (Le _ k)
  refine#[b::m,by rw[Lm,Lm,e],λi x y H f=>?_]
  cases i with
  |zero=>cases H;cases f;exact g
  |succ i=>exact j i x y (by simpa using H) (by simpa using f)
noncomputable def wD(p:eV)(n:Nat):List Str:=match p.cs[n]? with
 |some c=>c.nm
 |none=>[]
theorem wL.nms(h:wL H N d y p):dW N d=wD p:=by
 funext n
 unfold dW wD
 by_cases a:n < p.cs.length
 ·have b:n < (bJ N d).length:=by rw[<- h.len];exact a
  rw[IG a,IG b]
  exact(h.cs n _ _ (IG b) (IG a)).nm.symm
 ·rw[LV (NZ a),LV (by rw[<- h.len];exact NZ a)]
inductive OW where
 |ok (w:Sk) (L:a9) (t:Nat) |long |deep
inductive OC where
 |ok (s:Sk) (a:Int) (L:a9) (t:Nat) |long |deep
noncomputable def OC.cons(n:Int)(h:List Int)(w:Sk):OC->OC
 | .ok s a L t=>.ok (.st n h w s) a L t
 | .long=>.long
 | .deep=>.deep
noncomputable def Sk.app:Sk->Sk->Sk
 | .st n h w r,s=>.st n h w (r.app s)
 |_,s=>s
noncomputable def OC.pre(S:Sk):OC->OC
 | .ok s a L t=>.ok (S.app s) a L t
 | .long=>.long
 | .deep=>.deep
theorem XD:∀{s:Sk},s.ok true->s.app .nil=s
 | .nil,_=>rfl
 | .st n h w r,o=>by show Sk.st n h w (r.app .nil)=_;rw[XD o.2]
theorem Zs{w:Sk}:∀{s:Sk},s.ok true->(Sk.put n h w s).app q=s.app (.st n h w q)
 | .nil,_=>rfl
 | .st a b c r,o=>by show Sk.st a b c ((Sk.put n h w r).app q)=Sk.st a b c (r.app (.st n h w q));rw[Zs o.2]
theorem ut{w s:Sk}(o:OC)(h:s.ok true):(o.cons n H w).pre s=o.pre (Sk.put n H w s):=by
 cases o with
 |ok q a L t=>show OC.ok (s.app (.st n H w q)) a L t= .ok ((Sk.put n H w s).app q) a L t;rw[Zs h]
 |long |deep=>rfl
abbrev nh:=Str->List Int->a9->Nat->OC
noncomputable def OC.cl(f:Str)(i:List Int):OC->OW
 | .ok s a L t=>.ok (.cl f i s a) L t
 | .long=>.long
 | .deep=>.deep
noncomputable def gY(call:nh)(C:a9)(k L:a9)(t:Nat)(e:DD):OW:=if t < 60 then match e with
 | .ask _ T=>.ok (.ask (if T.ev k=0 then 0 else 1)) L (t+1)
 | .st _ (.rd _ _ T)=>.ok (.rd (T.ev k) (look L (.inl (T.ev k)) (look C (.inl (T.ev k)) 0))) L (t+1)
 | .st _ (.wr _ _ T U)=>.ok (.wr (T.ev k) (U.ev k)) (aZ L (.inl (T.ev k)) (.int (U.ev k))) (t+1)
 | .st _ (.cl _ f _ a)=>(call f (a.map λc=>c.2.ev k) L (t+1)).cl f (a.map λc=>c.2.ev k)
 |_=>.long
 else .long
theorem Zt{call:nh}(h:¬t < 60):gY call C k L t e= .long:=by unfold gY;rw[IX h]
theorem Yh{call:nh}(h:t < 60):gY call C k L t (.ask p T)= .ok (.ask (if T.ev k=0 then 0 else 1)) L (t+1):=by unfold gY;rw[IU h]
theorem rL{call:nh}(h:t < 60):gY call C k L t (.st p (.rd x a T))= .ok (.rd (T.ev k) (look L (.inl (T.ev k)) (look C (.inl (T.ev k)) 0))) L (t+1):=by unfold gY;rw[IU h]
theorem rM{call:nh}(h:t < 60):gY call C k L t (.st p (.wr a b T U))= .ok (.wr (T.ev k) (U.ev k)) (aZ L (.inl (T.ev k)) (.int (U.ev k))) (t+1):=by unfold gY;rw[IU h]
theorem K8{call:nh}(h:t < 60):gY call C k L t (.st p (.cl x f q T))=(call f (T.map λc=>c.2.ev k) L (t+1)).cl f (T.map λc=>c.2.ev k):=by unfold gY;rw[IU h]
noncomputable def CU(p:eV)(c:D9)(h:List Int)(w:Wh):Gd:=match c.ws[w.side]? with
 |some W=>kb (wD p) (db W.sets (pX c.e w (bg c.nm h))) W.goal
 |none=>.give 0
noncomputable def m6(call:nh)(C:a9)(p:eV):Nat->Gd->a9->Nat->OC
 |0,_,_,_=>.long
 |_+1,.give a,L,t=>.ok .nil a L t
 |m+1,.go n h,L,t=>match p.cs[n]? with
  |none=>.long
  |some c=>match gY call C (bg c.nm h) L t c.e with
   | .ok w l T=>(m6 call C p m (CU p c h w.wh) l T).cons (n:Int) h w
   | .long=>.long
   | .deep=>.deep
noncomputable def eX:List eV->Str->Option eV
 | [],_=>none
 |p::r,f=>if p.f=f then some p else eX r f
theorem Zu:∀{b:List eV} {i:Nat} {a:eV},b[i]?=some a->(∀(j:Nat) (p:eV),j < i->b[j]?=some p->p.f≠a.f)->eX b a.f=some a
 | [],i,a,h,_=>by simp at h
 |p::r,0,a,h,_=>by cases h;show(if p.f=p.f then some p else _)=_;rw[IU Z]
 |p::r,i+1,a,h,k=>by
  show(if p.f=a.f then some p else eX r a.f)=_
  rw[IX (k 0 p (Nat.succ_pos _) Z)]
  exact Zu (i:=i) (by simpa using h) λj q H c=>k (j+1) q (Nat.succ_lt_succ H) (by simpa using c)
noncomputable def cf(p:List eV)(C:a9):Nat->nh
 |0=>λ_ _ _ _=>.deep
 |j+1=>λf i L t=>match eX p f with
  |none=>.long
  |some a=>m6 (cf p C j) C a 62 (kb (wD a) (db a.way.sets (bg a.ps i)) a.way.goal) L t
structure Ps(H:Hp)(nA pA:Addr)(ds:List Df)(ns:List Nat)(xs:List V)(pds:List eV):Prop where
 at':H pA=some (.tup xs)
 tr:aP H (au (ds.map (fe nA))) .non xs
 dv:∃zs,dH H ds zs
 ok:oM ds ns
 pa:pW H ds ns
 dl:pds.length=ds.length
 pr:∀(i:Nat) (d:Df) (pd:eV),ds[i]?=some d->pds[i]?=some pd->∃ys,(d.b.Ok ys/\ys.length<=20)/\wL H nA d ys pd
theorem Ps.mono(h:Ps H n c D N x p)(k:ax H e):Ps e n c D N x p:=#[k _ _ h.at',h.tr.mono k,let #[f,z]:=h.dv;#[f,z.mono k],h.ok,h.pa.mono k,h.dl,λi d g a b=>let #[Y,y,r]:=h.pr i d g a b;#[Y,y,r.mono k]]
theorem Zv(h:aP H (fe n d) v []):DZ H v d.f:=by
 obtain⟨_,a,x,rfl,b,_,_,Y,y,rfl,⟨rfl,_⟩,_⟩:=h
 exact#[a,_,Z,b]
theorem rO:∀{D:List Df} {z:List V},dH H D z->∀{i:Nat} {d:Df},D[i]?=some d->∃B,dQ H d.b B
 |_::_,_,q,0,d,a=>by obtain⟨u,r,e,⟨B,_,_,_,h⟩,c⟩:=q;cases a;exact#[B,h]
 |_::_,_,#[u,r,e,_,c],i+1,d,a=>rO c (by simpa using a)
section
variable {H:Hp}{nA pA:Addr}{ds:List Df}{ns:List Nat}{xs:List V}{pds:List eV}
theorem Ps.part(h:Ps H nA pA ds ns xs pds){i:Nat}{d:Df}{v:V}(b:ds[i]?=some d)(q:xs[i]?=some v):∃y c,mj H nA d y v/\pds[i]?=some c/\wL H nA d y c/\eX pds d.f=some c:=by
 obtain⟨T,n,t⟩:=qH h.tr i v q
 rw[Lc,b]at n
 cases n
 obtain⟨z,r⟩:=h.dv
 obtain⟨_,_,s⟩:=(h.ok.1 d (Lb b)).1
 have u:i < ds.length:=(List.getElem?_eq_some_iff.mp b).1
 have g:pds[i]?=some (pds[i]'(by rw[h.dl];exact u)):=IG _
 obtain⟨y,⟨O,Y⟩,k⟩:=h.pr i d _ b g
 refine#[y,_,#[t,rO r b,O,Y,s],g,k,?_]
 rw[<- k.f]
 refine Zu g λj p A l e=>?_
 have a:j < ds.length:=by omega
 obtain⟨_,_,m⟩:=h.pr j _ p (IG a) l
 rw[m.f,k.f]at e
 have x:(ds.map Df.f)[j]?=some (ds[j]).f:=by rw[Lc,IG a];rfl
 have o:(ds.map Df.f)[i]?=some d.f:=by rw[Lc,b];rfl
 rw[<- e]at o
 have:=(List.getElem?_inj (by rw[IJ];exact a) h.ok.2.1).mp (x.trans o.symm)
 omega
theorem Ps.cs(h:Ps H nA pA ds ns xs pds){i:Nat}{d:Df}(a:ds[i]?=some d):∀f∈d.b.calls,f∈(ds.map Df.f).zip ns:=zy (h.ok.1 d (Lb a)).2
theorem Ps.at(h:Ps H nA pA ds ns xs pds){i:Nat}{d:Df}(b:ds[i]?=some d):∃v,xs[i]?=some v/\aP H (fe nA d) v []/\DZ H v d.f/\∀j x,j < i->xs[j]?=some x->∃g,DZ H x g/\g≠d.f:=by
 have L:=zd h.tr
 rw[IJ]at L
 have r:i < ds.length:=(List.getElem?_eq_some_iff.mp b).1
 have t:∀(j:Nat) (x:V),xs[j]?=some x->∃c,ds[j]?=some c/\aP H (fe nA c) x []:=λj x k=>by
  obtain⟨s,m,t⟩:=qH h.tr j x k
  rw[Lc]at m
  obtain⟨c,a,rfl⟩:=Option.map_eq_some_iff.mp m
  exact#[c,a,t]
 have n:xs[i]?=some (xs[i]'Pn):=IG Pn
 obtain⟨c,a,T⟩:=t _ _ n
 rw[b]at a
 cases a
 refine#[_,n,T,Zv T,λj x u k=>?_]
 obtain⟨c,a,q⟩:=t j x k
 refine#[c.f,Zv q,λe=>?_]
 have o:(ds.map Df.f)[j]?=some c.f:=by rw[Lc,a];rfl
 have p:(ds.map Df.f)[i]?=some d.f:=by rw[Lc,b];rfl
 rw[<- e]at p
 have l:j < (ds.map Df.f).length:=(List.getElem?_eq_some_iff.mp o).1
 have:=(List.getElem?_inj l h.ok.2.1).mp (o.trans p.symm)
 omega
theorem Ps.find(h:Ps H nA pA ds ns xs pds)(a:(f,n)∈(ds.map Df.f).zip ns):∃(i:Nat) (d:Df),ds[i]?=some d/\ns[i]?=some n/\d.f=f:=by
 obtain⟨i,b,e⟩:=List.mem_iff_getElem.mp a
 have E:((ds.map Df.f).zip ns)[i]?=some (f,n):=by rw[<- e];exact IG b
 rw[O7]at E
 rw[Lc]at E
 obtain⟨d,c,g⟩:=Option.map_eq_some_iff.mp E.1
 exact#[i,d,c,E.2,g]
end
theorem Rn.tm(h:Rn H C r d c l p m t L f)(k:dy r l H a):ax H a:=λb x e=>k b _ (jS e h.ins (by intro z;cases z)) (jS e h.lf (by intro z;cases z)) e
theorem Rn.same(h:Rn H C r d c l p m t L a)(s:aa H b):Rn b C r d c l p m t L a:=#[s _ _ h.ins,s _ _ h.lf,s _ _ h.ce,h.iL,h.iC,h.cl]
theorem Rn.rl(h:Rn H C r d c l p m t L a):r≠l/\r≠c:=#[jS h.ins h.lf (by intro z;cases z),jS h.ins h.ce (by intro z;cases z)]
def DW(r l:Addr)(H h:Hp):Prop:=∀b o,b≠r->b≠l->NX o->H b=some o->h b=some o
theorem Fl.next(h:Fl E L (DW r l H)):Fl (nX E) L (DW r l H):=λd i k x T t c e a j f=>by
 cases e
 exact h d _ λb o N g n e=>JY (H:=H) (k b o N g n e) n a f
theorem Fl.nextK(h:Fl E L (Kp H)):Fl (nX E) L (Kp H):=λd g k x T t c e a i f=>by
 cases e
 exact h d _ λb o n e=>JY (H:=H) (k b o n e) n a f
theorem Fl.mono{R S:Hp->Prop}(h:Fl E L R)(k:∀H,S H->R H):Fl E L S:=λd H s=>h d H (k H s)
inductive lU(C:Addr)(e:List V)(H:Hp)(Q:VK)(a:XK):Prop
 |mk(r c d b:Addr)(m:Int)(_:e=[.ref r,.ref d,.ref b,.int m])(_:H r=some (.ins C c []))(_:∀lA,H lA=none->Q .non (ah (ah H lA (.dK [])) r (.ins C c (ie b lA d m 0))))
def nD(A B:Prop)(E:XK)(T t:Addr)(R:Hp->Prop):Prop:=(A->Fl E T R)/\(B->Fl E t R)
theorem nD.mono{R S:Hp->Prop}(h:nD A B E T t R)(k:∀H,S H->R H):nD A B E T t S:=#[λa=>(h.1 a).mono k,λb=>(h.2 b).mono k]
theorem nD.next(h:nD A B E T t (DW r l H)):nD A B (nX E) T t (DW r l H):=#[λa=>(h.1 a).next,λb=>(h.2 b).next]
theorem nD.imp{R:Hp->Prop}(h:nD A B E T t R)(a:c->A)(b:d->B):nD c d E T t R:=#[λx=>h.1 (a x),λx=>h.2 (b x)]
inductive dM(C g f p:Addr)(j:Nat)(w:List V)(H:Hp)(Q:VK)(E:XK):Prop
 |mk(r m k o s h:Addr)(b t i:Nat)(L e:a9)(v:V)(d:Df)(l:List Df)(q:List Nat)(x:List V)(c:List eV)(n:List Int)(_:w=[.ref r,v,.ref h,.int (b:Int)])(_:b+j=16)(_:1<=j)(_:Rn H C r m k o s 60 t L e)(_:L.length<=t)(_:t<=60)(_:Ps H p s l q x c)(_:l[i]?=some d)(_:q[i]?=some n.length)(_:x[i]?=some v)(_:H h=some (.tup (n.map V.int)))(_:∀z∈n,gF z)(_:∀(u:V) (sk:Sk) (a:Int) (L':a9) (H':Hp),cf c e j d.f n L t= .ok sk a L' (t+sk.size)->mf H' d.f n sk a u->sk.ok true->sk.dep+1<=j->gF a->Rn H' C r m k o s 60 (t+sk.size) L' e->L'.length<=t+sk.size->t+sk.size<=60->dy r o H H'->Q u H')(_:nD (cf c e j d.f n L t= .long) (cf c e j d.f n L t= .deep) E g f (DW r o H))
inductive nQ(C f d m:Addr)(j:Nat)(p:List V)(H:Hp)(Q:VK)(E:XK):Prop
 |mk(r i g l o:Addr)(a t:Nat)(L c k:a9)(u:V)(e:DD)(s:List Str)(h:List Df)(n:List Nat)(q:List V)(b:List eV)(_:p=[.ref r,u,.int (a:Int)])(_:a+j=15)(_:Rn H C r i g l o 60 t L c)(_:L.length<=t)(_:t<=60)(_:Ps H m o h n q b)(_:aP H (Ey k e) u [])(_:Am H s e)(_:GT k)(_:e.Cs ((h.map Df.f).zip n))(_:∀(w:Sk) (v:V) (L':a9) (H':Hp),gY (cf b c j) c k L t e= .ok w L' (t+1+w.size)->dm H' w v []->w.ok false->FY e w.wh->w.dep<=j->Rn H' C r i g l o 60 (t+1+w.size) L' c->L'.length<=t+1+w.size->t+1+w.size<=60->dy r l H H'->Q v H')(_:nD (gY (cf b c j) c k L t e= .long) (gY (cf b c j) c k L t e= .deep) E f d (DW r l H))
theorem Dx:ai z21z z21z (ae uF):=bK
theorem ye(F:aQ K "__init__" "BookRun.__init__" uF f t)(j:RK K C)(GT:af P w K mg base aE 1 u c z20z (lX C))(B:aC K c z20z [])(M:mg "Turns"=some (.ref T))(v:Bg K T "__init__" u):af P w K mg base aE 2 f t z21z (lU C):=by
 refine F.ok Dx ?_ λx A o s H V Q E y h=>?_
 ·rintro _ _ _ _ ⟨r,d,z,k,m,rfl,_⟩
  rfl
 obtain⟨r,d,z,k,m,rfl,g,q⟩:=h
 refine#[_,(jd (jB (@yp _ _ _ _ _ _ _ _ _ _ _ _ _ _ _ _ _ _ _ _ Z M v GT y.m B .nil aY (ja (pv 0) (ja (pv 2) (ja (pv 3) jb))) Pm Pq Pq Pq)) (jf (@zr _ _ _ _ _ _ _ _ (pv 0) (pv 1) Z))),?_]
 refine aj λD n=>#[_,Z,_,Z,_,Z,r,d,k,m,Z,g,λL N=>n _ _ ?_]
 clear n
 refine#[_,Z,_,Z,r,C,d,_,Z,jc,j.cl,j.n5,(by show 4 < 1000;decide),?_]
 have e:∀(i:Hp) (p O:HO),ah (ah i r p) r O=ah i r O:=λi p O=>by
  funext b
  by_cases a:b=r
  ·rw[a,jc,jc]
  ·rw[jh a,jh a,jh a]
 rw[e]
 exact q L N
theorem JZ(h:aP H (ay t) u []):∃a x,u= .ref a/\H a=some (.tup x)/\aP H (au t) .non x:=let #[_,a,x,e,b,c]:=h;#[a,x,e,b,c]
theorem zV(h:aP H (au (t::T)) .non x):∃y Y,x=y::Y/\aP H t y []/\aP H (au T) .non Y:=let #[_,_,y,Y,e,a,b]:=h;#[y,Y,e,a,b]
theorem Zw(h:aP H (aK x) y []):y= .str x:=h.1
theorem J1(h:aP H (ap n) y []):y= .int n:=h.1
theorem Ks:∀{I:List Int} {v:List V},aP H (au (I.map ap)) .non v->v=I.map V.int
 | [],v,h=>h
 |i::I,v,h=>by obtain⟨y,Y,rfl,a,b⟩:=zV h;rw[J1 a,Ks b];rfl
theorem QT{H:Hp}{w:Str}{t:List Tr}{u:V}(h:aP H (ay (aK w::t)) u []):∃a x,u= .ref a/\H a=some (.tup (.str w::x))/\aP H (au t) .non x:=by
 obtain⟨a,x,rfl,b,h⟩:=JZ h
 obtain⟨y,Y,rfl,c,d⟩:=zV h
 rw[Zw c]at b
 exact#[a,Y,Z,b,d]
theorem QH{H:Hp}{w:Str}{i:Int}{u:V}(h:aP H (ay [aK w,ap i]) u []):∃a,u= .ref a/\H a=some (.tup [.str w,.int i]):=by
 obtain⟨a,x,rfl,b,h⟩:=QT h
 obtain⟨y,Y,rfl,c,d⟩:=zV h
 have e:Y=[]:=d
 rw[J1 c,e]at b
 exact#[a,Z,b]
theorem wc{H:Hp}{w:Str}{i:Int}{t:Tr}{u:V}(h:aP H (ay [aK w,ap i,t]) u []):∃a y,u= .ref a/\H a=some (.tup [.str w,.int i,y])/\aP H t y []:=by
 obtain⟨a,x,rfl,b,h⟩:=QT h
 obtain⟨y,Y,rfl,c,d⟩:=zV h
 obtain⟨z,f,rfl,g,j⟩:=zV d
 have e:f=[]:=j
 rw[J1 c,e]at b
 exact#[a,z,Z,b,g]
theorem Fi:ai z16z z16z (ae yz):=bK
theorem Cu(F:aQ K "what_of" "BookRun.what_of" yz f fd)(ck:RK K C)(GT:af P w K mg base (fu P w) 1 fT f0 ["self"] (iG C TL))(bT:aC K f0 ["self"] [])(m0:ba K C "take_turn" fT)(GI:af P w K mg base aE 1 fI f2 ["self","cell"] (gr C))(bI:aC K f2 ["self","cell"] [])(m1:ba K C "number_in" fI)(GD:af P w K mg base (fu P w) 1 fD f3 ["deep"] (eO TD))(bD:aC K f3 ["deep"] [])(kD:keepIn K (.ref fD)=true)(mD:mg "deeper"=some (.ref fD))(cP:Cl P w K mg base 2 fP f6 ["parts","f"] lT "part_of")(GC:af P w K mg base (fu P w) (2*j+12) fC f4 z11z (dM C TL TD nA j))(bC:aC K f4 z11z [])(m2:ba K C "chain_of" fC):af P w K mg base (fu P w) (2*j+13) f fd z16z (nQ C TL TD nA j):=by
 refine F.ok1 Fi ?_ λc5 A o2 s H vs Q E hr h=>?_
 ·rintro _ _ _ _ ⟨r,D,W,I,O,M,t,L,Cs,k,u,e,ys,ds,ns,X,p1,rfl,_⟩
  rfl
 obtain⟨r,D,W,I,O,M,t,L,Cs,k,u,e,ys,ds,ns,X,p1,rfl,h4,J,h5,ht,hP,B,h0,hk,h1,q,t0⟩:=h
 refine#[_,(jd (jB (uk (pv 0) ck.cl m0 GT hr.m bT .nil zR)) (jd (jy (j6 (ju (pv 1))) (jf (jm (jl (ja jo (ja (ju (pv 1)) (ja (jZ (pv 0) ck.cl m1 GI hr.m bI .nil aY (ja (ju (pv 1)) jb)) jb)))))) jr) (jd (jy (j6 (ju (pv 1))) (jf (jm (jl (ja jo (ja (jZ (pv 0) ck.cl m2 GC hr.m bC .nil zR (ja (cP.e hr.m (ja (jX (pv 0) Z) (ja (ju (pv 1)) jb))) (ja (ju (pv 1)) (ja (kL GD hr.m Z mD kD bD .nil zR (ja (pv 2) jb)) jb)))) jb))))) jr) (jd (jy (j6 (ju (pv 1))) (jf (qP (zB hr) (jX (pv 0) Z) (ju (pv 1)) (ju (pv 1)) Z)) jr) (jf (jm (pv 1))))))),?_]
 have b0:=aH
 refine aj λY n=>#[_,Z,r,D,_,Z,J.ins,Z,r,D,W,I,O,60,t,Z,J.ins,λlt=>n _ _ ?_,λge=>((t0.1 (Zt Pn)).mono λH' kk=>λb o _ _ nx e=>kk b o nx e).nextK]
 clear n
 have t1:ax H (ah H r (.ins C D (ie W I O 60 (t+1)))):=λb X e=>by rw[jh (jS e J.ins (by intro z;cases z))];exact e
 have R:Rn (ah H r (.ins C D (ie W I O 60 (t+1)))) C r D W I O 60 (t+1) L Cs:=#[jc,by rw[jh J.rl.1.symm];exact J.lf,by rw[jh J.rl.2.symm];exact J.ce,J.iL,J.iC,J.cl]
 have k1:dy r I H (ah H r (.ins C D (ie W I O 60 (t+1)))):=λb o n1 n2 e=>by rw[jh n1];exact e
 generalize ah H r (.ins C D (ie W I O 60 (t+1)))=H1 at t1 R k1
 have B:=B.mono t1
 have lt':t+1<=60:=by omega
 have f5:∀(w:Sk) (X:List V) (S:Hp) (v:Addr),S v=none->dm (ah S v (.tup X)) w (.ref v) []->w.ok false->gY (cf p1 Cs j) Cs k L t e= .ok w L (t+1)->FY e w.wh->w.size=0->w.dep<=j->H1=S->Q (.ref v) (ah S v (.tup X)):=λw X S v nv hw ok eq ft sz dp e2=>by
  subst e2
  exact q w _ L _ (by rw[sz];exact eq) hw ok ft dp (by rw[sz];exact R.same (je nv)) Pn Pn (k1.trans (dy.of_same (je nv)))
 cases e with
 |ask ta T=>
  obtain⟨p,rfl,G⟩:=QH B
  refine aj λY n=>(jp G Z #[Z,_,Z,aT Pp (n _ _ ?_)])
  clear n
  refine aj λY n=>(jp G Z #[Z,_,Z,aT Pp (n _ _ ?_)])
  clear n
  refine aj λY n=>(jp G Z #[Z,_,Z,aT Pp (n _ _ ?_)])
  clear n
  refine#[_,Z,q (.ask (if T.ev k=0 then 0 else 1)) _ L _ (Yh Pn) #[p,Z,G] trivial ?_ (IS _) R (by show L.length<=t+1+0;omega) lt' k1]
  show(if T.ev k=0 then (0:Int) else 1)=0∨(if T.ev k=0 then (0:Int) else 1)=1
  split
  ·exact .inl Z
  ·exact .inr Z
 |st p0 l=>
  obtain⟨vs,_,h6,o1,c0⟩:=h0
  cases l with
  |gv ta T |st x ta T=>cases c0
  |rd x ta T=>
   obtain⟨p,rfl,G⟩:=QH B
   refine aj λY n=>(jp G Z #[Z,_,Z,cq Pp (jp G Z #[_,Z,r,D,_,Z,R.ins,Z,jp G Z #[r,D,W,I,O,60,_,_,_,_,Z,R,m9,λv nv=>?_]])])
   exact f5 (.rd (T.ev k) (look L (.inl (T.ev k)) (look Cs (.inl (T.ev k)) 0))) _ _ v nv #[v,Z,jc] trivial (rL Pn) (JV R.iL (JV R.iC JW)) Z (IS _) Z
  |wr ta ub T U=>
   obtain⟨p,y,rfl,G,hy⟩:=wc B
   rw[J1 hy]at G
   refine aj λY n=>(jp G Z #[Z,_,Z,aT Pp (n _ _ ?_)])
   clear n
   refine aj λY n=>(jp G Z #[Z,_,Z,aT Pp (n _ _ ?_)])
   clear n
   refine aj λY n=>(jp G Z #[Z,_,Z,cq Pp (jp G Z #[_,Z,r,C,D,_,_,Z,R.ins,ck.cl,ck.n3,Z,jp G Z #[I,_,Z,ni.k (k:=.inl (T.ev k)) R.lf Pn,n _ _ ?_]])])
   clear n
   have pl:=zN (kvs:=L) (k:=.inl (T.ev k)) (v:=.int (U.ev k))
   have t3:ax H1 (ah H1 I (.dK (aZ L (.inl (T.ev k)) (.int (U.ev k))))):=λb X e=>by rw[jh (jS e R.lf (by intro z;cases z))];exact e
   refine#[_,Z,q (.wr (T.ev k) (U.ev k)) _ (aZ L (.inl (T.ev k)) (.int (U.ev k))) _ (rM Pn) #[p,Z,t3 _ _ G] trivial trivial (IS _) #[by rw[jh J.rl.1];exact R.ins,jc,by rw[jh J.cl];exact R.ce,R.iL.put _ (Jx hk o1.2.1),R.iC,R.cl] (by show _<=t+1+0;omega) lt' λb o n1 n2 e=>?_]
   rw[jh n2]
   exact k1 b o n1 n2 e
  |cl x f q' ts=>
   obtain⟨p,y3,rfl,G,hy⟩:=QT B
   obtain⟨y1,y4,rfl,e1,hy⟩:=zV hy
   obtain⟨y2,y0,rfl,e2,hy⟩:=zV hy
   have e3:y0=[]:=hy
   subst e3
   rw[Zw e1]at G
   obtain⟨ag,a0,rfl,ha,N⟩:=JZ e2
   have N:aP H1 (au ((ts.map λc=>c.2.ev k).map ap)) .non a0:=by rw[M1];exact N
   rw[Ks N]at ha
   obtain⟨i,d,hd,hn,rfl⟩:=hP.find h1
   have P1:=hP.mono t1
   obtain⟨v,hv,_,h2,h3⟩:=P1.at hd
   refine aj λY n=>(jp G Z #[Z,_,Z,aT Pp (n _ _ ?_)])
   clear n
   refine aj λY n=>(jp G Z #[Z,_,Z,cq Pp ?_])
   clear n
   refine#[_,Z,r,D,_,Z,R.ins,Z,_,Z,r,C,D,_,_,Z,R.ins,ck.cl,ck.n5,Z,jp G Z #[O,d.f,X,i,v,Z,P1.at',hv,h2,h3,jp G Z #[_,Z,(M:Int),Z,λdl=>?_,λdg=>((t0.2 (by have z:j=0:=Pn;rw[K8 Pn,z];rfl)).mono λS kk=>λb o n1 n2 nx e=>kk b o nx (k1 b o n1 n2 e)).nextK]]]
   refine#[r,D,W,I,O,ag,M+1,t+1,i,L,Cs,v,d,ds,ns,X,p1,ts.map λc=>c.2.ev k,Z,Pn,Pn,R,Pn,lt',P1,hd,by rw[IJ];exact hn,hv,ha,λz hz=>?_,λu sk a L' S eq hc ok dp ia R2 l2 t2 k2=>?_,nD.next ((t0.imp (λz=>by rw[K8 Pn,z];rfl) (λz=>by rw[K8 Pn,z];rfl)).mono λS kk=>λb o n1 n2 nx e=>kk b o n1 n2 nx (k1 b o n1 n2 e))]
   ·obtain⟨c,hc,rfl⟩:=List.mem_map.mp hz
    exact Jx hk (o1.2.2 c hc).1
   ·obtain⟨c,g,ee,ss,rfl,c1,c2,c3,c4⟩:=hc
    refine#[cg,λv2 nv=>?_]
    have s2:aa S (ah S v2 (.tup [.str "call",.ref c])):=je nv
    refine q (.cl d.f (ts.map λc=>c.2.ev k) sk a) _ L' _ (by rw[K8 Pn,eq];rfl) #[v2,c,g,ee,ss,Z,jc,s2 _ _ c1,s2 _ _ c2,s2 _ _ c3,c4.mono (aa.tm s2)] ok ia (by show sk.dep+1<=j;omega) (R2.same s2) l2 t2 ((k1.trans k2).trans (dy.of_same s2))
theorem Bp:fz (s++[x]) (-1)=some x:=by
 have l:(s++[x]).length=s.length+1:=by rw[IL];rfl
 unfold fz xF
 rw[l,IX Pn,IU Pn]
 have e:(-1+((s.length+1:Nat):Int)).toNat=s.length:=by omega
 show(s++[x])[(-1+((s.length+1:Nat):Int)).toNat]?=_
 rw[e]
 simp
inductive F'(H:Hp)(nA:Addr)(d:Df)(u:V):Gd->Prop
 |give (p:Addr) (a:Int) (e:u= .ref p) (h:H p=some (.tup [.str "give",.int a])) (i:gF a):F' H nA d u (.give a)
 |go (p hv:Addr) (n:Nat) (c:Ct) (is:List Int) (e:u= .ref p) (h:H p=some (.tup [.str "go",.int (n:Int),.ref hv])) (h2:H hv=some (.tup (is.map V.int))) (hc:(bJ nA d)[n]?=some c) (hl:is.length=(canon c.M).length) (hi:∀i∈is,gF i):F' H nA d u (.go n is)
theorem sW{H:Hp}(h:aP f (sV (dW N d) k g) u [])(j:GT k)(l:Eb H Y d.b.cuts g):F' f N d u (kb (dW N d) k g):=by
 cases g with
 |give t T=>obtain⟨p,e,h⟩:=QH h;exact .give p _ e h (Jx j l.2.1)
 |nought=>obtain⟨p,e,h⟩:=QH h;exact .give p 0 e h JW
 |go n=>
  obtain⟨p,y,e,h,q⟩:=wc h
  obtain⟨a,X,rfl,m,c⟩:=JZ q
  have r:n < (bJ N d).length:=by rw[Zm];exact l
  have o:(bJ N d)[n]?=some (bJ N d)[n]:=IG r
  have c:aP f (au (((dW N d n).map λx=>look k (.inr x) 0).map ap)) .non X:=by rw[M1];exact c
  rw[Ks c]at m
  refine .go p a n _ _ e h m o (by rw[IJ,tJ o]) λi s=>?_
  obtain⟨x,_,rfl⟩:=List.mem_map.mp s
  exact JV j JW
inductive CI(a:nh)(K:eV)(h:OC)(C r o n F J l N G:Addr)(b t j:Nat)(i:a9)(v:V)(d:Df)(H:Hp)(E:Nat)(P:_L.St)(k:Hp):Prop
 |mk(I:Option V)(u:V)(g:Gd)(m:Nat)(M:Sk)(O:List V)(L:a9)(p:P=[some (.ref r),some v,some (.ref l),some (.int (b:Int)),some (.ref N),some u,I])(q:k N=some (.lst O))(s:dm k M .non O)(w:M.ok true)(x:M.dep+1<=j)(y:F' k G d u g)(z:Rn k C r o n F J 60 (t+M.size) L i)(A:L.length<=t+M.size)(B:t+M.size<=60)(D:dy r F H k)(c:E+t+M.size=61)(e:(m6 a i K m g L (t+M.size)).pre M=h)(f:62<=m+(t+M.size))
theorem mw:ai ["self","part","args","deep","steps","goal","what"] z11z (ae yy):=bK
theorem Co(F:aQ K "chain_of" "BookRun.chain_of" yy f fd)(ck:RK K C)(cF:Cl P w K mg base 9 fF f2 ["part","args"] (gp nA) "first_of")(cD:Cl P w K mg base 9 fD f3 z10z (gm nA) "deed_at")(cO:Cl P w K mg base 9 fO f4 ["part","step"] (vC nA) "onward")(GW:af P w K mg base (fu P w) (2*j+13) fW f0 z16z (nQ C TL TD nA j))(bW:aC K f0 z16z [])(m0:ba K C "what_of" fW)(m1:mg "tuple"=none):af P w K mg base (fu P w) (2*j+14) f fd z11z (dM C TL TD nA (j+1)):=by
 refine F.ok1 mw ?_ λc3 A o2 s H vs Q E hr h=>?_
 ·rintro _ _ _ _ ⟨r,dx,cA,lA,pA,ag,U,t,i,L,y,v,d,ds,ns,xs,x,is,rfl,_⟩
  rfl
 obtain⟨r,dx,cA,lA,pA,ag,U,t,i,L,y,v,d,ds,ns,xs,x,is,rfl,b4,_,hR,a1,ht,hP,hd,hn,hv,ha,h3,q,t4⟩:=h
 refine#[_,(jd (jD 4 mw.nd (jJ jb)) (jd (jD 5 mw.nd (cF.e hr.m (ja (pv 1) (ja (pv 2) jb)))) (jd (Xg PassesOwn.leaving (j6 (ju (pv 5))) (jd (jD 6 mw.nd (jZ (pv 0) ck.cl m0 GW hr.m bW .nil zR (ja (cD.e hr.m (ja (pv 1) (ja (ju (pv 5)) (ja (ju (pv 5)) jb)))) (ja (pv 3) jb)))) (jd (jB (jU PySem.F.plainAttrs_list PySem.F.slot_list_append PySem.F.type_list_append jI (pv 4) (ja (jl (ja (ju (pv 5)) (ja (ju (pv 5)) (ja (pv 6) jb)))) jb))) (jf (jD 5 mw.nd (cO.e hr.m (ja (pv 1) (ja (jv jG (pv 4) (ul Yb jg) (λ_ _=>Z)) jb)))))))) (jf (jm (jl (ja (ju (pv 1)) (ja (pv 2) (ja (jP jY Z m1 boot_tuple (ja (pv 4) jb)) (ja (ju (pv 5)) jb)))))))))),?_]
 have b5:=aH
 obtain⟨ys,g,h1,b6,pr,a2⟩:=hP.part hd hv
 obtain⟨ps,h4,a3,a4⟩:=hP.pa.2 i d _ hd hn
 have e3:ps=g.ps:=by
  have z:=h4.symm.trans pr.ps
  injection z with z
  injection z with z
  exact(List.map_inj_right λa b e=>by injection e).mp z
 subst e3
 have e0:cf x y (j+1) d.f is L t=m6 (cf x y j) y g 62 (kb (wD g) (db g.way.sets (bg g.ps is)) g.way.goal) L t:=by
  show(match eX x d.f with |none=>OC.long |some g=>m6 (cf x y j) y g 62 (kb (wD g) (db g.way.sets (bg g.ps is)) g.way.goal) L t)=_
  rw[a2]
 generalize cf x y (j+1) d.f is L t=X at q t4 e0
 refine aj λF1 J=>#[eY,λS Y=>J _ _ ?_]
 clear J
 have s1:aa H (ah H S (.lst [])):=je Y
 have l1:ah H S (.lst []) S=some (.lst []):=jc
 generalize ah H S (.lst [])=H1 at s1 l1 ⊢
 have e4:=pr.wy
 have h2:=pr.wv
 refine aj λF1 J=>#[_,Z,_,Z,v,ag,d,ys,g.ps,is,g.way,Z,h1.mono (aa.tm s1),s1 _ _ h4,Pn,s1 _ _ ha,a3.symm,h3,e4,h2.mono (aa.tm s1),λu H2 hu s2=>J _ _ ?_]
 clear J
 have S2:=s1.trans s2
 have gz:GT (bg g.ps is):=Kk h3
 have g0:=sW (H:=H) hu (qS h2.sets gz) h2.goal
 rw[pr.nms]at g0
 have s0:S≠r:=Ne.symm (ji hR.ins Y)
 have s3:S≠lA:=Ne.symm (ji hR.lf Y)
 have s9:cA≠S:=ji hR.ce Y
 refine aj λF1 J=>?_
 refine wg (CI (cf x y j) g X C r dx cA lA pA ag S nA U t (j+1) y v d H) (61 - t) #[none,u,_,62,.nil,[],L,Z,s2 _ _ l1,Z,trivial,by show 0+1<=j+1;omega,g0,hR.same S2,a1,ht,dy.of_same S2,by show 61 - t+t+0=61;omega,by rw[e0];show OC.pre .nil (m6 (cf x y j) y g 62 _ L t)=_;cases m6 (cf x y j) y g 62 (kb (wD g) (db g.way.sets (bg g.ps is)) g.way.goal) L t<;>rfl,by show 62<=62+(t+0);omega] ?_
 intro kk σ H3 E' rt fE F kT cF.k Gq kq hW
 obtain⟨o6,u,gd,m,N,R,L1,rfl,w1,w2,w3,w4,w5,w6,w7,w8,w9,b8,W,b9⟩:=hW
 obtain⟨m,rfl⟩:∃m',m=m'+1:=#[m - 1,Pn]
 have t0:=hR.tm w9
 have P3:=hP.mono t0
 cases w5 with
 |give p a e h5 ia=>
  subst e
  refine kq (jp h5 Z #[Z,_,Z,?_])
  rw[show decide (V.str (Str.ofString "give")=V.str (Str.ofString "go"))=false by decide+kernel]
  refine cF.k _ (J _ _ ?_)
  obtain⟨pa,ca,wv,cs,e,h7,_⟩:=(h1.mono t0).parts
  subst e
  refine(jp h7 Z #[_,Z,_,Z,S,R,Z,.inl #[aJ.of w1,λl2 n0=>?_]])
  have s4:aa H3 (ah H3 l2 (.tup R)):=je n0
  refine(jp (s4 _ _ h5) Z #[Aa,λv2 nv=>?_])
  have s5:=s4.trans (je (o:=.tup [.str d.f,.ref ag,.ref l2,.int a]) nv)
  have S5:dy r lA H (ah (ah H3 l2 (.tup R)) v2 (.tup [.str d.f,.ref ag,.ref l2,.int a])):=w9.trans (dy.of_same s5)
  have W:OC.ok (N.app .nil) a L1 (t+N.size)=X:=W
  rw[XD w3]at W
  exact q _ N a L1 _ W.symm #[v2,ag,l2,R,Z,jc,hR.tm S5 _ _ ha,am jc nv,w2.mono (aa.tm s5)] w3 w4 ia (w6.same s5) w7 w8 S5
 |go p D n c hs e h5 h6 hc hl hi=>
  subst e
  refine kq (jp h5 Z #[Z,_,Z,?_])
  rw[show decide (V.str (Str.ofString "go")=V.str (Str.ofString "go"))=true by decide+kernel]
  refine kT _ ?_
  clear kT cF.k J
  have P0:=h1.mono t0
  obtain⟨pa,ca,wv,cs,e9,h7,_,_,a5⟩:=P0.parts
  obtain⟨ka,na,wa,dv,b',_,c1⟩:=P0.cut a5 hc
  have a':n < g.cs.length:=by rw[pr.len];exact(List.getElem?_eq_some_iff.mp hc).1
  obtain⟨cd,h'⟩:∃cd,g.cs[n]?=some cd:=#[_,List.getElem?_eq_getElem a']
  have cr:=(pr.cs n c cd hc h').mono t0
  obtain⟨c2,e,c0⟩:=cd
  obtain⟨e1,ed,d0,e5,l0,b0⟩:=cr
  have e1:c2=canon c.M:=e1
  subst e1
  have W:OC.pre N (match g.cs[n]? with
   |none=>OC.long
   |some c=>match gY (cf x y j) y (bg c.nm hs) L1 (t+N.size) c.e with
    | .ok w L1 t1=>(m6 (cf x y j) y g m (CU g c hs w.wh) L1 t1).cons (n:Int) hs w
    | .long=>.long
    | .deep=>.deep)=X:=W
  rw[h']at W
  have W:OC.pre N (match gY (cf x y j) y (bg (canon c.M) hs) L1 (t+N.size) e with
    | .ok w L1 t1=>(m6 (cf x y j) y g m (CU g #[canon c.M,e,c0] hs w.wh) L1 t1).cons (n:Int) hs w
    | .long=>.long
    | .deep=>.deep)=X:=W
  have gk:GT (bg (canon c.M) hs):=Kk hi
  refine aj λF1 J=>#[_,Z,r,dx,_,Z,w6.ins,Z,_,Z,jp h5 Z (jp h5 Z #[v,n,D,d,ys,c,hs,e,Z,P0,hc,h6,hl,hi,ed,d0,λud H4 b1 s4=>?_])]
  have t8:=t0.trans (aa.tm s4)
  refine#[_,Z,r,dx,cA,lA,pA,U,t+N.size,L1,y,bg (canon c.M) hs,ud,e,ys,ds,ns,xs,x,Z,Pn,w6.same s4,w7,w8,hP.mono t8,b1,d0.mono (aa.tm s4),gk,?_,λw uw L' H5 e7 hw o1 ft d1 R5 l5 t5 k5=>J _ _ ?_,?_]
  ·cases e with
   |ask=>trivial
   |st p0 l=>cases l<;>first |trivial |exact hP.cs hd _ e5
  ·clear J
   have K5:dy r lA H3 H5:=(dy.of_same s4).trans k5
   have t6:ax H3 H5:=w6.tm K5
   have g5:=t6 _ _ h5
   have w0:H5 S=some (.lst R):=K5 _ _ s0 s3 w1
   have l3:=qI w3 w2
   refine aj λF1 J=>#[_,Z,.inl #[Z,_,aJ.of w0],jp g5 Z (jp g5 Z #[_,Z,m9,λO n3=>?_])]
   have s6:aa H5 (ah H5 O (.tup [.int (n:Int),.ref D,uw])):=je n3
   have e6:ah H5 O (.tup [.int (n:Int),.ref D,uw]) O=some (.tup [.int (n:Int),.ref D,uw]):=jc
   refine#[S,_,_,Z,Z,s6 _ _ w0,Pn,J _ _ ?_]
   clear J
   generalize ah H5 O (.tup [.int (n:Int),.ref D,uw])=H6 at s6 e6
   have b7:aR S H6 (ah H6 S (.lst (R++[.ref O]))):=λb o nb e=>by rw[jh nb];exact e
   have t3:ax H6 (ah H6 S (.lst (R++[.ref O]))):=λb xs e=>b7 _ _ (jS e (s6 _ _ w0) (by intro z;cases z)) e
   have w':ah H6 S (.lst (R++[.ref O])) S=some (.lst (R++[.ref O])):=jc
   generalize ah H6 S (.lst (R++[.ref O]))=H7 at b7 t3 w'
   have t2:ax H5 H7:=λb xs e=>t3 _ _ (s6 _ _ e)
   have B:ax H3 H7:=t6.trans t2
   have G:w.wh.side < c.ws.length:=by
    rw[c1.v.len,<- ed]
    cases e with
    |ask ta T=>show _ < 2;unfold Wh.side;split<;>(try split)<;>omega
    |st p0 l=>
     show _ < 1
     cases w<;>first |exact Nat.one_pos |exact o1.elim | (cases l<;>exact ft.elim)
   obtain⟨I,h0⟩:∃I,c0[w.wh.side]?=some I:=#[_,List.getElem?_eq_getElem (by rw[l0];exact G)]
   obtain⟨e2,a0⟩:=b0 _ _ I (List.getElem?_eq_getElem G) h0
   have sv:mn H7 nA d ys v O n D uw c hs w.wh e I:=#[P0.mono B,t3 _ _ e6,hc,B _ _ h6,hl,hi,(HK o1 hw).mono t2,ed,d0.mono B,ft,by rw[e2];exact List.getElem?_eq_getElem G,a0.mono B]
   have b2:fz (R++[V.ref O]) (-1)=some (.ref O):=Bp
   refine#[_,Z,_,Z,_,Z,S,_,_,_,Z,Z,aJ.of w',b2,v,uw,O,D,n,d,ys,c,hs,w.wh,e,I,Z,sv,λu2 H8 b3 s8=>?_]
   have t7:=aa.tm s8
   have t':=B.trans t7
   have g1:=sW (H:=H7) b3 (qS sv.wdv.sets (rg ft gk)) sv.wdv.goal
   have e8:CU g #[canon c.M,e,c0] hs w.wh=kb (wD g) (db I.sets (pX e w.wh (bg (canon c.M) hs))) I.goal:=by
    show(match c0[w.wh.side]? with |some wd=>kb (wD g) (db wd.sets (pX e w.wh (bg (canon c.M) hs))) wd.goal |none=>Gd.give 0)=_
    rw[h0]
   rw[pr.nms,<- e8]at g1
   rw[e7]at W
   have W:OC.pre N ((m6 (cf x y j) y g m (CU g #[canon c.M,e,c0] hs w.wh) L' (t+N.size+1+w.size)).cons (n:Int) hs w)=X:=W
   rw[ut _ w3]at W
   have s7:=XC (n:=(n:Int)) (hs:=hs) (w:=w) w3
   have R7:Rn H7 C r dx cA lA pA 60 (t+N.size+1+w.size) L' y:=#[b7 _ _ (Ne.symm s0) (s6 _ _ R5.ins),b7 _ _ (Ne.symm s3) (s6 _ _ R5.lf),b7 _ _ s9 (s6 _ _ R5.ce),R5.iL,R5.iC,R5.cl]
   have ez:t+N.size+1+w.size=t+(Sk.put (n:Int) hs w N).size:=by rw[s7];omega
   rw[ez]at R7 l5 t5 W
   refine fE (kk - (w.size+1)) _ _ Pn #[_,u2,_,m,Sk.put (n:Int) hs w N,R++[.ref O],L',Z,s8 _ _ w',(AW (t3 _ _ e6) (B _ _ h6) (hw.mono t2) w3 (w2.mono B)).mono t7,Zq o1 w3,?_,g1,R7.same s8,l5,t5,?_,by rw[s7];omega,W,Pn]
   ·have:=Zr (n:=(n:Int)) (hs:=hs) (w:=w) (j:=j) d1 w3 Pn
    omega
   ·intro b o n1 n2 e
    exact s8 _ _ (b7 _ _ (ji e Y) (s6 _ _ (K5 _ _ n1 n2 (w9 _ _ n1 n2 e))))
  ·exact nD.next ((t4.imp (λz=>by rw[z]at W;exact W.symm) (λz=>by rw[z]at W;exact W.symm)).mono λH5 kk=>λb o n1 n2 nx e=>kk b o n1 n2 nx (s4 _ _ (w9 _ _ n1 n2 e)))
inductive oF(f e l:Addr)(o:List V)(H:Hp)(Q:VK)(E:XK):Prop
 |mk(n g h:Addr)(i:Nat)(c:a9)(d:Df)(j:List Df)(m:List Nat)(p:List V)(b:List eV)(k:List Int)(_:o=[.ref n,.str d.f,.ref g,.ref h,.int 60])(_:Ps H l n j m p b)(_:j[i]?=some d)(_:m[i]?=some k.length)(_:H g=some (.tup (k.map V.int)))(_:∀z∈k,gF z)(_:H h=some (.dK c))(_:GT c)(_:∀(u:V) (sk:Sk) (a:Int) (L':a9) (H':Hp),cf b c 16 d.f k [] 0= .ok sk a L' sk.size->mf H' d.f k sk a u->sk.ok true->sk.dep<=15->sk.size<=60->aa H H'->Q u H')(_:nD (cf b c 16 d.f k [] 0= .long) (cf b c 16 d.f k [] 0= .deep) E f e (Kp H))
theorem yn(h:aP H (fe n d) v []):∃p r,v= .ref p/\H p=some (.tup (.str d.f:: .ref d.pa::r)):=by
 obtain⟨_,a,x,rfl,b,_,_,c,y,rfl,⟨rfl,_⟩,_,_,e,Y,rfl,⟨rfl,_⟩,_⟩:=h
 exact#[a,_,Z,b]
theorem Cc:af P w K mg base (fu P w) k f c z11z (dM C T b N 0):=by
 have n:∀{V H Q E},¬dM C T b N 0 V H Q E:=by
  rintro V H Q E ⟨r,e,g,l,j,m,D,t,i,L,q,v,d,u,x,X,p,I,_,_,z,_⟩
  omega
 exact#[λV H Q E h=>(n h).elim,λA o s H a U V Q E y B F G h=>(n h).elim]
theorem El(d:RK K C)(F:aQ K "chain_of" "BookRun.chain_of" yy k f)(B:aC K f z11z [])(m:ba K C "chain_of" k)(l:aQ K "what_of" "BookRun.what_of" yz D e)(o:aC K e z16z [])(M:ba K C "what_of" D)(p:Cl P w K mg base 9 Q E ["part","args"] (gp n) "first_of")(q:Cl P w K mg base 9 U H z10z (gm n) "deed_at")(r:Cl P w K mg base 9 Y I ["part","step"] (vC n) "onward")(GT:af P w K mg base (fu P w) 1 J g ["self"] (iG C T))(s:aC K g ["self"] [])(a:ba K C "take_turn" J)(G:af P w K mg base aE 1 L h ["self","cell"] (gr C))(t:aC K h ["self","cell"] [])(b:ba K C "number_in" L)(u:af P w K mg base (fu P w) 1 v i ["deep"] (eO N))(x:aC K i ["deep"] [])(y:keepIn K (.ref v)=true)(z:mg "deeper"=some (.ref v))(A:Cl P w K mg base 2 fP O ["parts","f"] lT "part_of")(c:mg "tuple"=none):∀j,af P w K mg base (fu P w) (2*j+12) k f z11z (dM C T N n j)
 |0=>Cc
 |j+1=>Co F d p q r (Cu l d GT s a G t b u x y z A (El d F B m l o M p q r GT s a G t b u x y z A c j) B m) o M c
theorem A3:ai ["parts","f","args","cells","most","part"] z23z (ae Dq):=bK
theorem CO(F:aQ K "run" "run" Dq f fd)(ck:RK K C)(mk:Mk K C fI)(GI:af P w K mg base aE 2 fI y z21z (lU C))(bI:aC K y z21z [])(mC:mg "BookRun"=some (.ref C))(cB:Cl P w K mg base 2 fB f0 ["ones","f","args"] hX "begun")(GA:af P w K mg base (fu P w) 44 fA B z11z (dM C TL TD nA 16))(bA:aC K B z11z [])(M:ba K C "chain_of" fA):af P w K mg base (fu P w) 45 f fd z23z (oF TL TD nA):=by
 refine F.ok1 A3 ?_ λc0 A O s H vs Q E G h=>?_
 ·rintro _ _ _ _ ⟨g,I,j,i,J,d,ds,ns,X,k,is,rfl,_⟩
  rfl
 obtain⟨g,I,j,i,J,d,ds,ns,X,k,is,rfl,x,L,hn,ha,R,t,T,q,U⟩:=h
 refine#[_,(jd (jD 5 A3.nd (cB.e G.m (ja (pv 0) (ja (pv 1) (ja (pv 2) jb))))) (jf (jm (jZ (Y8 mk GI G.m Z mC bI .nil aY (ja (pv 0) (ja (pv 3) (ja (pv 4) jb)))) ck.cl M GA G.m bA .nil zR (ja (pv 5) (ja (pv 2) (ja jg jb))))))),?_]
 obtain⟨v,hv,tv,h0,V⟩:=x.at L
 obtain⟨p,pr,rfl,hp⟩:=yn tv
 obtain⟨ps,W,h1,_⟩:=x.pa.2 i d _ L hn
 refine aj λF1 f1=>#[_,Z,_,Z,_,Z,g,I,d.f,X,_,i,.ref p,p,d.pa,pr,_,Z,x.at',hv,Z,hp,W,ha,by rw[IJ,IJ];omega,V,f1 _ _ ?_]
 clear f1
 refine#[_,Z,_,Z,_,Z,λr D N nd ne=>?_]
 have s0:aa H (ah (ah H D (.own r)) r (.ins C D [])):=λc o e=>by rw[jh (ji e N),jh (ji e nd)];exact e
 refine#[r,D,g,j,60,Z,jc,λl Y=>#[Z,?_]]
 have n0:l≠r:=λe=>by rw[e,jc]at Y;cases Y
 have n:H l=none:=by
  cases z:H l with
  |none=>rfl
  |some o=>have:=s0 _ _ z;rw[Y]at this;cases this
 have S:aa H (ah (ah (ah (ah H D (.own r)) r (.ins C D [])) l (.dK [])) r (.ins C D (ie j l g 60 0))):=λc o e=>by rw[jh (ji e N),jh (ji e n)];exact s0 _ _ e
 have R1:Rn (ah (ah (ah (ah H D (.own r)) r (.ins C D [])) l (.dK [])) r (.ins C D (ie j l g 60 0))) C r D j l g 60 0 [] J:=#[jc,by rw[jh n0];exact jc,S _ _ t,GT.nil,T,ji t n]
 generalize ah (ah (ah (ah H D (.own r)) r (.ins C D [])) l (.dK [])) r (.ins C D (ie j l g 60 0))=H1 at S R1
 have t0:=aa.tm S
 refine#[r,D,_,Z,R1.ins,Z,_,Z,_,Z,r,D,j,l,g,I,0,0,i,[],J,.ref p,d,ds,ns,X,k,is,Z,Z,Pm,R1,IK _,Pm,x.mono t0,L,hn,hv,S _ _ ha,R,λu sk a L' H2 eq hc ok dp ia R2 l2 t2 k2=>?_,nD.next (U.mono λH' kk=>λb o nx e=>kk b o (ji e N) (ji e n) nx (S _ _ e))]
 exact q u sk a L' H2 (by rw[MZ]at eq;exact eq) hc ok Pn Pn λc o e=>k2 c o (ji e N) (ji e n) (S _ _ e)
noncomputable def D6:Sk->Tr
 | .nil=>.nil
 | .st n h w r=>.cons (ay [ap n,ay (h.map ap),D6 w]) (D6 r)
 | .ask b=>ay [aK "ask",ap b]
 | .rd c i=>ay [aK "read",ap c,ap i]
 | .wr c i=>ay [aK "write",ap c,ap i]
 | .cl f I s a=>ay [aK "call",ay [aK f,ay (I.map ap),.tp (D6 s),ap a]]
theorem vt:∀{b:Bool} {s:Sk},s.ok b->(D6 s).isL=b
 |true,.nil,_=>rfl
 |true,.st _ _ _ _,_=>rfl
 |false,.cl _ _ _ _,_=>rfl
 |false,.ask _,_=>rfl
 |false,.rd _ _,_=>rfl
 |false,.wr _ _,_=>rfl
theorem j9{H:Hp}{a:List Int}(e:H h=some (.tup (a.map V.int))):aP H (ay (a.map ap)) (.ref h) []:=jA e JX
theorem Ka:∀{b:Bool} {s:Sk} {u:V} {X:List V},s.ok b->dm H s u X->(b=false->X=[])->(b=true->u= .non)->aP H (D6 s) u X
 |true,.nil,_,_,_,h,_,_=>h
 |true,.st n t w r,_,_,o,q,_,z=>by
  obtain⟨p,h,u,y,e,d,j,k,l⟩:=q
  rw[e,z Z]
  exact#[Z,vt o.2,_,_,Z,jA d (jk Z jT (jk Z (j9 j) (jk (vt o.1) (Ka o.1 k (λ_=>Z) (λx=>nomatch x)) jz))),Ka o.2 l (λx=>nomatch x) (λ_=>Z)]
 |false,.ask b,_,_,_,q,z,_=>by obtain⟨p,e,h⟩:=q;rw[e,z Z];exact jA h (jk Z jQ (jk Z jT jz))
 |false,.rd c i,_,_,_,q,z,_=>by obtain⟨p,e,h⟩:=q;rw[e,z Z];exact jA h (jk Z jQ (jk Z jT (jk Z jT jz)))
 |false,.wr c i,_,_,_,q,z,_=>by obtain⟨p,e,h⟩:=q;rw[e,z Z];exact jA h (jk Z jQ (jk Z jT (jk Z jT jz)))
 |false,.cl f I s a,_,_,o,q,z,_=>by
  obtain⟨p,c,g,e,S,E,d,j,k,l,m⟩:=q
  rw[E,z Z]
  exact jA d (jk Z jQ (jk Z (jA j (jk Z jQ (jk Z (j9 k) (jk Z #[vt o,e,S,Z,l,Ka (b:=true) o m (λx=>nomatch x) (λ_=>Z)] (jk Z jT jz))))) jz))
theorem ze:∀i:List Int,(au (i.map ap)).dep=0
 | []=>rfl
 |_::i=>by show max 0 (au (i.map ap)).dep=0;rw[ze i];rfl
theorem C5{p:List Str}{v:V}(h:mj H N d y v)(g:H d.pa=some (.tup (p.map V.str))):∃q,wL H N d y q:=by
 obtain⟨W,E,i⟩:=h.way
 obtain⟨a,J,L,O,rfl,Q,m,r,j⟩:=h.parts
 obtain⟨C,s,t⟩:=wQ (R:=λc u=>D' H y N d c u) (bJ N d) λc k=>by
  obtain⟨n,x,z⟩:=List.mem_iff_getElem.mp k
  obtain⟨S,T,U,X,A,_,o⟩:=h.cut j (n:=n) (c:=c) (by rw[<- z];exact IG x)
  obtain⟨e,B,D,F⟩:=Ex o.v.deed
  obtain⟨G,I,l⟩:=wQ (R:=λ(w:Wy) (W:WD)=>W.wy N=w/\wB H y d.b.cuts d.b.size W) c.ws λw m=>o.v.ways w m
  exact#[#[canon c.M,e,G],Z,B,D,F,I,l]
 exact#[#[d.f,p,W,C],Z,g,E,i,s,t]
theorem E8{H:Hp}{D:List Df}(a:H l=some (.tup x))(T:aP H (au (D.map (fe n))) .non x)(g:∃z,dH H D z)(o:oM D N)(j:pW H D N):∃p,Ps H n l D N x p:=by
 have L:=zd T
 rw[IJ]at L
 obtain⟨p,m,q⟩:=wQ (R:=λd c=>∃y,(d.b.Ok y/\y.length<=20)/\wL H n d y c) D λd e=>by
  obtain⟨i,r,E⟩:=List.mem_iff_getElem.mp e
  have h:D[i]?=some d:=by rw[<- E];exact IG r
  have s:x[i]?=some (x[i]'Pn):=IG _
  obtain⟨t,k,u⟩:=qH T i _ s
  rw[Lc,h]at k
  cases k
  obtain⟨z,A⟩:=g
  obtain⟨⟨y,Y,o⟩,_,S⟩:=(o.1 d e).1
  obtain⟨C,f,_⟩:=j.v d e
  obtain⟨c,B⟩:=C5 (v:=x[i]'Pn) #[u,rO A h,o,Y,S] f
  exact#[c,y,#[o,Y],B]
 exact#[p,a,T,g,o,j,m,q]
theorem Aw{call:nh}{w:Sk}(h:gY call C k L t e= .ok w l T):t < 60:=by
 by_cases z:t < 60
 ·exact z
 ·rw[Zt z]at h;cases h
end _K
namespace _K
open PySem PySem.Spec PyProof.Rows _L
variable {P:Program}{w:World}{K:Frag}{mg:Str->Option Value}{base:Heap}
noncomputable def BY:V->Bool
 | .int _=>true
 | .str _=>true
 |_=>false
noncomputable def _root_._L.Tr.In:Tr->Prop
 | .lf v=>BY v=true
 | .tp l=>l.In
 | .nil=>True
 | .cons h t=>h.In/\t.In
noncomputable def _root_._L.Tr.items:Tr->List Tr
 | .cons h t=>h::t.items
 |_=>[]
theorem QI{H:Hp}:∀{t u:Tr} {x:V} {xs:List V},aP H t x xs->aP H u x xs->t.isL=u.isL->t.In->u.In->t=u
 | .lf v,.lf w,_,_,h,k,_,_,_=>by rw[<- h.1,<- k.1]
 | .lf v,.tp m,_,_,h,k,_,i,_=>by
  obtain⟨_,a,_,e,_⟩:=k
  have E:=h.1
  rw[e]at E
  rw[<- E]at i
  cases i
 | .tp l,.lf v,_,_,k,h,_,_,i=>by
  obtain⟨_,a,_,e,_⟩:=k
  have E:=h.1
  rw[e]at E
  rw[<- E]at i
  cases i
 | .tp l,.tp m,_,_,h,k,_,i,j=>by
  obtain⟨o,a,xs,e,p,q⟩:=h
  obtain⟨r,b,Y,c,d,f⟩:=k
  rw[e]at c
  cases c
  rw[p]at d
  cases d
  rw[QI q f (o.trans r.symm) i j]
 | .nil,.nil,_,_,_,_,_,_,_=>rfl
 | .nil,.cons _ _,_,_,h,k,_,_,_=>by
  obtain⟨_,_,_,_,e,_⟩:=k
  have h:_=[]:=h
  rw[e]at h
  cases h
 | .cons _ _,.nil,_,_,k,h,_,_,_=>by
  obtain⟨_,_,_,_,e,_⟩:=k
  have h:_=[]:=h
  rw[e]at h
  cases h
 | .cons h t,.cons G T,_,_,k,s,_,i,j=>by
  obtain⟨A,B,y,Y,e,d,f⟩:=k
  obtain⟨C,D,I,F,c,g,n⟩:=s
  rw[e]at c
  cases c
  rw[QI d g (A.trans C.symm) i.1 j.1,QI f n (B.trans D.symm) i.2 j.2]
 | .lf _,.nil,_,_,_,_,z,_,_=>nomatch z
 | .lf _,.cons _ _,_,_,_,_,z,_,_=>nomatch z
 | .tp _,.nil,_,_,_,_,z,_,_=>nomatch z
 | .tp _,.cons _ _,_,_,_,_,z,_,_=>nomatch z
 | .nil,.lf _,_,_,_,_,z,_,_=>nomatch z
 | .nil,.tp _,_,_,_,_,z,_,_=>nomatch z
 | .cons _ _,.lf _,_,_,_,_,z,_,_=>nomatch z
 | .cons _ _,.tp _,_,_,_,_,z,_,_=>nomatch z
theorem qk:∀{l:Tr} {X:List V},l.isL=true->l.In->aP H l .non X->X.length=l.items.length/\∀(j:Nat) (x:V),X[j]?=some x->∃t,l.items[j]?=some t/\t.isL=false/\t.In/\t.dep<=l.dep/\aP H t x []
 | .nil,X,_,_,h=>by have h:X=[]:=h;rw[h];exact#[Z,λj x z=>by simp at z]
 | .cons a t,X,_,i,h=>by
  obtain⟨A,c,y,Y,e,k,d⟩:=h
  subst e
  obtain⟨L,f⟩:=qk c i.2 d
  refine#[LY (·+1) L,λj x b=>?_]
  cases j with
  |zero=>cases b;exact#[a,Z,A,i.1,M5 _ _,k]
  |succ j=>
   obtain⟨u,g,m,n,o,p⟩:=f j x (by simpa using b)
   exact#[u,by simpa [_L.Tr.items] using g,m,n,IZ o (M0 _ _),p]
 | .lf _,_,z,_,_=>nomatch z
 | .tp _,_,z,_,_=>nomatch z
theorem XE:∀{l m:Tr} {x y:List V},l.isL=true->m.isL=true->aP H l .non x->aP H m .non y->(l=m↔l.items=m.items)
 | .nil,.nil,_,_,_,_,_,_=>#[λ_=>Z,λ_=>Z]
 | .nil,.cons _ _,_,_,_,_,_,_=>#[λz=>(nomatch z),λz=>(nomatch z)]
 | .cons _ _,.nil,_,_,_,_,_,_=>#[λz=>(nomatch z),λz=>(nomatch z)]
 | .cons a t,.cons b u,_,_,_,_,h,k=>by
  obtain⟨_,A,_,_,_,_,d⟩:=h
  obtain⟨_,B,_,_,_,_,c⟩:=k
  have i:=XE A B d c
  refine#[λz=>by cases z;rfl,λz=>?_]
  have z:a::t.items=b::u.items:=z
  injection z with e f
  rw[e,i.mpr f]
 | .lf _,_,_,_,z,_,_,_=>nomatch z
 | .tp _,_,_,_,z,_,_,_=>nomatch z
 | .nil,.lf _,_,_,_,z,_,_=>nomatch z
 | .nil,.tp _,_,_,_,z,_,_=>nomatch z
 | .cons _ _,.lf _,_,_,_,z,_,_=>nomatch z
 | .cons _ _,.tp _,_,_,_,z,_,_=>nomatch z
open Classical in
noncomputable def fq(t u:Tr):Bool:=decide (t=u)
open Classical in
theorem zo(h:t=u):fq t u=true:=by unfold fq;exact IV h
open Classical in
theorem kX(h:t≠u):fq t u=false:=by unfold fq;exact IQ h
noncomputable def iN(l m:Tr)(j:Nat):Bool:=match l.items[j]?,m.items[j]? with
 |some t,some u=>fq t u
 |_,_=>true
theorem XF{l m:Tr}(a:l.isL=true)(b:m.isL=true)(h:aP H l .non x)(k:aP H m .non y)(d:n=l.items.length)(E:N=m.items.length):((List.range (min n N)).all (iN l m)&&n==N)=fq l m:=by
 by_cases e:l=m
 ·subst e
  rw[zo Z,d,E,NW,Bool.and_true,N7]
  intro j _
  unfold iN
  cases l.items[j]? with
  |none=>rfl
  |some t=>exact zo Z
 ·rw[kX e]
  have f:l.items≠m.items:=λz=>e ((XE a b h k).mpr z)
  by_cases g:n=N
  ·have z:(List.range (min n N)).all (iN l m)=false:=by
    rw[Bool.eq_false_iff]
    intro z
    rw[N7]at z
    refine f (N5 Pn λj i o=>?_)
    have:=z j (List.mem_range.mpr Pn)
    unfold iN at this
    rw[IG i,IG o]at this
    exact Classical.byContradiction λc=>by
     have C:=kX c
     dsimp only at this
     rw[C]at this
     cases this
   rw[z]
   rfl
  ·rw[show(n==N)=false from beq_eq_false_iff_ne.mpr g,Ox]
section
open PySem.SeqAt
variable {X:Cx}
theorem EO{w:V}(H:BY v=true)(h:BY w=true)(R:aD v a)(r:aD w b):EqAt A s a b (fq (.lf v) (.lf w)):=by
 cases v with
 |int i=>
  obtain⟨T,rfl⟩:=R
  cases w with
  |int j=>
   obtain⟨t,rfl⟩:=r
   have z:=EqAt.int_int (A:=A) (s:=s) i T j t
   by_cases e:i=j
   ·subst e;rw[NW]at z;rw[zo Z];exact z
   ·rw[beq_eq_false_iff_ne.mpr e]at z;rw[kX (λc=>e (by injection c with c;injection c))];exact z
  |str y=>
   obtain⟨t,rfl⟩:=r
   rw[kX (λc=>by injection c with c;cases c)]
   exact EqAt.int_str _ _ _ _
  |_=>cases h
 |str i=>
  obtain⟨T,rfl⟩:=R
  cases w with
  |str j=>
   obtain⟨t,rfl⟩:=r
   have z:=EqAt.str_str (A:=A) (s:=s) i T j t
   by_cases e:i=j
   ·subst e;rw[NW]at z;rw[zo Z];exact z
   ·rw[beq_eq_false_iff_ne.mpr e]at z;rw[kX (λc=>e (by injection c with c;injection c))];exact z
  |int y=>
   obtain⟨t,rfl⟩:=r
   rw[kX (λc=>by injection c with c;cases c)]
   exact EqAt.str_int _ _ _ _
  |_=>cases h
 |_=>cases H
theorem Fh(I:aq X p σ H s)(n:Nat)(G:∀(t:Tr) {A:Around},t.dep<=n->A.units+n < cLine->t.In->t.isL=false->∀{u:Tr} {x y:V},u.In->u.isL=false->aP H t x []->aP H u y []->∀a b,aD x a->aD y b->EqAt A s a b (fq t u)){l m:Tr}(hn:l.dep<=n)(hu:A.units+n+1 < cLine)(J:l.In)(L:m.In)(d:l.isL=true)(f:m.isL=true)(M:H g=some (.tup i))(N:H B=some (.tup o))(T:aP H l .non i)(q:aP H m .non o):RcAt A s (.ref g) (.ref B) (fq (.tp l) (.tp m)):=by
 obtain⟨v,r,O,_⟩:=I.tuple (aA.of (K:=X.K) M)
 obtain⟨C,R,Q,_⟩:=I.tuple (aA.of (K:=X.K) N)
 obtain⟨S,U⟩:=qk d J T
 obtain⟨W,Y⟩:=qk f L q
 have z:=RcAt.tuples (A:=A) (e:=iN l m) (show s.heap.IsTuple g v.toArray from O) (show s.heap.IsTuple B C.toArray from Q) Pn (λj h1 h2=>?_)
 ·rw[XF d f T q (by rw[IN,<- r.length,S]) (by rw[IN,<- R.length,W])]at z
  have E:fq (.tp l) (.tp m)=fq l m:=by
   by_cases c:l=m
   ·rw[zo c,zo (by rw[c])]
   ·rw[kX c,kX (λk=>c (by injection k))]
  rw[E]
  exact z
 ·have la:=r.length
  have lb:=R.length
  have D:j < i.length:=by simp at h1;omega
  have h:j < o.length:=by simp at h2;omega
  obtain⟨u1,q1,r1⟩:=r.get (IG D)
  obtain⟨u2,q2,r2⟩:=R.get (IG h)
  have e1:v.toArray[j]=u1:=by
   obtain⟨_,e⟩:=List.getElem?_eq_some_iff.mp q1
   simpa using e
  have E:C.toArray[j]=u2:=by
   obtain⟨_,e⟩:=List.getElem?_eq_some_iff.mp q2
   simpa using e
  rw[e1,E]
  obtain⟨F,g1,g2,g3,g4,g5⟩:=U j _ (IG D)
  obtain⟨u',k1,k2,k3,k4,k5⟩:=Y j _ (IG h)
  have et:iN l m j=fq F u':=by unfold iN;rw[g1,k1]
  rw[et]
  exact G F (A:=A.in1) Pn (by show A.units+1+n < cLine;omega) g3 g2 k3 k2 g5 k5 _ _ r1 r2
theorem QJ(I:aq X z Y H s):∀(n:Nat) (t:Tr) {A:Around},t.dep<=n->A.units+n < cLine->t.In->t.isL=false->∀{u:Tr} {x y:V},u.In->u.isL=false->aP H t x []->aP H u y []->∀a b,aD x a->aD y b->EqAt A s a b (fq t u):=by
 intro n
 induction n with
 |zero=>
  intro t A k J i L u x y d g j h a b R r
  cases t with
  |tp l=>exact absurd k (by show ¬l.dep+1<=0;omega)
  |nil |cons _ _=>cases L
  |lf v=>
   obtain⟨rfl,_⟩:=j
   cases u with
   |nil |cons _ _=>cases g
   |lf w=>
    obtain⟨rfl,_⟩:=h
    exact EO i d R r
   |tp m=>
    obtain⟨_,B,M,rfl,o,_⟩:=h
    cases r
    obtain⟨W,N,C,_⟩:=I.tuple (aA.of (K:=X.K) o)
    rw[kX (λc=>by cases c)]
    cases x<;>first |cases i |skip
    ·obtain⟨T,rfl⟩:=R
     exact EqAt.int_tuple _ _ C Pn
    ·obtain⟨T,rfl⟩:=R
     exact EqAt.str_tuple _ _ C Pn
 |succ n D=>
  intro t A k J i L u x y d g j h a b R r
  cases t with
  |nil |cons _ _=>cases L
  |lf v=>exact D (.lf v) (IS _) Pn i L d g j h a b R r
  |tp l=>
   obtain⟨E,p,O,rfl,q,F⟩:=j
   cases R
   obtain⟨ia,Q,G,_⟩:=I.tuple (aA.of (K:=X.K) q)
   cases u with
   |nil |cons _ _=>cases g
   |lf w=>
    obtain⟨rfl,_⟩:=h
    rw[kX (λc=>by cases c)]
    cases y<;>first |cases d |skip
    ·obtain⟨T,rfl⟩:=r
     exact EqAt.tuple_int _ _ G Pn
    ·obtain⟨T,rfl⟩:=r
     exact EqAt.tuple_str _ _ G Pn
   |tp m=>
    have f:=id h
    obtain⟨S,B,M,rfl,o,U⟩:=h
    cases r
    by_cases e:p=B
    ·subst e
     rw[zo (QI (H:=H) (t:=.tp l) (u:=.tp m) (x:=.ref p) (xs:=[]) #[E,p,O,Z,q,F] f Z i d)]
     exact EqAt.same _
    ·exact EqAt.of_refs e (Fh I n D (by have:l.dep+1<=n+1:=k;omega) Pn i d E S q o F U)
inductive Fc(d:Nat)(x y:V)(H:Hp)(Q:VK):Prop
 |mk(l m:Tr)(_:l.dep < d)(_:l.In)(_:m.In)(_:aP H (.tp l) x [])(_:aP H (.tp m) y [])(_:Q (.bl (fq (.tp l) (.tp m))) H)
theorem QK{d:Nat}(c:X.A.units+d+1 < cLine):eU X (compareOp .Eq) (Fc d):=by
 intro p s n H x y v u Q I r R h
 obtain⟨l,m,o,i,e,⟨f,a,z,rfl,g,t⟩,⟨j,b,B,rfl,k,T⟩,q⟩:=h
 cases r
 cases R
 exact Fh I d (QJ I d) Pn c i e f j g k t T X.prog X.w _ _ #[.bl _,H,I,Z,q]
end
end _K
namespace _K
open PySem PySem.Spec PyProof.Rows _L
variable {P:Program}{w:World}{K:Frag}{mg:Str->Option Value}{base:Heap}
noncomputable abbrev Dl:Stmt:=bM 27
theorem dw{w:V}:fz (v::u::w::y) 2=some w:=jH (j:=2) Z
theorem Gg{w:V}:fz (v::u::w::z::y) 3=some z:=jH (j:=3) Z
theorem Zx{X:List V}{i:Nat}{x:V}(h:X[i]?=some x):X.drop i=x::X.drop (i+1):=by
 obtain⟨H,e⟩:=List.getElem?_eq_some_iff.mp h
 rw[<- e,Mp]
theorem zE(h:mf H f i s a u)(k:ax H b):mf b f i s a u:=by
 obtain⟨c,g,e,S,E,d,j,l,m⟩:=h
 exact#[c,g,e,S,E,k _ _ d,k _ _ j,k _ _ l,m.mono k]
noncomputable def dZ:Sk->Tr
 | .rd c _=>ay [aK "read",ap c]
 | .cl f I _ _=>ay [aK "call",aK f,ay (I.map ap)]
 | .wr c i=>ay [aK "write",ap c,ap i]
 | .ask b=>ay [aK "ask",ap b]
 |_=>.nil
theorem BC{call:nh}{w:Sk}(h:gY call C k L t e= .ok w i j):dZ w=Ey k e:=by
 have b:=Aw h
 cases e with
 |ask d T=>rw[Yh b]at h;cases h;rfl
 |st p l=>
  cases l with
  |gv d T |st x d T=>unfold gY at h;rw[IU b]at h;cases h
  |rd x d T=>rw[rL b]at h;cases h;rfl
  |wr d u T U=>rw[rM b]at h;cases h;rfl
  |cl x f q g=>
   rw[K8 b]at h
   cases e:call f (g.map λc=>c.2.ev k) L (t+1) with
   |long |deep=>rw[e]at h;cases h
   |ok s a _L m=>rw[e]at h;cases h;show ay [_,_,ay ((g.map λc=>c.2.ev k).map ap)]=_;rw[M1];rfl
inductive mG(b:List V)(H:Hp)(Q:VK)(a:XK):Prop
 |mk(u:V)(w:Sk)(_:b=[u])(_:dm H w u [])(_:w.ok false)(_:∀(v:V) (H':Hp),aP H' (dZ w) v []->aa H H'->Q v H')
theorem Fk:ai ["what"] ["what"] (ae Dl):=bK
theorem Cz(F:aQ K "deed_in" "deed_in" Dl f B):af P w K mg base aE 1 f B ["what"] mG:=by
 refine F.ok Fk ?_ λC A o s H V Q E l h=>?_
 ·rintro _ _ _ _ ⟨u,w,rfl,_⟩
  rfl
 obtain⟨u,w,rfl,m,t,q⟩:=h
 refine#[_,(jd (jy (j6 (ju (pv 0))) (jf (jm (jK jV (pv 0) jR (jN jg)))) jr) (jd (jy (j6 (ju (pv 0))) (jf (jm (jx ke (jl (ja jo jb)) (jK jV (ju (pv 0)) jR (jN jg))))) jr) (jf (jm (pv 0))))),?_]
 cases w with
 |nil |st=>exact t.elim
 |ask b=>
  obtain⟨p,rfl,d⟩:=m
  refine aj λk i=>(jp d Z #[Z,_,Z,aT Pp (i _ _ ?_)])
  clear i
  refine aj λk i=>(jp d Z #[Z,_,Z,aT Pp (i _ _ ?_)])
  exact#[_,Z,q _ _ (jA d (jk Z jQ (jk Z jT jz))) (aa.refl _)]
 |wr b D=>
  obtain⟨p,rfl,d⟩:=m
  refine aj λk i=>(jp d Z #[Z,_,Z,aT Pp (i _ _ ?_)])
  clear i
  refine aj λk i=>(jp d Z #[Z,_,Z,aT Pp (i _ _ ?_)])
  exact#[_,Z,q _ _ (jA d (jk Z jQ (jk Z jT (jk Z jT jz)))) (aa.refl _)]
 |rd b D=>
  obtain⟨p,rfl,d⟩:=m
  refine aj λk i=>(jp d Z #[Z,_,Z,cq Pp #[_,Z,_,Z,p,_,Z,d,λr y l S=>q _ _ ?_ S]])
  have l:y r=some (.tup [.str "read",.int b]):=l
  exact jA l (jk Z jQ (jk Z jT jz))
 |cl f R s a=>
  obtain⟨p,c,g,e,T,rfl,d,G,I,U,W⟩:=m
  refine aj λk i=>(jp d Z #[Z,_,Z,aT Pp (i _ _ ?_)])
  clear i
  refine aj λk i=>(jp d Z #[Z,_,Z,cq Pp #[h8,λJ n=>(jp (am d n) gX #[_,Z,c,_,Z,am G n,λL y v S=>#[J,L,_,_,Z,Z,S _ _ jc,v,m9,λM N j z=>q _ _ ?_ (((je n).trans S).trans z)]])]])
  have j:N M=some (.tup [.str "call",.str f,.ref g]):=j
  exact jA j (jk Z jQ (jk Z jQ (jk Z (j9 (z _ _ (S _ _ (am I n)))) jz)))
noncomputable abbrev yN:Stmt:=bM 7
noncomputable abbrev yO:Stmt:=bM 8
noncomputable abbrev yH:Stmt:=bM 9
abbrev aG:=List Int
abbrev aM:=Int×List Int×Sk
abbrev RA(a:Type):=Hp->V->a->Prop
def bh{a:Type}(R:RA a)(H:Hp):List a->List V->Prop
 | [],v=>v=[]
 |w::W,v=>∃x r,v=x::r/\R H x w/\bh R H W r
def Gb{a:Type}(R:RA a):Prop:=∀(H h:Hp) (x:V) (w:a),ax H h->R H x w->R h x w
section
variable {α:Type}{R:RA α}
theorem bh.mono(a:Gb R){H b:Hp}(k:ax H b):∀{W:List α} {v:List V},bh R H W v->bh R b W v
 | [],_,h=>h
 |_::_,_,z=>by obtain⟨x,r,e,c,d⟩:=z;exact #[x,r,e,a _ _ _ _ k c,bh.mono a k d]
theorem bh.app{H:Hp}{b:List α}{y:List V}(a:bh R H b y):∀{W:List α} {v:List V},bh R H W v->bh R H (W++b) (v++y)
 | [],_,h=>by have e:_=[]:=h;rw[e];exact a
 |_::_,_,z=>by obtain⟨x,r,e,c,d⟩:=z;exact #[x,r++y,by rw[e];rfl,c,bh.app a d]
theorem bh.len{H:Hp}:∀{W:List α} {v:List V},bh R H W v->v.length=W.length
 | [],_,h=>by have e:_=[]:=h;rw[e];rfl
 |_::_,_,z=>by obtain⟨x,r,e,b,a⟩:=z;rw[e];exact congrArg (·+1) (bh.len a)
theorem bh.at{H:Hp}:∀{W:List α} {v:List V},bh R H W v->∀{i:Nat} {x:V},v[i]?=some x->∃w,W[i]?=some w/\R H x w
 | [],_,h,i,x,a=>by have e:_=[]:=h;rw[e]at a;simp at a
 |w::_,_,q,0,x,a=>by obtain⟨y,r,e,b,c⟩:=q;rw[e]at a;cases a;exact#[w,Z,b]
 |w::W,_,q,i+1,x,a=>by obtain⟨y,r,e,b,c⟩:=q;rw[e]at a;exact bh.at c (i:=i) (by simpa using a)
theorem bh.one{H:Hp}{w:α}{x:V}(h:R H x w):bh R H [w] [x]:=#[x,[],Z,h,Z]
theorem bh.map{a:Type}{S:RA a}{H:Hp}{g:α->a}{f:V->V}(h:∀x w,R H x w->S H (f x) (g w)):∀{W:List α} {v:List V},bh R H W v->bh S H (W.map g) (v.map f)
 | [],_,e=>by have e:_=[]:=e;rw[e];rfl
 |_::_,_,z=>by obtain⟨x,r,e,b,c⟩:=z;exact #[f x,r.map f,by rw[e];rfl,h _ _ b,bh.map h c]
end
def gG:RA aG:=λH x p=>∃a,x= .ref a/\H a=some (.tup (p.map V.int))
theorem bX:Gb gG:=λ_ _ _ _ k #[a,e,h]=>#[a,e,k _ _ h]
def Eh:RA (aG×Sk):=λH x w=>∃q p u,x= .ref q/\H q=some (.tup [.ref p,u])/\H p=some (.tup (w.1.map V.int))/\dm H w.2 u []
theorem nW:Gb Eh:=λ_ _ _ _ k #[q,p,u,e,h,H,a]=>#[q,p,u,e,k _ _ h,k _ _ H,a.mono k]
noncomputable def Sk.steps:Sk->List aM
 | .st n h w r=>(n,h,w)::r.steps
 |_=>[]
noncomputable def Sk.ws:Sk->aG->Nat->List (aG×Sk)
 | .st _ _ w r,p,k=>((p++[(k:Int)],w)::w.ws (p++[(k:Int)]) 0)++r.ws p (k+1)
 | .cl _ _ s _,p,_=>s.ws p 0
 |_,_,_=>[]
noncomputable def dP:List aM->aG->Nat->List (aG×Sk)
 | [],_,_=>[]
 |s::r,p,k=>((p++[(k:Int)],s.2.2)::s.2.2.ws (p++[(k:Int)]) 0)++dP r p (k+1)
theorem zw:∀{s:Sk},s.ok true->∀p k,s.ws p k=dP s.steps p k
 | .nil,_,_,_=>rfl
 | .st _ _ w r,o,p,k=>by show _++r.ws p (k+1)=_++dP r.steps p (k+1);rw[zw o.2]
theorem zF:∀(a b:List aM) (p:aG) (k:Nat),dP (a++b) p k=dP a p k++dP b p (k+a.length)
 | [],_,_,_=>rfl
 |s::a,b,p,k=>by show _++dP (a++b) p (k+1)=(_++dP a p (k+1))++dP b p (k+(a.length+1));rw[zF a b,List.append_assoc,show k+1+a.length=k+(a.length+1) by omega]
theorem kP:∀{b:Bool} {s:Sk},s.ok b->∀(p:aG) (k:Nat),(s.ws p k).length=s.size
 |true,.nil,_,_,_=>rfl
 |true,.st _ _ w r,o,p,k=>by
  have h:=kP (b:=false) (s:=w) o.1 (p++[(k:Int)]) 0
  have H:=kP (b:=true) (s:=r) o.2 p (k+1)
  show(((p++[(k:Int)],w)::w.ws (p++[(k:Int)]) 0)++r.ws p (k+1)).length=w.size+r.size+1
  rw[List.length_append,List.length_cons,h,H]
  omega
 |false,.cl _ _ s _,o,p,_=>kP (b:=true) (s:=s) o p 0
 |false,.ask _,_,_,_=>rfl
 |false,.rd _ _,_,_,_=>rfl
 |false,.wr _ _,_,_,_=>rfl
theorem QL(a:List aM)(i:Nat)(p:aG)(k:Nat):(dP (a.take i) p k).length<=(dP a p k).length:=by
 have:=congrArg List.length (zF (a.take i) (a.drop i) p k)
 rw[List.take_append_drop,List.length_append]at this
 omega
theorem qi{H:Hp}:∀{s:Sk} {S:List V},s.ok true->dm H s .non S->∀{i:Nat} {x:V},S[i]?=some x->∃n b w p h u,s.steps[i]?=some (n,b,w)/\w.ok false/\w.dep<=s.dep/\w.size+1<=s.size/\x= .ref p/\H p=some (.tup [.int n,.ref h,u])/\H h=some (.tup (b.map V.int))/\dm H w u []
 | .nil,_,_,e,i,x,a=>by have e:_=[]:=e;rw[e]at a;simp at a
 | .st n b w r,_,o,q,0,x,a=>by
  obtain⟨p,h,u,y,e,d,f,g,j⟩:=q
  rw[e]at a
  cases a
  exact#[n,b,w,p,h,u,Z,o.1,Nat.le_max_left _ _,by show w.size+1<=w.size+r.size+1;omega,Z,d,f,g]
 | .st n b w r,_,o,q,i+1,x,a=>by
  obtain⟨p,h,u,y,e,d,f,g,j⟩:=q
  rw[e]at a
  obtain⟨N,c,W,k,l,U,t,T,m,z,v⟩:=qi o.2 j (i:=i) (x:=x) (by simpa using a)
  exact#[N,c,W,k,l,U,t,T,Nat.le_trans m (Nat.le_max_right _ _),by show W.size+1<=w.size+r.size+1;omega,v]
theorem zi{H:Hp}:∀{s:Sk} {S:List V},s.ok true->dm H s .non S->S.length=s.steps.length
 | .nil,_,_,e=>by have e:_=[]:=e;rw[e];rfl
 | .st n b w r,_,o,z=>by obtain⟨p,h,u,y,e,c,d,f,a⟩:=z;rw[e];exact congrArg (·+1) (zi o.2 a)
theorem i6(p:aG)(k:Nat):p.map V.int++[V.int (k:Int)]=(p++[(k:Int)]).map V.int:=by rw[List.map_append];rfl
inductive mV(n:Nat)(d:List V)(H:Hp)(Q:VK)(a:XK):Prop
 |mk(b:Addr)(c:aG)(w:Sk)(u:V)(_:d=[.ref b,u])(_:H b=some (.tup (c.map V.int)))(_:c.length+n<=100)(_:dm H w u [])(_:w.ok false)(_:w.dep < n)(_:w.size<=1000)(_:∀(r:Addr) (xs:List V) (H':Hp),H r=none->H' r=some (.lst xs)->bh Eh H' ((c,w)::w.ws c 0) xs->aa H H'->Q (.ref r) H')
inductive iI(n:Nat)(g:List V)(H:Hp)(Q:VK)(b:XK):Prop
 |mk(d:Addr)(e:aG)(f:Str)(c:List Int)(s:Sk)(a:Int)(u:V)(_:g=[.ref d,u])(_:H d=some (.tup (e.map V.int)))(_:e.length+n+1<=100)(_:mf H f c s a u)(_:s.ok true)(_:s.dep < n)(_:s.size<=1000)(_:∀(r:Addr) (xs:List V) (H':Hp),H r=none->H' r=some (.lst xs)->bh Eh H' (s.ws e 0) xs->aa H H'->Q (.ref r) H')
inductive Ie(h k:Addr)(j:aG)(u:V)(s:Sk)(H:Hp)(i:Nat)(m:_L.St)(a:Hp):Prop
 |mk(f g:Option V)(l:List V)(b:m=[some (.ref h),some u,some (.ref k),f,g])(c:a k=some (.lst l))(d:bh Eh a (dP (s.steps.take i) j 0) l)(e:aa H a)
noncomputable def bQ(p:aG)(w:Sk):List aG:=p::(w.ws p 0).map (·.1)
theorem ql{w:Sk}(o:w.ok false)(p:aG):(bQ p w).length=w.size+1:=by unfold bQ;rw[List.length_cons,List.length_map,kP o]
inductive iX(n:Nat)(d:List V)(H:Hp)(Q:VK)(a:XK):Prop
 |mk(b:Addr)(c:aG)(w:Sk)(u:V)(_:d=[.ref b,u])(_:H b=some (.tup (c.map V.int)))(_:c.length+n<=100)(_:dm H w u [])(_:w.ok false)(_:w.dep < n)(_:w.size<=1000)(_:∀(r:Addr) (xs:List V) (H':Hp),H r=none->H' r=some (.lst xs)->bh gG H' (bQ c w) xs->aa H H'->Q (.ref r) H')
noncomputable def oY(H:Hp):V->V
 | .ref q=>match H q with
  |some (.tup (x::_))=>x
  |_=>.non
 |_=>.non
theorem qZ(l:List V):(List.range l.length).map (λi=>(l[i]?).getD .non)=l:=by
 refine List.ext_getElem Po λi H h=>?_
 simp [List.getElem?_eq_getElem h]
theorem AK{H:Hp}{q p:Addr}{u:V}(h:H q=some (.tup [.ref p,u])):oY H (.ref q)= .ref p:=by show(match H q with |some (.tup (x::_))=>x |_=>V.non)=_;rw[h]
theorem A7:ai ["path","what","within"] z5z (ae yN):=bK
theorem tX{f:Addr}{U:FuncData}{n:Nat}{fI:Addr}{D:FuncData}(F:aQ K "whats_at" "whats_at" yN f U)(cI:Cl P w K mg base (2*n+2) fI D ["path","chain"] (iI n) "whats_in"):af P w K mg base aE (2*n+3) f U z5z (mV (n+1)):=by
 refine F.ok A7 ?_ λc0 A O s H vs Q E hr h=>?_
 ·rintro _ _ _ _ ⟨j,v,w,u,rfl,_⟩
  rfl
 obtain⟨j,v,w,u,rfl,X,h0,G,k,Y,hz,q⟩:=h
 refine#[_,(jd (jD 2 A7.nd (kK (j6 (ju (pv 1))) (cI.e hr.m (ja (pv 0) (ja (ju (pv 1)) jb))) (jJ jb))) (jf (jm (jx Jm (jJ (ja (jl (ja (pv 0) (ja (pv 1) jb))) jb)) (pv 2))))),?_]
 have b0:=aH
 have fl:=kP k v 0
 refine aj λF1 I=>?_
 suffices go:∀(l:Addr) (x:List V) (d:Hp),d l=some (.lst x)->bh Eh d (w.ws v 0) x->aa H d->F1 [some (.ref j),some u,some (.ref l)] d by
  clear I
  cases w with
  |nil |st=>exact k.elim
  |ask b |rd c i |wr c i=>obtain⟨p,rfl,y⟩:=G;exact(jp y Z #[Z,_,Z,aT Pp #[eY,λl nl=>go l [] _ jc Z (je nl)]])
  |cl f is s a=>
   obtain⟨p,c,g,e,ss,rfl,y,h2,h3,h4,h5⟩:=G
   have Y:s.dep+1 < n+1:=Y
   exact(jp y Z #[Z,_,Z,cq Pp #[_,Z,jp y Z #[j,v,f,is,s,a,.ref c,Z,X,Pn,#[c,g,e,ss,Z,h2,h3,h4,h5],k,Pn,hz,λl x d nl J B S=>go l x d J B S]]])
 intro l x d J B S
 refine I _ _ ?_
 clear I
 have lx:=B.len
 refine#[_,Z,_,Z,cg,λt L=>#[h8,λM N=>#[_,Z,M,l,_,_,Z,Z,jc,am (am J L) N,by show 1+x.length<=_;omega,λr R=>?_]]]
 have C:aa d (ah (ah (ah d t (.tup [.ref j,u])) M (.lst [.ref t])) r (.lst ([.ref t]++x))):=((je L).trans (je N)).trans (je R)
 have ht:ah (ah (ah d t (.tup [.ref j,u])) M (.lst [.ref t])) r (.lst ([.ref t]++x)) t=some (.tup [.ref j,u]):=am (am jc N) R
 have T:H r=none:=by
  cases z:H r with
  |none=>rfl
  |some o=>have:=((je (o:=.lst [.ref t]) N) _ _ ((je (o:=.tup [.ref j,u]) L) _ _ (S _ _ z)));rw[R]at this;cases this
 exact q r _ _ T jc #[.ref t,x,Z,#[t,j,u,Z,ht,C _ _ (S _ _ X),G.mono (aa.tm (S.trans C))],B.mono nW (aa.tm C)] (S.trans C)
theorem on:ai ["path","chain","told","number","step"] ["path","chain"] (ae yO):=bK
theorem CT{f:Addr}{fd:FuncData}{n:Nat}{fA:Addr}{U:FuncData}(F:aQ K "whats_in" "whats_in" yO f fd)(cA:Cl P w K mg base (2*n+1) fA U z5z (mV n) "whats_at")(V:mg "enumerate"=none):af P w K mg base aE (2*n+2) f fd ["path","chain"] (iI n):=by
 refine F.ok on ?_ λc0 A Y s H vs Q E hr h=>?_
 ·rintro _ _ _ _ ⟨pa,k,f,is,s,a,u,rfl,_⟩
  rfl
 obtain⟨pa,k,f,is,s,a,u,rfl,hp,h6,hc,d,hd,hz,q⟩:=h
 refine#[_,(jd (jD 2 on.nd (jJ jb)) (jd (j7 PassesOwn.never Z (q9 Z V (ja (ju (pv 1)) jb)) (qf (n:=2) Z (jF (jw (i:=3) on.nd Z (Or.inl Z)) (jF (jw (i:=4) on.nd Z (Or.inl Z)) kU))) (jf (jB (jU PySem.F.plainAttrs_list PySem.F.slot_list_extend PySem.F.type_list_extend zn (pv 2) (ja (cA.e hr.m (ja (jx ke (pv 0) (jl (ja (pv 3) jb))) (ja (ju (pv 4)) jb))) jb))))) (jf (jm (pv 2))))),?_]
 have b0:=aH
 obtain⟨c,g,e,ss,rfl,h1,h2,h3,h4⟩:=hc
 have fl:=kP d k 0
 rw[zw d]at fl
 have lt:=zi d h4
 refine aj λF1 v=>#[eY,λT N=>v _ _ ?_]
 clear v
 have s1:aa H (ah H T (.lst [])):=je N
 refine aj λF1 v=>dq λJ j=>(jp (s1 _ _ h1) Z #[e,Z,#[_,aA.of (s1 _ _ h3)],j _ _ ?_])
 clear j
 refine zZ (K:=K) (xs:=ss) (Ie pa T k (.ref c) s H) #[none,none,[],Z,jc,Z,s1] (λi σ Hx _ h=>?_) ?_ (λσ Hx h=>v _ _ ?_)
 ·obtain⟨_,_,_,_,_,_,y⟩:=h
  exact aA.of (y _ _ h3)
 ·intro E hE i x B σ O hx np f0 Gq l h
  clear v
  obtain⟨o3,o4,xs,rfl,R,W,y⟩:=h
  have C:aa O (ah O B (.tup [.int i,x])):=je np
  have e8:ah O B (.tup [.int i,x]) B=some (.tup [.int i,x]):=jc
  refine l ?_
  clear l
  generalize ah O B (.tup [.int i,x])=H8 at C e8 ⊢
  have S8:=y.trans C
  obtain⟨n1,D,w,p,hh,u,ht,o1,d0,s2,rfl,h0,h7,hw⟩:=qi d (h4.mono (aa.tm S8)) hx
  refine#[B,_,Z,aA.of e8,Z,_,_,Z,_,_,Z,Z,?_]
  refine#[_,Z,.inl #[Z,_,aJ.of (C _ _ R)],_,Z,_,Z,h8,λt nt=>#[pa,t,_,_,Z,Z,am (S8 _ _ hp) nt,jc,by rw[List.length_map];show _+1<=_;omega,λr9 H9 e9 s9=>?_]]
  have S9:=(je (o:=.tup [.int i]) nt).trans s9
  rw[i6]at e9
  refine(jp (S9 _ _ h0) Z #[r9,_,w,u,Z,e9,by rw[List.length_append];show _+1+_<=_;omega,hw.mono (aa.tm S9),o1,Pn,Pn,λr X G nr hr I s0=>?_])
  have S:=S9.trans s0
  have L:=S _ _ (C _ _ R)
  have lx:=W.len
  have l0:=I.len
  have bl:=QL s.steps (i+1) k 0
  have h5:i < s.steps.length:=(List.getElem?_eq_some_iff.mp ht).1
  have et:s.steps.take (i+1)=s.steps.take i++[(n1,D,w)]:=by rw[List.take_add_one,ht];rfl
  have eb:dP [(n1,D,w)] k (0+(s.steps.take i).length)=(k++[(i:Int)],w)::w.ws (k++[(i:Int)]) 0:=by
   rw[List.length_take,Nat.min_eq_left (Nat.le_of_lt h5),Nat.zero_add]
   show(_::_)++[]=_
   rw[List.append_nil]
  rw[fl,et,zF,eb]at bl
  rw[List.length_append]at bl
  have M:ax G (ah G T (.lst (xs++X))):=λb ys e=>by rw[jh (jS e L (by intro z;cases z))];exact e
  refine#[T,r,_,_,Z,Z,L,hr,Pn,f0 _ _ #[_,_,xs++X,Z,jc,?_,λb o e=>?_]]
  ·rw[et,zF,eb]
   exact(I.mono nW M).app ((W.mono nW (aa.tm (C.trans S))).mono nW M)
  ·rw[jh (ji e N)]
   exact S _ _ (S8 _ _ e)
 ·obtain⟨o3,o4,xs,rfl,R,W,y⟩:=h
  rw[lt,List.take_length,<- zw d]at W
  exact#[_,Z,q T xs Hx N R W y]
theorem Cj{f:Addr}{F:FuncData}{k:Nat}:af P w K mg base aE k f F ["path","chain"] (iI 0):=by
 have n:∀v H Q E,¬iI 0 v H Q E:=λv H Q E h=>by
  obtain⟨p,c,f,i,s,a,u,_,_,_,_,_,z,_⟩:=h
  omega
 exact#[λv H Q E h=>absurd h (n v H Q E),λA o s H b U v Q E _ _ _ _ h=>absurd h (n v H Q E)]
theorem FX{d a:Addr}{F f:FuncData}(b:aQ K "whats_at" "whats_at" yN d F)(B:aC K F z5z [])(M:mg "whats_at"=some (.ref d))(c:aQ K "whats_in" "whats_in" yO a f)(e:aC K f ["path","chain"] [])(g:mg "whats_in"=some (.ref a))(m:mg "enumerate"=none):∀n,af P w K mg base aE (2*n+2) a f ["path","chain"] (iI n)
 |0=>Cj
 |n+1=>by
  have h:=FX b B M c e g m n
  have H:=tX b #[h,e,c.kp,g]
  exact CT c #[H,B,b.kp,M] m
theorem Fp:ai z5z z5z (ae yH):=bK
noncomputable def pT:Scope:=#[.function,[(".0",.local),("one",.local),("done",.local)],false,false,[]]
theorem tI:(["one","done"]:List Str).Nodup:=by decide+kernel
theorem Bx:bn z5z (ae yH) pT ["one","done"] 2 []:=pY
theorem CJ{f:Addr}{B:FuncData}{n:Nat}{L:Addr}{j:FuncData}(F:aQ K "paths_at" "paths_at" yH f B)(M:Cl P w K mg base (2*n+3) L j z5z (mV (n+1)) "whats_at"):af P w K mg base aE (2*n+4) f B z5z (iX (n+1)):=by
 refine F.ok Fp ?_ λR A O s H vs Q E T h=>?_
 ·rintro _ _ _ _ ⟨C,p,w,u,rfl,_⟩
  rfl
 obtain⟨C,p,w,u,rfl,V,k,W,b,Y,hz,q⟩:=h
 refine#[_,(jf (jm (@zT _ _ _ _ _ _ _ (["one","done"]) (2) ([]) _ _ _ _ Z (zh (M.e T.m (ja (pv 0) (ja (pv 1) jb)))) Bx (λ_ _ _ _ _=>Zk (K:=K) (n:=2) Z Z (jF (jw (i:=0) tI Z (Or.inl Z)) (jF (jw (i:=1) tI Z (Or.inl Z)) kU)) Z Z) (λ_ _ _ _ _=>(@qg _)) (λ_ _ _ _ _=>(pv 0)) (by intro _;rfl)))),?_]
 have b0:=aH
 have fl:=kP b p 0
 refine#[_,Z,_,Z,C,p,w,u,Z,V,k,W,b,Y,hz,λr X a nr c t G=>?_]
 have lx:=t.len
 rw[List.length_cons,fl]at lx
 have lm:(X.map (oY a)).length=X.length:=List.length_map _
 refine#[r,Z,#[_,aJ.of c],X5 (λi=>((X.map (oY a))[i]?).getD .non) Pn (aJ.of c) (λi x I=>?_) λl N=>q l (X.map (oY a)) _ ?_ ?_ ?_ (G.trans (je N))]
 ·obtain⟨⟨p',w'⟩,_,v,y,U,rfl,g,J,g3⟩:=t.at I
  refine#[v,.ref y,U,Z,aA.of g,λQ d=>#[_,Z,?_]]
  rw[List.getElem?_map,I]at d
  have d:Q (oY a (.ref v)) a:=d
  rw[AK g]at d
  exact d
 ·cases z:H l with
  |none=>rfl
  |some o=>rw[G _ _ z]at N;cases N
 ·rw[jc,<- lm,qZ]
 ·have e:bQ p w=((p,w)::w.ws p 0).map (·.1):=rfl
  rw[e]
  exact(bh.map (S:=gG) (f:=oY a) (λx w #[v,y,U,e0,g,J,g3]=>by subst e0;rw[AK g];exact#[y,Z,J]) t).mono bX (aa.tm (je N))
noncomputable abbrev uO:Stmt:=bM 33
noncomputable abbrev uN:Stmt:=bM 34
noncomputable abbrev Dr:Stmt:=bM 35
theorem iR{A:Around}{k:Nat}(h:bq k A):A.units+10+1 < cLine:=by have:=h.un;omega
theorem qm:∀{I J:List Int},au (I.map ap)=au (J.map ap)->I=J
 | [],[],_=>rfl
 | [],_::_,e=>by cases e
 |_::_,[],e=>by cases e
 |i::I,j::J,e=>by
  have e:Tr.cons (ap i) (au (I.map ap))= .cons (ap j) (au (J.map ap)):=e
  injection e with E a
  injection E with E
  injection E with E
  rw[E,qm a]
theorem zj:∀i:List Int,(au (i.map ap)).In
 | []=>trivial
 |_::i=>#[Z,zj i]
theorem Jo(n:Int)(h:List Int):(au [ap n,ay (h.map ap)]).In:=#[Z,zj h,trivial]
theorem QU(n:Int)(H:List Int):(au [ap n,ay (H.map ap)]).dep < 10:=by
 have h:=ze H
 show max 0 (max ((au (H.map ap)).dep+1) 0) < 10
 omega
noncomputable def oX(P:aM->Bool):Nat->List aM->Option Nat
 |_,[]=>none
 |k,s::r=>if P s=true then some k else oX P (k+1) r
noncomputable def i7(P:aM->Bool)(os:List aM)(m:Nat):Option Nat:=oX P m (os.drop m)
theorem sh{P:aM->Bool}{os:List aM}{m:Nat}{s:aM}(h:os[m]?=some s):i7 P os m=if P s=true then some m else i7 P os (m+1):=by
 obtain⟨H,e⟩:=List.getElem?_eq_some_iff.mp h
 unfold i7
 rw[<- List.getElem_cons_drop (h:=H),e]
 rfl
theorem Zy{P:aM->Bool}{os:List aM}{m:Nat}(h:os.length<=m):i7 P os m=none:=by
 unfold i7
 rw[List.drop_eq_nil_of_le h]
 rfl
theorem Zz{P:aM->Bool}:∀{os:List aM} {k j:Nat},oX P k os=some j->∃i s,j=k+i/\os[i]?=some s/\P s=true
 | [],_,_,h=>nomatch h
 |s::r,k,j,h=>by
  have h:(if P s=true then some k else oX P (k+1) r)=some j:=h
  by_cases H:P s=true
  ·rw[if_pos H]at h
   cases h
   exact#[0,s,Z,Z,H]
  ·rw[if_neg H]at h
   obtain⟨i,S,e,a,b⟩:=Zz h
   exact#[i+1,S,Pn,by simpa using a,b]
theorem ZA{P:aM->Bool}{os:List aM}{m j:Nat}(h:i7 P os m=some j):m<=j/\∃s,os[j]?=some s/\P s=true:=by
 obtain⟨i,s,e,H,a⟩:=Zz h
 rw[List.getElem?_drop]at H
 exact#[Pn,s,by rw[e];exact H,a]
noncomputable def uh:Option Nat->V
 |some j=>.int (j:Int)
 |none=>.non
noncomputable def aO(n:Int)(h:List Int)(s:aM):Bool:=decide (s.1=n/\s.2.1=h)
noncomputable def cj(f:Str)(i:List Int)(s:aM):Bool:=match s.2.2 with
 | .cl g j _ _=>decide (g=f/\j=i)
 |_=>false
noncomputable def iU(os:List aM)(m:Nat):Sk->Option Nat
 | .cl f i _ _=>i7 (cj f i) os m
 |_=>none
noncomputable def eZ(os:List aM)(m:Nat)(n:Int)(h:List Int)(w:Sk):Option Nat:=match i7 (aO n h) os m with
 |some j=>some j
 |none=>iU os m w
theorem wY{n N:Int}{H h:List Int}(e:ay [ap n,ay (H.map ap)]=ay [ap N,ay (h.map ap)]):n=N/\H=h:=by
 have e:Tr.tp (.cons (ap n) (.cons (ay (H.map ap)) .nil))= .tp (.cons (ap N) (.cons (ay (h.map ap)) .nil)):=e
 injection e with e
 injection e with a A
 injection A with b _
 injection a with a
 injection a with a
 have b:Tr.tp (au (H.map ap))= .tp (au (h.map ap)):=b
 injection b with b
 exact#[a,qm b]
theorem Yi{n N:Int}{a H:List Int}{w:Sk}:fq (ay [ap N,ay (H.map ap)]) (ay [ap n,ay (a.map ap)])=aO n a (N,H,w):=by
 by_cases h:N=n/\H=a
 ·rw[h.1,h.2,zo Z]
  exact(decide_eq_true #[Z,Z]).symm
 ·rw[kX λe=>h (wY e)]
  exact(decide_eq_false h).symm
theorem XG{f g:Str}{i j:List Int}(e:ay [aK "call",aK g,ay (j.map ap)]=ay [aK "call",aK f,ay (i.map ap)]):g=f/\j=i:=by
 have e:Tr.tp (.cons (aK "call") (.cons (aK g) (.cons (ay (j.map ap)) .nil)))= .tp (.cons (aK "call") (.cons (aK f) (.cons (ay (i.map ap)) .nil))):=e
 injection e with e
 injection e with _ e
 injection e with a A
 injection A with b _
 injection a with a
 injection a with a
 have b:Tr.tp (au (j.map ap))= .tp (au (i.map ap)):=b
 injection b with b
 exact#[a,qm b]
theorem qT{a b:Str}{x y:List Tr}(e:ay (aK a::x)=ay (aK b::y)):a=b:=by
 have e:Tr.tp (.cons (aK a) (au x))= .tp (.cons (aK b) (au y)):=e
 injection e with e
 injection e with e _
 injection e with e
 injection e
theorem BW{f:Str}{i:List Int}{n':Int}{hs':List Int}{w s:Sk}{a:Int}(o:w.ok false):fq (dZ w) (dZ (.cl f i s a))=cj f i (n',hs',w):=by
 cases w with
 |nil |st _ _ _ _=>exact o.elim
 |ask b |rd b c |wr b c=>show fq (ay _) (ay _)=_;rw[kX λe=>absurd (qT e) Pm];rfl
 |cl g j S A=>
  by_cases h:g=f/\j=i
  ·rw[h.1,h.2]
   show fq (ay _) (ay _)=_
   rw[zo Z]
   exact(decide_eq_true #[Z,Z]).symm
  ·show fq (ay _) (ay _)=_
   rw[kX λe=>h (XG e)]
   exact(decide_eq_false h).symm
theorem ZB{w:Sk}(o:w.ok false):∃l,dZ w= .tp l/\l.dep < 10/\l.In/\∃v t,l= .cons (aK v) t/\(v="call"↔∃f i s a,w= .cl f i s a):=by
 cases w with
 |nil |st _ _ _ _=>exact o.elim
 |ask b |rd b B=>exact#[_,Z,by show max 0 (max 0 0) < 10;decide,#[Z,Z,trivial],_,_,Z,λe=>absurd e Pm,λ#[_,_,_,_,e]=>nomatch e]
 |wr b B=>exact#[_,Z,by show max 0 (max 0 (max 0 0)) < 10;decide,#[Z,Z,Z,trivial],_,_,Z,λe=>absurd e Pm,λ#[_,_,_,_,e]=>nomatch e]
 |cl f i s a=>exact#[_,Z,by show max 0 (max 0 (max ((au (i.map ap)).dep+1) 0)) < 10;rw[ze];decide,#[Z,Z,zj i,trivial],_,_,Z,λ_=>#[_,_,_,_,Z],λ_=>Z]
inductive lR(f:List V)(H:Hp)(Q:VK)(a:XK):Prop
 |mk(e:Addr)(d:List V)(s:Sk)(m:Nat)(n:Int)(c:List Int)(b:V)(_:f=[.ref e,.int (m:Int),b])(_:H e=some (.tup d))(_:dm H s .non d)(_:s.ok true)(_:s.size<=1000)(_:m<=1000)(_:aP H (ay [ap n,ay (c.map ap)]) b [])(_:∀H',aa H H'->Q (uh (i7 (aO n c) s.steps m)) H')
inductive lQ(d:List V)(H:Hp)(Q:VK)(a:XK):Prop
 |mk(e:Addr)(c:List V)(s w:Sk)(m:Nat)(b:V)(_:d=[.ref e,.int (m:Int),b])(_:H e=some (.tup c))(_:dm H s .non c)(_:s.ok true)(_:s.size<=1000)(_:m<=1000)(_:aP H (dZ w) b [])(_:w.ok false)(_:∀H',aa H H'->Q (uh (iU s.steps m w)) H')
inductive mQ(d:List V)(H:Hp)(Q:VK)(a:XK):Prop
 |mk(e p h:Addr)(c:List V)(s w:Sk)(m:Nat)(n:Int)(b:List Int)(u:V)(_:d=[.ref e,.int (m:Int),.ref p])(_:H e=some (.tup c))(_:dm H s .non c)(_:s.ok true)(_:s.size<=1000)(_:m<=1000)(_:H p=some (.tup [.int n,.ref h,u]))(_:H h=some (.tup (b.map V.int)))(_:dm H w u [])(_:w.ok false)(_:∀H',aa H H'->Q (uh (eZ s.steps m n b w)) H')
theorem u8:ai ["steps","mark","cut","at"] ["steps","mark","cut"] (ae uO):=bK
theorem xZ{f:Addr}{G:FuncData}(F:aQ K "like_from" "like_from" uO f G)(T:mg "len"=none)(U:mg "range"=none):af P w K mg base aE 1 f G ["steps","mark","cut"] lR:=by
 refine F.ok u8 ?_ λV A O s H vs Q E W h=>?_
 ·rintro _ _ _ _ ⟨e,v,s,m,n,c,C,rfl,_⟩
  rfl
 obtain⟨e,v,s,m,n,c,C,rfl,I,g,k,Y,hm,hc,q⟩:=h
 refine#[_,(jd (j7 PassesOwn.never Z (zQ Z U (ja (pv 1) (ja (jO jL Z T PySem.boot_len (ja (pv 0) jb)) jb))) (jw (i:=3) u8.nd Z (Or.inl Z)) (jf (jy (jC (QK (d:=10) (iR W)) (jK jV (jv jE (pv 0) (pv 3) (λ_ _=>Z)) jR (jN jg)) (pv 2) (aN _)) (jf (jm (pv 3))) jr))) (jf (jm (@Kc _ _ _)))),?_]
 have b0:=aH
 have l0:=zi k g
 have l1:=qI k g
 refine aj λF1 f1=>dq λJ j=>#[_,Z,_,Z,e,_,Z,.inr (aA.of I),_,_,Z,#[Pn,Pn,Pn,Pn],j _ _ ?_]
 clear j
 refine kQ (λi x L=>(∃y,x=[some (.ref e),some (.int (m:Int)),some C,y])/\aa H L/\i7 (aO n c) s.steps m=i7 (aO n c) s.steps (m+i)) #[#[_,Z],aa.refl _,Z] ?_ (λx L h=>f1 _ _ ?_)
 ·intro M rt i x H2 hi fE X l h
  obtain⟨⟨y,rfl⟩,S,b⟩:=h
  refine l ?_
  clear l
  have e0:(m:Int)+(i:Int)=((m+i:Nat):Int):=by omega
  rw[e0]
  have o:m+i < v.length:=by omega
  obtain⟨N,a,w,p,h,u,ht,o1,_,_,ex,hp,hh,_⟩:=qi k (g.mono (aa.tm S)) (List.getElem?_eq_getElem o)
  have B:v[m+i]?=some (.ref p):=by rw[List.getElem?_eq_getElem o,ex]
  show gD _ _ _ M _ _
  refine iS λG1 kT kF=>#[_,Z,_,Z,e,_,_,_,Z,Z,aA.of (S _ _ I),jH B,_,Z,p,_,Z,hp,λq2 H1 D r=>#[_,Z,_,_,QU N a,Jo N a,Jo n c,jA D (jk Z jT (jk Z (j9 (r _ _ hh)) jz)),hc.mono (aa.tm (S.trans r)),_,Z,?_]]
  rw[show fq (.tp (au [ap N,ay (a.map ap)])) (.tp (au [ap n,ay (c.map ap)]))=aO n c (N,a,w) from Yi]
  have t:=sh (P:=aO n c) ht
  cases R:aO n c (N,a,w) with
  |true=>
   refine kT _ ?_
   show iM _ M _ _
   unfold iM
   rw[rt]
   rw[if_pos R]at t
   have z:=q _ (S.trans r)
   rw[b,t]at z
   exact#[_,Z,z]
  |false=>
   rw[if_neg (by rw[R];intro z;cases z)]at t
   exact kF _ (fE _ _ #[#[_,Z],S.trans r,by rw[b,t];rfl])
 ·obtain⟨⟨y,rfl⟩,S,b⟩:=h
  have z:=q _ S
  rw[b,Zy Pn]at z
  exact z
theorem u7:ai ["steps","mark","deed","at"] ["steps","mark","deed"] (ae uN):=bK
theorem xY{f:Addr}{fd:FuncData}{fI:Addr}{D:FuncData}(F:aQ K "lender_from" "lender_from" uN f fd)(cI:Cl P w K mg base 1 fI D ["what"] mG "deed_in")(ml:mg "len"=none)(mr:mg "range"=none):af P w K mg base aE 2 f fd ["steps","mark","deed"] lQ:=by
 refine F.ok u7 ?_ λc0 A O s H vs Q E hr h=>?_
 ·rintro _ _ _ _ ⟨e,G,s,w,m,dv,rfl,_⟩
  rfl
 obtain⟨e,G,s,w,m,dv,rfl,he,c,g,h1,hm,L,M,q⟩:=h
 refine#[_,(jd (jy (jC Xa (ju (pv 2)) jo (aN _)) (jf (jm (@Kc _ _ _))) jr) (jd (j7 PassesOwn.never Z (zQ Z mr (ja (pv 1) (ja (jO jL Z ml PySem.boot_len (ja (pv 0) jb)) jb))) (jw (i:=3) u7.nd Z (Or.inl Z)) (jf (jy (jC (QK (d:=10) (iR hr)) (cI.e hr.m (ja (ju (jv jE (pv 0) (pv 3) (λ_ _=>Z))) jb)) (pv 2) (aN _)) (jf (jm (pv 3))) jr))) (jf (jm (@Kc _ _ _))))),?_]
 have b0:=aH
 have l0:=zi g c
 have l1:=qI g c
 obtain⟨l,el,dl,il,v0,ts,ev,r⟩:=ZB M
 rw[el]at L
 obtain⟨_,da,ds,rfl,N,t⟩:=id L
 rw[ev]at t
 obtain⟨_,_,y0,y1,rfl,⟨rfl,_⟩,_⟩:=t
 refine aj λF1 y=>(jp N dS #[Z,_,Z,?_])
 by_cases B:v0="call"
 ·obtain⟨f,I,s1,a1,rfl⟩:=r.mp B
  subst B
  refine aT Pp (y _ _ ?_)
  clear y
  refine aj λF1 y=>dq λJ j=>#[_,Z,_,Z,e,_,Z,.inr (aA.of he),_,_,Z,#[Pn,Pn,Pn,Pn],j _ _ ?_]
  clear j
  refine kQ (λi R T=>(∃U,R=[some (.ref e),some (.int (m:Int)),some (.ref da),U])/\aa H T/\i7 (cj f I) s.steps m=i7 (cj f I) s.steps (m+i)) #[#[_,Z],aa.refl _,Z] ?_ (λR T h=>y _ _ ?_)
  ·intro E2 rt i R H2 hi fE Gq n h
   obtain⟨⟨U,rfl⟩,S,b⟩:=h
   refine n ?_
   clear n
   have e0:(m:Int)+(i:Int)=((m+i:Nat):Int):=by omega
   rw[e0]
   have v:m+i < G.length:=by omega
   obtain⟨n',hs',w,p,h,u,ht,o,_,_,ex,hp,hh,hw⟩:=qi g (c.mono (aa.tm S)) (List.getElem?_eq_getElem v)
   have W:G[m+i]?=some (.ref p):=by rw[List.getElem?_eq_getElem v,ex]
   obtain⟨l',x,X,Y,_⟩:=ZB o
   show gD _ _ _ E2 _ _
   refine iS λG1 kT kF=>#[_,Z,_,Z,e,_,_,_,Z,Z,aA.of (S _ _ he),jH W,p,_,_,_,Z,Z,aA.of hp,dw,u,w,Z,hw,o,λv1 H1 h0 k=>#[_,Z,l',l,X,Y,il,x▸h0,L.mono (aa.tm (S.trans k)),_,Z,?_]]
   rw[<- x,<- el,BW (n':=n') (hs':=hs') o]
   have C:=sh (P:=cj f I) ht
   cases hb:cj f I (n',hs',w) with
   |true=>
    refine kT _ ?_
    show iM _ E2 _ _
    unfold iM
    rw[rt]
    rw[if_pos hb]at C
    have z:Q (uh (i7 (cj f I) s.steps m)) H1:=q _ (S.trans k)
    rw[b,C]at z
    exact#[_,Z,z]
   |false=>
    rw[if_neg (by rw[hb];intro z;cases z)]at C
    exact kF _ (fE _ _ #[#[_,Z],S.trans k,by rw[b,C];rfl])
  ·obtain⟨⟨U,rfl⟩,S,b⟩:=h
   have z:Q (uh (i7 (cj f I) s.steps m)) T:=q _ S
   rw[b,Zy Pn]at z
   exact z
 ·refine cq ?_ ?_
  ·show(!decide (V.str v0=V.str "call"))=true
   rw[decide_eq_false λz=>B (by injection z)]
   rfl
  have z:=q _ (aa.refl _)
  have en:iU s.steps m w=none:=by
   cases w with
   |cl f I s a=>exact absurd (r.mpr #[f,I,s,a,Z]) B
   |_=>rfl
  rw[en]at z
  exact z
theorem A4:ai ["steps","mark","step","like"] ["steps","mark","step"] (ae Dr):=bK
theorem CP{f:Addr}{C:FuncData}{N R T:Addr}{i k l:FuncData}(F:aQ K "taken_from" "taken_from" Dr f C)(U:Cl P w K mg base 1 N i ["steps","mark","cut"] lR "like_from")(V:Cl P w K mg base 2 R k ["steps","mark","deed"] lQ "lender_from")(W:Cl P w K mg base 1 T l ["what"] mG "deed_in"):af P w K mg base aE 3 f C ["steps","mark","step"] mQ:=by
 refine F.ok A4 ?_ λX A O s H vs Q E r h=>?_
 ·rintro _ _ _ _ ⟨e,p,h,t,s,w,m,n,a,u,rfl,_⟩
  rfl
 obtain⟨e,p,h,t,s,w,m,n,a,u,rfl,G,b,c,d,I,J,Y,hw,o,q⟩:=h
 refine#[_,(jd (jD 3 A4.nd (U.e r.m (ja (pv 0) (ja (pv 1) (ja (jK jV (pv 2) jR (jN jg)) jb))))) (jf (jm (kK (Kd (@QA _ _ _ _ _ (pv 3))) (V.e r.m (ja (pv 0) (ja (pv 1) (ja (W.e r.m (ja (ju (pv 2)) jb)) jb)))) (pv 3))))),?_]
 refine aj λF1 L=>#[_,Z,_,Z,_,Z,_,Z,p,_,Z,J,λq2 H1 v g=>#[e,t,s,m,n,a,_,Z,g _ _ G,b.mono (aa.tm g),c,d,I,jA v (jk Z jT (jk Z (j9 (g _ _ Y)) jz)),λH2 s2=>L _ _ ?_]]
 clear L
 have S:=g.trans s2
 cases M:i7 (aO n a) s.steps m with
 |some j=>
  refine#[_,Z,_,Z,aT (decide_eq_false (by intro z;cases z)) #[_,Z,?_]]
  have z:=q _ S
  have x:eZ s.steps m n a w=some j:=by unfold eZ;rw[M]
  rw[x]at z
  exact z
 |none=>
  refine#[_,Z,_,Z,cq (decide_eq_true Z) #[_,Z,_,Z,jp (S _ _ J) dw #[u,w,Z,hw.mono (aa.tm S),o,λv1 H3 y B=>#[e,t,s,w,m,v1,Z,B _ _ (S _ _ G),b.mono (aa.tm (S.trans B)),c,d,I,y,o,λH4 s4=>?_]]]]
  have z:=q _ ((S.trans B).trans s4)
  have x:eZ s.steps m n a w=iU s.steps m w:=by unfold eZ;rw[M]
  rw[x]at z
  exact z
abbrev D3:=aG×aG
structure Ly where
 k:List D3
 t:List D3
 f:List aG
 d:List aG
noncomputable def Ly.app(a b:Ly):Ly:=#[a.k++b.k,a.t++b.t,a.f++b.f,a.d++b.d]
noncomputable def Ly.nil:Ly:=#[[],[],[],[]]
noncomputable def Ly.tot(a:Ly):Nat:=a.k.length+a.t.length+a.f.length+a.d.length
theorem Ly.app_assoc(a b c:Ly):(a.app b).app c=a.app (b.app c):=by unfold Ly.app;simp [List.append_assoc]
theorem Ly.app_nil(a:Ly):a.app .nil=a:=by unfold Ly.app Ly.nil;simp
theorem Ly.nil_app(a:Ly):Ly.nil.app a=a:=rfl
theorem Ly.tot_app(a b:Ly):(a.app b).tot=a.tot+b.tot:=by unfold Ly.app Ly.tot;simp only[List.length_append];omega
noncomputable def Sk.fnd:Sk->Int
 | .ask b=>b
 | .rd _ i=>i
 | .wr _ i=>i
 | .cl _ _ _ a=>a
 |_=>0
noncomputable def iO:Sk->List aM
 | .cl _ _ s _=>s.steps
 |_=>[]
noncomputable def dU(p:aG)(os:List aM)(m j:Nat):List aG:=(dP ((os.drop m).take (j - m)) p m).map (·.1)
noncomputable def one(p:aG)(o:aM)(a:aG)(n:Int)(h:List Int)(w:Sk):Ly:=
 if aO n h o=true then (if o.2.2.fnd=w.fnd then #[[(p,a)],[],[],[]] else #[[],[(p,a)],[],[]]) else #[[],[],[a],[p]]
noncomputable def dE:Sk->aG->List aM->Nat->aG->Nat->Ly
 | .st n h w r,p,os,m,a,k=>match eZ os m n h w with
  |none=>(#[[],[],bQ (a++[(k:Int)]) w,[]]:Ly).app (dE r p os m a (k+1))
  |some j=>match os[j]? with
   |none=>.nil
   |some o=>((#[[],[],[],dU p os m j]:Ly).app ((one (p++[(j:Int)]) o (a++[(k:Int)]) n h w).app (dE w (p++[(j:Int)]) (iO o.2.2) 0 (a++[(k:Int)]) 0))).app (dE r p os (j+1) a (k+1))
 | .cl _ _ s _,p,os,m,a,k=>dE s p os m a k
 | .nil,p,os,m,_,_=>#[[],[],[],dU p os m os.length]
 |_,_,_,_,_,_=>.nil
theorem zO{n:Int}{H:List Int}{w r:Sk}{a:aG}{os:List aM}{m:Nat}{p:aG}{k:Nat}(h:eZ os m n H w=none):dE (.st n H w r) a os m p k=(#[[],[],bQ (p++[(k:Int)]) w,[]]:Ly).app (dE r a os m p (k+1)):=by
 show(match eZ os m n H w with |none=>_ |some j=>_)=_
 rw[h]
theorem zP{n:Int}{H:List Int}{w r:Sk}{p:aG}{os:List aM}{m:Nat}{a:aG}{k j:Nat}{o:aM}(h:eZ os m n H w=some j)(b:os[j]?=some o):dE (.st n H w r) p os m a k=((#[[],[],[],dU p os m j]:Ly).app ((one (p++[(j:Int)]) o (a++[(k:Int)]) n H w).app (dE w (p++[(j:Int)]) (iO o.2.2) 0 (a++[(k:Int)]) 0))).app (dE r p os (j+1) a (k+1)):=by
 show(match eZ os m n H w with |none=>_ |some j=>match os[j]? with |none=>Ly.nil |some o=>_)=_
 rw[h]
 dsimp only
 rw[b]
abbrev DF:=Str->Int->List Int->Tr
def Dt(D:DF):Str->Sk->Prop
 |f,.st n h w r=>dZ w=D f n h/\Dt D f w/\Dt D f r
 |_,.cl g _ s _=>Dt D g s
 |_,_=>True
theorem Kb{D:DF}{f:Str}:∀{s:Sk},Dt D f s->∀{j:Nat} {o:aM},s.steps[j]?=some o->dZ o.2.2=D f o.1 o.2.1/\Dt D f o.2.2
 | .st n H w r,h,0,o,e=>by cases e;exact#[h.1,h.2.1]
 | .st n H w r,h,j+1,o,e=>Kb h.2.2 (j:=j) (by have e:((n,H,w)::r.steps)[j+1]?=some o:=e;simpa using e)
 | .nil,_,j,o,e=>by have e:([]:List aM)[j]?=some o:=e;simp at e
 | .ask _,_,j,o,e=>by have e:([]:List aM)[j]?=some o:=e;simp at e
 | .rd _ _,_,j,o,e=>by have e:([]:List aM)[j]?=some o:=e;simp at e
 | .wr _ _,_,j,o,e=>by have e:([]:List aM)[j]?=some o:=e;simp at e
 | .cl _ _ _ _,_,j,o,e=>by have e:([]:List aM)[j]?=some o:=e;simp at e
theorem kW{os:List aM}{m j:Nat}{n:Int}{H:List Int}{w:Sk}(h:eZ os m n H w=some j):m<=j/\∃o,os[j]?=some o/\(aO n H o=true∨∃f I s a,w= .cl f I s a/\cj f I o=true):=by
 unfold eZ at h
 cases e:i7 (aO n H) os m with
 |some i=>
  rw[e]at h
  cases h
  obtain⟨b,s,c,d⟩:=ZA e
  exact#[b,s,c,.inl d]
 |none=>
  rw[e]at h
  have h:iU os m w=some j:=h
  cases w with
  |cl f I s a=>
   obtain⟨b,S,c,d⟩:=ZA (show i7 (cj f I) os m=some j from h)
   exact#[b,S,c,.inr #[f,I,s,a,Z,d]]
  |_=>cases h
theorem sY{n:Int}{H:List Int}{o:aM}(h:aO n H o=true):o.1=n/\o.2.1=H:=of_decide_eq_true h
theorem sU{f:Str}{i:List Int}{o:aM}(h:cj f i o=true):∃s a,o.2.2= .cl f i s a:=by
 unfold cj at h
 split at h
 ·rename_i g j s a e
  obtain⟨rfl,rfl⟩:=of_decide_eq_true h
  exact#[s,a,e]
 ·cases h
theorem Yj{w:Sk}{f:Str}{i:List Int}{s:Sk}{a:Int}(o:w.ok false)(e:dZ w=dZ (.cl f i s a)):∃S A,w= .cl f i S A:=by
 cases w with
 |nil |st _ _ _ _=>exact o.elim
 |ask b |rd b c |wr b c=>exact absurd (qT e) Pm
 |cl g j S A=>obtain⟨rfl,rfl⟩:=XG e;exact#[S,A,Z]
theorem Yk{D:DF}{f:Str}{os s:Sk}{m j:Nat}{n:Int}{b:List Int}{w:Sk}{o:aM}(r:os.ok true)(l:Dt D f os)(h:eZ os.steps m n b w=some j)(d:os.steps[j]?=some o)(O:o.2.2.ok false)(p:dZ w=D f n b):∀g i s a,w= .cl g i s a->∃S A,o.2.2= .cl g i S A:=by
 intro g i s a e
 obtain⟨_,t,H,c⟩:=kW h
 rw[d]at H
 cases H
 rcases c with c | ⟨F,I,S,A,E,c⟩
 ·obtain⟨C,q⟩:=sY c
  obtain⟨k,_⟩:=Kb l d
  rw[C,q,<- p,e]at k
  exact Yj O k
 ·rw[e]at E
  cases E
  exact sU c
def md:RA D3:=λH x p=>∃q a b,x= .ref q/\H q=some (.tup [.ref a,.ref b])/\H a=some (.tup (p.1.map V.int))/\H b=some (.tup (p.2.map V.int))
theorem fc:Gb md:=λ_ _ _ _ k #[q,a,b,e,h,H,c]=>#[q,a,b,e,k _ _ h,k _ _ H,k _ _ c]
structure LK(K:Frag)(C:Addr):Prop where
 cl:nR K C
 n1:aX K C "kept"
 n2:aX K C "turned"
 n3:aX K C "fresh"
 n4:aX K C "dropped"
noncomputable def Gs(k t f d:Addr):List (Str×V):=[("kept",.ref k),("turned",.ref t),("fresh",.ref f),("dropped",.ref d)]
structure L4(H:Hp)(ob:HO)(r kA tA fA dA:Addr)(y:Ly):Prop where
 ins:H r=some ob
 kv:∃xs,H kA=some (.lst xs)/\bh md H y.k xs
 tv:∃xs,H tA=some (.lst xs)/\bh md H y.t xs
 fv:∃xs,H fA=some (.lst xs)/\bh gG H y.f xs
 dv:∃xs,H dA=some (.lst xs)/\bh gG H y.d xs
 ne:kA≠tA/\kA≠fA/\kA≠dA/\tA≠fA/\tA≠dA/\fA≠dA
 nl:∀xs,ob≠ .lst xs
abbrev Lg(H:Hp)(C r D k t f d:Addr)(y:Ly):Prop:=L4 H (.ins C D (Gs k t f d)) r k t f d y
abbrev Lt(H:Hp)(z k t f d:Addr)(y:Ly):Prop:=L4 H (.tup [.ref k,.ref t,.ref f,.ref d]) z k t f d y
def aV(a b c d:Addr)(H h:Hp):Prop:=∀x o,x≠a->x≠b->x≠c->x≠d->H x=some o->h x=some o
theorem aV.of_same{a b c d:Addr}{H h:Hp}(s:aa H h):aV a b c d H h:=λ_ _ _ _ _ _ e=>s _ _ e
theorem aV.trans{a b c d:Addr}{H f g:Hp}(h:aV a b c d H f)(k:aV a b c d f g):aV a b c d H g:=λx o n N i j e=>k x o n N i j (h x o n N i j e)
section
variable {H H':Hp}{ob:HO}{r kA tA fA dA:Addr}{y:Ly}
theorem L4.tm(h:L4 H ob r kA tA fA dA y)(k:aV kA tA fA dA H H'):ax H H':=λb x e=>by
 obtain⟨_,a,_⟩:=h.kv
 obtain⟨_,c,_⟩:=h.tv
 obtain⟨_,d,_⟩:=h.fv
 obtain⟨_,f,_⟩:=h.dv
 exact k b _ (jS e a (by intro z;cases z)) (jS e c (by intro z;cases z)) (jS e d (by intro z;cases z)) (jS e f (by intro z;cases z)) e
theorem L4.same(h:L4 H ob r kA tA fA dA y)(s:aa H H'):L4 H' ob r kA tA fA dA y:=by
 obtain⟨x,a,g⟩:=h.kv
 obtain⟨X,b,G⟩:=h.tv
 obtain⟨c,d,g3⟩:=h.fv
 obtain⟨e,f,i⟩:=h.dv
 exact#[s _ _ h.ins,#[x,s _ _ a,g.mono fc (aa.tm s)],#[X,s _ _ b,G.mono fc (aa.tm s)],#[c,s _ _ d,g3.mono bX (aa.tm s)],#[e,s _ _ f,i.mono bX (aa.tm s)],h.ne,h.nl]
theorem Jp{a:Addr}{x:List V}{o:HO}(h:H a=some (.lst x)):ax H (ah H a o):=λb Y e=>by rw[jh (jS e h (by intro z;cases z))];exact e
theorem L4.setK(h:L4 H ob r kA tA fA dA y){x Y:List V}{p:List D3}(a:H kA=some (.lst x))(g:bh md H p Y):L4 (ah H kA (.lst (x++Y))) ob r kA tA fA dA (y.app #[p,[],[],[]])/\aV kA tA fA dA H (ah H kA (.lst (x++Y))):=by
 have T:=Jp (o:=.lst (x++Y)) a
 obtain⟨v,c,G⟩:=h.kv
 obtain⟨X,i,j⟩:=h.tv
 obtain⟨k,l,g3⟩:=h.fv
 obtain⟨m,n,q⟩:=h.dv
 obtain⟨N,s,u,z,B,C⟩:=h.ne
 rw[c]at a
 cases a
 refine#[#[?_,#[_,jc,(bh.app g G).mono fc T],#[X,?_,?_],#[k,?_,?_],#[m,?_,?_],h.ne,h.nl],λb o A D E F e=>by rw[jh A];exact e]
 ·rw[jh (jS h.ins c (h.nl _))];exact h.ins
 ·rw[jh (Ne.symm N)];exact i
 ·show bh md _ (y.t++[]) _;rw[List.append_nil];exact j.mono fc T
 ·rw[jh (Ne.symm s)];exact l
 ·show bh gG _ (y.f++[]) _;rw[List.append_nil];exact g3.mono bX T
 ·rw[jh (Ne.symm u)];exact n
 ·show bh gG _ (y.d++[]) _;rw[List.append_nil];exact q.mono bX T
theorem L4.setT(h:L4 H ob r kA tA fA dA y){x Y:List V}{p:List D3}(a:H tA=some (.lst x))(g:bh md H p Y):L4 (ah H tA (.lst (x++Y))) ob r kA tA fA dA (y.app #[[],p,[],[]])/\aV kA tA fA dA H (ah H tA (.lst (x++Y))):=by
 have t:=Jp (o:=.lst (x++Y)) a
 obtain⟨X,i,G⟩:=h.kv
 obtain⟨z,c,j⟩:=h.tv
 obtain⟨l,m,g3⟩:=h.fv
 obtain⟨n,q,s⟩:=h.dv
 obtain⟨N,B,C,u,v,D⟩:=h.ne
 rw[c]at a
 cases a
 refine#[#[?_,#[X,?_,?_],#[_,jc,(bh.app g j).mono fc t],#[l,?_,?_],#[n,?_,?_],h.ne,h.nl],λb o E A F I e=>by rw[jh A];exact e]
 ·rw[jh (jS h.ins c (h.nl _))];exact h.ins
 ·rw[jh N];exact i
 ·show bh md _ (y.k++[]) _;rw[List.append_nil];exact G.mono fc t
 ·rw[jh (Ne.symm u)];exact m
 ·show bh gG _ (y.f++[]) _;rw[List.append_nil];exact g3.mono bX t
 ·rw[jh (Ne.symm v)];exact q
 ·show bh gG _ (y.d++[]) _;rw[List.append_nil];exact s.mono bX t
theorem L4.setF(h:L4 H ob r kA tA fA dA y){x Y:List V}{p:List aG}(a:H fA=some (.lst x))(f:bh gG H p Y):L4 (ah H fA (.lst (x++Y))) ob r kA tA fA dA (y.app #[[],[],p,[]])/\aV kA tA fA dA H (ah H fA (.lst (x++Y))):=by
 have T:=Jp (o:=.lst (x++Y)) a
 obtain⟨X,g,G⟩:=h.kv
 obtain⟨i,j,l⟩:=h.tv
 obtain⟨v,c,g3⟩:=h.fv
 obtain⟨m,n,q⟩:=h.dv
 obtain⟨z,N,B,s,C,u⟩:=h.ne
 rw[c]at a
 cases a
 refine#[#[?_,#[X,?_,?_],#[i,?_,?_],#[_,jc,(bh.app f g3).mono bX T],#[m,?_,?_],h.ne,h.nl],λb o D E A F e=>by rw[jh A];exact e]
 ·rw[jh (jS h.ins c (h.nl _))];exact h.ins
 ·rw[jh N];exact g
 ·show bh md _ (y.k++[]) _;rw[List.append_nil];exact G.mono fc T
 ·rw[jh s];exact j
 ·show bh md _ (y.t++[]) _;rw[List.append_nil];exact l.mono fc T
 ·rw[jh (Ne.symm u)];exact n
 ·show bh gG _ (y.d++[]) _;rw[List.append_nil];exact q.mono bX T
theorem L4.setD(h:L4 H ob r kA tA fA dA y){x Y:List V}{p:List aG}(a:H dA=some (.lst x))(d:bh gG H p Y):L4 (ah H dA (.lst (x++Y))) ob r kA tA fA dA (y.app #[[],[],[],p])/\aV kA tA fA dA H (ah H dA (.lst (x++Y))):=by
 have T:=Jp (o:=.lst (x++Y)) a
 obtain⟨X,g,G⟩:=h.kv
 obtain⟨i,j,l⟩:=h.tv
 obtain⟨m,n,g3⟩:=h.fv
 obtain⟨v,c,q⟩:=h.dv
 obtain⟨z,B,N,C,s,u⟩:=h.ne
 rw[c]at a
 cases a
 refine#[#[?_,#[X,?_,?_],#[i,?_,?_],#[m,?_,?_],#[_,jc,(bh.app d q).mono bX T],h.ne,h.nl],λb o D E F A e=>by rw[jh A];exact e]
 ·rw[jh (jS h.ins c (h.nl _))];exact h.ins
 ·rw[jh N];exact g
 ·show bh md _ (y.k++[]) _;rw[List.append_nil];exact G.mono fc T
 ·rw[jh s];exact j
 ·show bh md _ (y.t++[]) _;rw[List.append_nil];exact l.mono fc T
 ·rw[jh u];exact n
 ·show bh gG _ (y.f++[]) _;rw[List.append_nil];exact g3.mono bX T
end
theorem wZ(p:aG)(os:List aM)(m:Nat):dU p os m m=[]:=by unfold dU;rw[Nat.sub_self,List.take_zero];rfl
theorem rN{po:aG}{os:List aM}{m j:Nat}{o:aM}(h:m<=j)(H:os[j]?=some o):dU po os m (j+1)=dU po os m j++bQ (po++[(j:Int)]) o.2.2:=by
 unfold dU
 have e:(os.drop m).take (j+1 - m)=(os.drop m).take (j - m)++[o]:=by
  rw[show j+1 - m=(j - m)+1 by omega,List.take_add_one,List.getElem?_drop,show m+(j - m)=j by omega,H]
  rfl
 have a:((os.drop m).take (j - m)).length=j - m:=by
  have:=(List.getElem?_eq_some_iff.mp H).1
  rw[List.length_take,List.length_drop]
  omega
 rw[e,zF,List.map_append,a,show m+(j - m)=j by omega]
 congr 1
 show(((_,_)::_)++[]).map _=_
 rw[List.append_nil]
 rfl
noncomputable abbrev uL:Stmt:=be (bM 36) 0
noncomputable abbrev yG:Stmt:=be (bM 36) 1
noncomputable abbrev uJ:Stmt:=be (bM 36) 2
noncomputable abbrev yE:Stmt:=be (bM 36) 3
noncomputable abbrev uM:Stmt:=bM 37
section
open SeqAt
variable {X:Cx}
theorem He{p:List (Addr×Obj)}{G:_L.St}{H:Hp}{s:Shared}(I:aq X p G H s)(n:Nat)(J:∀(t:Tr) {A:Around},t.dep<=n->A.units+n < cLine->t.In->t.isL=false->∀{u:Tr} {x y:V},u.In->u.isL=false->aP H t x []->aP H u y []->∀a b,aD x a->aD y b->EqAt A s a b (fq t u)){A:Around}{l m:Tr}{d B:Addr}{f g:List V}(hn:l.dep<=n)(hu:A.units+n+1 < cLine)(L:l.In)(M:m.In)(i:l.isL=true)(o:m.isL=true)(N:H d=some (.tup f))(O:H B=some (.tup g))(T:aP H l .non f)(q:aP H m .non g):RcNeAt A s (.ref d) (.ref B) (!fq (.tp l) (.tp m)):=by
 obtain⟨v,r,Q,_⟩:=I.tuple (aA.of (K:=X.K) N)
 obtain⟨C,R,S,_⟩:=I.tuple (aA.of (K:=X.K) O)
 obtain⟨U,W⟩:=qk i L T
 obtain⟨Y,m2⟩:=qk o M q
 have z:=RcNeAt.tuples (A:=A) (e:=iN l m) (show s.heap.IsTuple d v.toArray from Q) (show s.heap.IsTuple B C.toArray from S) Pn (λj h1 h2=>?_)
 ·rw[XF i o T q (by rw[List.size_toArray,<- r.length,U]) (by rw[List.size_toArray,<- R.length,Y])]at z
  have E:fq (.tp l) (.tp m)=fq l m:=by
   by_cases c:l=m
   ·rw[zo c,zo (by rw[c])]
   ·rw[kX c,kX (λk=>c (by injection k))]
  rw[E]
  exact z
 ·have la:=r.length
  have lb:=R.length
  have D:j < f.length:=by simp at h1;omega
  have h:j < g.length:=by simp at h2;omega
  obtain⟨u1,q1,r1⟩:=r.get (List.getElem?_eq_getElem D)
  obtain⟨u2,q2,r2⟩:=R.get (List.getElem?_eq_getElem h)
  have e1:v.toArray[j]=u1:=by
   obtain⟨_,e⟩:=List.getElem?_eq_some_iff.mp q1
   simpa using e
  have E:C.toArray[j]=u2:=by
   obtain⟨_,e⟩:=List.getElem?_eq_some_iff.mp q2
   simpa using e
  rw[e1,E]
  obtain⟨F,g1,g2,g3,g4,g5⟩:=W j _ (List.getElem?_eq_getElem D)
  obtain⟨u',k1,k2,k3,k4,k5⟩:=m2 j _ (List.getElem?_eq_getElem h)
  have et:iN l m j=fq F u':=by unfold iN;rw[g1,k1]
  rw[et]
  exact J F (A:=A.in1) Pn (by show A.units+1+n < cLine;omega) g3 g2 k3 k2 g5 k5 _ _ r1 r2
inductive Dc(d:Nat)(x y:V)(H:Hp)(Q:VK):Prop
 |mk(l m:Tr)(_:l.dep < d)(_:l.In)(_:m.In)(_:aP H (.tp l) x [])(_:aP H (.tp m) y [])(_:Q (.bl (!fq (.tp l) (.tp m))) H)
theorem ug{d:Nat}(c:X.A.units+d+1 < cLine):eU X (compareOp .NotEq) (Dc d):=by
 intro p s n H x y v u Q I r R h
 obtain⟨l,m,o,i,e,⟨f,a,z,rfl,g,t⟩,⟨j,b,B,rfl,k,T⟩,q⟩:=h
 cases r
 cases R
 exact He I d (QJ I d) Pn c i e f j g k t T X.prog X.w _ _ #[.bl _,H,I,Z,q]
end
inductive iB(b:List V)(H:Hp)(Q:VK)(a:XK):Prop
 |mk(u:V)(w:Sk)(_:b=[u])(_:dm H w u [])(_:w.ok false)(_:Q (.int w.fnd) H)
inductive lN(C:Addr)(d:List V)(H:Hp)(Q:VK)(a:XK):Prop
 |mk(r c:Addr)(_:d=[.ref r])(_:H r=some (.ins C c []))(_:∀(kA tA fA dA:Addr) (H':Hp),Lg H' C r c kA tA fA dA .nil->(∀b o,b≠r->H b=some o->H' b=some o)->H kA=none->H tA=none->H fA=none->H dA=none->Q .non H')
inductive iA(C:Addr)(o:List V)(H:Hp)(Q:VK)(b:XK):Prop
 |mk(r e i n g d k c:Addr)(l:aG)(f:Str)(h:List Int)(s:Sk)(a:Int)(m j:Nat)(y:Ly)(_:o=[.ref r,.ref k,.ref c,.int (m:Int),.int (j:Int)])(_:Lg H C r e i n g d y)(_:H k=some (.tup (l.map V.int)))(_:l.length<=50)(_:mf H f h s a (.ref c))(_:s.ok true)(_:s.dep<=15)(_:s.size<=1000)(_:m<=j)(_:j<=s.steps.length)(_:y.d.length+(dU l s.steps m j).length<=100000)(_:∀H',Lg H' C r e i n g d (y.app #[[],[],[],dU l s.steps m j])->aV i n g d H H'->Q .non H')
inductive mK(C:Addr)(n:Nat)(A:List V)(H:Hp)(Q:VK)(b:XK):Prop
 |mk(D:DF)(r f k w h e t q i o p j:Addr)(v u:aG)(l m:Int)(c d:List Int)(x z:V)(B E:Sk)(y:Ly)(_:A=[.ref r,.ref t,.ref q,.ref o,.ref p])(_:Lg H C r f k w h e y)(_:H t=some (.tup (v.map V.int)))(_:H o=some (.tup (u.map V.int)))(_:v.length+n<=50)(_:u.length+n<=50)(_:H q=some (.tup [.int l,.ref i,x]))(_:H i=some (.tup (c.map V.int)))(_:dm H B x [])(_:B.ok false)(_:B.dep<=15)(_:B.size<=1000)(_:H p=some (.tup [.int m,.ref j,z]))(_:H j=some (.tup (d.map V.int)))(_:dm H E z [])(_:E.ok false)(_:E.dep < n)(_:E.dep<=15)(_:E.size<=1000)(_:∀g is s a,E= .cl g is s a->∃s' a',B= .cl g is s' a'/\Dt D g s/\Dt D g s')(_:(y.app ((one v (l,c,B) u m d E).app (dE E v (iO B) 0 u 0))).tot<=100000)(_:∀H',Lg H' C r f k w h e (y.app ((one v (l,c,B) u m d E).app (dE E v (iO B) 0 u 0)))->aV k w h e H H'->Q .non H')
inductive iW(C:Addr)(n:Nat)(v:List V)(H:Hp)(Q:VK)(a:XK):Prop
 |mk(D:DF)(r h l u i g o c m b:Addr)(q p:aG)(f:Str)(j k:List Int)(s t:Sk)(d e:Int)(y:Ly)(_:v=[.ref r,.ref o,.ref c,.ref m,.ref b])(_:Lg H C r h l u i g y)(_:H o=some (.tup (q.map V.int)))(_:H m=some (.tup (p.map V.int)))(_:q.length+n<=49)(_:p.length+n<=49)(_:mf H f j s d (.ref c))(_:s.ok true)(_:s.dep<=15)(_:s.size<=1000)(_:mf H f k t e (.ref b))(_:t.ok true)(_:t.dep < n)(_:t.dep<=15)(_:t.size<=1000)(_:Dt D f s)(_:Dt D f t)(_:(y.app (dE t q s.steps 0 p 0)).tot<=100000)(_:∀H',Lg H' C r h l u i g (y.app (dE t q s.steps 0 p 0))->aV l u i g H H'->Q .non H')
inductive HU(C r d k q h b o c:Addr)(p:aG)(n:List aM)(m j:Nat)(y:Ly)(H:Hp)(i:Nat)(s:_L.St)(a:Hp):Prop
 |mk(l:Option V)(e:s=[some (.ref r),some (.ref o),some (.ref c),some (.int (m:Int)),some (.int (j:Int)),l])(f:Lg a C r d k q h b (y.app #[[],[],[],dU p n m (m+i)]))(g:aV k q h b H a)
inductive HW(D:DF)(C r h w M v g F c x b:Addr)(J I:aG)(f:Str)(G:List aM)(L:List V)(K:Sk)(d:Ly)(H:Hp)(i:Nat)(N:_L.St)(e:Hp):Prop
 |mk(z A B E:Option V)(m:Nat)(a:Sk)(y:Ly)(j:N=[some (.ref r),some (.ref F),some (.ref c),some (.ref x),some (.ref b),some (.int (m:Int)),z,A,B,E])(k:Lg e C r h w M v g y)(l:dm e a .non (L.drop i))(n:a.ok true)(o:a.dep<=K.dep)(p:a.size<=K.size)(q:Dt D f a)(s:m<=G.length)(t:y.app (dE a J G m I i)=d)(u:aV w M v g H e)
theorem EZ{W b:Sk}{p a:aG}{n N:Int}{h H:List Int}:one p (n,h,W) a N H b=if aO N H (n,h,W)=true then (if W.fnd=b.fnd then #[[(p,a)],[],[],[]] else #[[],[(p,a)],[],[]]) else #[[],[],[a],[p]]:=rfl
theorem pw{f:Addr}{k:FuncData}(F:aQ K "found_in" "found_in" gf f k):af P w K mg base aE 1 f k ["what"] iB:=by
 refine F.ok iV ?_ λC A o s H v Q E x h=>?_
 ·rintro _ _ _ _ ⟨u,w,rfl,_⟩
  rfl
 obtain⟨u,w,rfl,m,d,q⟩:=h
 refine#[_,(jf (jm (kK (j6 (ju (pv 0))) (ju (jv jE (pv 0) jg (λ_ _=>Z))) (jv jE (pv 0) (ul Yb jg) (λ_ _=>Z))))),?_]
 cases w with
 |nil |st _ _ _ _=>exact d.elim
 |ask b |rd a i |wr a i=>
  obtain⟨p,rfl,n⟩:=m
  exact(jp n dS #[Z,_,Z,aT Pp #[_,Z,_,Z,p,_,_,_,Z,Z,aA.of n,Z,q]])
 |cl f I s i=>
  obtain⟨p,c,g,e,S,rfl,r,t,_⟩:=m
  exact(jp r dS #[Z,_,Z,cq Pp (jp r gX #[c,_,_,_,Z,Z,aA.of t,jH (j:=3) Z,q])])
theorem Dv:ai ["self"] ["self"] (ae uL):=bK
theorem x9{f:Addr}{L:FuncData}{C:Addr}(F:aQ K "__init__" "Laying.__init__" uL f L)(c:LK K C):af P w K mg base aE 1 f L ["self"] (lN C):=by
 refine F.ok Dv ?_ λS A O s H V Q E U h=>?_
 ·rintro _ _ _ _ ⟨r,D,rfl,_⟩
  rfl
 obtain⟨r,D,rfl,g,q⟩:=h
 refine#[_,(jd (@zr _ _ _ _ _ _ _ _ (pv 0) (jJ jb) Z) (jd (@zr _ _ _ _ _ _ _ _ (pv 0) (jJ jb) Z) (jd (@zr _ _ _ _ _ _ _ _ (pv 0) (jJ jb) Z) (jf (@zr _ _ _ _ _ _ _ _ (pv 0) (jJ jb) Z))))),?_]
 refine aj λR d=>#[eY,λk l=>#[_,Z,r,C,D,_,Z,am g l,c.cl,c.n1,(by show 0 < 1000;decide),d _ _ ?_]]
 clear d
 refine aj λR d=>#[eY,λt a=>#[_,Z,r,C,D,_,Z,am jc a,c.cl,c.n2,(by show 1 < 1000;decide),d _ _ ?_]]
 clear d
 refine aj λR d=>#[eY,λi N=>#[_,Z,r,C,D,_,Z,am jc N,c.cl,c.n3,(by show 2 < 1000;decide),d _ _ ?_]]
 clear d
 refine#[eY,λj n=>#[_,Z,r,C,D,_,Z,am jc n,c.cl,c.n4,(by show 3 < 1000;decide),?_]]
 have m:k≠r:=(ji g l).symm
 have T:t≠r:=λz=>by rw[z,jc]at a;cases a
 have p:i≠r:=λz=>by rw[z,jc]at N;cases N
 have u:j≠r:=λz=>by rw[z,jc]at n;cases n
 rw[jh T]at a
 have x:t≠k:=λz=>by rw[z,jc]at a;cases a
 rw[jh x]at a
 rw[jh p]at N
 have y:i≠t:=λz=>by rw[z,jc]at N;cases N
 rw[jh y,jh p]at N
 have B:i≠k:=λz=>by rw[z,jc]at N;cases N
 rw[jh B]at N
 rw[jh u]at n
 have G:j≠i:=λz=>by rw[z,jc]at n;cases n
 rw[jh G,jh u]at n
 have I:j≠t:=λz=>by rw[z,jc]at n;cases n
 rw[jh I,jh u]at n
 have J:j≠k:=λz=>by rw[z,jc]at n;cases n
 rw[jh J]at n
 refine q k t i j _ #[jc,#[[],?_,Z],#[[],?_,Z],#[[],?_,Z],#[[],?_,Z],#[x.symm,B.symm,J.symm,y.symm,I.symm,G.symm],λ_ z=>nomatch z] (λb o v e=>?_) l a N n
 ·rw[jh m,jh J.symm,jh m,jh B.symm,jh m,jh x.symm,jh m,jc]
 ·rw[jh T,jh I.symm,jh T,jh y.symm,jh T,jc]
 ·rw[jh p,jh G.symm,jh p,jc]
 ·rw[jh u,jc]
 ·rw[jh v,jh (ji e n),jh v,jh (ji e N),jh v,jh (ji e a),jh v,jh (ji e l)]
  exact e
theorem uY:ai ["self","path","chain","begin","end","at"] z17z (ae uJ):=bK
theorem xV{f:Addr}{fd:FuncData}{C fP:Addr}{D:FuncData}(F:aQ K "drop" "Laying.drop" uJ f fd)(ck:LK K C)(cP:Cl P w K mg base 36 fP D z5z (iX 17) "paths_at")(mr:mg "range"=none):af P w K mg base aE 37 f fd z17z (iA C):=by
 refine F.ok uY ?_ λc0 A O s H vs Q E hr h=>?_
 ·rintro _ _ _ _ ⟨r,G,kA,tA,fA,I,M,c,po,f,is,s,a,m,j,y,rfl,_⟩
  rfl
 obtain⟨r,G,kA,tA,fA,I,M,c,po,f,is,s,a,m,j,y,rfl,hL,N,h5,hc,b,h6,h7,h',a0,h0,q⟩:=h
 refine#[_,(jf (j7 PassesOwn.never Z (zQ Z mr (ja (pv 3) (ja (pv 4) jb))) (jw (i:=5) uY.nd Z (Or.inl Z)) (jf (jB (jU PySem.F.plainAttrs_list PySem.F.slot_list_extend PySem.F.type_list_extend zn (jX (pv 0) Z) (ja (cP.e hr.m (ja (jx ke (pv 1) (jl (ja (pv 5) jb))) (ja (ju (jv jE (jv jE (pv 2) jg (λ_ _=>Z)) (pv 5) (λ_ _=>Z))) jb))) jb)))))),?_]
 have b1:=aH
 obtain⟨_,g,e,ss,ec,h1,h2,h3,R⟩:=id hc
 cases ec
 have l0:=zi b R
 have l1:=qI b R
 refine dq λJ jj=>#[_,Z,_,Z,_,_,Z,#[Pn,Pn,Pn,Pn],jj _ _ ?_]
 clear jj
 refine kQ (HU C r G kA tA fA I M c po s.steps m j y H) #[none,Z,?_,λ_ _ _ _ _ _ e=>e] ?_ (λσ H' h=>?_)
 ·rw[Nat.add_zero,wZ]
  exact(Ly.app_nil y).symm▸hL
 ·intro E2 rt i σ H2 hi fE Gq k h
  obtain⟨o5,rfl,_L,B⟩:=h
  refine k ?_
  clear k
  have T:=hL.tm B
  have e0:(m:Int)+(i:Int)=((m+i:Nat):Int):=by omega
  rw[e0]
  have n:m+i < ss.length:=by omega
  obtain⟨n',a1,w,p,h,u,ht,U,d0,s0,ex,hp,hh,hw⟩:=qi b (R.mono T) (List.getElem?_eq_getElem n)
  have W:ss[m+i]?=some (.ref p):=by rw[List.getElem?_eq_getElem n,ex]
  obtain⟨xs,X,lx⟩:=_L.dv
  refine#[_,Z,r,C,G,_,_,Z,_L.ins,ck.cl,ck.n4,Z,.inl #[Z,_,aJ.of X],_,Z,_,Z,h8,λt nt=>#[M,t,_,_,Z,Z,am (T _ _ N) nt,jc,by rw[List.length_map];show _+1<=_;omega,λr9 H9 z s9=>?_]]
  have v:=(je (o:=.tup [.int ((m+i:Nat):Int)]) nt).trans s9
  have z:H9 r9=some (.tup (po.map V.int++[.int ((m+i:Nat):Int)])):=z
  rw[i6]at z
  refine(jp (v _ _ (T _ _ h1)) dw #[_,Z,e,_,_,_,Z,Z,aA.of (v _ _ (T _ _ h3)),jH W,p,_,_,_,Z,Z,aA.of (v _ _ hp),dw,r9,_,w,u,Z,z,by rw[List.length_append];show _+1+_<=_;omega,hw.mono (aa.tm v),U,Pn,Pn,λl zs H0 nl hl hz Y=>?_])
  have S:=v.trans Y
  have L0:=_L.same S
  have lz:=hz.len
  have x:=lx.len
  have ds:dU po s.steps m (m+i+1)=dU po s.steps m (m+i)++bQ (po++[((m+i:Nat):Int)]) w:=rN (po:=po) (os:=s.steps) (m:=m) (j:=m+i) Pn ht
  have dl:(dU po s.steps m (m+i+1)).length<=(dU po s.steps m j).length:=by
   unfold dU
   rw[List.length_map,List.length_map]
   have:=QL ((s.steps.drop m).take (j - m)) (m+i+1 - m) po m
   rw[List.take_take,Nat.min_eq_left Pn]at this
   exact this
  rw[ds,List.length_append]at dl
  have x:xs.length=y.d.length+(dU po s.steps m (m+i)).length:=by rw[x];exact List.length_append
  obtain⟨L,b0⟩:=L0.setD (S _ _ X) hz
  refine#[I,l,_,_,Z,Z,S _ _ X,hl,Pn,fE _ _ #[_,Z,?_,(B.trans (aV.of_same S)).trans b0]]
  rw[Ly.app_assoc]at L
  have ee:(#[[],[],[],dU po s.steps m (m+i)]:Ly).app #[[],[],[],bQ (po++[((m+i:Nat):Int)]) w]=#[[],[],[],dU po s.steps m (m+(i+1))]:=by
   rw[show m+(i+1)=m+i+1 by omega,ds]
   rfl
  rw[ee]at L
  exact L
 ·obtain⟨o5,rfl,_L,B⟩:=h
  rw[show m+((j:Int) - (m:Int)).toNat=j by omega]at _L
  exact q _ _L B
theorem sT{w:Sk}{p b:aG}{os:List aM}{m k:Nat}(o:w.ok false)(h:∀f i s a,w≠ .cl f i s a):dE w p os m b k= .nil:=by
 cases w with
 |nil |st _ _ _ _=>exact o.elim
 |cl f i s a=>exact absurd Z (h f i s a)
 |_=>rfl
theorem qU{H:Hp}{w:Sk}{u:V}(o:w.ok false)(h:dm H w u []):∃p v r,u= .ref p/\H p=some (.tup (.str v::r))/\(v="call"↔∃f i s a,w= .cl f i s a):=by
 cases w with
 |nil |st _ _ _ _=>exact o.elim
 |ask b |rd b c |wr b c=>obtain⟨p,e,h⟩:=h;exact#[p,_,_,e,h,λe=>absurd e Pm,λ#[_,_,_,_,e]=>nomatch e]
 |cl f i s a=>obtain⟨p,c,g,E,S,e,h,_⟩:=h;exact#[p,_,_,e,h,λ_=>#[_,_,_,_,Z],λ_=>Z]
theorem qt{a b:Str}:decide (V.str a=V.str b)=decide (a=b):=by
 by_cases h:a=b
 ·rw[decide_eq_true h,decide_eq_true (by rw[h])]
 ·rw[decide_eq_false h,decide_eq_false λz=>h (by injection z)]
theorem Ly.f_le(a b:Ly):a.f.length<=(a.app b).tot/\a.k.length<=(a.app b).tot/\a.t.length<=(a.app b).tot/\a.d.length<=(a.app b).tot:=by
 rw[Ly.tot_app]
 unfold Ly.tot
 omega
theorem Fo:ai z2z z2z (ae yE):=bK
theorem CF{f:Addr}{fd:FuncData}{n:Nat}{C fF fL:Addr}{f3 f0:FuncData}(F:aQ K "lay_step" "Laying.lay_step" yE f fd)(l:LK K C)(cF:Cl P w K mg base 1 fF f3 ["what"] iB "found_in")(GL:af P w K mg base aE (2*n+38) fL f0 z2z (iW C n))(bL:aC K f0 z2z [])(m0:ba K C "lay" fL):af P w K mg base aE (2*n+39) f fd z2z (mK C (n+1)):=by
 refine F.ok Fo ?_ λc2 A o2 s H vs Q E hr h=>?_
 ·rintro _ _ _ _ ⟨D,r,x,kA,tA,fA,dA,O,q0,h0,N,p,h1,B,G,I,V,b,c,u0,u1,W,w1,y,rfl,_⟩
  rfl
 obtain⟨D,r,x,kA,tA,fA,dA,O,q0,h0,N,p,h1,B,G,I,V,b,c,u0,u1,W,w1,y,rfl,hL,h3,h4,b0,b1,X,a2,h5,o1,h6,a3,hp,a4,Y,o,h7,J,a5,h2,L,q⟩:=h
 refine#[_,(jd (jy (jC (ug (d:=10) (iR hr)) (jK jV (pv 2) jR (jN jg)) (jK jV (pv 4) jR (jN jg)) (aN _)) (jd (jB (jU PySem.F.plainAttrs_list PySem.F.slot_list_append PySem.F.type_list_append jI (jX (pv 0) Z) (ja (pv 3) jb))) (jf (jB (jU PySem.F.plainAttrs_list PySem.F.slot_list_append PySem.F.type_list_append jI (jX (pv 0) Z) (ja (pv 1) jb))))) (jf (jy (jC Jw (cF.e hr.m (ja (ju (pv 2)) jb)) (cF.e hr.m (ja (ju (pv 4)) jb)) (aN _)) (jf (jB (jU PySem.F.plainAttrs_list PySem.F.slot_list_append PySem.F.type_list_append jI (jX (pv 0) Z) (ja (jl (ja (pv 1) (ja (pv 3) jb))) jb)))) (jf (jB (jU PySem.F.plainAttrs_list PySem.F.slot_list_append PySem.F.type_list_append jI (jX (pv 0) Z) (ja (jl (ja (pv 1) (ja (pv 3) jb))) jb))))))) (jf (jy (j6 (ju (jv jE (pv 4) jg (λ_ _=>Z)))) (jf (jB (jZ (pv 0) l.cl m0 GL hr.m bL .nil aY (ja (pv 1) (ja (ju (jv jE (pv 2) jg (λ_ _=>Z))) (ja (pv 3) (ja (ju (jv jE (pv 4) jg (λ_ _=>Z))) jb))))))) jr))),?_]
 have b2:=aH
 refine aj λF1 f1=>?_
 suffices M:∀H',Lg H' C r x kA tA fA dA (y.app (one B (I,b,W) G V c w1))->aV kA tA fA dA H H'->F1 [some (.ref r),some (.ref O),some (.ref q0),some (.ref N),some (.ref p)] H' by
  clear f1
  have ua:=Ly.f_le y ((one B (I,b,W) G V c w1).app (dE w1 B (iO W) 0 G 0))
  refine#[_,Z,_,Z,q0,_,Z,X,λq1 H1 e1 u=>#[_,Z,_,Z,p,_,Z,u _ _ hp,λq2 H2 e2 s2=>#[_,_,QU I b,Jo I b,Jo V c,jA (s2 _ _ e1) (jk Z jT (jk Z (j9 (s2 _ _ (u _ _ a2))) jz)),jA e2 (jk Z jT (jk Z (j9 (s2 _ _ (u _ _ a4))) jz)),_,Z,?_]]]
  rw[show fq (.tp (au [ap I,ay (b.map ap)])) (.tp (au [ap V,ay (c.map ap)]))=aO V c (I,b,W) from Yi]
  have v:=u.trans s2
  have _L:=hL.same v
  have t0:=aa.tm v
  have i:=v _ _ h3
  have j:=v _ _ h4
  rw[EZ]at M
  cases hb:aO V c (I,b,W) with
  |false=>
   rw[hb,if_neg (by intro z;cases z)]at M
   refine cq Z ?_
   obtain⟨xs,k,lx⟩:=_L.fv
   have l0:=lx.len
   refine aj λF2 f2=>#[_,Z,r,C,x,_,_,Z,_L.ins,l.cl,l.n3,Z,.inl #[Z,_,aJ.of k],_,Z,fA,_,_,Z,Z,k,Pn,f2 _ _ ?_]
   clear f2
   obtain⟨U,b3⟩:=_L.setF k (bh.one (R:=gG) (w:=G) #[N,Z,j])
   have T:=_L.tm b3
   generalize ah H2 fA (.lst (xs++[.ref N]))=H3 at U b3 T ⊢
   obtain⟨zs,hz,lz⟩:=U.dv
   have l1:=lz.len
   have l1:zs.length=y.d.length:=by rw[l1];show(y.d++[]).length=_;rw[List.append_nil]
   refine#[_,Z,r,C,x,_,_,Z,U.ins,l.cl,l.n4,Z,.inl #[Z,_,aJ.of hz],_,Z,dA,_,_,Z,Z,hz,Pn,?_]
   obtain⟨L4,b4⟩:=U.setD hz (bh.one (R:=gG) (w:=B) #[O,Z,T _ _ i])
   rw[Ly.app_assoc]at L4
   exact M _ L4 (((aV.of_same v).trans b3).trans b4)
  |true=>
   rw[hb,if_pos Z]at M
   refine aT Z ?_
   refine(jp (v _ _ X) dw #[u0,W,Z,h5.mono t0,o1,jp (v _ _ hp) dw #[u1,w1,Z,Y.mono t0,o,Z,_,Z,?_]])
   by_cases hf:W.fnd=w1.fnd
   ·rw[if_pos hf]at M
    refine cq (decide_eq_true (by rw[hf])) ?_
    obtain⟨xs,k,lx⟩:=_L.kv
    have l0:=lx.len
    refine#[_,Z,r,C,x,_,_,Z,_L.ins,l.cl,l.n1,Z,.inl #[Z,_,aJ.of k],_,Z,_,Z,cg,λt nt=>#[kA,_,_,Z,Z,am k nt,Pn,?_]]
    have S:aa H2 (ah H2 t (.tup [.ref O,.ref N])):=je nt
    obtain⟨L4,b4⟩:=(_L.same S).setK (S _ _ k) (bh.one (R:=md) (w:=(B,G)) #[t,O,N,Z,jc,S _ _ i,S _ _ j])
    exact M _ L4 ((aV.of_same (v.trans S)).trans b4)
   ·rw[if_neg hf]at M
    refine aT (decide_eq_false λz=>hf (by injection z)) ?_
    obtain⟨xs,k,lx⟩:=_L.tv
    have l0:=lx.len
    refine#[_,Z,r,C,x,_,_,Z,_L.ins,l.cl,l.n2,Z,.inl #[Z,_,aJ.of k],_,Z,_,Z,cg,λt nt=>#[tA,_,_,Z,Z,am k nt,Pn,?_]]
    have S:aa H2 (ah H2 t (.tup [.ref O,.ref N])):=je nt
    obtain⟨L4,b4⟩:=(_L.same S).setT (S _ _ k) (bh.one (R:=md) (w:=(B,G)) #[t,O,N,Z,jc,S _ _ i,S _ _ j])
    exact M _ L4 ((aV.of_same (v.trans S)).trans b4)
 intro H3 U b3
 refine f1 _ _ ?_
 clear f1
 have T:=hL.tm b3
 rw[<- Ly.app_assoc]at L q
 obtain⟨p3,v3,r3,eu,a',h'⟩:=qU o (Y.mono T)
 subst eu
 refine(jp (T _ _ hp) dw #[p3,_,_,_,Z,Z,aA.of a',dS,Z,_,Z,?_])
 rw[qt]
 by_cases hv:v3="call"
 ·obtain⟨g,is,u,a1,rfl⟩:=h'.mp hv
  obtain⟨s0,a0,rfl,D1,D0⟩:=h2 g is u a1 Z
  refine cq (decide_eq_true hv) ?_
  obtain⟨x1,c1,g1,e1,s4,e3,k1,k2,k3,k4,k5⟩:=Y.mono T
  obtain⟨x0,c0,g0,e0,s5,e4,i1,i2,i3,i4,i5⟩:=h5.mono T
  cases e3
  subst e4
  have h7:u.dep+1 < n+1:=h7
  have J:u.dep+1<=15:=J
  have h6:s0.dep+1<=15:=h6
  exact#[_,Z,r,x,_,Z,U.ins,Z,_,Z,jp (T _ _ X) dw #[x0,_,_,_,Z,Z,aA.of i1,gX,_,Z,jp (T _ _ hp) dw #[p3,_,_,_,Z,Z,aA.of k1,gX,D,r,x,kA,tA,fA,dA,O,c0,N,c1,B,G,g,is,is,s0,u,a0,a1,_,Z,U,T _ _ h3,T _ _ h4,Pn,Pn,#[c0,g0,e0,s5,Z,i2,i3,i4,i5],o1,Pn,a3,#[c1,g1,e1,s4,Z,k2,k3,k4,k5],o,Pn,Pn,a5,D0,D1,L,λH4 L4 b4=>q H4 L4 (b3.trans b4)]]]
 ·refine aT (decide_eq_false hv) ?_
  rw[sT o (λf is s a e=>hv (h'.mpr #[f,is,s,a,e])),Ly.app_nil]at q
  exact q H3 U b3
theorem io:ai ["self","old_path","old","new_path","new","mark","number","step","here","taken"] z2z (ae yG):=bK
theorem tQ{f:Addr}{fd:FuncData}{n:Nat}{C fT fP fD fS:Addr}{f3 f4 f0 f2:FuncData}(F:aQ K "lay" "Laying.lay" yG f fd)(ck:LK K C)(cT:Cl P w K mg base 3 fT f3 ["steps","mark","step"] mQ "taken_from")(cP:Cl P w K mg base 36 fP f4 z5z (iX 17) "paths_at")(GD:af P w K mg base aE 37 fD f0 z17z (iA C))(bD:aC K f0 z17z [])(m0:ba K C "drop" fD)(GS:af P w K mg base aE (2*n+37) fS f2 z2z (mK C n))(bS:aC K f2 z2z [])(m1:ba K C "lay_step" fS)(m2:mg "enumerate"=none)(ml:mg "len"=none):af P w K mg base aE (2*n+38) f fd z2z (iW C n):=by
 refine F.ok io ?_ λd3 A o1 s H vs Q E hr h=>?_
 ·rintro _ _ _ _ ⟨D,r,U,kA,tA,fA,dA,X,c,na,b,u,G,f,is,js,p,s1,a0,a1,y,rfl,_⟩
  rfl
 obtain⟨D,r,U,kA,tA,fA,dA,X,c,na,b,u,G,f,is,js,p,s1,a0,a1,y,rfl,hL,h6,c1,d4,d5,h7,O,a4,a2,c2,o2,d6,c9,d7,D0,D1,M,q⟩:=h
 refine#[_,(jd (jD 5 io.nd jg) (jd (j7 PassesOwn.never Z (q9 Z m2 (ja (ju (pv 4)) jb)) (qf (n:=2) Z (jF (jw (i:=6) io.nd Z (Or.inl Z)) (jF (jw (i:=7) io.nd Z (Or.inl Z)) kU))) (jd (jD 8 io.nd (jx ke (pv 3) (jl (ja (pv 6) jb)))) (jd (jD 9 io.nd (cT.e hr.m (ja (ju (pv 2)) (ja (pv 5) (ja (pv 7) jb))))) (jf (jy (Kd (@QA _ _ _ _ _ (pv 9))) (jf (jB (jU PySem.F.plainAttrs_list PySem.F.slot_list_extend PySem.F.type_list_extend zn (jX (pv 0) Z) (ja (cP.e hr.m (ja (pv 8) (ja (ju (pv 7)) jb))) jb)))) (jd (jB (jZ (pv 0) ck.cl m0 GD hr.m bD .nil aY (ja (pv 1) (ja (pv 2) (ja (pv 5) (ja (pv 9) jb)))))) (jd (jB (jZ (pv 0) ck.cl m1 GS hr.m bS .nil aY (ja (jx ke (pv 1) (jl (ja (pv 9) jb))) (ja (jv jE (ju (pv 2)) (pv 9) (λ_ _=>Z)) (ja (pv 8) (ja (pv 7) jb)))))) (jf (jD 5 io.nd (jx j8 (pv 9) jg)))))))))) (jf (jB (jZ (pv 0) ck.cl m0 GD hr.m bD .nil aY (ja (pv 1) (ja (pv 2) (ja (pv 5) (ja (jO jL Z ml PySem.boot_len (ja (ju (pv 2)) jb)) jb))))))))),?_]
 have d8:=aH
 obtain⟨_,g0,e0,s2,e4,h1,h2,h3,h4⟩:=id h7
 cases e4
 obtain⟨_,g1,e1,s3,e6,k1,k2,k3,k4⟩:=id c2
 cases e6
 have l0:=zi O h4
 have l1:=qI O h4
 refine aj λF1 v=>v _ _ ?_
 clear v
 refine aj λF1 v=>dq λJ jj=>(jp k1 dw #[e1,Z,#[_,aA.of k3],jj _ _ ?_])
 clear jj
 refine zZ (K:=K) (xs:=s3) (HW D C r U kA tA fA dA X c na b u G f p.steps s3 s1 (y.app (dE s1 u p.steps 0 G 0)) H) #[none,none,none,none,0,s1,y,Z,hL,k4,o2,Nat.le_refl _,Nat.le_refl _,D1,Nat.zero_le _,Z,λ_ _ _ _ _ _ e=>e] (λk σ Hx _ h=>?_) ?_ (λσ Hx h=>v _ _ ?_)
 ·obtain⟨_,_,_,_,_,_,_,_,_,_,_,_,_,_,_,_,b7⟩:=h
  exact aA.of (hL.tm b7 _ _ k3)
 ·intro E rt k x pp σ H4 c3 n2 fE Gq kq h
  clear v
  obtain⟨o6,o7,o8,o9,m,R,Y,rfl,L4,w2,w3,w4,w5,w6,w7,W,b4⟩:=h
  have s5:aa H4 (ah H4 pp (.tup [.int k,x])):=je n2
  have e5:ah H4 pp (.tup [.int k,x]) pp=some (.tup [.int k,x]):=jc
  refine kq ?_
  clear kq
  generalize ah H4 pp (.tup [.int k,x])=H5 at s5 e5 ⊢
  have b5:=b4.trans (aV.of_same s5)
  have c4:=hL.tm b5
  have L5:=L4.same s5
  refine#[pp,_,Z,aA.of e5,Z,_,_,Z,_,_,Z,Z,?_]
  rw[Zx c3]at w2
  have w2:=w2.mono (aa.tm s5)
  cases R with
  |nil=>exact nomatch (show _::_=[] from w2)
  |ask _ |rd _ _ |wr _ _ |cl _ _ _ _=>exact w3.elim
  |st n1 h5 w r1=>
   obtain⟨p',h',u',y0,ex,i1,i2,i3,i4⟩:=w2
   injection ex with ex ey
   subst ex
   subst ey
   have d':w.dep<=s1.dep:=Nat.le_trans (Nat.le_max_left _ _) w4
   have d2:r1.dep<=s1.dep:=Nat.le_trans (Nat.le_max_right _ _) w4
   have w5:w.size+r1.size+1<=s1.size:=w5
   show eP (fo _ _) (eP _ _) E [some (.ref r),some (.ref X),some (.ref c),some (.ref na),some (.ref b),some (.int (m:Int)),some (.int k),some (.ref p'),o8,o9] H5
   refine aj λF1 v=>#[_,Z,_,Z,h8,λt nt=>#[na,t,_,_,Z,Z,am (c4 _ _ c1) nt,jc,by rw[List.length_map];show _+1<=_;omega,λr9 H9 e9 s9=>v _ _ ?_]]
   clear v
   have S9:aa H5 H9:=(je (o:=.tup [.int k]) nt).trans s9
   have e9:H9 r9=some (.tup (G.map V.int++[.int (k:Int)])):=e9
   rw[i6]at e9
   have b9:=b5.trans (aV.of_same S9)
   have a3:=hL.tm b9
   refine aj λF1 v=>(jp (a3 _ _ h1) dw #[_,Z,_,Z,e0,p',h',s2,p,w,m,n1,h5,u',Z,a3 _ _ h3,h4.mono a3,O,a2,Pn,S9 _ _ i1,S9 _ _ i2,i3.mono (aa.tm S9),w3.1,λH0 s4=>v _ _ ?_])
   clear v
   have B:=S9.trans s4
   have b1:=b5.trans (aV.of_same B)
   have t5:=hL.tm b1
   have L:=L5.same B
   have e3:=s4 _ _ e9
   have i0:=B _ _ i1
   have j0:=i3.mono (aa.tm B)
   cases hb:eZ p.steps m n1 h5 w with
   |none=>
    rw[zO hb]at W
    show gD _ _ _ E [some (.ref r),some (.ref X),some (.ref c),some (.ref na),some (.ref b),some (.int (m:Int)),some (.int k),some (.ref p'),some (.ref r9),some .non] H0
    refine iS λG1 yT yF=>#[_,Z,_,Z,?_]
    rw[decide_eq_true Z]
    refine yT _ ?_
    obtain⟨xs,hx,lx⟩:=L.fv
    have l2:=lx.len
    have pl:=ql w3.1 (G++[(k:Int)])
    have tt:Y.tot+((w.size+1)+(dE r1 u p.steps m G (k+1)).tot)<=100000:=by
     have z:=M
     rw[<- W,Ly.tot_app,Ly.tot_app]at z
     have z2:(#[[],[],bQ (G++[(k:Int)]) w,[]]:Ly).tot=w.size+1:=by show 0+0+(bQ (G++[(k:Int)]) w).length+0=_;rw[pl];omega
     rw[z2]at z
     exact z
    have ty:Y.f.length<=Y.tot:=by unfold Ly.tot;omega
    refine#[_,Z,r,C,U,_,_,Z,L.ins,ck.cl,ck.n3,Z,.inl #[Z,_,aJ.of hx],_,Z,jp i0 dw #[r9,G++[(k:Int)],w,u',Z,e3,by rw[List.length_append];show _+1+_<=_;omega,j0,w3.1,Pn,Pn,λl zs H1 nl hl hz I=>?_]]
    have lz:=hz.len
    obtain⟨L1,b2⟩:=(L.same I).setF (I _ _ hx) hz
    refine#[fA,l,_,_,Z,Z,I _ _ hx,hl,Pn,fE _ _ #[_,_,_,_,m,r1,_,Z,L1,?_,w3.2,d2,Pn,w6.2.2,w7,?_,?_]]
    ·exact i4.mono ((aa.tm (B.trans I)).trans ((L.same I).tm b2))
    ·rw[Ly.app_assoc]
     exact W
    ·exact(b1.trans (aV.of_same I)).trans b2
   |some j=>
    obtain⟨c5,o,ho,e7⟩:=kW hb
    have e8:=(List.getElem?_eq_some_iff.mp ho).1
    obtain⟨n0,a5,w0⟩:=o
    rw[zP hb ho]at W
    show gD _ _ _ E [some (.ref r),some (.ref X),some (.ref c),some (.ref na),some (.ref b),some (.int (m:Int)),some (.int k),some (.ref p'),some (.ref r9),some (.int (j:Int))] H0
    refine iS λG1 yT yF=>#[_,Z,_,Z,?_]
    rw[decide_eq_false (by intro z;cases z)]
    refine yF _ ?_
    have tt:=M
    rw[<- W,Ly.tot_app,Ly.tot_app,Ly.tot_app,Ly.tot_app]at tt
    have z2:(#[[],[],[],dU u p.steps m j]:Ly).tot=(dU u p.steps m j).length:=Nat.zero_add _
    rw[z2]at tt
    have ty:Y.d.length<=Y.tot:=by unfold Ly.tot;omega
    show eP _ (eP _ _) E [some (.ref r),some (.ref X),some (.ref c),some (.ref na),some (.ref b),some (.int (m:Int)),some (.int k),some (.ref p'),some (.ref r9),some (.int (j:Int))] H0
    refine aj λF1 v=>#[_,Z,r,U,_,Z,L.ins,Z,_,Z,_,Z,_,Z,_,Z,r,U,kA,tA,fA,dA,X,c,u,f,is,p,a0,m,j,Y,Z,L,t5 _ _ h6,Pn,zE h7 t5,O,a4,a2,c5,Pn,Pn,λH1 L0 b3=>v _ _ ?_]
    clear v
    have b0:=b1.trans b3
    have T:=hL.tm b0
    have N:=L.tm b3
    obtain⟨xv,b6⟩:∃xv,s2[j]?=some xv:=#[_,List.getElem?_eq_getElem Pn]
    obtain⟨n4,c',w1,q,h0,u0,t1,t2,t3,t4,rfl,t6,t7,t8⟩:=qi O (h4.mono T) b6
    rw[ho]at t1
    cases t1
    refine aj λF1 v=>#[_,Z,r,U,_,Z,L0.ins,Z,_,Z,_,Z,h8,λt nt=>#[X,t,_,_,Z,Z,am (T _ _ h6) nt,jc,by rw[List.length_map];show _+1<=_;omega,λr0 H2 e2 s6=>?_]]
    have S:aa H1 H2:=(je (o:=.tup [.int (j:Int)]) nt).trans s6
    have e2:H2 r0=some (.tup (u.map V.int++[.int (j:Int)])):=e2
    rw[i6]at e2
    have t':=T.trans (aa.tm S)
    have c6:=Yk (s:=.nil) O D0 hb ho t2 w6.1
    refine(jp (t' _ _ h1) dw #[_,Z,e0,_,_,_,Z,Z,aA.of (t' _ _ h3),jH b6,_,Z,_,Z,D,r,U,kA,tA,fA,dA,r0,q,h0,r9,p',h',u++[(j:Int)],G++[(k:Int)],n0,n1,a5,h5,u0,u',w0,w,_,Z,L0.same S,e2,aa.tm S _ _ (N _ _ e3),by rw[List.length_append];show _+1+_<=_;omega,by rw[List.length_append];show _+1+_<=_;omega,S _ _ t6,S _ _ t7,t8.mono (aa.tm S),t2,Pn,Pn,aa.tm S _ _ (N _ _ i0),aa.tm S _ _ (N _ _ (B _ _ i2)),(j0.mono N).mono (aa.tm S),w3.1,Pn,Pn,Pn,λg is s a e=>?_,?_,λH3 L3 b8=>v _ _ ?_])
    ·obtain⟨s',a',ew⟩:=c6 g is s a e
     have ew:w0= .cl g is s' a':=ew
     have d0:Dt D f w0:=(Kb D0 ho).2
     have d1:Dt D f w:=w6.2.1
     rw[e]at d1
     rw[ew]at d0
     exact#[s',a',ew,d1,d0]
    ·rw[Ly.tot_app,Ly.tot_app,Ly.tot_app,z2]
     have tt:Y.tot+(((dU u p.steps m j).length+((one (u++[(j:Int)]) (n0,a5,w0) (G++[(k:Int)]) n1 h5 w).tot+(dE w (u++[(j:Int)]) (iO w0) 0 (G++[(k:Int)]) 0).tot))+(dE r1 u p.steps (j+1) G (k+1)).tot)<=100000:=tt
     omega
    clear v
    have b':=(b0.trans (aV.of_same S)).trans b8
    have c0:=(L0.same S).tm b8
    have ej:(j:Int)+1=((j+1:Nat):Int):=by omega
    refine#[_,Z,_,_,Z,Z,fE _ _ #[some (.int k),some (.ref p'),some (.ref r9),some (.int (j:Int)),j+1,r1,_,?_,L3,?_,w3.2,d2,Pn,w6.2.2,Pn,?_,b']]
    ·rw[<- ej]
     rfl
    ·exact i4.mono (((aa.tm B).trans N).trans ((aa.tm S).trans c0))
    ·rw[Ly.app_assoc,Ly.app_assoc]
     rw[Ly.app_assoc]at W
     exact W
 ·obtain⟨o6,o7,o8,o9,m,R,Y,rfl,L4,w2,w3,w4,w5,w6,w7,W,b4⟩:=h
  have t0:=hL.tm b4
  rw[List.drop_length]at w2
  cases R with
  |st n hs w r=>obtain⟨_,_,_,_,z,_⟩:=w2;cases z
  |ask _ |rd _ _ |wr _ _ |cl _ _ _ _=>exact w3.elim
  |nil=>
   have W:Y.app #[[],[],[],dU u p.steps m p.steps.length]=_:=W
   have tt:=M
   rw[<- W,Ly.tot_app]at tt
   have z2:(#[[],[],[],dU u p.steps m p.steps.length]:Ly).tot=(dU u p.steps m p.steps.length).length:=Nat.zero_add _
   rw[z2]at tt
   have ty:Y.d.length<=Y.tot:=by unfold Ly.tot;omega
   refine#[_,Z,r,U,_,Z,L4.ins,Z,_,Z,_,Z,_,Z,jp (t0 _ _ h1) dw #[e0,_,Z,.inr (aA.of (t0 _ _ h3)),r,U,kA,tA,fA,dA,X,c,u,f,is,p,a0,m,p.steps.length,Y,by rw[<- l0];rfl,L4,t0 _ _ h6,Pn,zE h7 t0,O,a4,a2,w7,Nat.le_refl _,Pn,λH5 L5 b5=>q H5 (W▸L5) (b4.trans b5)]]
theorem BD(p:aG)(os:List aM)(m j:Nat):(dU p os m j).length<=(dP (os.drop m) p m).length:=by
 unfold dU
 rw[List.length_map]
 exact QL _ _ _ _
theorem wn{os:List aM}{m j:Nat}{o:aM}(p:aG)(h:m<=j)(H:os[j]?=some o)(O:o.2.2.ok false):(dP (os.drop m) p m).length=(dU p os m j).length+(o.2.2.size+1)+(dP (os.drop (j+1)) p (j+1)).length:=by
 have d:=(List.getElem?_eq_some_iff.mp H).1
 have e:os.drop m=(os.drop m).take (j - m)++(o::os.drop (j+1)):=by
  have z:=List.take_append_drop (j - m) (os.drop m)
  rw[List.drop_drop,show m+(j - m)=j by omega]at z
  obtain⟨a,E⟩:=List.getElem?_eq_some_iff.mp H
  rw[<- List.getElem_cons_drop (h:=a),E]at z
  exact z.symm
 have b:((os.drop m).take (j - m)).length=j - m:=by rw[List.length_take,List.length_drop];omega
 have z:(dP (os.drop m) p m).length=((dP ((os.drop m).take (j - m)) p m)++dP (o::os.drop (j+1)) p (m+(j - m))).length:=by
  conv=>lhs;rw[e]
  rw[zF,b]
 rw[z,List.length_append,show m+(j - m)=j by omega]
 have c:(dP (o::os.drop (j+1)) p j).length=(o.2.2.size+1)+(dP (os.drop (j+1)) p (j+1)).length:=by
  show(((_,_)::_)++_).length=_
  rw[List.length_append,List.length_cons,kP O]
 rw[c]
 unfold dU
 rw[List.length_map]
 omega
theorem Kl:∀{s:Sk},s.ok true->∀{j:Nat} {o:aM},s.steps[j]?=some o->o.2.2.ok false
 | .st n H w r,h,0,o,e=>by cases e;exact h.1
 | .st n H w r,h,j+1,o,e=>Kl h.2 (j:=j) (by have e:((n,H,w)::r.steps)[j+1]?=some o:=e;simpa using e)
 | .nil,_,j,o,e=>by have e:([]:List aM)[j]?=some o:=e;simp at e
theorem Bt{w:Sk}(o:w.ok false)(p:aG):(dP (iO w) p 0).length=w.size:=by
 cases w with
 |nil |st _ _ _ _=>exact o.elim
 |cl f i s a=>show(dP s.steps p 0).length=s.size;rw[<- zw (show s.ok true from o),kP (show s.ok true from o)]
 |_=>rfl
theorem yk(p:aG)(o:aM)(a:aG)(n:Int)(h:List Int)(w:Sk):(one p o a n h w).tot<=2:=by
 unfold one
 split
 ·split
  ·exact Nat.le_succ 1
  ·exact Nat.le_succ 1
 ·exact Nat.le_refl 2
theorem qu:∀{b:Bool} {s:Sk},s.ok b->∀(p:aG) (os:List aM) (m:Nat) (c:aG) (k:Nat),(∀o∈os,o.2.2.ok false)->(dE s p os m c k).tot<=s.size+(dP (os.drop m) p m).length
 |true,.nil,_,p,os,m,c,k,_=>by
  have:=BD p os m os.length
  show 0+0+0+(dU p os m os.length).length<=0+_
  omega
 |true,.st n q w r,o,p,os,m,c,k,H=>by
  show _<=w.size+r.size+1+_
  cases h:eZ os m n q w with
  |none=>
   rw[zO h,Ly.tot_app]
   have t:(#[[],[],bQ (c++[(k:Int)]) w,[]]:Ly).tot=w.size+1:=by show 0+0+(bQ (c++[(k:Int)]) w).length+0=_;rw[ql o.1];omega
   have u:=qu o.2 p os m c (k+1) H
   omega
  |some j=>
   obtain⟨g,x,l,_⟩:=kW h
   have O:=H x (List.mem_of_getElem? l)
   rw[zP h l,Ly.tot_app,Ly.tot_app,Ly.tot_app]
   have t:(#[[],[],[],dU p os m j]:Ly).tot=(dU p os m j).length:=Nat.zero_add _
   have u:=yk (p++[(j:Int)]) x (c++[(k:Int)]) n q w
   have v:=qu o.1 (p++[(j:Int)]) (iO x.2.2) 0 (c++[(k:Int)]) 0 (λy d=>by
    cases e:x.2.2 with
    |cl f I s a=>
     rw[e]at d O
     obtain⟨i,z⟩:=List.getElem?_of_mem d
     exact Kl (show s.ok true from O) z
    |_=>rw[e]at d;cases d)
   rw[List.drop_zero,Bt O]at v
   have A:=qu o.2 p os (j+1) c (k+1) H
   have B:=wn p g l O
   omega
 |false,.cl _ _ s _,o,p,os,m,c,k,H=>qu (b:=true) (s:=s) o p os m c k H
 |false,.ask _,_,p,os,m,c,k,_=>Nat.zero_le _
 |false,.rd _ _,_,p,os,m,c,k,_=>Nat.zero_le _
 |false,.wr _ _,_,p,os,m,c,k,_=>Nat.zero_le _
def DX(H:Hp)(x:V)(k t f d:Addr)(y:Ly):Prop:=∃q,x= .ref q/\Lt H q k t f d y
inductive lP(k:List V)(H:Hp)(Q:VK)(a:XK):Prop
 |mk(D:DF)(c b:Addr)(f:Str)(g h:List Int)(i j:Sk)(d e:Int)(_:k=[.ref c,.ref b])(_:mf H f g i d (.ref c))(_:i.ok true)(_:i.dep<=15)(_:i.size<=1000)(_:mf H f h j e (.ref b))(_:j.ok true)(_:j.dep<=15)(_:j.size<=1000)(_:Dt D f i)(_:Dt D f j)(_:∀(x:V) (kA tA fA dA:Addr) (H':Hp),DX H' x kA tA fA dA (dE j [] i.steps 0 [] 0)->H kA=none->H tA=none->H fA=none->H dA=none->aa H H'->Q x H')
theorem Ce{f:Addr}{F:FuncData}{k:Nat}{C:Addr}:af P w K mg base aE k f F z2z (mK C 0):=by
 have n:∀{v H Q E},¬mK C 0 v H Q E:=by
  rintro v H Q E ⟨D,r,d,e,t,g,i,O,q,j,N,p,l,m,u,x,B,b,c,U,G,W,I,y,_,_,_,_,_,_,_,_,_,_,_,_,_,_,_,_,z,_⟩
  omega
 exact#[λv H Q E h=>(n h).elim,λA o s H a J v Q E L M R S h=>(n h).elim]
theorem EK{C e q v x r y:Addr}{f F g h b i:FuncData}(d:LK K C)(j:aQ K "lay" "Laying.lay" yG e f)(s:aC K f z2z [])(c:ba K C "lay" e)(t:aQ K "lay_step" "Laying.lay_step" yE q F)(B:aC K F z2z [])(m:ba K C "lay_step" q)(k:Cl P w K mg base 3 v g ["steps","mark","step"] mQ "taken_from")(l:Cl P w K mg base 36 x h z5z (iX 17) "paths_at")(G:af P w K mg base aE 37 r b z17z (iA C))(o:aC K b z17z [])(M:ba K C "drop" r)(u:Cl P w K mg base 1 y i ["what"] iB "found_in")(a:mg "enumerate"=none)(p:mg "len"=none):∀n,af P w K mg base aE (2*n+38) e f z2z (iW C n)
 |0=>tQ j d k l G o M Ce B m a p
 |n+1=>tQ j d k l G o M (CF t d u (EK d j s c t B m k l G o M u a p n) s c) B m a p
theorem u6:ai ["old","new","laying"] ["old","new"] (ae uM):=bK
theorem xX{f:Addr}{fd:FuncData}{C fI fL:Addr}{g j:FuncData}(F:aQ K "laid" "laid" uM f fd)(a:LK K C)(mk:Mk K C fI)(GI:af P w K mg base aE 1 fI g ["self"] (lN C))(bI:aC K g ["self"] [])(mC:mg "Laying"=some (.ref C))(GL:af P w K mg base aE 70 fL j z2z (iW C 16))(bL:aC K j z2z [])(M:ba K C "lay" fL):af P w K mg base aE 71 f fd ["old","new"] lP:=by
 refine F.ok u6 ?_ λc0 A B s H vs Q E hr h=>?_
 ·rintro _ _ _ _ ⟨D,c,b,f,is,js,G,S,a0,a1,rfl,_⟩
  rfl
 obtain⟨D,c,b,f,is,js,G,S,a0,a1,rfl,I,O,J,R,T,k,U,V,D0,D1,q⟩:=h
 refine#[_,(jd (jD 2 u6.nd (@uj _ _ _ _ _ _ _ _ _ _ _ _ _ _ mk GI hr.m Z mC bI .nil aY Pm)) (jd (jB (jZ (pv 2) a.cl M GL hr.m bL .nil aY (ja (jl jb) (ja (pv 0) (ja (jl jb) (ja (pv 1) jb)))))) (jf (jm (jl (ja (jX (pv 2) Z) (ja (jX (pv 2) Z) (ja (jX (pv 2) Z) (ja (jX (pv 2) Z) jb))))))))),?_]
 have b0:=aH
 refine aj λF1 l=>λr d nr N h0=>#[r,d,Z,jc,λW X Y dA v L1 p nk nt nf nd=>#[Z,l _ _ ?_]]
 clear l
 have up:∀b o,b≠r->b≠d->H b=some o->v b=some o:=λb o n1 n2 e=>p b o n1 (by rw[jh n1,jh n2];exact e)
 have s1:aa H v:=λb o e=>up b o (ji e nr) (ji e N) e
 have n:∀x,ah (ah H d (.own r)) r (.ins C d []) x=none->H x=none:=λx hx=>by
  cases z:H x with
  |none=>rfl
  |some o=>rw[jh (ji z nr),jh (ji z N),z]at hx;cases hx
 have t0:=qu k [] G.steps 0 [] 0 λo ho=>by
  obtain⟨i,hi⟩:=List.getElem?_of_mem ho
  exact Kl O hi
 rw[List.drop_zero,<- zw O,kP O]at t0
 refine aj λF1 l=>#[_,Z,r,d,_,Z,L1.ins,Z,eY,λpa n0=>#[_,Z,eY,λpb t=>#[_,Z,?_]]]
 have y:aa v (ah (ah v pa (.tup [])) pb (.tup [])):=(je n0).trans (je t)
 refine#[D,r,d,W,X,Y,dA,pa,c,pb,b,[],[],f,is,js,G,S,a0,a1,.nil,Z,L1.same y,am jc t,jc,Pm,Pm,zE I (aa.tm (s1.trans y)),O,J,R,zE T (aa.tm (s1.trans y)),k,Pn,U,V,D0,D1,by rw[Ly.nil_app];omega,λH3 L b3=>l _ _ ?_]
 clear l
 rw[Ly.nil_app]at L
 refine#[_,Z,r,C,d,_,_,Z,L.ins,a.cl,a.n1,Z,_,Z,r,C,d,_,_,Z,L.ins,a.cl,a.n2,Z,_,Z,r,C,d,_,_,Z,L.ins,a.cl,a.n3,Z,_,Z,r,C,d,_,_,Z,L.ins,a.cl,a.n4,Z,Aa,λz nz=>?_]
 have s4:aa H3 (ah H3 z (.tup [.ref W,.ref X,.ref Y,.ref dA])):=je nz
 have u:=L.same s4
 refine q _ W X Y dA _ #[z,Z,jc,u.kv,u.tv,u.fv,u.dv,u.ne,λ_ z=>nomatch z] (n _ nk) (n _ nt) (n _ nf) (n _ nd) λx o e=>?_
 exact s4 _ _ (b3 _ _ (ji e (n _ nk)) (ji e (n _ nt)) (ji e (n _ nf)) (ji e (n _ nd)) (y _ _ (s1 _ _ e)))
noncomputable abbrev nG:Stmt:=bM 67
noncomputable abbrev Dk:Stmt:=bM 68
noncomputable abbrev nK:Stmt:=bM 78
theorem yv(a:a9)(k:bo)(v:V):(aZ a k v).length<=a.length+1:=zN
inductive hZ(b:List V)(H:Hp)(Q:VK)(a:XK):Prop
 |mk(p:Addr)(_:b=[.ref p])(_:aF H p)(_:∀(l:Addr) (C:a9) (H':Hp),H l=none->H' l=some (.dK C)->GT C->C.length<=13->aF H' p->aR p H H'->Q (.ref l) H')
inductive CL(p l:Addr)(H:Hp)(i:Nat)(k:_L.St)(a:Hp):Prop
 |mk(h j:Option V)(C:a9)(b:k=[some (.ref p),some (.ref l),h,j])(c:a l=some (.dK C))(d:GT C)(e:C.length<=i)(f:aF a p)(g:aR p H a)
theorem Ck:NX (.lst x):=λa z=>by cases z
theorem Cm:NX (.tup x):=λa z=>by cases z
theorem Kp.tm(k:Kp H h):ax H h:=λb x e=>k b _ Cm e
theorem Kp.seq{K:Frag}(e:Kp H b)(h:aJ K H a x):aJ K b a x:=by
 rcases h with (h | ⟨o,h⟩) |h
 ·exact .inl (.inl (e _ _ Ck h))
 ·exact .inl (.inr #[o,e _ _ (by intro c z;cases z) h])
 ·exact .inr h
theorem C3{H:Hp}{D:List Df}{n:List Nat}(h:pW H D n){i:Nat}{d:Df}{p:List Str}(a:D[i]?=some d)(c:H d.pa=some (.tup (p.map V.str))):n[i]?=some p.length:=by
 have f:i < D.length:=(List.getElem?_eq_some_iff.mp a).1
 have b:n[i]?=some (n[i]'(by rw[<- h.1];exact f)):=IG _
 obtain⟨g,e,l,_⟩:=h.2 i d _ a b
 rw[c]at e
 injection e with e
 injection e with e
 have:=LY List.length e
 rw[IJ,IJ]at this
 rw[b,<- l,this]
theorem EU:NX (.dK x):=λa z=>by cases z
def p8(H:Hp)(X:List V):Prop:=∀x∈X,∃(q:Addr) (c i:Int),x= .ref q/\H q=some (.tup [.int c,.int i])/\gF i
theorem p8.mono(k:ax H a)(h:p8 H b):p8 a b:=λx d=>let #[q,c,i,e,f,g]:=h x d;#[q,c,i,e,k _ _ f,g]
inductive oy(b:List V)(H:Hp)(Q:VK)(a:XK):Prop
 |mk(p:Addr)(m:Int)(_:b=[.ref p,.int m])(_:aF H p)(_:0 < m)(_:m<=100)(_:∀(l:Addr) (xs:List V) (H':Hp),H l=none->H' l=some (.lst xs)->p8 H' xs->xs.length<=100->aF H' p->aR p H H'->Q (.ref l) H')
inductive HQ(p l:Addr)(m:Int)(H:Hp)(i:Nat)(n:_L.St)(a:Hp):Prop
 |mk(h j:Option V)(k:List V)(b:n=[some (.ref p),some (.int m),some (.ref l),h,j])(c:a l=some (.lst k))(d:p8 a k)(e:k.length<=i)(f:aF a p)(g:aR p H a)
def Ik(r R:R2):R2:=λx y H Q=>r x y H Q∨R x y H Q
theorem C0{X:Cx}(b:eU X o c)(d:eU X o e):eU X o (Ik c e):=λp s a H x y v u Q I r R h=>h.elim (b p s a H x y v u Q I r R) (d p s a H x y v u Q I r R)
structure D7(H:Hp)(nA pA ag cA:Addr)(i:Nat)(Cs:a9)(d:Df)(ds:List Df)(ns:List Nat)(xs:List V)(pds:List eV)(is:List Int):Prop where
 ps:Ps H nA pA ds ns xs pds
 xl:xs.length<=1000
 hd:ds[i]?=some d
 hn:ns[i]?=some is.length
 ag:H ag=some (.tup (is.map V.int))
 hi:∀z∈is,gF z
 il:is.length<=100
 ce:H cA=some (.dK Cs)
 gc:GT Cs
theorem D7.kp(h:D7 H n a A c i C d D N x p I)(k:Kp H b):D7 b n a A c i C d D N x p I:=#[h.ps.mono k.tm,h.xl,h.hd,h.hn,k.tm _ _ h.ag,h.hi,h.il,k _ _ EU h.ce,h.gc]
inductive lO(l:Addr)(o:List V)(H:Hp)(Q:VK)(b:XK):Prop
 |mk(n g h:Addr)(i:Nat)(f:a9)(d:Df)(j:List Df)(m:List Nat)(p:List V)(e:List eV)(k:List Int)(_:o=[.ref n,.str d.f,.ref g,.ref h])(_:D7 H l n g h i f d j m p e k)(_:∀(c:Addr) (sk:Sk) (a:Int) (L':a9) (H':Hp),cf e f 16 d.f k [] 0= .ok sk a L' sk.size->mf H' d.f k sk a (.ref c)->sk.ok true->sk.dep<=15->sk.size<=60->Kp H H'->Q (.ref c) H')(_:(∀sk a L' t',cf e f 16 d.f k [] 0≠ .ok sk a L' t')->∀H',Kp H H'->Q .non H')
inductive mM(K:Frag)(d:List V)(H:Hp)(Q:VK)(b:XK):Prop
 |mk(a:Addr)(c:List Int)(_:d=[.ref a])(_:aJ K H a (c.map V.int))(_:c.length<=63)(_:∀H',Q (.bl true) H')
theorem gg:ai ["_law_box_here","_law_cells_here","_law_k","_law_cell"] z3z (ae nG):=bK
theorem tM(F:aQ K "_law_cells" "_law_cells" nG f fd)(r:Cl P w K mg base 1 fT f0 z6z cn "_law_take")(cU:Cl P w K mg base 2 fU f2 z3z mN "_law_number")(mr:mg "range"=none):af P w K mg base aE 3 f fd z3z hZ:=by
 refine F.ok gg ?_ λc0 A O s H vs Q E g h=>?_
 ·rintro _ _ _ _ ⟨p,rfl,_⟩
  rfl
 obtain⟨p,rfl,B,q⟩:=h
 refine#[_,(jd (jD 1 gg.nd Xm) (jd (j7 Lp Z (zk Z mr (ja (r.e g.m (ja (pv 0) (ja jg jb))) jb)) (jw (i:=2) gg.nd Z (Or.inl Z)) (jd (jD 3 gg.nd (r.e g.m (ja (pv 0) (ja jg jb)))) (jd (jy (Jl (r.e g.m (ja (pv 0) (ja jg jb)))) (jf (jD 3 gg.nd (jx qG (jx qG (jx Kf jg jg) jg) (r.e g.m (ja (pv 0) (ja jg jb)))))) jr) (jf (qP (zB g) (pv 1) (pv 3) (cU.e g.m (ja (pv 0) jb)) Z))))) (jf (jm (pv 1))))),?_]
 have b0:=aH
 have t0:=oJ
 refine aj λt a=>λl N=>a _ _ ?_
 clear a
 have S:aa H (ah H l (.dK [])):=je N
 have I:ah H l (.dK []) l=some (.dK []):=jc
 generalize ah H l (.dK [])=H1 at S I
 have L:l≠p:=B.ne N
 have B1:=B.same S
 refine aj λt a=>dq λJ j=>#[_,Z,p,14,Z,B1,Pm,Pm,λd H2 d0 d1 B2 M=>#[_,Z,Pn,Pn,j _ _ ?_]]
 clear j
 refine kQ (lo:=0) (CL p l H) #[none,none,[],Z,by rw[M l L];exact I,_K.GT.nil,IK _,B2,(aR.of_same S).trans (aR.of_eq M)] ?_ (λσ H' h=>a _ _ ?_)
 ·clear a
  intro E0 _ i σ H3 hi fE Gq o h
  obtain⟨o2,o3,C,rfl,x,G,lC,y,D⟩:=h
  refine o ?_
  clear o
  show eP (fo _ _) _ E0 _ _
  refine aj λt a=>#[_,Z,p,14,Z,y,Pm,Pm,λc4 H4 d2 d3 B4 R=>a _ _ ?_]
  clear a
  refine aj λt a=>?_
  have c:∀(u:Int) (v:Hp),aF v p->(∀b,b≠p->v b=H3 b)->t [some (.ref p),some (.ref l),some (.int (0+(i:Int))),some (.int u)] v:=λu v BH T=>a _ _ (by
   refine#[_,Z,p,Z,BH,λm H7 m0 m1 B7 U=>?_]
   have h7:H7 l=some (.dK C):=by rw[U l L,T l L];exact x
   have pl:=yv C (.inl u) (.int m)
   exact#[_,Z,_,Z,l,_,Z,ni.k (k:=.inl u) h7 Pn,fE _ _ #[_,_,_,Z,jc,G.put _ #[m0,m1],Pn,B7.eq (jh (Lr L)),(D.trans ((aR.of_eq T).trans (aR.of_eq U))).upd_own N]])
  refine iS λG1 yT yF=>#[_,Z,p,8,Z,B4,Pm,Pm,λd5 H5 d4 d7 W X=>#[Z,_,Z,?_]]
  by_cases Y:d5=0
  ·rw[Y,IV (Z:V.int 0=V.int 0)]
   refine yT _ #[_,_,Z,Z,#[Pm,Pm,Pm],_,_,Z,Z,_,Z,p,4,Z,W,Pm,Pm,λd6 H6 d8 d' B6 e6=>#[_,_,Z,Z,c _ H6 B6 λb n=>(e6 b n).trans ((X b n).trans (R b n))]]
  ·rw[IQ (λz=>Y (by injection z))]
   exact yF _ (c _ H5 W λb n=>(X b n).trans (R b n))
 ·obtain⟨o2,o3,C,rfl,x,G,lC,y,D⟩:=h
  exact#[_,Z,q l C H' N x G Pn y D]
theorem my:ai ["_law_box_here","_law_most","_law_found_here","_law_k","_law_cell"] ["_law_box_here","_law_most"] (ae Dk):=bK
theorem Cy(F:aQ K "_law_changes" "_law_changes" Dk f fd)(D:Cl P w K mg base 1 fT f0 z6z cn "_law_take")(cN:Cl P w K mg base 2 fN f2 z3z mN "_law_number")(mr:mg "range"=none):af P w K mg base aE 3 f fd ["_law_box_here","_law_most"] oy:=by
 refine F.ok my ?_ λc0 A O s H vs Q E g h=>?_
 ·rintro _ _ _ _ ⟨p,m,rfl,_⟩
  rfl
 obtain⟨p,m,rfl,B,m0,m1,q⟩:=h
 refine#[_,(jd (jD 2 my.nd (jJ jb)) (jd (j7 Lp Z (zk Z mr (ja (jx j8 jg (D.e g.m (ja (pv 0) (ja (pv 1) jb)))) jb)) (jw (i:=3) my.nd Z (Or.inl Z)) (jd (jD 4 my.nd (D.e g.m (ja (pv 0) (ja jg jb)))) (jd (jy (Jl (D.e g.m (ja (pv 0) (ja jg jb)))) (jf (jD 4 my.nd (jx qG (jx qG (jx Kf jg jg) jg) (D.e g.m (ja (pv 0) (ja jg jb)))))) jr) (jf (jB (jU IR J' I9 jI (pv 2) (ja (jl (ja (pv 4) (ja (cN.e g.m (ja (pv 0) jb)) jb))) jb))))))) (jf (jm (pv 2))))),?_]
 have b0:=aH
 have t0:=oJ
 refine aj λG a=>#[eY,λl I=>a _ _ ?_]
 clear a
 have R:aa H (ah H l (.lst [])):=je I
 have e1:ah H l (.lst []) l=some (.lst []):=jc
 generalize ah H l (.lst [])=H1 at R e1
 have L:l≠p:=B.ne I
 have B1:=B.same R
 refine aj λG a=>dq λJ j=>#[_,Z,_,Z,p,m,Z,B1,m0,Pn,λd H2 d0 d1 B2 e2=>#[_,_,Z,Z,_,Z,Pn,Pn,j _ _ ?_]]
 clear j
 refine kQ (lo:=0) (HQ p l m H) #[none,none,[],Z,by rw[e2 l L];exact e1,(λ_ h=>nomatch h),IK _,B2,(aR.of_same R).trans (aR.of_eq e2)] ?_ (λσ H' h=>a _ _ ?_)
 ·clear a
  intro E0 _ i σ H3 hi fE Gq k h
  obtain⟨o3,o4,X,rfl,U,W,lV,M,Y⟩:=h
  refine k ?_
  clear k
  show eP (fo _ _) _ E0 _ _
  refine aj λG a=>#[_,Z,p,15,Z,M,Pm,Pm,λc4 H4 d2 d3 B4 e4=>a _ _ ?_]
  clear a
  refine aj λG a=>?_
  have c:∀(C:Int) (r:Hp),aF r p->(∀b,b≠p->r b=H3 b)->G [some (.ref p),some (.int m),some (.ref l),some (.int (0+(i:Int))),some (.int C)] r:=λC r BH eH=>a _ _ (by
   have u:r l=some (.lst X):=by rw[eH l L];exact U
   refine#[_,Z,.inl #[Z,_,aJ.of u],_,Z,_,Z,p,Z,BH,λn v n0 n1 B7 e7=>#[cg,λt nt=>?_]]
   have h7:v l=some (.lst X):=by rw[e7 l L];exact u
   have S:aa v (ah v t (.tup [.int C,.int n])):=je nt
   have t8:ah v t (.tup [.int C,.int n]) t=some (.tup [.int C,.int n]):=jc
   refine#[l,_,_,Z,Z,S _ _ h7,Pn,fE _ _ ?_]
   generalize ah v t (.tup [.int C,.int n])=y at S t8
   have k8:aR p H3 y:=((aR.of_eq eH).trans (aR.of_eq e7)).trans (aR.of_same S)
   have l8:=S _ _ h7
   have kl:aR l y (ah y l (.lst (X++[.ref t]))):=λb o N e=>by rw[jh N];exact e
   have T:ax y (ah y l (.lst (X++[.ref t]))):=λb ys e=>kl _ _ (jS e l8 (by intro z;cases z)) e
   refine#[_,_,X++[.ref t],Z,jc,?_,by rw[IL];show X.length+1<=_;omega,(B7.same S).eq (jh (Lr L)),(Y.trans k8).upd_own I]
   intro x hx
   rcases List.mem_append.mp hx with z |z
   ·exact((W.mono (k8.tm M)).mono T) x z
   ·rw[List.mem_singleton.mp z]
    exact#[t,C,n,Z,T _ _ t8,n0,n1])
  refine iS λG1 yT yF=>#[_,Z,p,8,Z,B4,Pm,Pm,λd5 H5 d4 d7 B5 e5=>#[Z,_,Z,?_]]
  by_cases h3:d5=0
  ·rw[h3,IV (Z:V.int 0=V.int 0)]
   refine yT _ #[_,_,Z,Z,#[Pm,Pm,Pm],_,_,Z,Z,_,Z,p,4,Z,B5,Pm,Pm,λd6 H6 d8 d' B6 e6=>#[_,_,Z,Z,c _ H6 B6 λb N=>(e6 b N).trans ((e5 b N).trans (e4 b N))]]
  ·rw[IQ (λz=>h3 (by injection z))]
   exact yF _ (c _ H5 B5 λb N=>(e5 b N).trans (e4 b N))
 ·obtain⟨o3,o4,X,rfl,U,W,lV,M,Y⟩:=h
  exact#[_,Z,q l X H' I U W Pn M Y]
noncomputable abbrev nJ:Stmt:=bM 73
noncomputable abbrev Dj:Stmt:=bM 74
structure Xb(K:Frag)(mg:Str->Option Value)(B TL TD:Addr):Prop where
 g:mg "BookError"=some (.ref B)
 h:clsIn K B≠none
 t:typeIn K (.ref B)=some (.type "type")
 m:mroIn K B (.type "BaseException")=some true
 L:mroIn K TL (.ref B)=some true
 D:mroIn K TD (.ref B)=some true
theorem GT.drop{C:a9}(h:GT C)(k:bo):GT (iP C k):=λp H=>h p (List.mem_filter.mp H).1
inductive ou(c:List V)(H:Hp)(Q:VK)(a:XK):Prop
 |mk(p b:Addr)(C:a9)(_:c=[.ref p,.ref b])(_:aF H p)(_:H b=some (.dK C))(_:GT C)(_:C.length<=100)(_:∀(l:Addr) (C':a9) (H':Hp),H l=none->H' l=some (.dK C')->GT C'->C'.length<=C.length+100->aF H' p->aR p H H'->Q (.ref l) H')
inductive HP(p c l:Addr)(C:a9)(H:Hp)(i:Nat)(n:_L.St)(b:Hp):Prop
 |mk(k m:Option V)(a:a9)(d:n=[some (.ref p),some (.ref c),some (.ref l),k,m])(e:b l=some (.dK a))(f:GT a)(g:a.length<=C.length+i)(h:aF b p)(j:dy p l H b)
def DU(H:Hp)(p:List eV)(f:Str)(i:List Int)(s:Sk)(a:Int)(u:V):Prop:=mf H f i s a u/\s.ok true/\s.dep<=15/\s.size<=60/\∃(C L:a9),cf p C 16 f i [] 0= .ok s a L s.size
theorem DU.mono{H b:Hp}(k:ax H b){p:List eV}{f:Str}{i:List Int}{s:Sk}{a:Int}{u:V}(h:DU H p f i s a u):DU b p f i s a u:=#[zE h.1 k,h.2]
theorem hV:ai ["_law_parts","_law_f","_law_args","_law_cells_here","_law_book_here"] z29z (ae nJ):=bK
theorem tR{f:Addr}{W:FuncData}{B Y TD nA r:Addr}{l:FuncData}(F:aQ K "_law_book" "_law_book" nJ f W)(GR:af P w K mg base (fu P w) 45 r l z23z (oF Y TD nA))(bR:aC K l z23z [])(kR:keepIn K (.ref r)=true)(mR:mg "run"=some (.ref r))(X:Xb K mg B Y TD)(M:mg "dict"=none):af P w K mg base aE 46 f W z29z (lO nA):=by
 refine F.ok hV ?_ λc0 A v s H vs Q E hr h=>?_
 ·rintro _ _ _ _ ⟨y,G,I,i,j,d,ds,ns,xs,p,is,rfl,_⟩
  rfl
 obtain⟨y,G,I,i,j,d,ds,ns,xs,p,is,rfl,c,q1,q2⟩:=h
 refine#[_,(jd (jD 4 hV.nd (@Kc _ _ _)) (jd (@yr _ _ _ _ _ _ _ _ _ _ _ Z Z (@yt _ _ _ _ (4) _ _ hV.nd Z (Or.inl Z) (@um _ _ _ _ _ _ _ _ _ _ _ _ _ _ GR hr.m Z mR kR bR .nil (ja (pv 0) (ja (pv 1) (ja (pv 2) (ja (jP Qk Z M boot_dict (ja (pv 3) jb)) (ja jg jb))))) Pm Pq Pq) Pq (by first |exact .inl Z |exact .inr Z)) Z X.g X.h X.t X.m (λ_=>(jf (jD 4 hV.nd (@Kc _ _ _)))) Pm) (jf (jm (pv 4))))),?_]
 refine aj λF1 k=>k _ _ ?_
 clear k
 refine aj λF1 k=>?_
 show Bf _ _ _ _ _ [some (.ref y),some (.str d.f),some (.ref G),some (.ref I),some .non] H
 refine#[_,Z,_,Z,_,Z,_,Z,I,j,Z,c.ce,λO not=>?_]
 have S:aa H (ah H O (.dK j)):=je not
 have e1:ah H O (.dK j) O=some (.dK j):=jc
 generalize ah H O (.dK j)=H1 at S e1 ⊢
 have c:=c.kp (Kp.of_same S)
 refine#[y,G,O,i,j,d,ds,ns,xs,p,is,Z,c.ps,c.hd,c.hn,c.ag,c.hi,e1,c.gc,λu sk a L' H2 q hc ok dp sz s2=>?_,λq=>?_,λq=>?_]
 ·obtain⟨c',z⟩:=id hc
  obtain⟨_,_,_,rfl,_⟩:=z
  exact k _ _ #[_,Z,q1 c' sk a L' H2 q hc ok dp sz (Kp.of_same (S.trans s2))]
 ·intro _ H7 J x C T R U hT V
  cases R
  refine#[X.L,λT' n=>k _ _ #[_,Z,q2 (λ_ _ _ _ z=>by rw[q]at z;cases z) _ ?_]]
  exactλb o N e=>JY (H:=H) (J _ _ N (S _ _ e)) N U n
 ·intro _ H7 J x C T R U hT V
  cases R
  refine#[X.D,λT' n=>k _ _ #[_,Z,q2 (λ_ _ _ _ z=>by rw[q]at z;cases z) _ ?_]]
  exactλb o N e=>JY (H:=H) (J _ _ N (S _ _ e)) N U n
theorem oi:ai ["_law_box_here","_law_cells_here","_law_other","_law_cell","_law_number_here"] ["_law_box_here","_law_cells_here"] (ae Dj):=bK
theorem Cw{f:Addr}{fd:FuncData}{fG fT:Addr}{Y f0:FuncData}(F:aQ K "_law_changed" "_law_changed" Dj f fd)(cG:Cl P w K mg base 3 fG Y ["_law_box_here","_law_most"] oy "_law_changes")(cT:Cl P w K mg base 1 fT f0 z6z cn "_law_take")(m0:mg "dict"=none):af P w K mg base aE 4 f fd ["_law_box_here","_law_cells_here"] ou:=by
 refine F.ok oi ?_ λc0 A o1 s H vs Q E hr h=>?_
 ·rintro _ _ _ _ ⟨p,O,C,rfl,_⟩
  rfl
 obtain⟨p,O,C,rfl,B,hC,gC,h3,q⟩:=h
 refine#[_,(jd (jD 2 oi.nd (jP Qk Z m0 boot_dict (ja (pv 1) jb))) (jd (j7 PassesOwn.never Z (zh (cG.e hr.m (ja (pv 0) (ja jg jb)))) (qf (n:=2) Z (jF (jw (i:=3) oi.nd Z (Or.inl Z)) (jF (jw (i:=4) oi.nd Z (Or.inl Z)) kU))) (jd (qP (zB hr) (pv 2) (pv 3) (pv 4) Z) (jf (jy (Jl (cT.e hr.m (ja (pv 0) (ja jg jb)))) (jf (jB (jU PySem.F.plainAttrs_dict PySem.F.slot_dict_pop PySem.F.type_dict_pop xM (pv 2) (ja (pv 3) jb)))) jr)))) (jf (jm (pv 2))))),?_]
 have b0:=aH
 refine aj λF1 g=>#[_,Z,O,C,Z,hC,λl R=>g _ _ ?_]
 clear g
 have s1:aa H (ah H l (.dK C)):=je R
 have e1:ah H l (.dK C) l=some (.dK C):=jc
 generalize ah H l (.dK C)=H1 at s1 e1 ⊢
 have S:l≠p:=B.ne R
 have B1:=B.same s1
 refine aj λF1 g=>dq λJ j=>#[_,Z,p,4,Z,B1,Pm,Pm,λT x0 H2 N u pV lV B2 k2=>#[T,Z,#[_,aJ.of u],j _ _ ?_]]
 clear j
 have l2:H2 l=some (.dK C):=k2 _ _ S e1
 have l0:T≠l:=(ji e1 N).symm
 have p0:T≠p:=B1.ne N
 refine qv (K:=K) (a:=T) (xs:=x0) (HP p O l C H2) #[none,none,C,Z,l2,gC,Nat.le_refl _,B2,λ_ _ _ _ e=>e] (λk σ H' _ h=>?_) ?_ (λσ H' h=>g _ _ ?_)
 ·obtain⟨_,_,_,_,_,_,_,_,kk⟩:=h
  exact aJ.of (kk _ _ p0 l0 u)
 ·clear g
  intro E rt k x σ r y fE Gq t h
  obtain⟨o3,o4,d,rfl,l3,g3,n3,B3,U⟩:=h
  refine t ?_
  clear t
  have h4:=(List.getElem?_eq_some_iff.mp y).1
  obtain⟨qq,c,I,rfl,D,h1⟩:=pV x (List.mem_of_getElem? y)
  obtain⟨_,_,_,_,_,h2⟩:=B2.ob
  have D:=U _ _ (jS D h2 (by intro z;cases z)) (jS D l2 (by intro z;cases z)) D
  refine#[qq,_,Z,aA.of D,Z,_,_,Z,_,_,Z,Z,?_]
  show eP _ _ E [some (.ref p),some (.ref O),some (.ref l),some (.int c),some (.int I)] r
  have pl:=zN (kvs:=d) (k:=.inl c) (v:=.int I)
  refine aj λF1 g=>#[_,Z,_,Z,_,Z,l,_,Z,ni.k (k:=.inl c) l3 Pn,g _ _ ?_]
  clear g
  have kE:aR l r (ah r l (.dK (aZ d (.inl c) (.int I)))):=λb o W e=>by rw[jh W];exact e
  have eE:ah r l (.dK (aZ d (.inl c) (.int I))) l=some (.dK (aZ d (.inl c) (.int I))):=jc
  have B4:aF (ah r l (.dK (aZ d (.inl c) (.int I)))) p:=B3.eq (jh S.symm)
  generalize ah r l (.dK (aZ d (.inl c) (.int I)))=H4 at kE eE B4
  have g4:=g3.put (.inl c) h1
  refine iS λG1 yT yF=>#[_,Z,p,5,Z,B4,Pm,Pm,λd1 G d0 d2 L q1=>#[Z,_,Z,?_]]
  have l5:G l=some (.dK (aZ d (.inl c) (.int I))):=by rw[q1 l S];exact eE
  have k5:dy p l H2 G:=λb o X M e=>by rw[q1 b X];exact kE _ _ M (U _ _ X M e)
  by_cases h0:d1=0
  ·rw[h0,decide_eq_true (Z:V.int 0=V.int 0)]
   refine yT _ #[_,Z,.inr (.inr (.inl #[Z,.inl #[_,l5]])),_,Z,l,_,.inl c,.int I,Z,Z,l5,by rw[wb,if_pos Z],fE _ _ #[_,_,_,Z,jc,g4.drop _,?_,L.eq (jh S.symm),λb o X M e=>by rw[jh M];exact k5 _ _ X M e]]
   have:=Xl (aZ d (.inl c) (.int I)) (.inl c)
   omega
  ·rw[decide_eq_false (λz=>h0 (by injection z))]
   exact yF _ (fE _ _ #[_,_,_,Z,l5,g4,Pn,L,k5])
 ·obtain⟨_,_,d,rfl,l3,g3,n3,B3,U⟩:=h
  exact#[_,Z,q l d H' R l3 g3 Pn B3 λb o W e=>U _ _ W (ji e R) (k2 _ _ W (s1 _ _ e))]
theorem xy{call:nh}(h:m6 call C p (m+1) (.go n H) L t= .ok d a g i):∃c w l T r,p.cs[n]?=some c/\gY call C (bg c.nm H) L t c.e= .ok w l T/\d= .st (n:Int) H w r/\m6 call C p m (CU p c H w.wh) l T= .ok r a g i:=by
 unfold m6 at h
 cases e:p.cs[n]? with
 |none=>rw[e]at h;cases h
 |some c=>
  rw[e]at h
  dsimp only at h
  cases E:gY call C (bg c.nm H) L t c.e with
  |long |deep=>rw[E]at h;cases h
  |ok w l T=>
   rw[E]at h
   dsimp only at h
   cases f:m6 call C p m (CU p c H w.wh) l T with
   |long |deep=>rw[f]at h;cases h
   |ok r b _L j=>rw[f]at h;cases h;exact#[c,w,l,T,r,Z,E,Z,f]
noncomputable def BB(p:List eV):DF:=λf n h=>match eX p f with
 |none=>.nil
 |some a=>match a.cs[n.toNat]? with
  |none=>.nil
  |some c=>Ey (bg c.nm h) c.e
def Go(D:DF)(call:nh):Prop:=∀f i L t s a l T,call f i L t= .ok s a l T->Dt D f s
theorem Ez{call:nh}{w:Sk}(H:Go D call)(h:gY call C k L t e= .ok w j m)(g:Str):Dt D g w:=by
 have b:=Aw h
 cases e with
 |ask d T=>rw[Yh b]at h;cases h;trivial
 |st p l=>
  cases l with
  |gv d T |st x d T=>unfold gY at h;rw[IU b]at h;cases h
  |rd x d T=>rw[rL b]at h;cases h;trivial
  |wr d u T U=>rw[rM b]at h;cases h;trivial
  |cl x f q i=>
   rw[K8 b]at h
   cases e:call f (i.map λc=>c.2.ev k) L (t+1) with
   |long |deep=>rw[e]at h;cases h
   |ok s a _L n=>rw[e]at h;cases h;show Dt D f s;exact H _ _ _ _ _ _ _ _ e
theorem AL{call:nh}(H:Go (BB p) call)(d:eX p f=some c):∀(m:Nat) {g:Gd} {L l:a9} {t T:Nat} {R:Sk} {a:Int},m6 call q c m g L t= .ok R a l T->Dt (BB p) f R
 |0,_,_,_,_,_,_,_,h=>by cases h
 |m+1,.give b,_,_,_,_,_,_,h=>by cases h;trivial
 |m+1,.go n j,_,_,_,_,_,_,h=>by
  obtain⟨C,w,s,u,r,k,i,rfl,o⟩:=xy h
  refine#[?_,Ez H i f,AL H d m o]
  rw[BC i]
  show _=(match eX p f with |none=>Tr.nil |some c=>match c.cs[((n:Int)).toNat]? with |none=>Tr.nil |some C=>Ey (bg C.nm j) C.e)
  rw[d]
  dsimp only
  rw[Md,k]
theorem uE:∀j,Go (BB p) (cf p C j)
 |0=>λf i L t s a l T h=>by cases h
 |j+1=>λf i L t s a l T h=>by
  have h:(match eX p f with |none=>OC.long |some b=>m6 (cf p C j) C b 62 (kb (wD b) (db b.way.sets (bg b.ps i)) b.way.goal) L t)= .ok s a l T:=h
  cases e:eX p f with
  |none=>rw[e]at h;cases h
  |some b=>rw[e]at h;exact AL (uE j) e 62 h
theorem DU.dt(h:DU H p f i s a u):Dt (BB p) f s:=by
 obtain⟨_,_,_,_,C,L,e⟩:=h
 exact uE 16 _ _ _ _ _ _ _ _ e
noncomputable def gZ:Sk->aG->List aM->Nat->List aG
 | .st n h w r,p,os,m=>match eZ os m n h w with
  |none=>gZ r p os m
  |some j=>match os[j]? with
   |none=>[]
   |some o=>((if aO n h o=true then [p++[(j:Int)]] else [])++gZ w (p++[(j:Int)]) (iO o.2.2) 0)++gZ r p os (j+1)
 | .cl _ _ s _,p,os,m=>gZ s p os m
 |_,_,_,_=>[]
theorem Ja{n:Int}{H:List Int}{w r:Sk}{p:aG}{os:List aM}{m:Nat}(h:eZ os m n H w=none):gZ (.st n H w r) p os m=gZ r p os m:=by
 show(match eZ os m n H w with |none=>_ |some j=>_)=_
 rw[h]
theorem Jb{n:Int}{H:List Int}{w r:Sk}{p:aG}{os:List aM}{m j:Nat}{o:aM}(h:eZ os m n H w=some j)(a:os[j]?=some o):gZ (.st n H w r) p os m=((if aO n H o=true then [p++[(j:Int)]] else [])++gZ w (p++[(j:Int)]) (iO o.2.2) 0)++gZ r p os (j+1):=by
 show(match eZ os m n H w with |none=>_ |some j=>match os[j]? with |none=>([]:List aG) |some o=>_)=_
 rw[h]
 dsimp only
 rw[a]
def oR(a:aG)(m:Nat)(p:aG):Prop:=∃(j:Nat) (q:aG),m<=j/\p=a++(j:Int)::q
theorem vk(p:aG)(m:Nat):oR p m (p++[(m:Int)]):=#[m,[],Nat.le_refl _,Z]
theorem oR.le{a:aG}{m M:Nat}{p:aG}(h:oR a m p)(l:M<=m):oR a M p:=let #[j,q,H,b]:=h;#[j,q,Nat.le_trans l H,b]
theorem oR.up{a:aG}{m j i:Nat}{p:aG}(h:oR (a++[(j:Int)]) i p)(l:m<=j):∃q,p=a++(j:Int)::q/\q≠[]:=by
 obtain⟨k,q,_,e⟩:=h
 exact#[(k:Int)::q,by rw[e,List.append_assoc];rfl,λz=>by cases z]
theorem zS{p q Q:aG}{i j:Nat}(h:p++(i:Int)::q=p++(j:Int)::Q):i=j/\q=Q:=by
 have:=List.append_cancel_left h
 injection this with a H
 exact#[Pn,H]
theorem K9:∀(s:Sk) (p:aG) (k:Nat),∀q∈(s.ws p k).map (·.1),oR p 0 q
 | .st _ _ w r,p,k,q,h=>by
  have h:q∈(((p++[(k:Int)],w)::w.ws (p++[(k:Int)]) 0)++r.ws p (k+1)).map (·.1):=h
  rw[List.map_append,List.map_cons]at h
  rcases List.mem_append.mp h with h |h
  ·rcases List.mem_cons.mp h with rfl |h
   ·exact(vk p k).le (Nat.zero_le _)
   ·obtain⟨Q,e,_⟩:=(K9 w _ 0 q h).up (m:=0) (Nat.zero_le _)
    exact#[k,Q,Nat.zero_le _,e]
  ·exact K9 r p (k+1) q h
 | .cl _ _ s _,p,_,q,h=>K9 s p 0 q h
 | .nil,_,_,_,h=>nomatch h
 | .ask _,_,_,_,h=>nomatch h
 | .rd _ _,_,_,_,h=>nomatch h
 | .wr _ _,_,_,_,h=>nomatch h
theorem J2{w:Sk}{p:aG}{k:Nat}{q:aG}(h:q∈bQ (p++[(k:Int)]) w):∃Q,q=p++(k:Int)::Q:=by
 rcases List.mem_cons.mp h with rfl |h
 ·exact#[[],Z]
 ·obtain⟨Q,e,_⟩:=(K9 w _ 0 q h).up (m:=0) (Nat.zero_le _)
  exact#[Q,e]
theorem Kt(s:aM)(r:List aM)(p:aG)(k:Nat):(dP (s::r) p k).map (·.1)=bQ (p++[(k:Int)]) s.2.2++(dP r p (k+1)).map (·.1):=by
 show((_::_)++_).map _=_
 rw[List.map_append]
 rfl
theorem QM:∀(os:List aM) (p:aG) (k:Nat),∀q∈(dP os p k).map (·.1),∃(i:Nat) (Q:aG),k<=i/\i < k+os.length/\q=p++(i:Int)::Q
 | [],_,_,_,h=>nomatch h
 |s::r,p,k,q,h=>by
  rw[Kt]at h
  rcases List.mem_append.mp h with h |h
  ·obtain⟨Q,e⟩:=J2 h
   exact#[k,Q,Nat.le_refl _,by show k < k+(r.length+1);omega,e]
  ·obtain⟨i,Q,H,a,e⟩:=QM r p (k+1) q h
   exact#[i,Q,Pn,by show i < k+(r.length+1);omega,e]
theorem Jq:∀(s:Sk) (a:aG) (os:List aM) (m:Nat),∀p∈gZ s a os m,oR a m p
 | .st n b w r,a,os,m,p,h=>by
  cases e:eZ os m n b w with
  |none=>rw[Ja e]at h;exact Jq r a os m p h
  |some j=>
   obtain⟨H,x,d,_⟩:=kW e
   rw[Jb e d]at h
   rcases List.mem_append.mp h with h |h
   ·rcases List.mem_append.mp h with h |h
    ·by_cases c:aO n b x=true
     ·rw[if_pos c]at h
      cases List.mem_singleton.mp h
      exact(vk a j).le H
     ·rw[if_neg c]at h
      cases h
    ·obtain⟨q,E,_⟩:=(Jq w _ _ 0 p h).up (m:=m) H
     exact#[j,q,H,E]
   ·exact(Jq r a os (j+1) p h).le Pn
 | .cl _ _ s _,a,os,m,p,h=>Jq s a os m p h
 | .nil,_,_,_,_,h=>nomatch h
 | .ask _,_,_,_,_,h=>nomatch h
 | .rd _ _,_,_,_,_,h=>nomatch h
 | .wr _ _,_,_,_,_,h=>nomatch h
theorem wq{os:List aM}{m j:Nat}{o:aM}(p:aG)(h:m<=j)(H:os[j]?=some o):(dP (os.drop m) p m).map (·.1)=dU p os m j++(bQ (p++[(j:Int)]) o.2.2++(dP (os.drop (j+1)) p (j+1)).map (·.1)):=by
 have e:os.drop m=(os.drop m).take (j - m)++(o::os.drop (j+1)):=by
  have z:=List.take_append_drop (j - m) (os.drop m)
  rw[List.drop_drop,show m+(j - m)=j by omega]at z
  obtain⟨a,E⟩:=List.getElem?_eq_some_iff.mp H
  rw[<- List.getElem_cons_drop (h:=a),E]at z
  exact z.symm
 have c:=(List.getElem?_eq_some_iff.mp H).1
 have b:((os.drop m).take (j - m)).length=j - m:=by rw[List.length_take,List.length_drop];omega
 conv=>lhs;rw[e]
 rw[zF,b,List.map_append,show m+(j - m)=j by omega,Kt]
 rfl
theorem xC{D:DF}{f:Str}{W w:Sk}(o:W.ok false)(O:w.ok false)(k:Dt D f W)(j:Dt D f w)(h:∀g i s a,w= .cl g i s a->∃S A,W= .cl g i S A)(H:∀g i s a,W= .cl g i s a->∃S A,w= .cl g i S A):∃g d,d.ok true/\iO W=d.steps/\Dt D g d/\Dt D g w/\(∀G i s a,w= .cl G i s a->g=G)/\((∀g i s a,w≠ .cl g i s a)->d= .nil):=by
 cases W with
 |nil |st _ _ _ _=>exact o.elim
 |cl g i s a=>
  obtain⟨S,A,rfl⟩:=H g i s a Z
  exact#[g,s,o,Z,k,j,λ_ _ _ _ e=>by cases e;rfl,λz=>absurd Z (z _ _ _ _)]
 |ask b |rd b c |wr b c=>exact#[f,.nil,trivial,Z,trivial,j,λg i s a e=>(let #[_,_,z]:=h g i s a e;nomatch z),λ_=>Z]
theorem DK{D:DF}{f:Str}{os:Sk}{m j:Nat}{n:Int}{b:List Int}{w:Sk}{o:aM}(O:w.ok false)(l:Dt D f os)(h:eZ os.steps m n b w=some j)(d:os.steps[j]?=some o)(p:dZ w=D f n b):∀g i s a,o.2.2= .cl g i s a->∃S A,w= .cl g i S A:=by
 intro g i s a e
 obtain⟨_,t,H,c⟩:=kW h
 rw[d]at H
 cases H
 rcases c with c | ⟨F,I,S,A,q,c⟩
 ·obtain⟨C,r⟩:=sY c
  obtain⟨k,_⟩:=Kb l d
  rw[C,r,<- p,e]at k
  exact Yj O k.symm
 ·obtain⟨u,v,E⟩:=sU c
  rw[e]at E
  cases E
  exact#[S,A,q]
noncomputable def d9(L:List aG)(l:List aG):List aG:=l.filter λp=>decide (p∉L)
theorem Ku(L a b:List aG):d9 L (a++b)=d9 L a++d9 L b:=List.filter_append ..
theorem XH{L a:List aG}(h:∀p∈a,p∉L):d9 L a=a:=List.filter_eq_self.mpr λp H=>decide_eq_true (h p H)
theorem Qy(L:List aG)(p:aG)(l:List aG):d9 L (p::l)=if p∈L then d9 L l else p::d9 L l:=by
 unfold d9
 by_cases h:p∈L
 ·rw[if_pos h,List.filter_cons_of_neg (by simp [h])]
 ·rw[if_neg h,List.filter_cons_of_pos (by simp [h])]
theorem Eo{w:Sk}(o:w.ok false)(p:aG):w.ws p 0=dP (iO w) p 0:=by
 cases w with
 |nil |st _ _ _ _=>exact o.elim
 |cl f i s a=>exact zw (s:=s) o p 0
 |_=>rfl
theorem Xc{D:DF}:∀{b:Bool} {s:Sk},s.ok b->∀{f:Str} {so:Sk} {po pn:aG} {m k:Nat} {L:List aG},so.ok true->Dt D f so->Dt D f s->(∀g I t a,s= .cl g I t a->f=g)->(b=false->(∀g I t a,s≠ .cl g I t a)->so= .nil)->(∀p,oR po m p->(p∈L↔p∈gZ s po so.steps m))->
  (dE s po so.steps m pn k).d=d9 L ((dP (so.steps.drop m) po m).map (·.1))
 |true,.nil,_,f,so,po,pn,m,k,L,_,_,_,_,_,H=>by
  show dU po so.steps m so.steps.length=_
  unfold dU
  rw[List.take_of_length_le (by rw[List.length_drop];exact Nat.le_refl _),XH]
  intro p c z
  obtain⟨i,Q,J,_,e⟩:=QM _ _ _ p c
  exact nomatch (H p #[i,Q,J,e]).mp z
 |true,.st n E w r,o,f,so,po,pn,m,k,L,O,v,y,_,_,H=>by
  have nr:∀g I t a,r= .cl g I t a->f=g:=λg I t a e=>by
   have z:=o.2
   rw[e]at z
   exact z.elim
  cases h:eZ so.steps m n E w with
  |none=>
   rw[zO h]
   rw[Ja h]at H
   exact Xc (b:=true) (s:=r) o.2 O v y.2.2 nr (λz=>nomatch z) H
  |some j=>
   obtain⟨l,x,A,hc⟩:=kW h
   have B:=Kl O A
   obtain⟨d1,d2⟩:=Kb v A
   have kd:=Yk (s:=.nil) O v h A B y.1
   have N:=DK o.1 v h A y.1
   obtain⟨g,S,R,T,U,V,W,X⟩:=xC B o.1 d2 y.2.1 kd N
   rw[Jb h A,T]at H
   have M:∀p,p∈((if aO n E x=true then [po++[(j:Int)]] else [])++gZ w (po++[(j:Int)]) S.steps 0)++gZ r po so.steps (j+1)↔((aO n E x=true/\p=po++[(j:Int)])∨p∈gZ w (po++[(j:Int)]) S.steps 0)∨p∈gZ r po so.steps (j+1):=λp=>by
    rw[List.mem_append,List.mem_append]
    by_cases u:aO n E x=true
    ·rw[if_pos u,List.mem_singleton];simp [u]
    ·rw[if_neg u];simp [u]
   have C:∀p,p∈gZ w (po++[(j:Int)]) S.steps 0->∃q,p=po++(j:Int)::q/\q≠[]:=λp c=>(Jq w _ _ 0 p c).up (m:=m) l
   have inR:∀p,p∈gZ r po so.steps (j+1)->oR po (j+1) p:=λp c=>Jq r _ _ _ p c
   have ih:=Xc (D:=D) (b:=false) (s:=w) o.1 (m:=0) (k:=0) (pn:=pn++[(k:Int)]) (po:=po++[(j:Int)]) (L:=L) R U V W (λ_=>X) λp c=>by
    obtain⟨q,e,Y⟩:=c.up (m:=m) l
    rw[H p #[j,q,l,e],M p]
    constructor
    ·rintro ((⟨_,z⟩ |z) |z)
     ·rw[e]at z
      obtain⟨_,z⟩:=zS z
      exact absurd z Y
     ·exact z
     ·obtain⟨i,Q,hi,z⟩:=inR p z
      rw[e]at z
      have:=(zS z).1
      omega
    ·exactλz=>.inl (.inr z)
   have i0:=Xc (D:=D) (b:=true) (s:=r) o.2 (m:=j+1) (k:=k+1) (pn:=pn) (po:=po) (L:=L) O v y.2.2 nr (λz=>nomatch z) λp c=>by
    obtain⟨i,q,hi,e⟩:=c
    rw[H p #[i,q,Pn,e],M p]
    constructor
    ·rintro ((⟨_,z⟩ |z) |z)
     ·rw[e]at z
      have:=(zS z).1
      omega
     ·obtain⟨Q,z,_⟩:=C p z
      rw[e]at z
      have:=(zS z).1
      omega
     ·exact z
    ·exactλz=>.inr z
   rw[List.drop_zero]at ih
   rw[zP h A,wq po l A,Ku,Ku,<- i0]
   have e1:d9 L (dU po so.steps m j)=dU po so.steps m j:=XH λp c z=>by
    obtain⟨i,Q,J,h2,e⟩:=QM _ _ _ p c
    rw[List.length_take,List.length_drop]at h2
    rw[H p #[i,Q,J,e],M p]at z
    rcases z with (⟨_,z⟩ |z) |z
    ·rw[e]at z
     have:=(zS z).1
     omega
    ·obtain⟨q2,z,_⟩:=C p z
     rw[e]at z
     have:=(zS z).1
     omega
    ·obtain⟨i',q2,hi,z⟩:=inR p z
     rw[e]at z
     have:=(zS z).1
     omega
   have e2:d9 L (bQ (po++[(j:Int)]) x.2.2)=(one (po++[(j:Int)]) x (pn++[(k:Int)]) n E w).d++(dE w (po++[(j:Int)]) S.steps 0 (pn++[(k:Int)]) 0).d:=by
    rw[ih]
    unfold bQ
    rw[Qy,Eo B,T]
    have hm:=(H (po++[(j:Int)]) #[j,[],l,Z]).trans (M _)
    unfold one
    by_cases u:aO n E x=true
    ·rw[if_pos (hm.mpr (.inl (.inl #[u,Z]))),if_pos u]
     by_cases G:x.2.2.fnd=w.fnd
     ·rw[if_pos G];rfl
     ·rw[if_neg G];rfl
    ·rw[if_neg u,if_neg]
     ·rfl
     ·rw[hm]
      rintro ((⟨z,_⟩ |z) |z)
      ·exact u z
      ·obtain⟨q2,z,Y⟩:=C _ z
       obtain⟨_,z⟩:=zS (q:=[]) z
       exact Y z.symm
      ·obtain⟨i',q2,hi,z⟩:=inR _ z
       have:=(zS (q:=[]) z).1
       omega
   rw[e1,e2,T]
   show(dU po so.steps m j++((one _ _ _ _ _ _).d++(dE _ _ _ _ _ _).d))++(dE _ _ _ _ _ _).d=_
   rw[List.append_assoc]
 |false,.cl g _ s _,o,f,so,po,pn,m,k,L,O,v,y,G,_,H=>by
  have z:=G g _ s _ Z
  subst z
  exact Xc (b:=true) (s:=s) o O v y (λg I t a e=>by
   rw[e]at o
   exact o.elim) (λz=>nomatch z) H
 |false,.ask _,_,f,so,po,pn,m,k,L,_,_,_,_,F,_=>by
  have z:=F Z (λ_ _ _ _ z=>nomatch z)
  subst z
  show []=d9 L ((dP (([]:List aM).drop m) po m).map (·.1))
  rw[List.drop_nil]
  rfl
 |false,.rd _ _,_,f,so,po,pn,m,k,L,_,_,_,_,F,_=>by
  have z:=F Z (λ_ _ _ _ z=>nomatch z)
  subst z
  show []=d9 L ((dP (([]:List aM).drop m) po m).map (·.1))
  rw[List.drop_nil]
  rfl
 |false,.wr _ _,_,f,so,po,pn,m,k,L,_,_,_,_,F,_=>by
  have z:=F Z (λ_ _ _ _ z=>nomatch z)
  subst z
  show []=d9 L ((dP (([]:List aM).drop m) po m).map (·.1))
  rw[List.drop_nil]
  rfl
theorem QV:∀(p x y:aG),lg (p++x) (p++y)=lg x y
 | [],_,_=>rfl
 |a::p,x,y=>by
  show(if a=a then lg (p++x) (p++y) else _)=_
  rw[if_pos Z,QV p]
theorem QW{p q Q:aG}{i j:Nat}(h:i < j):lg (p++(i:Int)::q) (p++(j:Int)::Q)=true:=by
 rw[QV]
 show(if (i:Int)=(j:Int) then _ else decide ((i:Int) < (j:Int)))=true
 rw[if_neg Pn]
 exact decide_eq_true Pn
theorem QX{p q:aG}{i:Nat}:lg p (p++(i:Int)::q)=true:=by
 have:=QV p [] ((i:Int)::q)
 rw[List.append_nil]at this
 exact this
abbrev re(l:List aG):Prop:=l.Pairwise λa b=>lg a b=true
theorem pU:∀(s:Sk) (p:aG) (k:Nat),s.ok true->∀q∈(s.ws p k).map (·.1),oR p k q
 |s,p,k,o,q,h=>by
  rw[zw o]at h
  obtain⟨i,Q,H,_,e⟩:=QM _ _ _ q h
  exact#[i,Q,H,e]
theorem Yl{a b:List aG}(H:re a)(c:re b)(h:∀x∈a,∀y∈b,lg x y=true):re (a++b):=List.pairwise_append.mpr #[H,c,h]
theorem Y2:∀{b:Bool} {s:Sk},s.ok b->∀(p:aG) (k:Nat),re ((s.ws p k).map (·.1))
 |true,.nil,_,_,_=>List.Pairwise.nil
 |true,.st _ _ w r,o,p,k=>by
  show re ((((p++[(k:Int)],w)::w.ws (p++[(k:Int)]) 0)++r.ws p (k+1)).map (·.1))
  rw[List.map_append]
  refine Yl ?_ (Y2 o.2 p (k+1)) λx H y h=>?_
  ·rw[List.map_cons]
   refine List.pairwise_cons.mpr #[λy h=>?_,Y2 o.1 _ 0]
   obtain⟨i,q,_,e⟩:=K9 w _ 0 y h
   rw[e]
   exact QX
  ·obtain⟨q,e⟩:=J2 (w:=w) (show x∈bQ (p++[(k:Int)]) w from H)
   obtain⟨i,Q,a,E⟩:=pU r p (k+1) o.2 y h
   rw[e,E]
   exact QW a
 |false,.cl _ _ s _,o,p,_=>Y2 (b:=true) (s:=s) o p 0
 |false,.ask _,_,_,_=>List.Pairwise.nil
 |false,.rd _ _,_,_,_=>List.Pairwise.nil
 |false,.wr _ _,_,_,_=>List.Pairwise.nil
theorem yu{w:Sk}(o:w.ok false)(p:aG):re (bQ p w):=by
 refine List.pairwise_cons.mpr #[λy h=>?_,Y2 o _ 0]
 obtain⟨i,q,_,e⟩:=K9 w _ 0 y h
 rw[e]
 exact QX
theorem Xd:∀{b:Bool} {s:Sk},s.ok b->∀(c:aG) (os:List aM) (m:Nat) (a:aG) (k:Nat),re (dE s c os m a k).f/\∀p∈(dE s c os m a k).f,oR a k p
 |true,.nil,_,_,_,_,_,_=>#[List.Pairwise.nil,λ_ h=>(nomatch h)]
 |true,.st n H w r,o,c,os,m,a,k=>by
  cases h:eZ os m n H w with
  |none=>
   rw[zO h]
   obtain⟨l,I⟩:=Xd o.2 c os m a (k+1)
   show re (bQ (a++[(k:Int)]) w++_)/\∀p∈(bQ (a++[(k:Int)]) w++_),_
   refine#[Yl (yu o.1 _) l λx d y g=>?_,λp hp=>?_]
   ·obtain⟨q,e⟩:=J2 d
    obtain⟨i,Q,t,E⟩:=I y g
    rw[e,E]
    exact QW t
   ·rcases List.mem_append.mp hp with hp |hp
    ·obtain⟨q,e⟩:=J2 hp
     exact#[k,q,Nat.le_refl _,e]
    ·exact(I p hp).le (Nat.le_succ _)
  |some j=>
   obtain⟨z,x,d,_⟩:=kW h
   rw[zP h d]
   obtain⟨l,I⟩:=Xd o.2 c os (j+1) a (k+1)
   obtain⟨J,u⟩:=Xd o.1 (c++[(j:Int)]) (iO x.2.2) 0 (a++[(k:Int)]) 0
   have o1:(one (c++[(j:Int)]) x (a++[(k:Int)]) n H w).f=[]∨(one (c++[(j:Int)]) x (a++[(k:Int)]) n H w).f=[a++[(k:Int)]]:=by
    unfold one
    split
    ·split
     ·exact .inl Z
     ·exact .inl Z
    ·exact .inr Z
   have M:re ((one (c++[(j:Int)]) x (a++[(k:Int)]) n H w).f++(dE w (c++[(j:Int)]) (iO x.2.2) 0 (a++[(k:Int)]) 0).f)/\∀p∈((one (c++[(j:Int)]) x (a++[(k:Int)]) n H w).f++(dE w (c++[(j:Int)]) (iO x.2.2) 0 (a++[(k:Int)]) 0).f),∃q,p=a++(k:Int)::q:=by
    have v:∀p∈(dE w (c++[(j:Int)]) (iO x.2.2) 0 (a++[(k:Int)]) 0).f,∃q,p=a++(k:Int)::q:=λp hp=>let #[q,e,_]:=(u p hp).up (m:=0) (Nat.zero_le _);#[q,e]
    rcases o1 with o1 |o1
    ·rw[o1]
     exact#[J,v]
    ·rw[o1]
     refine#[List.pairwise_cons.mpr #[λy g=>?_,J],λp hp=>?_]
     ·obtain⟨i,q,_,e⟩:=u y g
      rw[e]
      exact QX
     ·rcases List.mem_cons.mp hp with rfl |hp
      ·exact#[[],Z]
      ·exact v p hp
   show re (([]++(_++_))++_)/\∀p∈(([]++(_++_))++_),_
   rw[List.nil_append]
   refine#[Yl M.1 l λx d y g=>?_,λp hp=>?_]
   ·obtain⟨q,e⟩:=M.2 x d
    obtain⟨i,Q,t,E⟩:=I y g
    rw[e,E]
    exact QW t
   ·rcases List.mem_append.mp hp with hp |hp
    ·obtain⟨q,e⟩:=M.2 p hp
     exact#[k,q,Nat.le_refl _,e]
    ·exact(I p hp).le (Nat.le_succ _)
 |false,.cl _ _ s _,o,c,os,m,a,k=>Xd (b:=true) (s:=s) o c os m a k
 |false,.ask _,_,_,_,_,_,_=>#[List.Pairwise.nil,λ_ h=>(nomatch h)]
 |false,.rd _ _,_,_,_,_,_,_=>#[List.Pairwise.nil,λ_ h=>(nomatch h)]
 |false,.wr _ _,_,_,_,_,_,_=>#[List.Pairwise.nil,λ_ h=>(nomatch h)]
theorem y6{l:List aG}(h:re l){i:Nat}{p q:aG}(H:l[i]?=some p)(c:l[i+1]?=some q):lg p q=true:=by
 obtain⟨a,e⟩:=List.getElem?_eq_some_iff.mp H
 obtain⟨b,E⟩:=List.getElem?_eq_some_iff.mp c
 have:=(List.pairwise_iff_getElem.mp h) i (i+1) a b (Nat.lt_succ_self i)
 rw[e,E]at this
 exact this
theorem Ft{a:aG}{k:Nat}{p:aG}(h:oR a k p):p≠[]:=by
 obtain⟨i,q,_,e⟩:=h
 rw[e]
 intro z
 simp at z
noncomputable abbrev Dn:Stmt:=bM 69
noncomputable abbrev yx:Stmt:=bM 70
noncomputable abbrev pO:Stmt:=bM 71
noncomputable abbrev yD:Stmt:=bM 72
noncomputable def AS:Sk->V->V
 | .cl _ _ _ a,_=>.int a
 |_,u=>u
inductive mJ(b:List V)(H:Hp)(Q:VK)(a:XK):Prop
 |mk(p h:Addr)(n:Int)(u:V)(w:Sk)(_:b=[.ref p])(_:H p=some (.tup [.int n,.ref h,u]))(_:dm H w u [])(_:w.ok false)(_:Q (AS w u) H)
theorem BG{w W:Sk}(o:w.ok false)(O:W.ok false)(e:dZ w=dZ W):(w.fnd=W.fnd->(∃f I s a S A,w= .cl f I s a/\W= .cl f I S A/\a=A)∨(w=W/\∀f I s a,w≠ .cl f I s a))/\(w.fnd≠W.fnd->(∃f I s a S A,w= .cl f I s a/\W= .cl f I S A/\a≠A)∨∃c i d,w= .rd c i/\W= .rd c d/\i≠d):=by
 cases w with
 |nil |st _ _ _ _=>exact o.elim
 |cl f I s a=>
  obtain⟨S,A,rfl⟩:=Yj O e.symm
  exact#[λh=>.inl #[f,I,s,a,S,A,Z,Z,h],λh=>.inl #[f,I,s,a,S,A,Z,Z,h]]
 |ask b=>
  cases W with
  |nil |st _ _ _ _=>exact O.elim
  |ask B=>
   have e:Tr.tp (.cons (aK "ask") (.cons (ap b) .nil))= .tp (.cons (aK "ask") (.cons (ap B) .nil)):=e
   injection e with e
   injection e with _ e
   injection e with e _
   injection e with e
   injection e with e
   subst e
   exact#[λ_=>.inr #[Z,λ_ _ _ _ z=>nomatch z],λh=>absurd Z h]
  |rd _ _ |wr _ _ |cl _ _ _ _=>exact absurd (qT e) Pm
 |rd b i=>
  cases W with
  |nil |st _ _ _ _=>exact O.elim
  |rd B d=>
   have e:Tr.tp (.cons (aK "read") (.cons (ap b) .nil))= .tp (.cons (aK "read") (.cons (ap B) .nil)):=e
   injection e with e
   injection e with _ e
   injection e with e _
   injection e with e
   injection e with e
   subst e
   exact#[λ(h:i=d)=>by subst h;exact .inr #[Z,λ_ _ _ _ z=>nomatch z],λh=>.inr #[b,i,d,Z,Z,h]]
  |ask _ |wr _ _ |cl _ _ _ _=>exact absurd (qT e) Pm
 |wr b i=>
  cases W with
  |nil |st _ _ _ _=>exact O.elim
  |wr B d=>
   have e:Tr.tp (.cons (aK "write") (.cons (ap b) (.cons (ap i) .nil)))= .tp (.cons (aK "write") (.cons (ap B) (.cons (ap d) .nil))):=e
   injection e with e
   injection e with _ e
   injection e with E e
   injection e with g _
   injection E with E
   injection E with E
   injection g with g
   injection g with g
   subst E
   subst g
   exact#[λ_=>.inr #[Z,λ_ _ _ _ z=>nomatch z],λh=>absurd Z h]
  |ask _ |rd _ _ |cl _ _ _ _=>exact absurd (qT e) Pm
theorem vv{w:Sk}(o:w.ok false)(h:∀f i s a,w≠ .cl f i s a):∃l,D6 w= .tp l/\l.dep < 10/\l.In:=by
 cases w with
 |nil |st _ _ _ _=>exact o.elim
 |cl f i s a=>exact absurd Z (h f i s a)
 |ask b=>exact#[_,Z,by show max 0 (max 0 0) < 10;decide,Z,Z,trivial]
 |rd b B |wr b B=>exact#[_,Z,by show max 0 (max 0 (max 0 0)) < 10;decide,Z,Z,Z,trivial]
theorem sX{w:Sk}{u:V}(h:∀f i s a,w≠ .cl f i s a):AS w u=u:=by
 cases w with
 |cl f i s a=>exact absurd Z (h f i s a)
 |_=>rfl
inductive XI(x y:V)(H:Hp)(Q:VK):Prop
 |mk(a b c:_)(_:x= .ref a)(_:y= .ref b)(_:H a=some (.lst c))(_:H b=some (.lst []))(_:Q (.bl c.isEmpty) H)
theorem Ym{X:Cx}(c:X.A.units < cLine):eU X (compareOp .Eq) XI:=by
 intro p s J H x y v u Q I i l h
 obtain⟨a,b,m,rfl,rfl,n,o,q⟩:=h
 cases i
 cases l
 obtain⟨t,R,d,_⟩:=I.list (aJ.of n)
 obtain⟨B,C,f,_⟩:=I.list (aJ.of o)
 have E:B=[]:=C.nil_iff.mpr Z
 subst E
 cases g:m with
 |nil=>
  subst g
  have D:t=[]:=R.nil_iff.mpr Z
  subst D
  refine PySem.SeqAt.RcAt.lists (e:=λ_=>true) d.isList f.isList Z c (λj F M=>absurd F Po) X.prog X.w _ _ ?_
  exact#[.bl true,H,I,Z,q]
 |cons z r=>
  subst g
  have L:=R.length
  refine PySem.SeqAt.RcAt.lists_lengths d.isList f.isList (by simp [<- L]) c X.prog X.w _ _ ?_
  exact#[.bl false,H,I,Z,q]
theorem Ji{lo:Int}{n:Nat}{t:TT}{T:TE}{Q:List V->Hp->Prop}{c:_L.St}{H:Hp}(Pv:Nat->List V->Hp->Prop)(j:Pv 0 [] H)(k:n<=sizeLine)(d:∀i Y h,Pv i Y h->Y.length<=i)
  (l:∀i Y h,i < n->Pv i Y h->t (some (.int (lo+i))::c) h λb f=>if b=true then T (some (.int (lo+i))::c) f λy o=>Pv (i+1) (Y++[y]) o else Pv (i+1) Y f) (q:∀Y h,Pv n Y h->Q Y h):
  eh (pZ lo n) 1 c (bG 0) t T Q H:=by
 refine#[λi m Y h=>m=n - i/\i<=n/\Pv i Y h,#[n,Po,Nat.zero_le _,j],?_]
 rintro i m Y h ⟨rfl,u,p⟩
 by_cases a:i < n
 ·refine .inr #[a,Nat.lt_of_le_of_lt (d i Y h p) (Nat.lt_of_lt_of_le a k),Pv (i+1),λr f s=>#[n - (i+1),Pn,Z,a,s],λx f z g y=>?_]
  obtain⟨e,y⟩:=y
  subst e y
  obtain⟨v,rfl⟩:=oZ g
  exact#[#[[some _],Z,Z],l i Y _ a p]
 ·have e:i=n:=by omega
  subst e
  exact .inl #[Nat.le_refl _,q Y h p]
theorem KG{K:Frag}{a:Addr}{xs:List V}{t:TT}{T:TE}{Q:List V->Hp->Prop}{c:_L.St}{H:Hp}(A:xs.length<=sizeLine)(Pv:Nat->List V->Hp->Prop)(n:Pv 0 [] H)
  (o:∀i Y h,Pv i Y h->aJ K h a xs/\Y.length<=i) (q:∀i x Y h,xs[i]?=some x->Pv i Y h->t (some x::c) h λb d=>if b=true then T (some x::c) d λy r=>Pv (i+1) (Y++[y]) r else Pv (i+1) Y d) (s:∀Y h,Pv xs.length Y h->Q Y h):
  eh (wz K a) 1 c (bG 0) t T Q H:=by
 refine#[λi m Y h=>m=xs.length - i/\i<=xs.length/\Pv i Y h,#[xs.length,Po,Nat.zero_le _,n],?_]
 intro i m Y h g
 obtain⟨rfl,B,p⟩:=g
 obtain⟨j,C⟩:=o i Y h p
 by_cases f:i < xs.length
 ·refine .inr #[#[xs,xs[i],j,List.getElem?_eq_getElem f],Pn,Pv (i+1),λu d z=>#[xs.length - (i+1),Pn,Z,f,z],λv d D k y=>?_]
  obtain⟨e,y⟩:=y
  subst e
  obtain⟨w,rfl⟩:=oZ k
  exact#[#[[some _],Z,Z],q i v Y d (y xs j) p]
 ·have e:i=xs.length:=by omega
  subst e
  exact .inl #[#[xs,j,Nat.le_refl _],s Y h p]
theorem kH{X:Cx}{K:Frag}(h:X.K=K):Ed X (bZ K):=by subst h;exact jE
noncomputable def gJ(P:aM->Bool):Nat->List aM->List Nat
 |_,[]=>[]
 |k,s::r=>if P s=true then k::gJ P (k+1) r else gJ P (k+1) r
noncomputable def ci(P:aM->Bool)(os:List aM)(m:Nat):List Nat:=gJ P m (os.drop m)
theorem Km{P:aM->Bool}{os:List aM}{m:Nat}{s:aM}(h:os[m]?=some s):ci P os m=if P s=true then m::ci P os (m+1) else ci P os (m+1):=by
 obtain⟨H,e⟩:=List.getElem?_eq_some_iff.mp h
 unfold ci
 rw[<- List.getElem_cons_drop (h:=H),e]
 rfl
theorem J3{P:aM->Bool}{os:List aM}{m:Nat}(h:os.length<=m):ci P os m=[]:=by
 unfold ci
 rw[List.drop_eq_nil_of_le h]
 rfl
theorem Qz(P:aM->Bool):∀(k:Nat) (os:List aM),(gJ P k os).head?=oX P k os
 |_,[]=>rfl
 |k,s::r=>by
  show(if P s=true then k::gJ P (k+1) r else gJ P (k+1) r).head?=if P s=true then some k else oX P (k+1) r
  by_cases h:P s=true
  ·rw[if_pos h,if_pos h];rfl
  ·rw[if_neg h,if_neg h,Qz P]
theorem XJ(P:aM->Bool)(os:List aM)(m:Nat):(ci P os m).head?=i7 P os m:=Qz P m _
theorem XL(P:aM->Bool):∀(k:Nat) (os:List aM),(gJ P k os).length<=os.length
 |_,[]=>Nat.le_refl 0
 |k,s::r=>by
  have:=XL P (k+1) r
  show(if P s=true then k::gJ P (k+1) r else gJ P (k+1) r).length<=r.length+1
  by_cases h:P s=true
  ·rw[if_pos h];show _+1<=_;omega
  ·rw[if_neg h];omega
theorem QY(P:aM->Bool)(os:List aM)(m:Nat):(ci P os m).length<=os.length:=Nat.le_trans (XL P m _) (by rw[List.length_drop];omega)
noncomputable def eJ(s:aM):Bool:=match s.2.2 with
 | .cl _ _ _ _=>true
 |_=>false
noncomputable def Au(P:aM->Bool)(os:List aM)(j:Nat):Bool:=match os[j]? with
 |some s=>P s
 |none=>false
theorem KH{P Q:aM->Bool}(h:∀s,P s=true->Q s=true)(os:List aM):∀(n m:Nat),n=os.length - m->(ci Q os m).filter (Au P os)=ci P os m
 |0,m,e=>by rw[J3 Pn,J3 Pn];rfl
 |n+1,m,e=>by
  have c:m < os.length:=by omega
  have a:=List.getElem?_eq_getElem c
  rw[Km a,Km a]
  have i:=KH h os n (m+1) Pn
  have E:Au P os m=P os[m]:=by unfold Au;rw[a]
  by_cases H:P os[m]=true
  ·rw[if_pos (h _ H),if_pos H,List.filter_cons_of_pos (by rw[E];exact H),i]
  ·rw[if_neg H]
   by_cases b:Q os[m]=true
   ·rw[if_pos b,List.filter_cons_of_neg (by rw[E];exact H),i]
   ·rw[if_neg b,i]
theorem EM{f:Str}{i:List Int}(s:aM)(h:cj f i s=true):eJ s=true:=by
 obtain⟨S,a,e⟩:=sU h
 unfold eJ
 rw[e]
noncomputable def me(s:Sk)(p:aG)(os:List aM)(m:Nat)(a:aG)(k:Nat):Ly:=#[(dE s p os m a k).k,(dE s p os m a k).t,(dE s p os m a k).f,gZ s p os m]
noncomputable def ua(p:aG)(o:aM)(a:aG)(n:Int)(h:List Int)(w:Sk):Ly:=
 if aO n h o=true then (if o.2.2.fnd=w.fnd then #[[(p,a)],[],[],[p]] else #[[],[(p,a)],[],[p]]) else #[[],[],[a],[]]
theorem XN{n:Int}{H:List Int}{w r:Sk}{a:aG}{os:List aM}{m:Nat}{p:aG}{k:Nat}(h:eZ os m n H w=none):me (.st n H w r) a os m p k=(#[[],[],bQ (p++[(k:Int)]) w,[]]:Ly).app (me r a os m p (k+1)):=by
 unfold me
 rw[zO h,Ja h]
 rfl
theorem rj{n:Int}{a:List Int}{w r:Sk}{po:aG}{os:List aM}{m:Nat}{pn:aG}{k j:Nat}{o:aM}(h:eZ os m n a w=some j)(c:os[j]?=some o):me (.st n a w r) po os m pn k=(ua (po++[(j:Int)]) o (pn++[(k:Int)]) n a w).app ((me w (po++[(j:Int)]) (iO o.2.2) 0 (pn++[(k:Int)]) 0).app (me r po os (j+1) pn (k+1))):=by
 unfold me
 rw[zP h c,Jb h c]
 unfold ua one Ly.app
 by_cases H:aO n a o=true
 ·rw[if_pos H,if_pos H,if_pos H]
  by_cases b:o.2.2.fnd=w.fnd
  ·rw[if_pos b,if_pos b];simp
  ·rw[if_neg b,if_neg b];simp
 ·rw[if_neg H,if_neg H,if_neg H];simp
theorem rh{w:Sk}{p b:aG}{os:List aM}{m k:Nat}(o:w.ok false)(h:∀f i s a,w≠ .cl f i s a):me w p os m b k= .nil:=by
 cases w with
 |nil |st _ _ _ _=>exact o.elim
 |cl f i s a=>exact absurd Z (h f i s a)
 |_=>rfl
inductive ff(n:Nat)(e:List V)(H:Hp)(Q:VK)(b:XK):Prop
 |mk(d:Addr)(p:aG)(f:Str)(c:List Int)(s:Sk)(a:Int)(u:V)(_:e=[u,.ref d])(_:H d=some (.tup (p.map V.int)))(_:p.length+n<=100)(_:mf H f c s a u)(_:s.ok true)(_:s.dep < n)(_:s.size<=1000)(_:∀(r:Addr) (xs:List V) (H':Hp),H r=none->H' r=some (.lst xs)->bh gG H' ((s.ws p 0).map (·.1)) xs->aa H H'->Q (.ref r) H')
inductive HM(h j:Addr)(p:aG)(u:V)(s:Sk)(H:Hp)(i:Nat)(l:_L.St)(a:Hp):Prop
 |mk(f g:Option V)(k:List V)(b:l=[some u,some (.ref h),some (.ref j),f,g])(c:a j=some (.lst k))(d:bh gG a ((dP (s.steps.take i) p 0).map (·.1)) k)(e:aa H a)
inductive gO(n:Nat)(t:List V)(H:Hp)(Q:VK)(a:XK):Prop
 |mk(D:DF)(z k s h g m c l b:Addr)(p o:aG)(f:Str)(i j:List Int)(q r:Sk)(d e:Int)(y:Ly)(_:t=[.ref c,.ref b,.ref m,.ref l,.ref z])(_:Lt H z k s h g y)(_:H m=some (.tup (p.map V.int)))(_:H l=some (.tup (o.map V.int)))(_:p.length+n<=49)(_:o.length+n<=49)(_:mf H f i q d (.ref c))(_:q.ok true)(_:q.dep<=15)(_:q.size<=1000)(_:mf H f j r e (.ref b))(_:r.ok true)(_:r.dep < n)(_:r.dep<=15)(_:r.size<=1000)(_:Dt D f q)(_:Dt D f r)(_:(y.app (me r p q.steps 0 o 0)).tot<=100000)(_:∀H',Lt H' z k s h g (y.app (me r p q.steps 0 o 0))->aV k s h g H H'->Q .non H')
inductive HN(D:DF)(z B P A n J c C b:Addr)(M L:aG)(f:Str)(K:List aM)(O:List V)(N:Sk)(k:Ly)(H:Hp)(i:Nat)(Q:_L.St)(l:Hp):Prop
 |mk(E F G I d e g h j:Option V)(m:Nat)(a:Sk)(y:Ly)(o:Q=[some (.ref c),some (.ref b),some (.ref J),some (.ref C),some (.ref z),some (.int (m:Int)),E,F,G,I,d,e,g,h,j])(p:Lt l z B P A n y)(q:dm l a .non (O.drop i))(r:a.ok true)(s:a.dep<=N.dep)(t:a.size<=N.size)(u:Dt D f a)(v:m<=K.length)(w:y.app (me a M K m L i)=k)(x:aV B P A n H l)
noncomputable def cX(l:List Nat):List V:=l.map λ(j:Nat)=>V.int (j:Int)
theorem Fn:ai ["_law_step"] ["_law_step"] (ae Dn):=bK
theorem CC{f:Addr}{i:FuncData}(F:aQ K "_law_found" "_law_found" Dn f i):af P w K mg base aE 1 f i ["_law_step"] mJ:=by
 refine F.ok Fn ?_ λC A o s H v Q E t h=>?_
 ·rintro _ _ _ _ ⟨p,h,n,u,w,rfl,_⟩
  rfl
 obtain⟨p,h,n,u,w,rfl,b,j,d,q⟩:=h
 refine#[_,(jd (jy (j6 (ju (jv jE (pv 0) jg (λ_ _=>Z)))) (jf (jm (ju (jv jE (jv jE (pv 0) jg (λ_ _=>Z)) jg (λ_ _=>Z))))) jr) (jf (jm (ju (pv 0))))),?_]
 cases w with
 |nil |st _ _ _ _=>exact d.elim
 |ask _ |rd _ _ |wr _ _=>
  obtain⟨x,rfl,G⟩:=j
  refine aj λm l=>(jp b dw #[x,_,_,_,Z,Z,aA.of G,dS,Z,_,Z,aT Pp (l _ _ ?_)])
  exact(jp b dw q)
 |cl f I s a=>
  obtain⟨x,c,g,e,S,rfl,G,r,_⟩:=j
  exact aj λm l=>(jp b dw #[x,_,_,_,Z,Z,aA.of G,dS,Z,_,Z,cq Pp (jp b dw #[x,_,_,_,Z,Z,aA.of G,gX,c,_,_,_,Z,Z,aA.of r,Gg,q])])
theorem og:ai ["_law_chain","_law_at","_law_found_here","_law_k","_law_step"] z12z (ae yx):=bK
theorem Cn{f:Addr}{fd:FuncData}{n:Nat}{fS:Addr}{f0:FuncData}(F:aQ K "_law_all_in" "_law_all_in" yx f fd)(cS:Cl P w K mg base (n+1) fS f0 z12z (ff n) "_law_all_in")(m0:mg "enumerate"=none):af P w K mg base aE (n+2) f fd z12z (ff (n+1)):=by
 refine F.ok og ?_ λc0 A o1 s H vs Q E hr h=>?_
 ·rintro _ _ _ _ ⟨M,p,f,is,s,a,u,rfl,_⟩
  rfl
 obtain⟨M,p,f,is,s,a,u,rfl,hp,a0,hc,d,hd,hz,q⟩:=h
 refine#[_,(jd (jD 2 og.nd (jJ jb)) (jd (j7 PassesOwn.never Z (q9 Z m0 (ja (ju (pv 0)) jb)) (qf (n:=2) Z (jF (jw (i:=3) og.nd Z (Or.inl Z)) (jF (jw (i:=4) og.nd Z (Or.inl Z)) kU))) (jd (jB (jU PySem.F.plainAttrs_list PySem.F.slot_list_append PySem.F.type_list_append jI (pv 2) (ja (jx ke (pv 1) (jl (ja (pv 3) jb))) jb))) (jf (jy (j6 (ju (jv jE (pv 4) jg (λ_ _=>Z)))) (jf (jB (jU PySem.F.plainAttrs_list PySem.F.slot_list_extend PySem.F.type_list_extend zn (pv 2) (ja (cS.e hr.m (ja (ju (jv jE (pv 4) jg (λ_ _=>Z))) (ja (jx ke (pv 1) (jl (ja (pv 3) jb))) jb))) jb)))) jr)))) (jf (jm (pv 2))))),?_]
 have b1:=aH
 obtain⟨c,g,e,ss,rfl,h1,h2,h3,h4⟩:=hc
 have lt:=zi d h4
 have fl:=kP d p 0
 rw[zw d]at fl
 refine aj λF1 B=>#[eY,λT N=>B _ _ ?_]
 clear B
 have s1:aa H (ah H T (.lst [])):=je N
 refine aj λF1 B=>dq λJ j=>(jp (s1 _ _ h1) dw #[e,Z,#[_,aA.of (s1 _ _ h3)],j _ _ ?_])
 clear j
 refine zZ (K:=K) (xs:=ss) (HM M T p (.ref c) s H) #[none,none,[],Z,jc,Z,s1] (λi σ Hx _ h=>?_) ?_ (λσ Hx h=>B _ _ ?_)
 ·obtain⟨_,_,_,_,_,_,W⟩:=h
  exact aA.of (W _ _ h3)
 ·intro E hE i x X σ H7 hx np Y Gq U h
  clear B
  obtain⟨o3,o4,xs,rfl,w1,w2,W⟩:=h
  have s8:aa H7 (ah H7 X (.tup [.int i,x])):=je np
  have e8:ah H7 X (.tup [.int i,x]) X=some (.tup [.int i,x]):=jc
  refine U ?_
  clear U
  generalize ah H7 X (.tup [.int i,x])=H8 at s8 e8 ⊢
  have S8:=W.trans s8
  obtain⟨n1,h6,w,q,hh,u,ht,O,d0,s0,rfl,h0,a1,hw⟩:=qi d (h4.mono (aa.tm S8)) hx
  refine#[X,_,Z,aA.of e8,Z,_,_,Z,_,_,Z,Z,?_]
  have h7:i < s.steps.length:=(List.getElem?_eq_some_iff.mp ht).1
  have et:s.steps.take (i+1)=s.steps.take i++[(n1,h6,w)]:=by rw[List.take_add_one,ht];rfl
  have eb:(dP (s.steps.take (i+1)) p 0).map (·.1)=(dP (s.steps.take i) p 0).map (·.1)++bQ (p++[(i:Int)]) w:=by
   rw[et,zF,List.map_append,List.length_take,Nat.min_eq_left (Nat.le_of_lt h7),Nat.zero_add,Kt]
   show _++(_++[])=_
   rw[List.append_nil]
  have bl:=QL s.steps (i+1) p 0
  have b0:=congrArg List.length eb
  rw[List.length_append,List.length_map,ql O]at b0
  have lx:=w2.len
  rw[fl]at bl
  show eP _ _ E [some (.ref c),some (.ref M),some (.ref T),some (.int i),some (.ref q)] H8
  refine aj λF1 B=>#[_,Z,.inl #[Z,_,aJ.of (s8 _ _ w1)],_,Z,_,Z,h8,λt nt=>#[M,t,_,_,Z,Z,am (S8 _ _ hp) nt,jc,by rw[List.length_map];show _+1<=_;omega,λR C e9 s9=>?_]]
  have S9:aa H8 C:=(je (o:=.tup [.int i]) nt).trans s9
  have e9:C R=some (.tup (p.map V.int++[.int (i:Int)])):=e9
  rw[i6]at e9
  have w9:=S9 _ _ (s8 _ _ w1)
  refine#[T,xs,_,Z,Z,w9,Pn,B _ _ ?_]
  clear B
  have G:ax C (ah C T (.lst (xs++[.ref R]))):=Jp w9
  have k:ah C T (.lst (xs++[.ref R])) T=some (.lst (xs++[.ref R])):=jc
  have k0:∀b o,b≠T->C b=some o->ah C T (.lst (xs++[.ref R])) b=some o:=λb o nb e=>by rw[jh nb];exact e
  generalize ah C T (.lst (xs++[.ref R]))=v at G k k0
  have r:ax H8 v:=(aa.tm S9).trans G
  have I:aa H v:=λb o e=>k0 _ _ (ji e N) (S9 _ _ (S8 _ _ e))
  have x0:bh gG v ((dP (s.steps.take i) p 0).map (·.1)++[p++[(i:Int)]]) (xs++[.ref R]):=bh.app (bh.one #[R,Z,G _ _ e9]) (((w2.mono bX (aa.tm s8)).mono bX r))
  obtain⟨p3,v3,r3,eu,h',h5⟩:=qU O (hw.mono r)
  subst eu
  refine iS λG1 yT yF=>(jp (r _ _ h0) dw #[p3,_,_,_,Z,Z,aA.of h',dS,Z,_,Z,?_])
  rw[qt]
  by_cases hv:v3="call"
  ·obtain⟨g',L,D,a',rfl⟩:=h5.mp hv
   rw[decide_eq_true hv]
   obtain⟨x1,c1,g1,e1,s2,e2,k1,k2,k3,k4,k5⟩:=hw.mono r
   cases e2
   have d0:D.dep+1<=s.dep:=d0
   have s0:D.size+1<=s.size:=s0
   refine yT _ #[_,Z,.inl #[Z,_,aJ.of k],jp (r _ _ h0) dw #[p3,_,_,_,Z,Z,aA.of k1,gX,_,Z,_,Z,h8,λt2 n0=>#[M,t2,_,_,Z,Z,am (I _ _ hp) n0,jc,by rw[List.length_map];show _+1<=_;omega,λr0 H0 y s3=>?_]]]
   have S:aa v H0:=(je (o:=.tup [.int i]) n0).trans s3
   have y:H0 r0=some (.tup (p.map V.int++[.int (i:Int)])):=y
   rw[i6]at y
   refine#[r0,_,g',L,D,a',.ref c1,Z,y,by rw[List.length_append];show _+1+_<=_;omega,#[c1,g1,e1,s2,Z,S _ _ k2,S _ _ k3,S _ _ k4,k5.mono (aa.tm S)],O,Pn,Pn,λl zs H1 nl hl hz s4=>?_]
   have z:=S.trans s4
   have lz:=hz.len
   rw[List.length_map,kP (show D.ok true from O)]at lz
   have ez:(xs++[V.ref R]).length=xs.length+1:=by rw[List.length_append];rfl
   have s5:(Sk.cl g' L D a').size=D.size:=rfl
   refine#[T,l,_,_,Z,Z,z _ _ k,hl,Pn,Y _ _ #[_,_,_,Z,jc,?_,λb o e=>?_]]
   ·rw[eb]
    have t0:ax H1 (ah H1 T (.lst (xs++[.ref R]++zs))):=Jp (z _ _ k)
    have e0:bQ (p++[(i:Int)]) (.cl g' L D a')=[p++[(i:Int)]]++(D.ws (p++[(i:Int)]) 0).map (·.1):=rfl
    rw[e0,<- List.append_assoc]
    exact(bh.app hz (x0.mono bX (aa.tm z))).mono bX t0
   ·rw[jh (ji e N)]
    exact z _ _ (I _ _ e)
  ·rw[decide_eq_false hv]
   refine yF _ (Y _ _ #[_,_,_,Z,k,?_,I])
   rw[eb]
   have e0:bQ (p++[(i:Int)]) w=[p++[(i:Int)]]:=by
    cases w with
    |nil |st _ _ _ _=>exact O.elim
    |cl f is s a=>exact absurd (h5.mpr #[f,is,s,a,Z]) hv
    |_=>rfl
   rw[e0]
   exact x0
 ·obtain⟨o3,o4,xs,rfl,w1,w2,W⟩:=h
  rw[lt,List.take_length,<- zw d]at w2
  exact#[_,Z,q T xs Hx N w1 w2 W]
theorem Cb{f:Addr}{F:FuncData}{k:Nat}:af P w K mg base aE k f F z12z (ff 0):=by
 have n:∀{v H Q E},¬ff 0 v H Q E:=by
  rintro v H Q E ⟨c,p,f,i,s,a,u,_,_,_,_,_,z,_⟩
  omega
 exact#[λv H Q E h=>(n h).elim,λA o s H b U v Q E d e g j h=>(n h).elim]
theorem Ek{f:Addr}{a:FuncData}(F:aQ K "_law_all_in" "_law_all_in" yx f a)(b:aC K a z12z [])(M:mg "_law_all_in"=some (.ref f))(m:mg "enumerate"=none):∀n,af P w K mg base aE (n+1) f a z12z (ff n)
 |0=>Cb
 |n+1=>Cn F #[(Ek F b M m n),b,F.kp,M] m
noncomputable def i9(os:List aM)(m:Nat)(n:Int)(h:List Int)(w:Sk):List Nat:=if ci (aO n h) os m=[] then (match w with
 | .cl f i _ _=>ci (cj f i) os m
 |_=>[]) else []
theorem Js(os:List aM)(m:Nat)(n:Int)(h:List Int)(w:Sk):(ci (aO n h) os m++i9 os m n h w).head?=eZ os m n h w:=by
 have H:=XJ (aO n h) os m
 unfold eZ i9
 cases e:ci (aO n h) os m with
 |cons j r=>
  rw[e]at H
  rw[<- H]
  rfl
 |nil=>
  rw[e]at H
  rw[<- H,if_pos Z]
  show(match w with | .cl f i _ _=>ci (cj f i) os m |_=>[]).head?=iU os m w
  cases w with
  |cl f i s a=>exact XJ (cj f i) os m
  |_=>rfl
theorem FN(l:List Nat):l.take 1=match l.head? with |some j=>[j] |none=>[]:=by
 cases l<;>rfl
theorem xH(os:List aM)(m:Nat)(n:Int)(h:List Int)(w:Sk):(i9 os m n h w).length<=os.length:=by
 unfold i9
 split
 ·split
  ·exact QY _ _ _
  ·exact Nat.zero_le _
 ·exact Nat.zero_le _
theorem Et(l:List Nat):cy (cX l) none (some 1)=cX (l.take 1):=by
 unfold cy cX
 have e:HT.sIx (l.map λ(j:Nat)=>V.int (j:Int)).length 0 none=0:=rfl
 rw[e,List.drop_zero,List.map_take,Nat.sub_zero]
 cases l with
 |nil=>simp
 |cons a r=>
  have E:HT.sIx ((a::r).map λ(j:Nat)=>V.int (j:Int)).length ((a::r).map λ(j:Nat)=>V.int (j:Int)).length (some 1)=1:=by
   unfold HT.sIx
   simp
  rw[E]
theorem XO(l:List Nat):(cX l).isEmpty=l.isEmpty:=by cases l<;>rfl
theorem QZ(a b:List Nat):cX a++cX b=cX (a++b):=by unfold cX;rw[List.map_append]
theorem J4(l:List Nat):(cX l).length=l.length:=List.length_map _
theorem Xe{H:Hp}{s:Sk}{S:List V}{j:Nat}{o:aM}(O:s.ok true)(h:dm H s .non S)(a:s.steps[j]?=some o):∃p h u,S[j]?=some (.ref p)/\H p=some (.tup [.int o.1,.ref h,u])/\H h=some (.tup (o.2.1.map V.int))/\dm H o.2.2 u []/\o.2.2.ok false/\o.2.2.dep<=s.dep/\o.2.2.size+1<=s.size:=by
 have l:=zi O h
 have k:=(List.getElem?_eq_some_iff.mp a).1
 obtain⟨x,b⟩:∃x,S[j]?=some x:=#[_,List.getElem?_eq_getElem Pn]
 obtain⟨n,m,w,p,c,u,t,T,d,e,rfl,f,g,i⟩:=qi O h b
 rw[a]at t
 cases t
 exact#[p,c,u,b,f,g,i,T,d,e]
theorem Bu{H:Hp}{w:Sk}{u:V}(o:w.ok false)(h:dm H w u []):∃p v r,u= .ref p/\H p=some (.tup (.str v::r))/\∀n c,decide (v="call")=eJ (n,c,w):=by
 obtain⟨p,v,r,e,g,d⟩:=qU o h
 refine#[p,v,r,e,g,λn c=>?_]
 by_cases b:v="call"
 ·obtain⟨f,i,s,a,rfl⟩:=d.mp b
  rw[decide_eq_true b]
  rfl
 ·rw[decide_eq_false b]
  cases w with
  |cl f i s a=>exact absurd (d.mpr #[f,i,s,a,Z]) b
  |_=>rfl
theorem xG{g f:Str}{j i:List Int}{n:Int}{H:List Int}{s:Sk}{a:Int}:fq (ay [aK g,ay (j.map ap)]) (ay [aK f,ay (i.map ap)])=cj f i (n,H,.cl g j s a):=by
 by_cases h:g=f/\j=i
 ·rw[h.1,h.2,zo Z]
  exact(decide_eq_true #[Z,Z]).symm
 ·rw[kX]
  ·exact(decide_eq_false h).symm
  intro e
  have e:Tr.tp (.cons (aK g) (.cons (ay (j.map ap)) .nil))= .tp (.cons (aK f) (.cons (ay (i.map ap)) .nil)):=e
  injection e with e
  injection e with A c
  injection c with b _
  injection A with A
  injection A with A
  have b:Tr.tp (au (j.map ap))= .tp (au (i.map ap)):=b
  injection b with b
  exact h #[A,qm b]
theorem AT(f:Str)(i:List Int):(au [aK f,ay (i.map ap)]).In:=#[Z,zj i,trivial]
theorem Ca(f:Str)(i:List Int):(au [aK f,ay (i.map ap)]).dep < 10:=by
 have h:=ze i
 show max 0 (max ((au (i.map ap)).dep+1) 0) < 10
 omega
theorem sM{P:aM->Bool}{os:List aM}{m i:Nat}{o:aM}{a:List V}(b:os[m+i]?=some o)(h:a++cX (ci P os (m+i))=cX (ci P os m)):(P o=true->(a++[.int ((m:Int)+(i:Int))])++cX (ci P os (m+(i+1)))=cX (ci P os m))/\(P o=false->a++cX (ci P os (m+(i+1)))=cX (ci P os m)):=by
 rw[Km b]at h
 have e:(m:Int)+(i:Int)=((m+i:Nat):Int):=by omega
 refine#[λH=>?_,λH=>?_]
 ·rw[if_pos H]at h
  rw[<- h,e,List.append_assoc]
  rfl
 ·rw[if_neg (by rw[H];intro z;cases z)]at h
  exact h
theorem ZC{P:aM->Bool}{os:List aM}{j:Nat}{o:aM}(h:os[j]?=some o)(H:P o=true):∀(d m:Nat),j=m+d->j∈ci P os m
 |0,m,e=>by
  have e:j=m:=e
  subst e
  rw[Km h,if_pos H]
  exact List.mem_cons_self
 |d+1,m,e=>by
  have b:=(List.getElem?_eq_some_iff.mp h).1
  have a:m < os.length:=by omega
  rw[Km (List.getElem?_eq_getElem a)]
  have i:=ZC h H d (m+1) Pn
  split
  ·exact List.mem_cons_of_mem _ i
  ·exact i
theorem ZD(P:aM->Bool):∀(k:Nat) (os:List aM),∀j∈gJ P k os,∃i s,j=k+i/\os[i]?=some s/\P s=true
 |_,[],_,h=>nomatch h
 |k,s::r,j,h=>by
  have h:j∈(if P s=true then k::gJ P (k+1) r else gJ P (k+1) r):=h
  have g:j∈gJ P (k+1) r->∃i S,j=k+i/\(s::r)[i]?=some S/\P S=true:=λz=>by
   obtain⟨i,S,e,a,b⟩:=ZD P (k+1) r j z
   exact#[i+1,S,Pn,by simpa using a,b]
  by_cases H:P s=true
  ·rw[if_pos H]at h
   rcases List.mem_cons.mp h with rfl |h
   ·exact#[0,s,Z,Z,H]
   ·exact g h
  ·rw[if_neg H]at h
   exact g h
theorem Yn{P:aM->Bool}{os:List aM}{m j:Nat}(h:j∈ci P os m):m<=j/\∃s,os[j]?=some s/\P s=true:=by
 obtain⟨i,s,e,H,a⟩:=ZD P m _ j h
 rw[List.getElem?_drop]at H
 exact#[Pn,s,by rw[e];exact H,a]
noncomputable def wC(os:List aM)(m:Nat)(n:Int)(h:List Int)(w:Sk)(p a:aG)(k:Nat):Ly:=match ci (aO n h) os m with
 | []=>#[[],[],[a++[(k:Int)]],[]]
 |j::_=>match os[j]? with
  |some o=>if o.2.2.fnd=w.fnd then #[[(p++[(j:Int)],a++[(k:Int)])],[],[],[p++[(j:Int)]]] else #[[],[(p++[(j:Int)],a++[(k:Int)])],[],[p++[(j:Int)]]]
  |none=>.nil
theorem rn{os:List aM}{m j:Nat}{n:Int}{H:List Int}{w:Sk}{po pn:aG}{k:Nat}{o:aM}(h:eZ os m n H w=some j)(b:os[j]?=some o):wC os m n H w po pn k=ua (po++[(j:Int)]) o (pn++[(k:Int)]) n H w:=by
 have a:=Js os m n H w
 rw[h]at a
 obtain⟨d,_⟩:=kW h
 unfold wC ua
 cases e:ci (aO n H) os m with
 |cons J r=>
  rw[e]at a
  injection a with a
  subst a
  obtain⟨_,s,c,f⟩:=Yn (P:=aO n H) (os:=os) (m:=m) (j:=J) (by rw[e];exact List.mem_cons_self)
  rw[b]at c
  cases c
  rw[if_pos f]
  dsimp only
  rw[b]
 |nil=>
  rw[if_neg]
  intro g
  have:=ZC b g (j - m) m Pn
  rw[e]at this
  cases this
theorem rm{os:List aM}{m:Nat}{n:Int}{H:List Int}{w:Sk}{b p:aG}{k:Nat}(h:eZ os m n H w=none):wC os m n H w b p k=#[[],[],[p++[(k:Int)]],[]]:=by
 have a:=Js os m n H w
 rw[h]at a
 unfold wC
 cases e:ci (aO n H) os m with
 |cons j r=>rw[e]at a;cases a
 |nil=>rfl
theorem wT(os:List aM)(m:Nat)(n:Int)(h:List Int)(w:Sk)(p a:aG)(k:Nat):(wC os m n h w p a k).tot<=2:=by
 unfold wC
 split
 ·exact Nat.le_succ 1
 ·split
  ·split
   ·exact Nat.le_refl 2
   ·exact Nat.le_refl 2
  ·exact Nat.zero_le 2
theorem rZ{W b:Sk}{u U:V}{H:Hp}(o:W.ok false)(O:b.ok false)(E:dZ W=dZ b)(I:dm H W u [])(j:dm H b U [])(G:V->Hp->Prop)(h:G (.bl (!decide (W.fnd=b.fnd))) H):(Ik Ij (Dc 10)) (AS W u) (AS b U) H G:=by
 obtain⟨F,k⟩:=BG o O E
 by_cases c:W.fnd=b.fnd
 ·rw[decide_eq_true c]at h
  rcases F c with ⟨f,i,S,A,s,a,rfl,rfl,e⟩ | ⟨rfl,n⟩
  ·refine .inl #[Z,?_]
   rw[show decide (AS (.cl f i S A) u=AS (.cl f i s a) U)=true from decide_eq_true (by show V.int A=V.int a;rw[e])]
   exact h
  ·obtain⟨l,m,dl,g⟩:=vv o n
   rw[sX n,sX n]
   have T:=Ka o I (λ_=>Z) (λz=>nomatch z)
   have t:=Ka o j (λ_=>Z) (λz=>nomatch z)
   rw[m]at T t
   refine .inr #[l,l,dl,g,g,T,t,?_]
   rw[zo Z]
   exact h
 ·rw[decide_eq_false c]at h
  rcases k c with ⟨f,i,S,A,s,a,rfl,rfl,e⟩ | ⟨C,p,d,rfl,rfl,e⟩
  ·refine .inl #[Z,?_]
   rw[show decide (AS (.cl f i S A) u=AS (.cl f i s a) U)=false from decide_eq_false λz=>e (by injection z)]
   exact h
  ·have T:=Ka o I (λ_=>Z) (λz=>nomatch z)
   have t:=Ka O j (λ_=>Z) (λz=>nomatch z)
   refine .inr #[au [aK "read",ap C,ap p],au [aK "read",ap C,ap d],by show max 0 (max 0 (max 0 0)) < 10;decide,#[Z,Z,Z,trivial],#[Z,Z,Z,trivial],T,t,?_]
   rw[kX]
   ·exact h
   intro z
   injection z with z
   injection z with _ z
   injection z with _ z
   injection z with z _
   injection z with z
   injection z with z
   exact e z
theorem L4.new{H:Hp}{o:HO}{r k t f d x:Addr}{y:Ly}(h:L4 H o r k t f d y)(n:H x=none):x≠k/\x≠t/\x≠f/\x≠d:=by
 obtain⟨_,a,_⟩:=h.kv
 obtain⟨_,b,_⟩:=h.tv
 obtain⟨_,c,_⟩:=h.fv
 obtain⟨_,e,_⟩:=h.dv
 exact#[(ji a n).symm,(ji b n).symm,(ji c n).symm,(ji e n).symm]
theorem aV.kept{H a:Hp}{k t f d x:Addr}{o:HO}(b:aV k t f d H a)(n:x≠k/\x≠t/\x≠f/\x≠d)(h:H x=some o):a x=some o:=b _ _ n.1 n.2.1 n.2.2.1 n.2.2.2 h
theorem kI{H h:Hp}{x:Addr}(s:aa H h)(n:h x=none):H x=none:=by
 cases z:H x with
 |none=>rfl
 |some o=>rw[s _ _ z]at n;cases n
def HR(os:List aM)(m i:Nat)(P:aM->Bool)(H:Hp)(z:List V)(h:Hp):Prop:=aa H h/\z.length<=i/\z++cX (ci P os (m+i))=cX (ci P os m)
theorem dF:ai z30z z14z (ae pO):=bK
noncomputable def pQ:Scope:=#[.function,[(".0",.local),("_law_j",.local),("_law_old",.free),("_law_step",.free)],false,false,[]]
theorem tF:(z24z:List Str).Nodup:=by decide+kernel
theorem rC:bn z30z (ae pO) pQ z24z 1 [0,7]:=pY
noncomputable def pR:Scope:=#[.function,[(".0",.local),("_law_j",.local),("_law_old",.free)],false,false,[]]
theorem B0:(["_law_j","_law_old"]:List Str).Nodup:=by decide+kernel
theorem Bv:bn z30z (ae pO) pR ["_law_j","_law_old"] 1 [0]:=pY
theorem Cp{f:Addr}{fd:FuncData}{n:Nat}{fF fW fS:Addr}{f5 f6 f7:FuncData}(F:aQ K "_law_beside" "_law_beside" pO f fd)(cF:Cl P w K mg base 1 fF f5 ["_law_step"] mJ "_law_found")(cW:Cl P w K mg base 18 fW f6 z12z (ff 17) "_law_all_in")(cS:Cl P w K mg base (n+20) fS f7 z14z (gO n) "_law_beside")(m0:mg "enumerate"=none)(ml:mg "len"=none)(mr:mg "range"=none)(mi:mg "int"=none):af P w K mg base aE (n+21) f fd z14z (gO (n+1)):=by
 refine F.ok dF ?_ λm3 A o' s H vs Q E hr h=>?_
 ·rintro _ _ _ _ ⟨D,z,kA,tA,fA,dA,oa,c,na,b,po,pn,f,is,js,S,s1,a0,a1,y,rfl,_⟩
  rfl
 obtain⟨D,z,kA,tA,fA,dA,oa,c,na,b,po,pn,f,is,js,S,s1,a0,a1,y,rfl,hL,b6,d3,m4,m5,d4,o1,m7,m8,d5,d6,m',m2,h6,D0,D1,b9,q⟩:=h
 refine#[_,(jd (jD 5 dF.nd jg) (jf (j7 PassesOwn.never Z (q9 Z m0 (ja (ju (pv 1)) jb)) (qf (n:=2) Z (jF (jw (i:=6) dF.nd Z (Or.inl Z)) (jF (jw (i:=7) dF.nd Z (Or.inr Z)) kU))) (jd (jD 8 dF.nd (jx ke (pv 3) (jl (ja (pv 6) jb)))) (jd (@qr _ _ _ _ _ _ _ _ _ _ (10) (z24z) (1) ([0,7]) _ _ _ _ dF.nd Z (Or.inl Z) Z (zQ Z mr (ja (pv 5) (ja (jO jL Z ml PySem.boot_len (ja (ju (pv 0)) jb)) jb))) rC (λ_ _ _ _ _=>(jw (i:=0) tF Z (Or.inl Z))) (λ_ _ _ _ _=>(@Kh _ _ _ (jC (QK (d:=10) (iR hr)) (jK jV (jv (r:=bZ K) (kH (K:=K) Z) (jv (r:=bZ K) (kH (K:=K) Z) (pv 1) jg (λ_ _=>Z)) (pv 0) (λ_ _=>Z)) jR (jN jg)) (jK jV (pv 2) jR (jN jg)) (aN _)))) (λ_ _ _ _ _=>(pv 0)) Pq (by first |exact .inl Z |exact .inr Z) (by intro _;rfl)) (jd (jD 11 dF.nd (jJ jb)) (jd (jy (PW.pt (X9 (jC (Ym (Nat.lt_of_succ_lt (zB hr))) (pv 10) (jJ jb) (aN _)) (QO (j6 (ju (jv jE (pv 7) jg (λ_ _=>Z))))))) (jd (@qr _ _ _ _ _ _ _ _ _ _ (12) (["_law_j","_law_old"]) (1) ([0]) _ _ _ _ dF.nd Z (Or.inl Z) Z (zQ Z mr (ja (pv 5) (ja (jO jL Z ml PySem.boot_len (ja (ju (pv 0)) jb)) jb))) Bv (λ_ _ _ _ _=>(jw (i:=0) B0 Z (Or.inl Z))) (λ_ _ _ _ _=>(@Kh _ _ _ (jC Jw (jv (r:=bZ K) (kH (K:=K) Z) (jv (r:=bZ K) (kH (K:=K) Z) (jv (r:=bZ K) (kH (K:=K) Z) (jv (r:=bZ K) (kH (K:=K) Z) (pv 1) jg (λ_ _=>Z)) (pv 0) (λ_ _=>Z)) jg (λ_ _=>Z)) jg (λ_ _=>Z)) jo (aN _)))) (λ_ _ _ _ _=>(pv 0)) Pq (by first |exact .inl Z |exact .inr Z) (by intro _;rfl)) (jf (@qr _ _ _ _ _ _ _ _ _ _ (11) (z24z) (1) ([0,7]) _ _ _ _ dF.nd Z (Or.inl Z) Z (zh (pv 12)) rC (λ_ _ _ _ _=>(jw (i:=0) tF Z (Or.inl Z))) (λ_ _ _ _ _=>(@Kh _ _ _ (jC (QK (d:=10) (iR hr)) (jK jV (jv (r:=bZ K) (kH (K:=K) Z) (jv (r:=bZ K) (kH (K:=K) Z) (jv (r:=bZ K) (kH (K:=K) Z) (jv (r:=bZ K) (kH (K:=K) Z) (pv 1) jg (λ_ _=>Z)) (pv 0) (λ_ _=>Z)) jg (λ_ _=>Z)) jg (λ_ _=>Z)) jR (jN jg)) (jK jV (jv (r:=bZ K) (kH (K:=K) Z) (jv (r:=bZ K) (kH (K:=K) Z) (pv 2) jg (λ_ _=>Z)) jg (λ_ _=>Z)) jR (jN jg)) (aN _)))) (λ_ _ _ _ _=>(pv 0)) Pq (by first |exact .inl Z |exact .inr Z) (by intro _;rfl)))) jr) (jd (jy (jC (Ym (Nat.lt_of_succ_lt (zB hr))) (pv 10) (jJ jb) (aN _)) (jf (jB (jU PySem.F.plainAttrs_list PySem.F.slot_list_append PySem.F.type_list_append jI (ju (pv 4)) (ja (pv 8) jb)))) (jd (jD 13 dF.nd (jl (ja (jx ke (pv 2) (jl (ja (jv jG (pv 10) jg (λ_ _=>Z)) jb))) (ja (pv 8) jb)))) (jd (jB (jU PySem.F.plainAttrs_list PySem.F.slot_list_append PySem.F.type_list_append jI (jv jE (pv 4) (jP Qb Z mi boot_int (ja (Y7 (C0 Xa (ug (d:=10) (iR hr))) (cF.e hr.m (ja (jv jE (ju (pv 0)) (jv jG (pv 10) jg (λ_ _=>Z)) (λ_ _=>Z)) jb)) (cF.e hr.m (ja (pv 7) jb)) (aN _)) jb)) (λ_ _=>Z)) (ja (pv 13) jb))) (jf (jB (jU PySem.F.plainAttrs_list PySem.F.slot_list_append PySem.F.type_list_append jI (ju (pv 4)) (ja (ju (pv 13)) jb))))))) (jd (jD 14 dF.nd (jK qN (jx Jm (pv 10) (pv 11)) jR (jN jg))) (jd (j7 PassesOwn.never Z (zh (pv 14)) (jw (i:=9) dF.nd Z (Or.inl Z)) (jd (jD 5 dF.nd (jx j8 (pv 9) jg)) (jf (jy (j6 (ju (jv jE (pv 7) jg (λ_ _=>Z)))) (jf (jB (cS.e hr.m (ja (jv jE (ju (jv jE (jv jE (pv 0) jg (λ_ _=>Z)) (pv 9) (λ_ _=>Z))) jg (λ_ _=>Z)) (ja (ju (jv jE (pv 7) jg (λ_ _=>Z))) (ja (jx ke (pv 2) (jl (ja (pv 9) jb))) (ja (pv 8) (ja (pv 4) jb)))))))) jr)))) (jf (jy (PW.pt (X9 (jC (Ym (Nat.lt_of_succ_lt (zB hr))) (pv 14) (jJ jb) (aN _)) (QO (j6 (ju (jv jE (pv 7) jg (λ_ _=>Z))))))) (jf (jB (jU PySem.F.plainAttrs_list PySem.F.slot_list_extend PySem.F.type_list_extend zn (ju (pv 4)) (ja (cW.e hr.m (ja (ju (jv jE (pv 7) jg (λ_ _=>Z))) (ja (pv 8) jb))) jb)))) jr)))))))))))),?_]
 have p0:=aH
 obtain⟨_,g0,e0,s8,d7,h1,h2,h3,h4⟩:=id d4
 cases d7
 obtain⟨_,g1,e1,s',d8,k1,k2,k3,k4⟩:=id d5
 cases d8
 have p1:=zi o1 h4
 have p2:=qI o1 h4
 refine aj λF1 v=>v _ _ ?_
 clear v
 refine dq λJ jj=>(jp k1 dw #[e1,Z,#[_,aA.of k3],jj _ _ ?_])
 clear jj
 refine zZ (K:=K) (xs:=s') (HN D z kA tA fA dA oa c na b po pn f S.steps s' s1 (y.app (me s1 po S.steps 0 pn 0)) H) #[none,none,none,none,none,none,none,none,none,0,s1,y,Z,hL,k4,d6,Nat.le_refl _,Nat.le_refl _,D1,Nat.zero_le _,Z,λ_ _ _ _ _ _ e=>e] (λk σ Hx _ h=>?_) ?_ (λσ Hx h=>?_)
 ·obtain⟨_,_,_,_,_,_,_,_,_,_,_,_,_,_,_,_,_,_,_,_,_,b7⟩:=h
  exact aA.of (hL.tm b7 _ _ k3)
 ·intro E rt k x pp σ H4 d' f8 fE Gq kq h
  obtain⟨o6,o7,o8,o9,o4,o5,O,C,o2,m,r2,y4,rfl,L4,w2,w3,w4,w5,w6,w7,w8,b4⟩:=h
  have s5:aa H4 (ah H4 pp (.tup [.int k,x])):=je f8
  have e5:ah H4 pp (.tup [.int k,x]) pp=some (.tup [.int k,x]):=jc
  refine kq ?_
  clear kq
  generalize ah H4 pp (.tup [.int k,x])=H5 at s5 e5 ⊢
  have b5:=b4.trans (aV.of_same s5)
  have b':=hL.tm b5
  have L5:=L4.same s5
  refine#[pp,_,Z,aA.of e5,Z,_,_,Z,_,_,Z,Z,?_]
  rw[Zx d']at w2
  have w2:=w2.mono (aa.tm s5)
  cases r2 with
  |nil=>exact nomatch (show _::_=[] from w2)
  |ask _ |rd _ _ |wr _ _ |cl _ _ _ _=>exact w3.elim
  |st N p w r1=>
   obtain⟨p',h',u',y',ex,i1,i2,i3,i4⟩:=w2
   injection ex with ex ey
   subst ex
   subst ey
   have d0:w.dep<=s1.dep:=Nat.le_trans (Nat.le_max_left _ _) w4
   have d2:r1.dep<=s1.dep:=Nat.le_trans (Nat.le_max_right _ _) w4
   have w5:w.size+r1.size+1<=s1.size:=w5
   show eP (fo _ _) (eP _ _) E [some (.ref c),some (.ref b),some (.ref oa),some (.ref na),some (.ref z),some (.int (m:Int)),some (.int k),some (.ref p'),o8,o9,o4,o5,O,C,o2] H5
   refine aj λF1 v=>#[_,Z,_,Z,h8,λt nt=>#[na,t,_,_,Z,Z,am (b' _ _ d3) nt,jc,by rw[List.length_map];show _+1<=_;omega,λr9 H9 e9 s9=>v _ _ ?_]]
   clear v
   have S9:aa H5 H9:=(je (o:=.tup [.int k]) nt).trans s9
   have e9:H9 r9=some (.tup (pn.map V.int++[.int (k:Int)])):=e9
   rw[i6]at e9
   have t6:=hL.tm (b5.trans (aV.of_same S9))
   refine aj λF1 v=>#[_,Z,jp (t6 _ _ h1) dw #[e0,_,Z,.inr (aA.of (t6 _ _ h3)),_,_,Z,#[Pn,Pn,Pn,Pn],?_]]
   refine Ji (lo:=(m:Int)) (n:=((s8.length:Int) - (m:Int)).toNat) (λi B Hx=>HR S.steps m i (aO N p) H9 B Hx) #[aa.refl _,Nat.le_refl 0,Z] Pn (λi B Hx h=>h.2.1) ?_ ?_
   ·intro i B Hx hi h
    obtain⟨W,lz,ez⟩:=h
    have a2:m+i < S.steps.length:=by omega
    have X:=List.getElem?_eq_getElem a2
    generalize S.steps[m+i]=o at X
    obtain⟨q,hq,uq,q1,q2,q3,_⟩:=Xe o1 (h4.mono (t6.trans (aa.tm W))) X
    have ei:(m:Int)+(i:Int)=((m+i:Nat):Int):=by omega
    obtain⟨gy,gn⟩:=sM X ez
    refine(jp (W _ _ (t6 _ _ h1)) dw #[_,Z,e0,_,_,_,Z,Z,aA.of (W _ _ (t6 _ _ h3)),by rw[ei];exact jH q1,_,Z,q,_,Z,q2,λt1 Hy a3 sy=>#[_,Z,_,Z,p',_,Z,sy _ _ (W _ _ (S9 _ _ i1)),λt2 Hz h6 sz=>#[_,_,QU o.1 o.2.1,Jo o.1 o.2.1,Jo N p,jA (sz _ _ a3) (jk Z jT (jk Z (j9 (sz _ _ (sy _ _ q3))) jz)),jA h6 (jk Z jT (jk Z (j9 (sz _ _ (sy _ _ (W _ _ (S9 _ _ i2))))) jz)),_,Z,?_]]])
    rw[show fq (.tp (au [ap o.1,ay (o.2.1.map ap)])) (.tp (au [ap N,ay (p.map ap)]))=aO N p o from Yi (w:=o.2.2)]
    have c0:=(W.trans sy).trans sz
    cases hb:aO N p o with
    |true=>exact xE #[_,Z,c0,by rw[List.length_append];show _+1<=_;omega,gy hb]
    |false=>exact sQ #[c0,Pn,gn hb]
   intro B HA h sl n5
   obtain⟨sA,_,ez⟩:=h
   rw[J3 Pn]at ez
   have ez:B=cX (ci (aO N p) S.steps m):=by rw[<- ez];exact(List.append_nil _).symm
   subst ez
   refine v _ _ ?_
   clear v
   have sB:aa HA (ah HA sl (.lst (cX (ci (aO N p) S.steps m)))):=je n5
   have eB:ah HA sl (.lst (cX (ci (aO N p) S.steps m))) sl=some (.lst (cX (ci (aO N p) S.steps m))):=jc
   generalize ah HA sl (.lst (cX (ci (aO N p) S.steps m)))=HB at sB eB ⊢
   refine aj λF1 v=>#[eY,λlA n6=>v _ _ ?_]
   clear v
   have sC:aa HB (ah HB lA (.lst [])):=je n6
   have eC:ah HB lA (.lst []) lA=some (.lst []):=jc
   generalize ah HB lA (.lst [])=HC at sC eC ⊢
   have SC:aa H5 HC:=((S9.trans sA).trans sB).trans sC
   have eB:=sC _ _ eB
   have t':=b'.trans (aa.tm SC)
   have e9:=sC _ _ (sB _ _ (sA _ _ e9))
   have n7:H5 lA=none:=kI ((S9.trans sA).trans sB) n6
   have f9:H5 sl=none:=kI (S9.trans sA) n5
   have p6:=QY (aO N p) S.steps m
   have p7:=xH S.steps m N p w
   refine aj λF1 v=>?_
   suffices g2:∀(l2:Addr) (O:Option V) (HD:Hp),H5 l2=none->aa HC HD->HD l2=some (.lst (cX (i9 S.steps m N p w)))->F1 [some (.ref c),some (.ref b),some (.ref oa),some (.ref na),some (.ref z),some (.int (m:Int)),some (.int k),some (.ref p'),some (.ref r9),o9,some (.ref sl),some (.ref l2),O,C,o2] HD by
    clear v
    refine#[_,Z,eY,λl0 n0=>#[sl,l0,_,Z,Z,am eB n0,jc,_,Z,?_]]
    have sD:aa HC (ah HC l0 (.lst [])):=je n0
    generalize ah HC l0 (.lst [])=HD at sD ⊢
    have SD:=SC.trans sD
    rw[XO]
    cases e2:ci (aO N p) S.steps m with
    |cons j0 r0=>
     refine aT Z (aT Z (g2 lA O HD n7 sD ?_))
     have z:i9 S.steps m N p w=[]:=by unfold i9;rw[e2];rfl
     rw[z]
     exact sD _ _ eC
    |nil=>
     refine cq Z ?_
     obtain⟨p3,v3,r3,eu,h7,h0⟩:=qU w3.1 (i3.mono (aa.tm SD))
     subst eu
     refine(jp (SD _ _ i1) dw #[p3,_,_,_,Z,Z,aA.of h7,dS,Z,_,Z,?_])
     rw[qt]
     by_cases hv:v3="call"
     ·refine cq (decide_eq_true hv) ?_
      obtain⟨g,L,sw,aw,rfl⟩:=h0.mp hv
      have zl:i9 S.steps m N p (.cl g L sw aw)=ci (cj g L) S.steps m:=by unfold i9;rw[if_pos e2]
      rw[zl]at g2
      clear h0
      obtain⟨x1,c1,g4,e4,s3,e3,j1,j2,j3,j4,j5⟩:=i3.mono (aa.tm SD)
      cases e3
      have t0:=t'.trans (aa.tm sD)
      refine aj λF2 f2=>#[_,Z,jp (t0 _ _ h1) dw #[e0,_,Z,.inr (aA.of (t0 _ _ h3)),_,_,Z,#[Pn,Pn,Pn,Pn],?_]]
      refine Ji (lo:=(m:Int)) (n:=((s8.length:Int) - (m:Int)).toNat) (λi B Hx=>HR S.steps m i eJ HD B Hx) #[aa.refl _,Nat.le_refl 0,Z] Pn (λi B Hx h=>h.2.1) ?_ ?_
      ·intro i B Hx hi h
       obtain⟨W,lz,ez⟩:=h
       have a2:m+i < S.steps.length:=by omega
       have X:=List.getElem?_eq_getElem a2
       generalize S.steps[m+i]=o at X
       obtain⟨q,hq,uq,q1,q2,q3,q4,q5,_⟩:=Xe o1 (h4.mono (t0.trans (aa.tm W))) X
       have ei:(m:Int)+(i:Int)=((m+i:Nat):Int):=by omega
       obtain⟨gy,gn⟩:=sM X ez
       obtain⟨p5,v5,r5,eu,f',g7⟩:=Bu q5 q4
       subst eu
       refine(jp (W _ _ (t0 _ _ h1)) dw #[_,Z,e0,_,_,_,Z,Z,aA.of (W _ _ (t0 _ _ h3)),by rw[ei];exact jH q1,q,_,_,_,Z,Z,aA.of q2,dw,p5,_,_,_,Z,Z,aA.of f',dS,Z,_,Z,?_])
       rw[qt,g7 o.1 o.2.1]
       cases hb:eJ o with
       |true=>exact xE #[_,Z,W,by rw[List.length_append];show _+1<=_;omega,gy hb]
       |false=>exact sQ #[W,Pn,gn hb]
      intro B HE h ca g8
      obtain⟨sE,_,ez⟩:=h
      rw[J3 Pn]at ez
      have ez:B=cX (ci eJ S.steps m):=by rw[<- ez];exact(List.append_nil _).symm
      subst ez
      refine f2 _ _ ?_
      clear f2
      have sF:aa HE (ah HE ca (.lst (cX (ci eJ S.steps m)))):=je g8
      have eF:ah HE ca (.lst (cX (ci eJ S.steps m))) ca=some (.lst (cX (ci eJ S.steps m))):=jc
      generalize ah HE ca (.lst (cX (ci eJ S.steps m)))=HF at sF eF ⊢
      have SF:=(sD.trans sE).trans sF
      have t3:=t'.trans (aa.tm SF)
      have S6:=SC.trans SF
      have p9:=QY eJ S.steps m
      refine#[_,Z,ca,Z,#[_,aJ.of eF],?_]
      refine KG (K:=K) (a:=ca) (xs:=cX (ci eJ S.steps m)) (by rw[J4];omega) (λi B Hx=>aa HF Hx/\B.length<=i/\B=cX (((ci eJ S.steps m).take i).filter (Au (cj g L) S.steps))) #[aa.refl _,Nat.le_refl 0,Z] (λi B Hx h=>#[aJ.of (h.1 _ _ eF),h.2.1]) ?_ ?_
      ·intro i x B Hx G h
       obtain⟨W,lz,ez⟩:=h
       unfold cX at G
       rw[List.getElem?_map]at G
       obtain⟨j,hj,rfl⟩:=Option.map_eq_some_iff.mp G
       obtain⟨_,o,X,g'⟩:=Yn (List.mem_of_getElem? hj)
       have et:(ci eJ S.steps m).take (i+1)=(ci eJ S.steps m).take i++[j]:=by rw[List.take_add_one,hj];rfl
       obtain⟨q,hq,uq,q1,q2,q3,q4,q5,_⟩:=Xe o1 (h4.mono (t3.trans (aa.tm W))) X
       obtain⟨no,h5,wo⟩:=o
       have q4:dm Hx wo uq []:=q4
       have ea:Au (cj g L) S.steps j=cj g L (no,h5,wo):=by unfold Au;rw[X]
       have f0:∀Hz,aa Hx Hz->cj g L (no,h5,wo)=true->aa HF Hz/\(B++[V.int (j:Int)]).length<=i+1/\B++[V.int (j:Int)]=cX (((ci eJ S.steps m).take (i+1)).filter (Au (cj g L) S.steps)):=λHz sz hb=>by
        rw[et,List.filter_append,<- QZ,<- ez]
        exact#[W.trans sz,by rw[List.length_append];show _+1<=_;omega,by rw[List.filter_cons_of_pos (by rw[ea];exact hb)];rfl]
       have f3:∀Hz,aa Hx Hz->cj g L (no,h5,wo)=false->aa HF Hz/\B.length<=i+1/\B=cX (((ci eJ S.steps m).take (i+1)).filter (Au (cj g L) S.steps)):=λHz sz hb=>by
        rw[et,List.filter_append,<- QZ,<- ez]
        exact#[W.trans sz,Pn,by rw[List.filter_cons_of_neg (by rw[ea,hb];intro z;cases z)];exact(List.append_nil _).symm]
       cases wo with
       |cl g5 l3 c2 a5=>
        obtain⟨x5,c5,g6,e',c3,rfl,y1,y2,y3,_⟩:=q4
        refine(jp (W _ _ (t3 _ _ h1)) dw #[_,Z,e0,_,_,_,Z,Z,aA.of (W _ _ (t3 _ _ h3)),jH q1,q,_,_,_,Z,Z,aA.of q2,dw,x5,_,_,_,Z,Z,aA.of y1,gX,_,Z,c5,_,Z,y2,λt1 Hy a3 sy=>?_])
        have Sy:=(S6.trans W).trans sy
        refine(jp (Sy _ _ i1) dw #[p3,_,_,_,Z,Z,aA.of (sy _ _ (W _ _ (sF _ _ (sE _ _ j1)))),gX,_,Z,c1,_,Z,sy _ _ (W _ _ (sF _ _ (sE _ _ j2))),λt2 Hz h6 sz=>#[_,_,Ca g5 l3,AT g5 l3,AT g L,jA (sz _ _ a3) (jk Z jQ (jk Z (j9 (sz _ _ (sy _ _ y3))) jz)),jA h6 (jk Z jQ (jk Z (j9 (sz _ _ (sy _ _ (W _ _ (sF _ _ (sE _ _ j3)))))) jz)),_,Z,?_]])
        rw[show fq (.tp (au [aK g5,ay (l3.map ap)])) (.tp (au [aK g,ay (L.map ap)]))=cj g L (no,h5,.cl g5 l3 c2 a5) from xG]
        cases hb:cj g L (no,h5,.cl g5 l3 c2 a5) with
        |true=>exact xE #[_,Z,f0 Hz (sy.trans sz) hb]
        |false=>exact sQ (f3 Hz (sy.trans sz) hb)
       |_=>cases g'
      intro B HG h l2 n'
      obtain⟨sG,_,ez⟩:=h
      rw[J4,List.take_length,KH (λs hs=>EM s hs) S.steps _ m Z]at ez
      subst ez
      exact g2 l2 _ _ (kI (S6.trans sG) n') ((SF.trans sG).trans (je n')) jc
     ·refine aT (decide_eq_false hv) (g2 lA O HD n7 sD ?_)
      have z:i9 S.steps m N p w=[]:=by
       unfold i9
       rw[if_pos e2]
       cases w with
       |cl f is s a=>exact absurd (h0.mpr #[f,is,s,a,Z]) hv
       |_=>rfl
      rw[z]
      exact sD _ _ eC
   intro l2 O HD n2 sD eD
   refine v _ _ ?_
   clear v
   have SD:=SC.trans sD
   have t0:=t'.trans (aa.tm sD)
   have LD:=L5.same SD
   have eS:=sD _ _ eB
   have e9:=sD _ _ e9
   have bD:=b5.trans (aV.of_same SD)
   have i':=SD _ _ i1
   have q0:=SD _ _ i2
   have i0:=i3.mono (aa.tm SD)
   have j':=i4.mono (aa.tm SD)
   clear sA sB sC eC
   have tt:=b9
   rw[<- w8,Ly.tot_app]at tt
   have q':=wT S.steps m N p w po pn k
   refine aj λF1 v=>?_
   suffices I:∀(C:Option V) (HE:Hp),Lt HE z kA tA fA dA (y4.app (wC S.steps m N p w po pn k))->aV kA tA fA dA HD HE->F1 [some (.ref c),some (.ref b),some (.ref oa),some (.ref na),some (.ref z),some (.int (m:Int)),some (.int k),some (.ref p'),some (.ref r9),o9,some (.ref sl),some (.ref l2),O,C,o2] HE by
    clear v
    refine#[_,Z,eY,λl0 n0=>#[sl,l0,_,Z,Z,am eS n0,jc,_,Z,?_]]
    have s2:aa HD (ah HD l0 (.lst [])):=je n0
    generalize ah HD l0 (.lst [])=HE at s2 ⊢
    have LE:=LD.same s2
    have ty:y4.f.length<=y4.tot/\y4.k.length<=y4.tot/\y4.t.length<=y4.tot/\y4.d.length<=y4.tot:=by unfold Ly.tot;omega
    rw[XO]
    unfold wC at I
    cases e2:ci (aO N p) S.steps m with
    |nil=>
     rw[e2]at I
     refine cq Z ?_
     obtain⟨xs,G,lx⟩:=LE.fv
     have l4:=lx.len
     refine(jp LE.ins dw #[.inl #[Z,_,aJ.of G],_,Z,fA,_,_,Z,Z,G,Pn,?_])
     obtain⟨L3,b3⟩:=LE.setF G (bh.one (R:=gG) (w:=pn++[(k:Int)]) #[r9,Z,s2 _ _ e9])
     exact I C _ L3 ((aV.of_same s2).trans b3)
    |cons j r=>
     obtain⟨k0,o,X,k5⟩:=Yn (P:=aO N p) (os:=S.steps) (m:=m) (j:=j) (by rw[e2];exact List.mem_cons_self)
     rw[e2]at I
     dsimp only at I
     rw[X]at I
     dsimp only at I
     obtain⟨l1,l5⟩:=sY k5
     obtain⟨d1,_⟩:=Kb D0 X
     have dd:dZ o.2.2=dZ w:=by rw[d1,l1,l5,w6.1]
     have c4:HE sl=some (.lst (V.int (j:Int)::cX r)):=by have z:=s2 _ _ eS;rw[e2]at z;exact z
     refine aT Z ?_
     refine aj λF2 f2=>#[_,Z,_,Z,sl,_,_,_,Z,Z,aJ.of c4,dS,h8,λt nt=>#[oa,t,_,_,Z,Z,am (s2 _ _ (t0 _ _ b6)) nt,jc,by rw[List.length_map];show _+1<=_;omega,λM H0 T s7=>#[_,Z,cg,λpr k6=>f2 _ _ ?_]]]
     clear f2
     have u:aa HE H0:=(je (o:=.tup [.int (j:Int)]) nt).trans s7
     have T:H0 M=some (.tup (po.map V.int++[.int (j:Int)])):=T
     rw[i6]at T
     have s4:aa H0 (ah H0 pr (.tup [.ref M,.ref r9])):=je k6
     have e6:ah H0 pr (.tup [.ref M,.ref r9]) pr=some (.tup [.ref M,.ref r9]):=jc
     generalize ah H0 pr (.tup [.ref M,.ref r9])=H1 at s4 e6 ⊢
     have U:=(s2.trans u).trans s4
     have t4:=t0.trans (aa.tm U)
     have Y:=LD.same U
     obtain⟨q,hq,uq,q1,q2,q3,q4,q5,_⟩:=Xe o1 (h4.mono t4) X
     have rp:md H1 (.ref pr) (po++[(j:Int)],pn++[(k:Int)]):=#[pr,M,r9,Z,e6,s4 _ _ T,U _ _ e9]
     have e7:H1 sl=some (.lst (V.int (j:Int)::cX r)):=s4 _ _ (u _ _ c4)
     by_cases hf:o.2.2.fnd=w.fnd
     ·rw[if_pos hf]at I
      obtain⟨xs,G,lx⟩:=Y.kv
      have l4:=lx.len
      refine aj λF2 f2=>#[_,Z,jp (t4 _ _ h1) dw #[_,Z,sl,_,_,_,Z,Z,aJ.of e7,dS,e0,_,_,_,Z,Z,aA.of (t4 _ _ h3),jH q1,q,hq,o.1,uq,o.2.2,Z,q2,q4,q5,_,Z,p',h',N,u',w,Z,U _ _ i',i0.mono (aa.tm U),w3.1,rZ q5 w3.1 dd q4 (i0.mono (aa.tm U)) _ (.inr #[_,Eq.refl _,z,_,_,V.ref kA,Z,Z,aA.of Y.ins,by rw[decide_eq_true hf];rfl,.inl #[Z,_,aJ.of G],_,Z,kA,_,_,Z,Z,G,Pn,f2 _ _ ?_])]]
      clear f2
      obtain⟨L0,b0⟩:=Y.setK G (bh.one (R:=md) rp)
      have t5:=Y.tm b0
      generalize ah H1 kA (.lst (xs++[.ref pr]))=H2 at L0 b0 t5 ⊢
      obtain⟨B,hz,lz⟩:=L0.dv
      have l6:B.length=y4.d.length:=by rw[lz.len];show(y4.d++[]).length=_;rw[List.append_nil]
      refine(jp L0.ins Gg #[.inl #[Z,_,aJ.of hz],jp (t5 _ _ e6) dS #[dA,_,_,Z,Z,hz,Pn,?_]])
      obtain⟨L1,b1⟩:=L0.setD hz (bh.one (R:=gG) (w:=po++[(j:Int)]) #[M,Z,t5 _ _ (s4 _ _ T)])
      rw[Ly.app_assoc]at L1
      exact I _ _ L1 (((aV.of_same U).trans b0).trans b1)
     ·rw[if_neg hf]at I
      obtain⟨xs,G,lx⟩:=Y.tv
      have l4:=lx.len
      refine aj λF2 f2=>#[_,Z,jp (t4 _ _ h1) dw #[_,Z,sl,_,_,_,Z,Z,aJ.of e7,dS,e0,_,_,_,Z,Z,aA.of (t4 _ _ h3),jH q1,q,hq,o.1,uq,o.2.2,Z,q2,q4,q5,_,Z,p',h',N,u',w,Z,U _ _ i',i0.mono (aa.tm U),w3.1,rZ q5 w3.1 dd q4 (i0.mono (aa.tm U)) _ (.inr #[_,Eq.refl _,z,_,_,V.ref tA,Z,Z,aA.of Y.ins,by rw[decide_eq_false hf];rfl,.inl #[Z,_,aJ.of G],_,Z,tA,_,_,Z,Z,G,Pn,f2 _ _ ?_])]]
      clear f2
      obtain⟨L0,b0⟩:=Y.setT G (bh.one (R:=md) rp)
      have t5:=Y.tm b0
      generalize ah H1 tA (.lst (xs++[.ref pr]))=H2 at L0 b0 t5 ⊢
      obtain⟨B,hz,lz⟩:=L0.dv
      have l6:B.length=y4.d.length:=by rw[lz.len];show(y4.d++[]).length=_;rw[List.append_nil]
      refine(jp L0.ins Gg #[.inl #[Z,_,aJ.of hz],jp (t5 _ _ e6) dS #[dA,_,_,Z,Z,hz,Pn,?_]])
      obtain⟨L1,b1⟩:=L0.setD hz (bh.one (R:=gG) (w:=po++[(j:Int)]) #[M,Z,t5 _ _ (s4 _ _ T)])
      rw[Ly.app_assoc]at L1
      exact I _ _ L1 (((aV.of_same U).trans b0).trans b1)
   intro C HE LE bE
   refine v _ _ ?_
   clear v
   have t7:=LD.tm bE
   have c6:=t0.trans t7
   have nS:=L5.new f9
   have k7:=L5.new n2
   have eS:=bE.kept nS eS
   have eD:=bE.kept k7 eD
   have e9:=t7 _ _ e9
   have k8:=t7 _ _ i'
   have k9:=i0.mono t7
   have k':=j'.mono t7
   have l7:=bD.trans bE
   have r6:=(aV.of_same SD).trans bE
   have r7:=J4 (ci (aO N p) S.steps m)
   have r8:=J4 (i9 S.steps m N p w)
   refine aj λF1 v=>#[_,Z,_,Z,sl,l2,_,_,Z,Z,eS,eD,Pn,λcA c9=>#[_,Z,cA,_,Z,aJ.of jc,λbA n4=>v _ _ ?_]]
   clear v
   have sF:aa HE (ah (ah HE cA (.lst (cX (ci (aO N p) S.steps m)++cX (i9 S.steps m N p w)))) bA (.lst (cy (cX (ci (aO N p) S.steps m)++cX (i9 S.steps m N p w)) none (some 1)))):=(je c9).trans (je n4)
   have eF:ah (ah HE cA (.lst (cX (ci (aO N p) S.steps m)++cX (i9 S.steps m N p w)))) bA (.lst (cy (cX (ci (aO N p) S.steps m)++cX (i9 S.steps m N p w)) none (some 1))) bA=some (.lst (cX ((ci (aO N p) S.steps m++i9 S.steps m N p w).take 1))):=by rw[jc,QZ,Et]
   generalize ah (ah HE cA (.lst (cX (ci (aO N p) S.steps m)++cX (i9 S.steps m N p w)))) bA (.lst (cy (cX (ci (aO N p) S.steps m)++cX (i9 S.steps m N p w)) none (some 1)))=HF at sF eF n4 ⊢
   rw[FN,Js]at eF
   have LF:=LE.same sF
   have t3:=c6.trans (aa.tm sF)
   have b2:=l7.trans (aV.of_same sF)
   have i5:=sF _ _ k8
   have a4:=k9.mono (aa.tm sF)
   have a':=k'.mono (aa.tm sF)
   have c':=sF _ _ e9
   obtain⟨p3,v3,r3,eu,h7,h0⟩:=qU w3.1 a4
   subst eu
   cases ht:eZ S.steps m N p w with
   |none=>
    rw[ht]at eF
    have eF:HF bA=some (.lst []):=eF
    rw[rm ht]at LF
    rw[XN ht]at w8
    have t8:=tt
    rw[XN ht,Ly.tot_app]at t8
    have pl:=ql w3.1 (pn++[(k:Int)])
    have z2:(#[[],[],bQ (pn++[(k:Int)]) w,[]]:Ly).tot=w.size+1:=by show 0+0+(bQ (pn++[(k:Int)]) w).length+0=_;rw[pl];omega
    rw[z2]at t8
    refine aj λF1 v=>dq λJ jj=>#[_,Z,bA,Z,#[_,aJ.of eF],jj _ _ ?_]
    clear jj
    refine qv (K:=K) (a:=bA) (xs:=[]) (λ_ σ H'=>σ=[some (.ref c),some (.ref b),some (.ref oa),some (.ref na),some (.ref z),some (.int (m:Int)),some (.int k),some (.ref p'),some (.ref r9),o9,some (.ref sl),some (.ref l2),O,C,some (.ref bA)]/\H'=HF) #[Z,Z] (λi σ H' _ h=>by rw[h.2];exact aJ.of eF) (λE2 r4 i x σ H' G=>absurd G Po) (λσ H' h=>v _ _ ?_)
    clear v
    obtain⟨rfl,rfl⟩:=h
    refine iS λG1 yT yF=>#[_,Z,eY,λl0 n0=>#[bA,l0,_,Z,Z,am eF n0,jc,_,Z,?_]]
    have sG:aa H' (ah H' l0 (.lst [])):=je n0
    generalize ah H' l0 (.lst [])=HG at sG ⊢
    refine cq Z (jp (sG _ _ i5) dw #[p3,_,_,_,Z,Z,aA.of (sG _ _ h7),dS,Z,_,Z,?_])
    have LG:=LF.same sG
    rw[qt]
    by_cases hv:v3="call"
    ·obtain⟨g,L,sw,aw,rfl⟩:=h0.mp hv
     rw[decide_eq_true hv]
     obtain⟨x1,c1,g4,e4,s3,e3,j1,j2,j3,j4,j5⟩:=a4.mono (aa.tm sG)
     cases e3
     obtain⟨xs,G,lx⟩:=LG.fv
     have l4:xs.length=y4.f.length+1:=by rw[lx.len];exact List.length_append
     have ty:y4.f.length<=y4.tot:=by unfold Ly.tot;omega
     have d0:sw.dep+1<=s1.dep:=d0
     have o3:sw.ok true:=w3.1
     have l8:(Sk.cl g L sw aw).size=sw.size:=rfl
     refine yT _ (jp LG.ins dw #[.inl #[Z,_,aJ.of G],jp (sG _ _ i5) dw #[p3,_,_,_,Z,Z,aA.of j1,gX,_,Z,r9,pn++[(k:Int)],g,L,sw,aw,.ref c1,Z,sG _ _ c',by rw[List.length_append];show _+1+_<=_;omega,#[c1,g4,e4,s3,Z,j2,j3,j4,j5],o3,Pn,Pn,λl B HI nl hl hz sI=>?_]])
     have lz:=hz.len
     rw[List.length_map,kP o3]at lz
     obtain⟨L7,b7⟩:=(LG.same sI).setF (sI _ _ G) hz
     refine#[fA,l,_,_,Z,Z,sI _ _ G,hl,Pn,fE _ _ #[_,_,_,_,_,_,_,_,_,m,r1,_,Z,L7,?_,w3.2,d2,Pn,w6.2.2,w7,?_,?_]]
     ·exact(a'.mono (aa.tm (sG.trans sI))).mono ((LG.same sI).tm b7)
     ·rw[<- w8,Ly.app_assoc,Ly.app_assoc,<- Ly.app_assoc _ _ (me r1 po S.steps m pn (k+1))]
      rfl
     ·exact(b2.trans (aV.of_same (sG.trans sI))).trans b7
    ·rw[decide_eq_false hv]
     refine yF _ (fE _ _ #[_,_,_,_,_,_,_,_,_,m,r1,_,Z,LG,a'.mono (aa.tm sG),w3.2,d2,Pn,w6.2.2,w7,?_,b2.trans (aV.of_same sG)])
     have e0:bQ (pn++[(k:Int)]) w=[pn++[(k:Int)]]:=by
      have o3:=w3.1
      cases w with
      |nil |st _ _ _ _=>exact o3.elim
      |cl f is s a=>exact absurd (h0.mpr #[f,is,s,a,Z]) hv
      |_=>rfl
     rw[e0]at w8
     rw[Ly.app_assoc]
     exact w8
   |some j=>
    rw[ht]at eF
    have eF:HF bA=some (.lst [V.int (j:Int)]):=eF
    obtain⟨k0,o,X,r'⟩:=kW ht
    have u0:=(List.getElem?_eq_some_iff.mp X).1
    have bs:=rj (r:=r1) (po:=po) (pn:=pn) (k:=k) ht X
    rw[<- rn (po:=po) (pn:=pn) (k:=k) ht X]at bs
    have t8:=tt
    rw[bs,Ly.tot_app,Ly.tot_app]at t8
    rw[bs]at w8
    have n3:bA≠kA/\bA≠tA/\bA≠fA/\bA≠dA:=(LE.same (je c9)).new n4
    refine aj λF1 v=>dq λJ jj=>#[_,Z,bA,Z,#[_,aJ.of eF],jj _ _ ?_]
    clear jj
    refine qv (K:=K) (a:=bA) (xs:=[V.int (j:Int)]) (λi σ H'=>(i=0/\σ=[some (.ref c),some (.ref b),some (.ref oa),some (.ref na),some (.ref z),some (.int (m:Int)),some (.int k),some (.ref p'),some (.ref r9),o9,some (.ref sl),some (.ref l2),O,C,some (.ref bA)]/\H'=HF)∨(i=1/\σ=[some (.ref c),some (.ref b),some (.ref oa),some (.ref na),some (.ref z),some (.int ((j+1:Nat):Int)),some (.int k),some (.ref p'),some (.ref r9),some (.int (j:Int)),some (.ref sl),some (.ref l2),O,C,some (.ref bA)]/\Lt H' z kA tA fA dA ((y4.app (wC S.steps m N p w po pn k)).app (me w (po++[(j:Int)]) (iO o.2.2) 0 (pn++[(k:Int)]) 0))/\aV kA tA fA dA HF H')) (.inl #[Z,Z,Z]) (λi σ H' _ h=>?_) ?_ (λσ H' h=>v _ _ ?_)
    ·rcases h with ⟨_,_,rfl⟩ | ⟨_,_,_,b8⟩
     ·exact aJ.of eF
     ·exact aJ.of (b8.kept n3 eF)
    ·clear v
     intro E2 r4 i x σ H' G f4 Gq kq h
     rcases h with ⟨rfl,rfl,rfl⟩ | ⟨rfl,_⟩
     ·cases G
      refine kq ?_
      clear kq
      show eP (fo _ _) _ E2 [some (.ref c),some (.ref b),some (.ref oa),some (.ref na),some (.ref z),some (.int (m:Int)),some (.int k),some (.ref p'),some (.ref r9),some (.int (j:Int)),some (.ref sl),some (.ref l2),O,C,some (.ref bA)] H'
      refine aj λF2 f2=>#[_,Z,_,_,Z,Z,f2 _ _ ?_]
      clear f2
      have ej:(j:Int)+1=((j+1:Nat):Int):=by omega
      show gD _ _ _ E2 [some (.ref c),some (.ref b),some (.ref oa),some (.ref na),some (.ref z),some (.int ((j:Int)+1)),some (.int k),some (.ref p'),some (.ref r9),some (.int (j:Int)),some (.ref sl),some (.ref l2),O,C,some (.ref bA)] H'
      rw[ej]
      refine iS λG1 yT yF=>(jp i5 dw #[p3,_,_,_,Z,Z,aA.of h7,dS,Z,_,Z,?_])
      rw[qt]
      by_cases hv:v3="call"
      ·obtain⟨g,L,sw,aw,rfl⟩:=h0.mp hv
       rw[decide_eq_true hv]
       obtain⟨q,hq,uq,q1,q2,q3,q4,q5,q6,q7⟩:=Xe o1 (h4.mono t3) X
       obtain⟨s6,ao,e8⟩:=Yk (s:=.nil) o1 D0 ht X q5 w6.1 g L sw aw Z
       obtain⟨no,h5,wo⟩:=o
       have e8:wo= .cl g L s6 ao:=e8
       subst e8
       obtain⟨x5,c5,g6,e',c3,rfl,y1,y2,y3,y0,y5⟩:=q4
       obtain⟨x1,c1,g4,e4,s3,e3,j1,j2,j3,j4,j5⟩:=a4
       cases e3
       have d0:sw.dep+1<=s1.dep:=d0
       have q6:s6.dep+1<=S.dep:=q6
       have q7:s6.size+1<=S.size:=q7
       have l8:(Sk.cl g L sw aw).size=sw.size:=rfl
       refine yT _ (jp (t3 _ _ h1) dw #[_,Z,e0,_,_,_,Z,Z,aA.of (t3 _ _ h3),jH q1,q,_,_,_,Z,Z,aA.of q2,dw,x5,_,_,_,Z,Z,aA.of y1,gX,jp i5 dw #[p3,_,_,_,Z,Z,aA.of j1,gX,_,Z,_,Z,h8,λt nt=>#[oa,t,_,_,Z,Z,am (t3 _ _ b6) nt,jc,by rw[List.length_map];show _+1<=_;omega,λM H0 T s7=>?_]]])
       have u:aa H' H0:=(je (o:=.tup [.int (j:Int)]) nt).trans s7
       have T:H0 M=some (.tup (po.map V.int++[.int (j:Int)])):=T
       rw[i6]at T
       have l9:Dt D g s6:=(Kb D0 X).2
       have l':Dt D g sw:=w6.2.1
       refine#[_,Z,_,Z,D,z,kA,tA,fA,dA,M,c5,r9,c1,po++[(j:Int)],pn++[(k:Int)],g,L,L,s6,sw,ao,aw,_,Z,LF.same u,T,u _ _ c',by rw[List.length_append];show _+1+_<=_;omega,by rw[List.length_append];show _+1+_<=_;omega,#[c5,g6,e',c3,Z,u _ _ y2,u _ _ y3,u _ _ y0,y5.mono (aa.tm u)],q5,Pn,Pn,#[c1,g4,e4,s3,Z,u _ _ j2,u _ _ j3,u _ _ j4,j5.mono (aa.tm u)],w3.1,Pn,Pn,Pn,l9,l',?_,λH1 Y m1=>f4 _ _ (.inr #[Z,Z,Y,(aV.of_same u).trans m1])]
       have u1:y4.tot+((wC S.steps m N p (.cl g L sw aw) po pn k).tot+((me sw (po++[(j:Int)]) s6.steps 0 (pn++[(k:Int)]) 0).tot+(me r1 po S.steps (j+1) pn (k+1)).tot))<=100000:=t8
       rw[Ly.tot_app,Ly.tot_app]
       omega
      ·rw[decide_eq_false hv]
       refine yF _ (f4 _ _ (.inr #[Z,Z,?_,λ_ _ _ _ _ _ e=>e]))
       rw[rh w3.1 (λf is s a e=>hv (h0.mpr #[f,is,s,a,e])),Ly.app_nil]
       exact LF
     ·exact absurd G Po
    ·rcases h with ⟨z0,_⟩ | ⟨_,rfl,L8,b8⟩
     ·exact absurd z0 Po
     refine iS λG1 yT yF=>#[_,Z,eY,λl0 n0=>#[bA,l0,_,Z,Z,am (b8.kept n3 eF) n0,jc,_,Z,aT Z (yF _ (fE _ _ #[_,_,_,_,_,_,_,_,_,j+1,r1,_,Z,L8.same (je n0),?_,w3.2,d2,Pn,w6.2.2,Pn,?_,?_]))]]
     ·exact(a'.mono (LF.tm b8)).mono (aa.tm (je n0))
     ·rw[Ly.app_assoc,Ly.app_assoc]
      exact w8
     ·exact(b2.trans b8).trans (aV.of_same (je n0))
 ·obtain⟨o6,o7,o8,o9,o4,o5,O,C,o2,m,r2,y4,rfl,L4,w2,w3,w4,w5,w6,w7,w8,b4⟩:=h
  rw[List.drop_length]at w2
  cases r2 with
  |st n hs w r=>obtain⟨_,_,_,_,z,_⟩:=w2;cases z
  |ask _ |rd _ _ |wr _ _ |cl _ _ _ _=>exact w3.elim
  |nil=>
   have w8:y4.app .nil=_:=w8
   rw[Ly.app_nil]at w8
   exact q Hx (w8▸L4) b4
noncomputable def EC(H:Hp)(p:aG):Value->Bool
 | .ref a=>match H a with
  |some (.tup x)=>decide (x=p.map V.int)
  |_=>false
 |_=>false
theorem sO{p q:aG}:p.map V.int=q.map V.int↔p=q:=#[λh=>(List.map_inj_right λa b e=>by injection e).mp h,λh=>by rw[h]]
theorem rQ{H:Hp}{a:Addr}{p q:aG}(h:H a=some (.tup (q.map V.int))):EC H p (.ref a)=decide (q=p):=by
 show(match H a with |some (.tup x)=>decide (x=p.map V.int) |_=>false)=_
 rw[h]
 dsimp only
 by_cases e:q=p
 ·rw[decide_eq_true e,decide_eq_true (by rw[e])]
 ·rw[decide_eq_false e,decide_eq_false λz=>e (sO.mp z)]
theorem Ad{p q:aG}:fq (ay (q.map ap)) (ay (p.map ap))=decide (q=p):=by
 by_cases e:q=p
 ·rw[decide_eq_true e,e,zo Z]
 ·rw[decide_eq_false e,kX]
  intro z
  have z:Tr.tp (au (q.map ap))= .tp (au (p.map ap)):=z
  injection z with z
  exact e (qm z)
theorem ZE{H:Hp}{p:aG}:∀{b:List aG} {X:List V} {u:List Value},bh gG H b X->aB X u->u.any (EC H p)=decide (p∈b)
 | [],_,_,h,r=>by
  have h:_=[]:=h
  subst h
  cases r
  simp
 |q::b,_,_,Q,r=>by
  obtain⟨x,y,e,⟨a,E,c⟩,h⟩:=Q
  subst e
  subst E
  cases r with
  |cons R d=>
   cases R
   rw[List.any_cons,ZE h d,rQ c]
   by_cases e:q=p
   ·subst e;simp
   ·rw[decide_eq_false e]
    simp [Ne.symm e]
theorem tj{H:Hp}:∀{p:List aG} {X:List V} {U:List Value},bh gG H p X->aB X U->∀u∈U,∃(a:Addr) (q:aG),u= .ref a/\H a=some (.tup (q.map V.int))
 | [],_,_,h,r,u,hu=>by
  have h:_=[]:=h
  subst h
  cases r
  cases hu
 |q::p,_,_,Q,r,u,hu=>by
  obtain⟨x,y,e,⟨a,E,b⟩,h⟩:=Q
  subst e
  subst E
  cases r with
  |cons R c=>
   cases R
   rcases List.mem_cons.mp hu with rfl |hu
   ·exact#[a,q,Z,b]
   ·exact tj h c u hu
inductive JH(x y:V)(H:Hp)(Q:VK):Prop
 |mk(a l:Addr)(p:aG)(b:List aG)(c:List V)(_:x= .ref a)(_:y= .ref l)(_:H a=some (.tup (p.map V.int)))(_:H l=some (.lst c))(_:bh gG H b c)(_:Q (.bl (decide (p∉b))) H)
theorem pJ{X:Cx}(j:X.A.in1.units+10 < cLine):eU X (compareOp .NotIn) JH:=by
 intro f s z H x y v u Q I R k h
 obtain⟨a,l,p,d,B,rfl,rfl,m,n,L,q⟩:=h
 cases R
 cases k
 obtain⟨i,r,o,C⟩:=I.list (aJ.of (K:=X.K) n)
 refine PySem.SeqAt.notIn_listAt (EC H p) o.isList (λw t=>?_) #[.bl _,H,I,Z,?_]
 ·obtain⟨b,c,rfl,g⟩:=tj L r w (by simpa using t)
  rw[rQ g,<- Ad]
  exact QJ I 10 (ay (c.map ap)) (by show(au (c.map ap)).dep+1<=10;rw[ze];decide) j (show(ay (c.map ap)).In from zj c) Z (u:=ay (p.map ap)) (show(ay (p.map ap)).In from zj p) Z (j9 g) (j9 m) _ _ Z Z
 ·rw[show i.toArray.any (EC H p)=i.any (EC H p) by simp,ZE L r]
  have e:(!decide (p∈d))=decide (p∉d):=by by_cases h:p∈d<;>simp [h]
  rw[e]
  exact q
theorem GZ{A:Around}{k:Nat}(h:bq k A):A.in1.units+10 < cLine:=by have:=h.un;show A.units+1+10 < cLine;omega
theorem pj(L l:List aG)(p:aG):d9 L (l++[p])=d9 L l++if p∈L then [] else [p]:=by
 rw[Ku,Qy]
 split<;>rfl
inductive oB(k:List V)(H:Hp)(Q:VK)(a:XK):Prop
 |mk(D:DF)(c b:Addr)(f:Str)(g h:List Int)(i j:Sk)(d e:Int)(_:k=[.ref c,.ref b])(_:mf H f g i d (.ref c))(_:i.ok true)(_:i.dep<=15)(_:i.size<=60)(_:mf H f h j e (.ref b))(_:j.ok true)(_:j.dep<=15)(_:j.size<=60)(_:Dt D f i)(_:Dt D f j)(_:∀(x:V) (kA tA fA dA:Addr) (H':Hp),DX H' x kA tA fA dA (dE j [] i.steps 0 [] 0)->H kA=none->H tA=none->H fA=none->H dA=none->aa H H'->Q x H')
theorem qV:∀{b:Bool} {s:Sk},s.ok b->∀(p:aG) (os:List aM) (m:Nat),(gZ s p os m).length<=s.size
 |true,.nil,_,_,_,_=>Nat.zero_le _
 |true,.st n H w r,o,p,os,m=>by
  show _<=w.size+r.size+1
  cases h:eZ os m n H w with
  |none=>
   rw[Ja h]
   have:=qV o.2 p os m
   omega
  |some j=>
   obtain⟨a,x,c,_⟩:=kW h
   rw[Jb h c,List.length_append,List.length_append]
   have d:=qV o.1 (p++[(j:Int)]) (iO x.2.2) 0
   have e:=qV o.2 p os (j+1)
   have f:(if aO n H x=true then [p++[(j:Int)]] else ([]:List aG)).length<=1:=by
    split
    ·exact Nat.le_refl 1
    ·exact Nat.zero_le 1
   omega
 |false,.cl _ _ s _,o,p,os,m=>qV (b:=true) (s:=s) o p os m
 |false,.ask _,_,_,_,_=>Nat.zero_le _
 |false,.rd _ _,_,_,_,_=>Nat.zero_le _
 |false,.wr _ _,_,_,_,_=>Nat.zero_le _
theorem BV{b:Bool}{s:Sk}(o:s.ok b)(c:aG)(os:List aM)(m:Nat)(p:aG)(k:Nat):(dE s c os m p k).f.length<=s.size:=by
 induction s generalizing b c os m p k with
 |nil |ask _ |rd _ _ |wr _ _=>exact Nat.zero_le _
 |cl f q s a d=>cases b with
  |true=>exact o.elim
  |false=>exact d (b:=true) o c os m p k
 |st n H w r I i=>
  cases b with
  |false=>exact o.elim
  |true=>
  show _<=w.size+r.size+1
  cases h:eZ os m n H w with
  |none=>
   rw[zO h]
   have e:=i (b:=true) o.2 c os m p (k+1)
   show(bQ (p++[(k:Int)]) w++_).length<=_
   rw[List.length_append,ql o.1]
   omega
  |some j=>
   obtain⟨g,x,l,_⟩:=kW h
   rw[zP h l]
   have e:=i (b:=true) o.2 c os (j+1) p (k+1)
   have t:=I (b:=false) o.1 (c++[(j:Int)]) (iO x.2.2) 0 (p++[(k:Int)]) 0
   have u:(one (c++[(j:Int)]) x (p++[(k:Int)]) n H w).f.length<=1:=by
    unfold one
    split
    ·split<;>exact Nat.zero_le 1
    ·exact Nat.le_refl 1
   show(([]++((one _ _ _ _ _ _).f++(dE _ _ _ _ _ _).f))++(dE _ _ _ _ _ _).f).length<=_
   rw[List.nil_append,List.length_append,List.length_append]
   omega
theorem Cd{f:Addr}{F:FuncData}{k:Nat}:af P w K mg base aE k f F z14z (gO 0):=by
 have n:∀{v H Q E},¬gO 0 v H Q E:=by
  rintro v H Q E ⟨D,z,d,t,e,g,O,c,N,b,p,i,f,I,j,S,l,m,q,y,_,_,_,_,_,_,_,_,_,_,_,_,z,_⟩
  omega
 exact#[λv H Q E h=>(n h).elim,λA o s H a u v Q E r x B C h=>(n h).elim]
theorem Em{f h i:Addr}{F a b:FuncData}(FB:aQ K "_law_beside" "_law_beside" pO f F)(B:aC K F z14z [])(M:mg "_law_beside"=some (.ref f))(c:Cl P w K mg base 1 h a ["_law_step"] mJ "_law_found")(C:Cl P w K mg base 18 i b z12z (ff 17) "_law_all_in")(m:mg "enumerate"=none)(d:mg "len"=none)(e:mg "range"=none)(g:mg "int"=none):∀n,af P w K mg base aE (n+20) f F z14z (gO n)
 |0=>Cd
 |n+1=>Cp FB c C #[(Em FB B M c C m d e g n),B,FB.kp,M] m d e g
theorem u5:ai ["_law_old","_law_new","_law_found_here","_law_gone"] ["_law_old","_law_new"] (ae yD):=bK
noncomputable def pS:Scope:=#[.function,[(".0",.local),("_law_path",.local),("_law_found_here",.free)],false,false,[]]
theorem B9:(["_law_path","_law_found_here"]:List Str).Nodup:=by decide+kernel
theorem Bw:bn ["_law_old","_law_new","_law_found_here","_law_gone"] (ae yD) pS ["_law_path","_law_found_here"] 1 [2]:=pY
theorem CD{f:Addr}{fd:FuncData}{fB fW:Addr}{f0 f2:FuncData}(F:aQ K "_law_laid" "_law_laid" yD f fd)(cB:Cl P w K mg base 36 fB f0 z14z (gO 16) "_law_beside")(cW:Cl P w K mg base 18 fW f2 z12z (ff 17) "_law_all_in")(m0:mg "sorted"=none):af P w K mg base aE 37 f fd ["_law_old","_law_new"] oB:=by
 refine F.ok u5 ?_ λc0 A o1 s H vs Q E hr h=>?_
 ·rintro _ _ _ _ ⟨D,c,b,f,is,js,j,S,a0,a1,rfl,_⟩
  rfl
 obtain⟨D,c,b,f,is,js,j,S,a0,a1,rfl,Y,O,h4,a4,h5,l,h6,a5,D0,D1,q⟩:=h
 refine#[_,(jd (kO (i:=2) u5.nd Z (Or.inr Z) (jl (ja (jJ jb) (ja (jJ jb) (ja (jJ jb) (ja (jJ jb) jb)))))) (jd (jB (cB.e hr.m (ja (pv 0) (ja (pv 1) (ja (jl jb) (ja (jl jb) (ja (pv 2) jb))))))) (jd (@qr _ _ _ _ _ _ _ _ _ _ (3) (["_law_path","_law_found_here"]) (1) ([2]) _ _ _ _ u5.nd Z (Or.inl Z) Z (zh (cW.e hr.m (ja (pv 0) (ja (jl jb) jb)))) Bw (λ_ _ _ _ _=>(jw (i:=0) B9 Z (Or.inl Z))) (λ_ _ _ _ _=>(@Kh _ _ _ (jC (pJ (GZ hr)) (pv 0) (jv (r:=bZ K) (kH (K:=K) Z) (pv 1) jg (λ_ _=>Z)) Z))) (λ_ _ _ _ _=>(pv 0)) Pq (by first |exact .inl Z |exact .inr Z) (by intro _;rfl)) (jf (jm (jl (ja (ju (pv 2)) (ja (ju (pv 2)) (ja (jO Q9 Z m0 boot_sorted (ja (ju (pv 2)) jb)) (ja (pv 3) jb)))))))))),?_]
 have b1:=aH
 refine aj λF1 M=>#[eY,λn W=>#[eY,λT U=>#[eY,λu I=>#[eY,λy N=>#[Aa,λz nz=>M _ _ ?_]]]]]
 clear M
 have tk:T≠n:=λz=>by rw[z,jc]at U;cases U
 have ft:u≠T:=λz=>by rw[z,jc]at I;cases I
 have fk:u≠n:=λz=>by rw[z,jh tk.symm,jc]at I;cases I
 have df:y≠u:=λz=>by rw[z,jc]at N;cases N
 have dt:y≠T:=λz=>by rw[z,jh ft.symm,jc]at N;cases N
 have dk:y≠n:=λz=>by rw[z,jh fk.symm,jh tk.symm,jc]at N;cases N
 have n0:=kI (je (o:=.lst []) W) U
 have n5:=kI ((je (o:=.lst []) W).trans (je (o:=.lst []) U)) I
 have n6:=kI (((je (o:=.lst []) W).trans (je (o:=.lst []) U)).trans (je (o:=.lst []) I)) N
 have s1:aa H (ah (ah (ah (ah (ah H n (.lst [])) T (.lst [])) u (.lst [])) y (.lst [])) z (.tup [.ref n,.ref T,.ref u,.ref y])):=((((je W).trans (je U)).trans (je I)).trans (je N)).trans (je nz)
 have L1:Lt (ah (ah (ah (ah (ah H n (.lst [])) T (.lst [])) u (.lst [])) y (.lst [])) z (.tup [.ref n,.ref T,.ref u,.ref y])) z n T u y .nil:=#[jc,#[[],am (am (am (am jc U) I) N) nz,Z],#[[],am (am (am jc I) N) nz,Z],#[[],am (am jc N) nz,Z],#[[],am jc nz,Z],#[tk.symm,fk.symm,dk.symm,ft.symm,dt.symm,df.symm],λ_ z=>nomatch z]
 generalize ah (ah (ah (ah (ah H n (.lst [])) T (.lst [])) u (.lst [])) y (.lst [])) z (.tup [.ref n,.ref T,.ref u,.ref y])=H1 at s1 L1 ⊢
 have t0:=qu l [] j.steps 0 [] 0 λo ho=>by
  obtain⟨i,hi⟩:=List.getElem?_of_mem ho
  exact Kl O hi
 rw[List.drop_zero,<- zw O,kP O]at t0
 have l3:=qV l [] j.steps 0
 have b0:(me S [] j.steps 0 [] 0).tot<=1000:=by
  unfold me Ly.tot
  unfold Ly.tot at t0
  dsimp only
  omega
 refine aj λF1 M=>#[_,Z,_,Z,eY,λpa n'=>#[eY,λpb n1=>#[_,Z,?_]]]
 have s2:aa H1 (ah (ah H1 pa (.tup [])) pb (.tup [])):=(je n').trans (je n1)
 have S2:=s1.trans s2
 refine#[D,z,n,T,u,y,pa,c,pb,b,[],[],f,is,js,j,S,a0,a1,.nil,Z,L1.same s2,am jc n1,jc,Pm,Pm,zE Y (aa.tm S2),O,h4,Pn,zE h5 (aa.tm S2),l,Pn,h6,Pn,D0,D1,by rw[Ly.nil_app];omega,λH3 L3 b3=>M _ _ ?_]
 clear M
 rw[Ly.nil_app]at L3
 have S3:aa H H3:=λx o e=>b3 _ _ (ji e W) (ji e n0) (ji e n5) (ji e n6) (S2 _ _ e)
 obtain⟨xd,h7,l0⟩:=L3.dv
 refine aj λF1 M=>#[_,Z,eY,λpe a2=>?_]
 have s4:aa H3 (ah H3 pe (.tup [])):=je a2
 refine#[pe,[],f,is,j,a0,.ref c,Z,jc,Pm,zE Y (aa.tm (S3.trans s4)),O,Pn,Pn,λal xa H5 a' h0 V s5=>?_]
 have S5:=s4.trans s5
 have l1:=V.len
 rw[List.length_map,kP O]at l1
 refine#[al,Z,#[_,aJ.of h0],?_]
 refine KG (K:=K) (a:=al) (xs:=xa) Pn (λi G Hx=>Hx=H5/\G.length<=i/\bh gG H5 (d9 (gZ S [] j.steps 0) (((j.ws [] 0).map (·.1)).take i)) G) #[Z,Nat.le_refl 0,Z] (λi G Hx h=>#[by rw[h.1];exact aJ.of h0,h.2.1]) ?_ ?_
 ·intro i x G Hx hx h
  obtain⟨rfl,lz,B⟩:=h
  obtain⟨p,hp,a,rfl,ha⟩:=V.at hx
  have et:((j.ws [] 0).map (·.1)).take (i+1)=((j.ws [] 0).map (·.1)).take i++[p]:=by rw[List.take_add_one,hp];rfl
  refine#[_,Z,jp (S5 _ _ L3.ins) Gg #[a,y,p,_,xd,Z,Z,ha,S5 _ _ h7,l0.mono bX (aa.tm S5),_,Z,?_]]
  rw[et,pj]
  show if decide (p∉gZ S [] j.steps 0)=true then _ else _
  by_cases hm:p∈gZ S [] j.steps 0
  ·rw[decide_eq_false (λz=>z hm),if_pos hm,List.append_nil]
   exact sQ #[Z,Pn,B]
  ·rw[decide_eq_true hm,if_neg hm]
   exact xE #[_,Z,Z,by rw[List.length_append];show _+1<=_;omega,bh.app (bh.one #[a,Z,ha]) B]
 intro G H6 h R n2
 obtain⟨rfl,_,B⟩:=h
 have ew:d9 (gZ S [] j.steps 0) (((j.ws [] 0).map (·.1)).take xa.length)=(dE S [] j.steps 0 [] 0).d:=by
  have lw:=V.len
  rw[lw,List.take_length,zw O]
  have z:=Xc (D:=D) (b:=true) (s:=S) l (f:=f) (so:=j) (po:=[]) (pn:=[]) (m:=0) (k:=0) (L:=gZ S [] j.steps 0) O D0 D1 (λg is t a e=>by
   have z:=l
   rw[e]at z
   exact z.elim) (λz=>nomatch z) (λp _=>Iff.rfl)
  rw[z,List.drop_zero]
 rw[ew]at B
 refine M _ _ ?_
 clear M
 have s7:aa H6 (ah H6 R (.lst G)):=je n2
 have e7:ah H6 R (.lst G) R=some (.lst G):=jc
 generalize ah H6 R (.lst G)=H7 at s7 e7 ⊢
 have S7:=S5.trans s7
 have X:=L3.same S7
 obtain⟨xf,h',C⟩:=X.fv
 have C:bh gG H7 (dE S [] j.steps 0 [] 0).f xf:=C
 have l2:=C.len
 have l4:=BV l [] j.steps 0 [] 0
 obtain⟨sr,sg⟩:=Xd l [] j.steps 0 [] 0
 refine(jp X.ins dS (jp X.ins gX (jp X.ins dw #[u,xf,(dE S [] j.steps 0 [] 0).f,Z,aJ.of h',l2,Pn,λi v p h1 h2=>?_,λi p q h1 h2=>y6 sr h1 h2,λsf J=>#[_,Z,Aa,λtp n4=>?_]])))
 ·obtain⟨p',h3,a3⟩:=C.at h1
  rw[h2]at h3
  cases h3
  exact#[a3,Ft (sg p (List.mem_of_getElem? h2))]
 have s8:aa H7 (ah (ah H7 sf (.lst xf)) tp (.tup [.ref n,.ref T,.ref sf,.ref R])):=(je J).trans (je n4)
 have L8:=X.same s8
 have n7:=X.new J
 have g0:H3 R=none:=kI S5 n2
 have n3:=L3.new g0
 have gs:sf≠R:=(ji e7 J).symm
 obtain⟨xk,hk,lk⟩:=L8.kv
 obtain⟨xt,ht,lt⟩:=L8.tv
 have t1:=aa.tm s8
 refine q _ n T sf R _ #[tp,Z,jc,#[xk,hk,lk],#[xt,ht,lt],#[xf,am jc n4,C.mono bX t1],#[G,s8 _ _ e7,(B.mono bX (aa.tm s7)).mono bX t1],#[tk.symm,n7.1.symm,n3.1.symm,n7.2.1.symm,n3.2.1.symm,gs],λ_ z=>nomatch z] W n0 (kI (S3.trans S7) J) (kI S3 g0) ((S3.trans S7).trans s8)
noncomputable abbrev Ds:Stmt:=bM 75
structure Ei(K:Frag):Prop where
 tt:kitOne K (.type "tuple") (.type "tuple")=some true
 ll:kitOne K (.type "list") (.type "list")=some true
def D4(H:Hp)(x y:V):Prop:=∃t:Tr,t.dep<=5/\t.In/\t.isL=false/\aP H t x []/\aP H t y []
theorem Fx{H:Hp}{x y:V}{p:aG}(h:gG H x p)(g:gG H y p):D4 H x y:=by
 obtain⟨a,rfl,h⟩:=h
 obtain⟨b,rfl,g⟩:=g
 exact#[ay (p.map ap),(by show(au (p.map ap)).dep+1<=5;rw[ze];decide),zj p,Z,j9 h,j9 g]
theorem Fv{H:Hp}{x y:V}{p:D3}(h:md H x p)(g:md H y p):D4 H x y:=by
 obtain⟨q,a,b,rfl,h,c,d⟩:=h
 obtain⟨Q,A,B,rfl,g,G,e⟩:=g
 refine#[ay [ay (p.1.map ap),ay (p.2.map ap)],?_,#[zj p.1,zj p.2,trivial],Z,jA h (jk Z (j9 c) (jk Z (j9 d) Z)),jA g (jk Z (j9 G) (jk Z (j9 e) Z))]
 show max ((au (p.1.map ap)).dep+1) (max ((au (p.2.map ap)).dep+1) 0)+1<=5
 rw[ze,ze]
 decide
inductive XQ(x y:V)(H:Hp)(Q:VK):Prop
 |mk(a b:Addr)(c d:List V)(_:x= .ref a)(_:y= .ref b)(_:H a=some (.lst c))(_:H b=some (.lst d))(_:c.length=d.length)(_:∀(j:Nat) (u v:V),c[j]?=some u->d[j]?=some v->D4 H u v)(_:Q (.bl false) H)
theorem CZ{X:Cx}(hu:X.A.units+10 < cLine):eU X (compareOp .NotEq) XQ:=by
 intro p s σ H x y v u Q I g k h
 obtain⟨a,b,l,Y,rfl,rfl,m,n,hl,o,q⟩:=h
 cases g
 cases k
 obtain⟨i,r,B,_⟩:=I.list (aJ.of (K:=X.K) m)
 obtain⟨C,R,D,_⟩:=I.list (aJ.of (K:=X.K) n)
 have la:=r.length
 have lb:=R.length
 refine PySem.SeqAt.RcNeAt.lists (e:=λ_=>true) B.isList D.isList (by simp;omega) Pn (λj E h2=>?_) X.prog X.w _ _ ?_
 ·have d:j < l.length:=by simp at E;omega
  have c:j < Y.length:=by omega
  obtain⟨U,F,G⟩:=r.get (List.getElem?_eq_getElem d)
  obtain⟨J,L,M⟩:=R.get (List.getElem?_eq_getElem c)
  have N:i.toArray[j]=U:=by
   obtain⟨_,e⟩:=List.getElem?_eq_some_iff.mp F
   simpa using e
  have O:C.toArray[j]=J:=by
   obtain⟨_,e⟩:=List.getElem?_eq_some_iff.mp L
   simpa using e
  rw[N,O]
  obtain⟨t,S,T,f,V,W⟩:=o j _ _ (List.getElem?_eq_getElem d) (List.getElem?_eq_getElem c)
  have z:=QJ I 5 t (A:=X.A.in1) S (by show X.A.units+1+5 < cLine;omega) T f T f V W _ _ G M
  rw[zo Z]at z
  exact z
 ·have e:((List.range i.toArray.size).all λ_=>true)=true:=by simp
  rw[e]
  exact#[.bl false,H,I,Z,q]
theorem bh.sm{a:Type}{R:RA a}(b:∀{H x y w},R H x w->R H y w->D4 H x y){H:Hp}{W:List a}{X Y:List V}(h:bh R H W X)(g:bh R H W Y):X.length=Y.length/\∀(j:Nat) (u v:V),X[j]?=some u->Y[j]?=some v->D4 H u v:=by
 refine#[by rw[h.len,g.len],λj u v c d=>?_]
 obtain⟨w,E,r⟩:=h.at c
 obtain⟨i,e,f⟩:=g.at d
 rw[E]at e
 cases e
 exact b r f
theorem EL{H:Hp}{z e k t f d c tB F D:Addr}{y:Ly}(h:Lt H z k t f d y)(g:Lt H e c tB F D y):∀i:Nat,i < 4->∃(a b:Addr) (x Y:List V),fz [V.ref k,.ref t,.ref f,.ref d] ((0:Int)+i)=some (.ref a)/\fz [V.ref c,.ref tB,.ref F,.ref D] ((0:Int)+i)=some (.ref b)/\H a=some (.lst x)/\H b=some (.lst Y)/\x.length=Y.length/\∀(j:Nat) (u v:V),x[j]?=some u->Y[j]?=some v->D4 H u v:=by
 obtain⟨_,A,l⟩:=h.kv
 obtain⟨_,B,m⟩:=h.tv
 obtain⟨_,C,n⟩:=h.fv
 obtain⟨_,o,p⟩:=h.dv
 obtain⟨_,q,r⟩:=g.kv
 obtain⟨_,s,E⟩:=g.tv
 obtain⟨_,G,I⟩:=g.fv
 obtain⟨_,J,L⟩:=g.dv
 intro i M
 match i,M with
 |0,_=>exact#[_,_,_,_,Z,Z,A,q,l.sm Fv r]
 |1,_=>exact#[_,_,_,_,Z,Z,B,s,m.sm Fv E]
 |2,_=>exact#[_,_,_,_,Z,Z,C,G,n.sm Fx I]
 |3,_=>exact#[_,_,_,_,Z,Z,o,J,p.sm Fx L]
inductive oG(j:List V)(H:Hp)(Q:VK)(a:XK):Prop
 |mk(x y:V)(f h d b g i e c:Addr)(l:Ly)(_:j=[x,y])(_:DX H x f h d b l)(_:DX H y g i e c l)(_:Q (.bl true) H)
theorem Iq{A:Around}{k:Nat}(h:bq k A):A.units+10 < cLine:=by have:=h.un;omega
theorem A5:ai ["_law_told","_law_due","_law_k"] ["_law_told","_law_due"] (ae Ds):=bK
theorem CQ{f:Addr}{r:FuncData}(F:aQ K "_law_told_so" "_law_told_so" Ds f r)(t:Ei K)(m:mg "isinstance"=none)(M:mg "tuple"=none)(e:mg "list"=none)(G:mg "len"=none)(I:mg "range"=none):af P w K mg base aE 3 f r ["_law_told","_law_due"] oG:=by
 refine F.ok A5 ?_ λN A o s H vs Q E R h=>?_
 ·rintro _ _ _ _ ⟨x,y,S,T,U,V,W,tB,X,Y,l,rfl,_⟩
  rfl
 obtain⟨x,y,S,T,U,V,W,tB,X,Y,l,rfl,l1,l2,q⟩:=h
 refine#[_,(jd (jy (PW.pt (uy (QC (QB (jO JB Z m boot_isinstance (ja (pv 0) (ja (Y3 (v:=.ty "tuple") Z M boot_tuple Z) jb))))) (X8 (jC Xa (jO jL Z G PySem.boot_len (ja (pv 0) jb)) jg (aN _))))) (jf (jm (@J5 _ _ _ _))) jr) (jd (j7 PassesOwn.never Z (zk Z I (ja jg jb)) (jw (i:=2) A5.nd Z (Or.inl Z)) (jf (jy (PW.pt (uy (QC (QB (jO JB Z m boot_isinstance (ja (jv jE (pv 0) (pv 2) (λ_ _=>Z)) (ja (Y3 (v:=.ty "list") Z e boot_list Z) jb))))) (X8 (jC (CZ (Iq R)) (jv jE (pv 0) (pv 2) (λ_ _=>Z)) (jv jE (pv 1) (pv 2) (λ_ _=>Z)) (aN _))))) (jf (jm (@J5 _ _ _ _))) jr))) (jf (jm (@J5 _ _ _ _))))),?_]
 obtain⟨z,rfl,L⟩:=l1
 obtain⟨g,rfl,_L⟩:=l2
 refine aj λF1 d=>#[_,Z,_,.ty "tuple",_,.type "tuple",true,Z,Z,.tup L.ins,t.tt,_,Z,aT Z #[_,Z,z,_,Z,.inr (aA.of L.ins),Z,_,Z,aT Z (d _ _ ?_)]]
 clear d
 have j:=EL L _L
 refine aj λF1 d=>dq λJ u=>#[4,Z,Pm,Pm,u _ _ ?_]
 clear u
 refine kQ (lo:=0) (n:=4) (λ_ p B=>(∃O,p=[some (.ref z),some (.ref g),O])/\B=H) #[#[_,Z],Z] ?_ (λp B h=>?_)
 ·intro E rt k p H2 hk fE Gq c h
  obtain⟨⟨O,rfl⟩,rfl⟩:=h
  refine c ?_
  clear c
  obtain⟨a,b,xs,ys,C,e2,D,hb,hl,hv⟩:=j k hk
  show gD _ _ _ E [some (.ref z),some (.ref g),some (.int ((0:Int)+k))] H2
  exact iS λG1 yT yF=>#[_,Z,_,Z,z,_,_,_,Z,Z,aA.of L.ins,C,_,.ty "list",_,.type "list",true,Z,Z,.lst D,t.ll,_,Z,aT Z #[_,Z,_,Z,z,_,_,_,Z,Z,aA.of L.ins,C,_,Z,_,Z,g,_,_,_,Z,Z,aA.of _L.ins,e2,a,b,xs,ys,Z,Z,D,hb,hl,hv,_,Z,yF _ (fE _ _ #[#[_,Z],Z])]]
 ·obtain⟨_,rfl⟩:=h
  exact d _ _ q
def wF(H:Hp)(p:List eV)(f:Str)(i:List Int)(x:V):Prop:=∃(c:Addr) (s:Sk) (a:Int),x= .ref c/\DU H p f i s a (.ref c)
theorem wF.mono{H d:Hp}(k:ax H d){p:List eV}{f:Str}{i:List Int}{x:V}(h:wF H p f i x):wF d p f i x:=let #[c,s,a,e,b]:=h;#[c,s,a,e,b.mono k]
structure Bj(H:Hp)(r:Addr)(d:Df)(ps:List Str):Prop where
 r:H r=some (.tup [.ref d.p])
 v:dH H [d] [.ref d.p]
 n:oM [d] [1]
 pa:pW H [d] [1]
 pv:H d.pa=some (.tup (ps.map V.str))
 pl:ps.length=1
theorem Bj.mono{H a:Hp}{r:Addr}{d:Df}{p:List Str}(h:Bj H r d p)(m:ax H a):Bj a r d p:=#[m _ _ h.r,h.v.mono m,h.n,h.pa.mono m,m _ _ h.pv,h.pl]
theorem Bj.p{H:Hp}{r:Addr}{d:Df}{a:List Str}(h:Bj H r d a):H d.p=some (.tup [.str d.f,.ref d.pa,.ref d.pb]):=by
 obtain⟨u,R,e,⟨B,E,b,_⟩,_⟩:=h.v
 exact b
theorem ZF{H a:Hp}{x:V}{k t f d:Addr}{y:Ly}(h:DX H x k t f d y)(s:aa H a):DX a x k t f d y:=let #[q,e,l]:=h;#[q,e,l.same s]
def oO(H:Hp)(k t f d:Addr):Prop:=(∃x,H k=some (.lst x))/\(∃x,H t=some (.lst x))/\(∃x,H f=some (.lst x))/\∃x,H d=some (.lst x)
theorem QN{H:Hp}{a b:Addr}(h:∃x,H b=some (.lst x)):∃x,ah H a (.lst []) b=some (.lst x):=by
 by_cases e:b=a
 ·subst e;exact#[_,jc]
 ·rw[jh e];exact h
theorem oO.clr{H:Hp}{k t f d a:Addr}(h:oO H k t f d):oO (ah H a (.lst [])) k t f d:=#[QN h.1,QN h.2.1,QN h.2.2.1,QN h.2.2.2]
theorem xo{H:Hp}{k t f d:Addr}(h:oO H k t f d){x:V}(b:x∈[V.ref k,.ref t,.ref f,.ref d]):∃a X,x= .ref a/\H a=some (.lst X)/\(a=k∨a=t∨a=f∨a=d):=by
 obtain⟨⟨_,c⟩,⟨_,e⟩,⟨_,g⟩,_,i⟩:=h
 simp only[List.mem_cons,List.not_mem_nil,or_false]at b
 rcases b with rfl |rfl |rfl |rfl
 ·exact#[_,_,Z,c,.inl Z]
 ·exact#[_,_,Z,e,.inr (.inl Z)]
 ·exact#[_,_,Z,g,.inr (.inr (.inl Z))]
 ·exact#[_,_,Z,i,.inr (.inr (.inr Z))]
theorem rq{b H:Hp}{k t f d a:Addr}(h:aV k t f d b H)(e:a=k∨a=t∨a=f∨a=d):aV k t f d b (ah H a (.lst [])):=λx o n N c g z=>by
 rw[jh (by rintro rfl;rcases e with e |e |e |e<;>first |exact n e |exact N e |exact c e |exact g e)]
 exact h x o n N c g z
theorem dj:ai ["_law_script","_law_box_here","_law_program","_law_parts","_law_args","_law_cells_here","_law_old","_law_new","_law_one","_law_other","_law_due","_law_told","_law_some"] ["_law_script"] (ae nK):=bK
theorem CB{f:Addr}{fd:FuncData}{nA fB fF fT fR fM fC fU fD fL fE fS:Addr}{f0 f3 f4 f6 f7 f8 f9 f' a3 a4 a5:FuncData}(F:aQ K "law" "law" nK f fd)(cB:Cl P w K mg base 1 fB f0 ["_law_script","_law_k"] (oq K) "_law_box")(cF:Cl P w K mg base 3 fF f3 z3z fi "_law_flat")(cT:Cl P w K mg base 1 fT f4 z6z cn "_law_take")(cR:Cl P w K mg base 3 fR f6 z3z fi "_law_round")(cM:Cl P w K mg base 65 fM f7 ["program"] (lS K nA) "made")(cC:Cl P w K mg base 3 fC f8 z3z hZ "_law_cells")(cU:Cl P w K mg base 46 fU f9 z29z (lO nA) "_law_book")(cD:Cl P w K mg base 4 fD f' ["_law_box_here","_law_cells_here"] ou "_law_changed")(cL:Cl P w K mg base 37 fL a3 ["_law_old","_law_new"] oB "_law_laid")(cE:Cl P w K mg base 71 fE a4 ["old","new"] lP "laid")(cS:Cl P w K mg base 3 fS a5 ["_law_told","_law_due"] oG "_law_told_so"):af P w K mg base aE 72 f fd ["_law_script"] (mM K):=by
 refine F.ok dj ?_ λc2 A o1 s H vs Q E I h=>?_
 ·rintro _ _ _ _ ⟨a,ns,rfl,_⟩
  rfl
 obtain⟨a,ns,rfl,hS,b4,q⟩:=h
 refine#[_,(jd (jD 1 dj.nd (cB.e I.m (ja (pv 0) (ja jg jb)))) (jd (jD 2 dj.nd (cF.e I.m (ja (pv 1) jb))) (jd (zf (jy (Jl (cT.e I.m (ja (pv 1) (ja jg jb)))) (jf (jD 2 dj.nd (cR.e I.m (ja (pv 1) jb)))) jr)) (jd (jD 3 dj.nd (cM.e I.m (ja (pv 2) jb))) (jd (jD 4 dj.nd (jl (ja (cT.e I.m (ja (pv 1) (ja jg jb))) jb))) (jd (jD 5 dj.nd (cC.e I.m (ja (cB.e I.m (ja (pv 0) (ja jg jb))) jb))) (jd (jD 6 dj.nd (cU.e I.m (ja (pv 3) (ja (ju (jv jE (pv 2) jg (λ_ _=>Z))) (ja (pv 4) (ja (pv 5) jb)))))) (jd (jD 7 dj.nd (cU.e I.m (ja (pv 3) (ja (ju (jv jE (pv 2) jg (λ_ _=>Z))) (ja (pv 4) (ja (cD.e I.m (ja (cB.e I.m (ja (pv 0) (ja jg jb))) (ja (pv 5) jb))) jb)))))) (jd (jy (PW.pt (uy (Kd (@QA _ _ _ _ _ (pv 6))) (X8 (Kd (@QA _ _ _ _ _ (pv 7)))))) (jf (jm (@J5 _ _ _ _))) jr) (jd (j7 PassesOwn.never Z (zh (jJ (ja (jl (ja (pv 6) (ja (pv 7) jb))) (ja (jl (ja (pv 7) (ja (pv 6) jb))) (ja (jl (ja (pv 6) (ja (pv 6) jb))) (ja (jl (ja (pv 7) (ja (pv 7) jb))) jb)))))) (qf (n:=2) Z (jF (jw (i:=8) dj.nd Z (Or.inl Z)) (jF (jw (i:=9) dj.nd Z (Or.inl Z)) kU))) (jd (jD 10 dj.nd (cL.e I.m (ja (pv 8) (ja (pv 9) jb)))) (jd (jD 11 dj.nd (cE.e I.m (ja (pv 8) (ja (pv 9) jb)))) (jd (jy (QC (QB (cS.e I.m (ja (pv 11) (ja (pv 10) jb))))) (jf (jm (@J5 _ _ _ _))) jr) (jd (j7 PassesOwn.never Z (qF (pv 11)) (jw (i:=12) dj.nd Z (Or.inl Z)) (jf (jB (ui PySem.F.plainAttrs_list PySem.F.slot_list_clear PySem.F.type_list_clear tE (pv 12))))) (jf (jy (QC (QB (cS.e I.m (ja (cE.e I.m (ja (pv 8) (ja (pv 9) jb))) (ja (pv 10) jb))))) (jf (jm (@J5 _ _ _ _))) jr))))))) (jf (jm (@J5 _ _ _ _))))))))))))),?_]
 have b5:=aH
 refine aj λL g=>#[_,Z,a,ns,1,Z,hS,Pm,Pm,λp H1 np B1 e1=>g _ _ ?_]
 clear g
 refine aj λL g=>#[_,Z,p,Z,B1,λr d ps H2 g1 g2 g3 g4 g5 g6 B2 k2=>g _ _ ?_]
 clear g
 have p0:Bj H2 r d ps:=#[g1,g2,g3,g4,g5,g6]
 clear g1 g2 g3 g4 g5 g6
 refine aj λL g=>gT (λσ0 R=>∃(r:Addr) (d:Df) (ps:List Str),σ0=[some (.ref a),some (.ref p),some (.ref r),none,none,none,none,none,none,none,none,none,none]/\Bj R r d ps/\aF R p/\aR p H1 R) (λE1 _ fm=>#[_,Z,p,2,Z,B2,Pm,Pm,λd1 H3 d0 d3 B3 e3=>#[Z,_,Z,eW (λ_=>?_) (λ_=>?_)]]) λσ2 H3 hq=>?_
 ·exact#[_,Z,p,Z,B3,λr d ps H4 g1 g2 g3 g4 g5 g6 B4 k4=>fm _ _ #[r,d,ps,Z,#[g1,g2,g3,g4,g5,g6],B4,(k2.trans (aR.of_eq e3)).trans k4]]
 ·exact fm _ _ #[r,d,ps,Z,p0.mono ((aR.of_eq e3).tm B2),B3,k2.trans (aR.of_eq e3)]
 clear p0 k2 B2
 obtain⟨r,d,ps,rfl,N,B3,k3⟩:=hq
 refine g _ _ ?_
 clear g
 refine aj λL g=>#[_,Z,r,[d],[.ref d.p],Z,N.r,N.v,(by show 1<=1000;decide),λd hd=>(N.n.1 d hd).1,λv H4 hv s4=>g _ _ ?_]
 clear g
 obtain⟨pA,x0,rfl,h3,h4⟩:=JZ hv
 refine aj λL g=>#[_,Z,p,12,Z,B3.same s4,Pm,Pm,λi5 H5 i0 i1 B5 e5=>#[h8,λO n4=>g _ _ ?_]]
 clear g
 have s1:aa H H1:=λb o e=>by rw[e1 b (ji e np)];exact e
 have k0:aR p H1 H5:=(k3.trans (aR.of_same s4)).trans (aR.of_eq e5)
 have T1:ax H4 H5:=(aR.of_eq e5).tm (B3.same s4)
 have s5:aa H H5:=λb o e=>k0 _ _ (ji e np) (s1 _ _ e)
 have su:aa H5 (ah H5 O (.tup [.int i5])):=je n4
 have h0:ah H5 O (.tup [.int i5]) O=some (.tup [.int i5]):=jc
 generalize ah H5 O (.tup [.int i5])=H6 at su h0 ⊢
 have S6:=s5.trans su
 have T2:=T1.trans (aa.tm su)
 refine aj λL g=>#[_,Z,a,ns,2,Z,S6.seq hS,Pm,Pm,λp7 H7 n2 B7 e7=>#[p7,Z,B7,λcA Cs H8 n5 h5 gC lC B8 k8=>g _ _ ?_]]
 clear g
 have s8:aa H6 H8:=λb o e=>k8 _ _ (ji e n2) (by rw[e7 b (ji e n2)];exact e)
 have S8:=S6.trans s8
 have T0:=T2.trans (aa.tm s8)
 have N:=N.mono ((aa.tm s4).trans T0)
 have h1:=C3 N.pa (i:=0) Z N.pv
 rw[N.pl]at h1
 obtain⟨j,hP⟩:=E8 (T0 _ _ h3) (h4.mono T0) #[_,N.v] N.n N.pa
 have lx:=zd hP.tr
 rw[List.length_map]at lx
 have ak:D7 H8 nA pA O cA 0 Cs d [d] [1] x0 j [i5]:=#[hP,(by have e:[d].length=1:=rfl;omega),Z,h1,s8 _ _ h0,(λi hi=>by rw[List.mem_singleton.mp hi];exact#[Pn,Pn]),(by show 1<=100;decide),h5,gC]
 have kz:Kp H H8:=Kp.of_same S8
 refine aj λL g=>?_
 suffices go:∀(B:V) (S:Hp),Kp H8 S->(B= .non∨wF S j d.f [i5] B)->L [some (.ref a),some (.ref p),some (.ref r),some (.ref pA),some (.ref O),some (.ref cA),some B,none,none,none,none,none,none] S by
  clear g
  exact#[_,Z,jp N.r dS #[d.p,_,_,_,Z,Z,aA.of N.p,dS,_,Z,_,Z,pA,O,cA,0,Cs,d,[d],[1],x0,j,[i5],Z,ak,λc sk b L' S eq hc ok dp sz k9=>go _ S k9 (.inr #[c,sk,b,Z,hc,ok,dp,sz,Cs,L',eq]),λno S k9=>go _ S k9 (.inl Z)]]
 intro B S k9 rv
 refine g _ _ ?_
 clear g
 have a2:=ak.kp k9
 have k1:=kz.trans k9
 have p1:=N.mono k9.tm
 refine aj λL g=>?_
 suffices go:∀(C:V) (U:Hp),Kp S U->(C= .non∨wF U j d.f [i5] C)->L [some (.ref a),some (.ref p),some (.ref r),some (.ref pA),some (.ref O),some (.ref cA),some B,some C,none,none,none,none,none] U by
  clear g
  refine#[_,Z,jp p1.r dS #[d.p,_,_,_,Z,Z,aA.of p1.p,dS,_,Z,_,Z,a,ns,3,Z,k1.seq hS,Pm,Pm,λpy U n3 BA eA=>#[_,Z,?_]]]
  have sA:aa S U:=λb o e=>by rw[eA b (ji e n3)];exact e
  refine#[py,cA,Cs,Z,BA,sA _ _ a2.ce,gC,Pn,λl C' Hb n6 h6 gy ly By k6=>?_]
  have sy:aa S Hb:=λb o e=>k6 _ _ (ji e n3) (sA _ _ e)
  have M:=a2.kp (Kp.of_same sy)
  exact#[pA,O,l,0,C',d,[d],[1],x0,j,[i5],Z,#[M.ps,M.xl,M.hd,M.hn,M.ag,M.hi,M.il,h6,gy],λc sk b L' Hc eq hc ok dp sz kc=>go _ Hc ((Kp.of_same sy).trans kc) (.inr #[c,sk,b,Z,hc,ok,dp,sz,C',L',eq]),λno Hc kc=>go _ Hc ((Kp.of_same sy).trans kc) (.inl Z)]
 intro C U ka r0
 refine g _ _ ?_
 clear g
 refine aj λL g=>#[_,Z,_,Z,?_]
 rcases rv with rfl |bk0
 ·exact cq (decide_eq_true Z) (q _)
 have n0:B≠ .non:=by obtain⟨_,_,_,rfl,_⟩:=bk0;exactλz=>by cases z
 refine aT (decide_eq_false n0) #[_,Z,_,Z,?_]
 rcases r0 with rfl |bk1
 ·exact cq (decide_eq_true Z) (q _)
 have n1:C≠ .non:=by obtain⟨_,_,_,rfl,_⟩:=bk1;exactλz=>by cases z
 refine aT (decide_eq_false n1) (g _ _ ?_)
 clear g
 have bk0:=bk0.mono ka.tm
 generalize d.f=f at bk0 bk1
 generalize [i5]=is at bk0 bk1
 refine aj λL g=>dq λJ jj=>#[_,Z,_,Z,cg,λW m1=>#[_,Z,_,Z,cg,λT m2=>#[_,Z,_,Z,cg,λX m3=>#[_,Z,_,Z,cg,λY m4=>#[Aa,λl nl=>#[l,Z,#[_,aJ.of jc],jj _ _ ?_]]]]]]
 clear jj
 have w1:=je (o:=HO.tup [B,C]) m1
 have w2:=je (o:=HO.tup [C,B]) m2
 have w3:=je (o:=HO.tup [B,B]) m3
 have w4:=je (o:=HO.tup [C,C]) m4
 have w5:=je (o:=HO.lst [.ref W,.ref T,.ref X,.ref Y]) nl
 have hl:∀x∈[V.ref W,.ref T,.ref X,.ref Y],∃(t:Addr) (u v:V),x= .ref t/\ah (ah (ah (ah (ah U W (.tup [B,C])) T (.tup [C,B])) X (.tup [B,B])) Y (.tup [C,C])) l (.lst [.ref W,.ref T,.ref X,.ref Y]) t=some (.tup [u,v])/\wF U j f is u/\wF U j f is v:=by
  intro x hx
  simp only[List.mem_cons,List.not_mem_nil,or_false]at hx
  rcases hx with rfl |rfl |rfl |rfl
  ·exact#[_,_,_,Z,w5 _ _ (w4 _ _ (w3 _ _ (w2 _ _ jc))),bk0,bk1]
  ·exact#[_,_,_,Z,w5 _ _ (w4 _ _ (w3 _ _ jc)),bk1,bk0]
  ·exact#[_,_,_,Z,w5 _ _ (w4 _ _ jc),bk0,bk0]
  ·exact#[_,_,_,Z,w5 _ _ jc,bk1,bk1]
 have wS:=(((w1.trans w2).trans w3).trans w4).trans w5
 have hL:ah (ah (ah (ah (ah U W (.tup [B,C])) T (.tup [C,B])) X (.tup [B,B])) Y (.tup [C,C])) l (.lst [.ref W,.ref T,.ref X,.ref Y]) l=some (.lst [.ref W,.ref T,.ref X,.ref Y]):=jc
 clear w1 w2 w3 w4 w5
 generalize ah (ah (ah (ah (ah U W (.tup [B,C])) T (.tup [C,B])) X (.tup [B,B])) Y (.tup [C,C])) l (.lst [.ref W,.ref T,.ref X,.ref Y])=HL at hl hL wS ⊢
 have hl:∀x∈[V.ref W,.ref T,.ref X,.ref Y],∃(t:Addr) (u v:V),x= .ref t/\HL t=some (.tup [u,v])/\wF HL j f is u/\wF HL j f is v:=λx hx=>let #[t,u,v,e,h,D,b2]:=hl x hx;#[t,u,v,e,h,D.mono (aa.tm wS),b2.mono (aa.tm wS)]
 refine qv (K:=K) (a:=l) (xs:=[.ref W,.ref T,.ref X,.ref Y]) (λ_ σ R=>(∃o8 o9 oa ob oc,σ=[some (.ref a),some (.ref p),some (.ref r),some (.ref pA),some (.ref O),some (.ref cA),some B,some C,o8,o9,oa,ob,oc])/\aa HL R) #[#[_,_,_,_,_,Z],aa.refl _] (λk σ R _ h=>aJ.of (h.2 _ _ hL)) ?_ (λσ R h=>g _ _ (q _))
 clear g
 intro E rt k x σ H2 hx fE Gq kq h
 obtain⟨⟨o8,o9,oa,ob,oc,rfl⟩,s2⟩:=h
 refine kq ?_
 clear kq
 obtain⟨t,u,v,rfl,ht,bu,bv⟩:=hl x (List.mem_of_getElem? hx)
 obtain⟨c0,z0,a0,rfl,G⟩:=bu
 obtain⟨c1,z1,a1,rfl,D⟩:=bv
 refine#[t,_,Z,aA.of (s2 _ _ ht),Z,_,_,Z,_,_,Z,Z,?_]
 show eP _ _ E [some (.ref a),some (.ref p),some (.ref r),some (.ref pA),some (.ref O),some (.ref cA),some B,some C,some (.ref c0),some (.ref c1),oa,ob,oc] H2
 have y0:=G.2.2.2.1
 have y1:=D.2.2.2.1
 have G:=G.mono (aa.tm s2)
 have D:=D.mono (aa.tm s2)
 refine aj λL g=>#[_,Z,_,Z,BB j,c0,c1,f,is,is,z0,z1,a0,a1,Z,G.1,G.2.1,G.2.2.1,Pn,D.1,D.2.1,D.2.2.1,Pn,G.dt,D.dt,λy kY tY fY dY H3 ld _ _ _ _ g3=>g _ _ ?_]
 clear g
 have G:=G.mono (aa.tm g3)
 have D:=D.mono (aa.tm g3)
 refine aj λL g=>#[_,Z,_,Z,BB j,c0,c1,f,is,is,z0,z1,a0,a1,Z,G.1,G.2.1,G.2.2.1,Pn,D.1,D.2.1,D.2.2.1,Pn,G.dt,D.dt,λx kA tA fA dA H4 le nk nt nf nd g4=>g _ _ ?_]
 clear g
 refine aj λL g=>#[_,Z,_,Z,x,y,kA,tA,fA,dA,kY,tY,fY,dY,_,Z,le,ZF ld g4,_,Z,aT Z (g _ _ ?_)]
 clear g
 obtain⟨z,rfl,Lz⟩:=le
 have fr:oO H4 kA tA fA dA:=#[Lz.kv.imp λ_ h=>h.1,Lz.tv.imp λ_ h=>h.1,Lz.fv.imp λ_ h=>h.1,Lz.dv.imp λ_ h=>h.1]
 refine aj λL g=>dq λJ jj=>#[_,Z,z,Z,#[_,aA.of Lz.ins],jj _ _ ?_]
 clear jj
 refine q8 (K:=K) (a:=z) (xs:=[.ref kA,.ref tA,.ref fA,.ref dA]) (λ_ σ R=>(∃oc,σ=[some (.ref a),some (.ref p),some (.ref r),some (.ref pA),some (.ref O),some (.ref cA),some B,some C,some (.ref c0),some (.ref c1),some y,some (.ref z),oc])/\oO R kA tA fA dA/\aV kA tA fA dA H4 R) #[#[_,Z],fr,λ_ _ _ _ _ _ e=>e] (λk σ R _ h=>aA.of (Lz.tm h.2.2 _ _ Lz.ins)) ?_ (λσ H5 h=>?_)
 ·clear g
  intro E2 r1 k2 x2 σ H5 h7 b3 Gq kq h
  obtain⟨⟨oc,rfl⟩,f5,k5⟩:=h
  refine kq ?_
  clear kq
  obtain⟨a',x1,rfl,h2,h'⟩:=xo f5 (List.mem_of_getElem? h7)
  exact#[_,Z,.inl #[Z,_,aJ.of h2],a',x1,Z,Z,h2,b3 _ _ #[#[_,Z],f5.clr,rq k5 h']]
 ·obtain⟨⟨oc,rfl⟩,_,k5⟩:=h
  refine g _ _ ?_
  clear g
  have s0:aa H3 H5:=λb o e=>k5 b o (ji e nk) (ji e nt) (ji e nf) (ji e nd) (g4 _ _ e)
  have G:=G.mono (aa.tm s0)
  have D:=D.mono (aa.tm s0)
  exact iS λG1 yT yF=>#[_,Z,_,Z,BB j,c0,c1,f,is,is,z0,z1,a0,a1,Z,G.1,G.2.1,G.2.2.1,Pn,D.1,D.2.1,D.2.2.1,Pn,G.dt,D.dt,λx2 k2 T f2 d2 H6 l0 _ _ _ _ g6=>#[_,Z,x2,y,k2,T,f2,d2,kY,tY,fY,dY,_,Z,l0,ZF ld (s0.trans g6),_,Z,yF _ (fE _ _ #[#[_,_,_,_,_,Z],s2.trans (g3.trans (s0.trans g6))])]]
@[elab_as_elim] theorem IA{P:List Value->Prop}(u:List Value)(h:u.length=1)(q:∀a,P [a]):P u:=by
 cases u with
 |nil=>cases h
 |cons a r=>
  cases r with
  |nil=>exact q a
  |cons _ _=>cases h
theorem _root_._L.aQ.b1{K:Frag}{x q:Str}{st:Stmt}{f:Addr}{g:FuncData}{p:List Str}(F:aQ K x q st f g)(h:∀(kV d b:Value) (A:Option Addr) (c C a:Value),bindArgs (fnOf x q (bH st) (bb st) (ae st) .none kV d b A c C) #[[a],[]]=pure (p.zip [a]):=by intros;rfl)(e:p.length=1:=by rfl):aC K g p []:=F.binds λkV d b A c C u H=>IA u (H.trans e) λa=>h kV d b A c C a
@[elab_as_elim] theorem IB{P:List Value->Prop}(u:List Value)(h:u.length=2)(q:∀a b,P [a,b]):P u:=by
 cases u with
 |nil=>cases h
 |cons a r=>
  cases r with
  |nil=>cases h
  |cons b R=>
   cases R with
   |nil=>exact q a b
   |cons _ _=>cases h
theorem _root_._L.aQ.b2{K:Frag}{x q:Str}{st:Stmt}{f:Addr}{i:FuncData}{p:List Str}(F:aQ K x q st f i)(h:∀(kV d g:Value) (A:Option Addr) (c C a b:Value),bindArgs (fnOf x q (bH st) (bb st) (ae st) .none kV d g A c C) #[[a,b],[]]=pure (p.zip [a,b]):=by intros;rfl)(e:p.length=2:=by rfl):aC K i p []:=F.binds λkV d g A c C u H=>IB u (H.trans e) λa b=>h kV d g A c C a b
@[elab_as_elim] theorem IC{P:List Value->Prop}(u:List Value)(h:u.length=3)(q:∀a b c,P [a,b,c]):P u:=by
 cases u with
 |nil=>cases h
 |cons a r=>
  cases r with
  |nil=>cases h
  |cons b R=>
   cases R with
   |nil=>cases h
   |cons c d=>
    cases d with
    |nil=>exact q a b c
    |cons _ _=>cases h
theorem _root_._L.aQ.b3{K:Frag}{x q:Str}{st:Stmt}{f:Addr}{j:FuncData}{p:List Str}(F:aQ K x q st f j)(h:∀(kV d g:Value) (A:Option Addr) (C i a b c:Value),bindArgs (fnOf x q (bH st) (bb st) (ae st) .none kV d g A C i) #[[a,b,c],[]]=pure (p.zip [a,b,c]):=by intros;rfl)(e:p.length=3:=by rfl):aC K j p []:=F.binds λkV d g A C i u H=>IC u (H.trans e) λa b c=>h kV d g A C i a b c
@[elab_as_elim] theorem ID{P:List Value->Prop}(u:List Value)(h:u.length=4)(q:∀a b c d,P [a,b,c,d]):P u:=by
 cases u with
 |nil=>cases h
 |cons a r=>
  cases r with
  |nil=>cases h
  |cons b R=>
   cases R with
   |nil=>cases h
   |cons c e=>
    cases e with
    |nil=>cases h
    |cons d f=>
     cases f with
     |nil=>exact q a b c d
     |cons _ _=>cases h
theorem _root_._L.aQ.b4{K:Frag}{x q:Str}{st:Stmt}{f:Addr}{j:FuncData}{p:List Str}(F:aQ K x q st f j)(h:∀(kV D g:Value) (A:Option Addr) (C i a b c d:Value),bindArgs (fnOf x q (bH st) (bb st) (ae st) .none kV D g A C i) #[[a,b,c,d],[]]=pure (p.zip [a,b,c,d]):=by intros;rfl)(e:p.length=4:=by rfl):aC K j p []:=F.binds λkV D g A C i u H=>ID u (H.trans e) λa b c d=>h kV D g A C i a b c d
@[elab_as_elim] theorem IE{P:List Value->Prop}(u:List Value)(h:u.length=5)(q:∀a b c d e,P [a,b,c,d,e]):P u:=by
 cases u with
 |nil=>cases h
 |cons a r=>
  cases r with
  |nil=>cases h
  |cons b R=>
   cases R with
   |nil=>cases h
   |cons c f=>
    cases f with
    |nil=>cases h
    |cons d g=>
     cases g with
     |nil=>cases h
     |cons e i=>
      cases i with
      |nil=>exact q a b c d e
      |cons _ _=>cases h
theorem _root_._L.aQ.b5{K:Frag}{x q:Str}{st:Stmt}{f:Addr}{j:FuncData}{p:List Str}(F:aQ K x q st f j)(h:∀(kV D g:Value) (A:Option Addr) (C i a b c d e:Value),bindArgs (fnOf x q (bH st) (bb st) (ae st) .none kV D g A C i) #[[a,b,c,d,e],[]]=pure (p.zip [a,b,c,d,e]):=by intros;rfl)(e:p.length=5:=by rfl):aC K j p []:=F.binds λkV D g A C i u H=>IE u (H.trans e) λa b c d e=>h kV D g A C i a b c d e
def dI(K:Frag)(p q:Str)(st:Stmt)(f:Addr):Prop:=∃(o:Value) (O:Option Addr) (kV d a:Value) (A:Option Addr) (c C:Value) (s:Array (Option Value)),K.lookup f=some #[o,O,.func (fnOf p q (bH st) (bb st) (ae st) .none kV d a A c C),s]/\codeIn K c q=true/\keepIn K (.ref f)=true
def cp(K:Frag)(p:Str)(st:Stmt)(f:Addr):Prop:=nsIn K mainGlobals p=some (some (.ref f))/\dI K p p st f
section
variable {K:Frag}{py q:Str}{st:Stmt}{f:Addr}{oc:Value}{od:Option Addr}{kV dc pm:Value}{an:Option Addr}{cd ct:Value}{sl:Array (Option Value)}
theorem Ig(l:K.lookup f=some #[oc,od,.func (fnOf py q (bH st) (bb st) (ae st) .none kV dc pm an cd ct),sl])(c:codeIn K cd q=true)(k:keepIn K (.ref f)=true):dI K py q st f:=#[_,_,_,_,_,_,_,_,_,l,c,k]
theorem Hv(a:nsIn K mainGlobals py=some (some (.ref f)))(l:K.lookup f=some #[oc,od,.func (fnOf py py (bH st) (bb st) (ae st) .none kV dc pm an cd ct),sl])(c:codeIn K cd py=true)(k:keepIn K (.ref f)=true):cp K py st f:=#[a,Ig l c k]
theorem dI.go(h:dI K py q st f):∃F,aQ K py q st f F/\keepIn K (.ref f)=true:=by
 obtain⟨oc,od,kV,dc,pm,an,cd,ct,sl,l,c,k⟩:=h
 exact#[_,si l c k,k]
theorem cp.go{h:Heap}{mg:Str->Option Value}(t:cp K py st f)(X:K.In h)(G:h.Ns mainGlobals mg):∃a,aQ K py py st f a/\keepIn K (.ref f)=true/\mg py=some (.ref f):=by
 obtain⟨a,F,k⟩:=t.2.go
 exact#[a,F,k,mg_of X G t.1]
end
theorem Bo{l:PySem.W.OpenLaw}{w:World}{K:Frag}{h:Heap}{mg:Str->Option Value}{fa L b0 t7 f0 t8 b6 b7 b8 f1 b9 b' c1 c2 c3 c4 c5 c6 c9 c' d0 d1 d2 d3 d4 d5 d6 f2 d7 d8 d' e2 e3 e4 e5 e6 e7 e8 e9 e' g0 g1 g2 g4 g5 g6 g7 g8 g' h0 h1 fZ f3 f4 h2 h3 h4 f5 f6 f7 f8 h5 h6 f9 f' a0 h7 x C c c0 f xB y A:Addr}(X:K.In h)(G:h.Ns mainGlobals mg)(t':mg "law"=some (.ref fa))
  {u0:Option Addr} {nN:Nat} {u1:Array (Option Value)} {u2 u3 t0 tD:Tok} {h':ClassData} {o1:Value} {o2:Option Addr} {s0:Array (Option Value)} {i0:ClassData} {o3:Value} {o4:Option Addr} {s1:Array (Option Value)} {i1:ClassData} {o5:Value} {o6:Option Addr} {s2:Array (Option Value)}
  (u':cp K "names_in" eM L)
  (v1:cp K "own_terms" Do b0)
  (v2:cp K "used_behind_terms" uV t7)
  (v3:cp K "used_ahead_of" yL f0)
  (v4:cp K "used_ahead" yK t8)
  (v5:cp K "bodies_in" Dh b6)
  (v6:cp K "many_cuts" uP b7)
  (v7:cp K "deed_of" uI b8)
  (v8:cp K "place_of_give" lK f1)
  (v':cp K "place_of_set" uR b9)
  (w0:cp K "part_made" uQ b')
  (w1:cp K "made" n8 c1)
  (w2:cp K "_law_box" Di c2)
  (Be:cp K "_law_take" uU c3)
  (w3:cp K "_law_number" lH c4)
  (w4:cp K "_law_names" ik c5)
  (w5:cp K "joined" lF c6)
  (w6:cp K "worth" lM c9)
  (w7:cp K "named" lG c')
  (w8:cp K "begun" nF d0)
  (w9:cp K "deeper" lB d1)
  (w':cp K "part_of" lJ d2)
  (x0:cp K "cut_at" nH d3)
  (x1:cp K "held_at" lE d4)
  (x2:cp K "worths" g9 d5)
  (x3:cp K "deed_at" lv d6)
  (x4:cp K "found_in" gf f2)
  (x5:cp K "end_of" lD d7)
  (x6:cp K "first_of" ij d8)
  (x7:cp K "onward" lI d')
  (x8:cp K "run" Dq e2)
  (x':cp K "whats_at" yN e3)
  (y0:cp K "whats_in" yO e4)
  (y1:cp K "paths_at" yH e5)
  (y2:cp K "deed_in" Dl e6)
  (y3:cp K "like_from" uO e7)
  (y4:cp K "lender_from" uN e8)
  (y5:cp K "taken_from" Dr e9)
  (y':cp K "laid" uM e')
  (z6:cp K "_law_cells" nG g0)
  (z7:cp K "_law_changes" Dk g1)
  (z8:cp K "_law_found" Dn g2)
  (z':cp K "_law_book" nJ g4)
  (A':cp K "_law_changed" Dj g5)
  (B1:cp K "_law_all_in" yx g6)
  (B2:cp K "_law_beside" pO g7)
  (B3:cp K "_law_laid" yD g8)
  (B4:cp K "_law_flat" nZ g')
  (B5:cp K "_law_round" yJ h0)
  (B6:cp K "_law_told_so" Ds h1)
  (tZ:cp K "law" nK fZ)
  (B7:nsIn K mainGlobals "NOUGHT"=some (some (.ref x))) (B8:K.lookup x=some #[.type "tuple",u0,.seq (List.toArray [.str "num" u2,.int 0 u3]) nN,u1]) (B':nsIn K mainGlobals "Cutting"=some (some (.ref C))) (v0:nsIn K mainGlobals "TOP"=some (some (.int 1000000000000000000 t0))) (vD:nsIn K mainGlobals "DEEPEST"=some (some (.int 15 tD))) (vR:nsIn K mainGlobals "BookRun"=some (some (.ref c))) (vT:nsIn K mainGlobals "Turns"=some (some (.ref c0))) (vL:nsIn K mainGlobals "Laying"=some (some (.ref f))) (vB:nsIn K mainGlobals "BookError"=some (some (.ref xB)))
  (C':nsIn K mainGlobals "TooLong"=some (some (.ref y)))
  (D0:nsIn K mainGlobals "TooDeep"=some (some (.ref A)))
  (D1:K.lookup y=some #[o1,o2,.cls h',s0]) (t1:typeIn K (.ref y)=some (.type "type")) (mbxL:mroIn K y (.type "BaseException")=some true) (k1:keepIn K (.ref y)=true)
  (E1:K.lookup A=some #[o3,o4,.cls i0,s1]) (t2:typeIn K (.ref A)=some (.type "type")) (mbxD:mroIn K A (.type "BaseException")=some true) (k2:keepIn K (.ref A)=true)
  (E2:K.lookup xB=some #[o5,o6,.cls i1,s2]) (t3:typeIn K (.ref xB)=some (.type "type")) (m4:mroIn K xB (.type "BaseException")=some true) (E3:mroIn K y (.ref xB)=some true) (E4:mroIn K A (.ref xB)=some true)
  (e0:excIn K y oU "ValueError.__new__"=true) (e1:excIn K A oU "ValueError.__new__"=true)
  (X':rf K y) (i2:rf K A)
  (rk:RK K c) (E5:Mk K c f8) (tm:Bg K c0 "__init__" f5) (m5:ba K c "take_turn" f6) (m7:ba K c "number_in" f7) (m0:ba K c "chain_of" h5) (m8:ba K c "what_of" h6)
  (lk:LK K f) (E':Mk K f f9) (m1:ba K f "lay" f') (m':ba K f "drop" a0) (i3:ba K f "lay_step" h7)
  (ck:CK K C) (mk:Mk K C f3) (i4:ba K C "place_of_body" f4) (H0:ba K C "place_of" h2) (H1:ba K C "place_of_cut" h3) (H2:ba K C "ways_of" h4)
  (H3:dI K "__init__" "Cutting.__init__" uK f3)
  (H4:dI K "place_of_body" "Cutting.place_of_body" yA f4)
  (H5:dI K "place_of" "Cutting.place_of" yI h2)
  (H6:dI K "place_of_cut" "Cutting.place_of_cut" yB h3)
  (H7:dI K "ways_of" "Cutting.ways_of" yM h4)
  (H8:dI K "__init__" "Turns.__init__" uS f5)
  (H9:dI K "take_turn" "Turns.take_turn" nL f6)
  (H':dI K "number_in" "Turns.number_in" uT f7)
  (I1:dI K "__init__" "BookRun.__init__" uF f8)
  (I2:dI K "chain_of" "BookRun.chain_of" yy h5)
  (I3:dI K "what_of" "BookRun.what_of" yz h6)
  (I4:dI K "__init__" "Laying.__init__" uL f9)
  (I5:dI K "lay" "Laying.lay" yG f')
  (I6:dI K "drop" "Laying.drop" uJ a0)
  (I7:dI K "lay_step" "Laying.lay_step" yE h7)
  (z2:nsIn K mainGlobals "len"=some none)
  (z3:nsIn K mainGlobals "int"=some none)
  (O:nsIn K mainGlobals "range"=some none)
  (z0:nsIn K mainGlobals "list"=some none)
  (r:nsIn K mainGlobals "reversed"=some none)
  (Q:nsIn K mainGlobals "tuple"=some none)
  (B:nsIn K mainGlobals "sorted"=some none)
  (z4:nsIn K mainGlobals "set"=some none)
  (z5:nsIn K mainGlobals "zip"=some none)
  (z1:nsIn K mainGlobals "dict"=some none)
  (o:nsIn K mainGlobals "enumerate"=some none)
  (j:nsIn K mainGlobals "isinstance"=some none)
  (tk:Ei K)
  :∃fd:FuncData,(∀(s:Shared) (v:Value),BindsTo s fd #[[v],[]] [("_law_script",v)])/\∀base:Heap,K.In base->base.Ns mainGlobals mg->af l.prog w K mg base aE 72 fa fd ["_law_script"] (mM K):=by
 have e:=t'.symm.trans (mg_of X G tZ.1)
 cases e
 obtain⟨I',t,R,D⟩:=u'.go X G
 obtain⟨dOw,i5,J0,K5⟩:=v1.go X G
 obtain⟨dUb,i',kUb,L0⟩:=v2.go X G
 obtain⟨dUo,S,k3,m2⟩:=v3.go X G
 obtain⟨dUa,j0,kUa,L1⟩:=v4.go X G
 obtain⟨dBi,j1,L3,L5⟩:=v5.go X G
 obtain⟨dMc,F3,k4,j2⟩:=v6.go X G
 obtain⟨dDe,j3,L6,L7⟩:=v7.go X G
 obtain⟨dPg,T,k5,j4⟩:=v8.go X G
 obtain⟨dPs,j5,L8,L'⟩:=v'.go X G
 obtain⟨dPm,j',N1,N2⟩:=w0.go X G
 obtain⟨dMa,k6,N3,N'⟩:=w1.go X G
 obtain⟨dBx,k7,O',P0⟩:=w2.go X G
 obtain⟨dTk,F,p,M⟩:=Be.go X G
 obtain⟨dNu,F4,k8,k9⟩:=w3.go X G
 obtain⟨dNm,F5,k',l0⟩:=w4.go X G
 obtain⟨dJo,l1,P1,P4⟩:=w5.go X G
 obtain⟨dWo,E,k0,U⟩:=w6.go X G
 obtain⟨dNd,F6,l2,l3⟩:=w7.go X G
 obtain⟨dBe,l4,P5,P6⟩:=w8.go X G
 obtain⟨dDp,l5,P7,P8⟩:=w9.go X G
 obtain⟨dPf,l6,P9,P'⟩:=w'.go X G
 obtain⟨dCu,I,V,Y⟩:=x0.go X G
 obtain⟨dHe,F7,l7,l8⟩:=x1.go X G
 obtain⟨dWs,l9,Q',R0⟩:=x2.go X G
 obtain⟨dDa,l',R1,R3⟩:=x3.go X G
 obtain⟨dFo,F0,n2,n3⟩:=x4.go X G
 obtain⟨dEn,F8,n4,n5⟩:=x5.go X G
 obtain⟨dFi,n6,R4,R5⟩:=x6.go X G
 obtain⟨dOn,n7,R6,R7⟩:=x7.go X G
 obtain⟨dRu,n',R8,R9⟩:=x8.go X G
 obtain⟨dWa,F1,R',o7⟩:=x'.go X G
 obtain⟨dWi,F9,S0,o8⟩:=y0.go X G
 obtain⟨dPa,a1,o9,o'⟩:=y1.go X G
 obtain⟨dDi,a2,p0,p1⟩:=y2.go X G
 obtain⟨dLk,p2,S1,S2⟩:=y3.go X G
 obtain⟨dLd,p3,S3,S4⟩:=y4.go X G
 obtain⟨dTn,p5,S5,S6⟩:=y5.go X G
 obtain⟨dLa,p6,S7,S8⟩:=y'.go X G
 obtain⟨dCe,p7,S9,S'⟩:=z6.go X G
 obtain⟨dCg,p9,T0,T1⟩:=z7.go X G
 obtain⟨dLf,p',T2,T3⟩:=z8.go X G
 obtain⟨dLb,q0,T4,T5⟩:=z'.go X G
 obtain⟨dLc,q1,T6,T7⟩:=A'.go X G
 obtain⟨dAl,F2,q2,m3⟩:=B1.go X G
 obtain⟨dBs,a3,T8,q3⟩:=B2.go X G
 obtain⟨dLl,q4,T9,T'⟩:=B3.go X G
 obtain⟨dFl,q5,U0,U1⟩:=B4.go X G
 obtain⟨dRo,q6,U2,U3⟩:=B5.go X G
 obtain⟨dTo,q7,U4,U5⟩:=B6.go X G
 obtain⟨dmI,q',kmI⟩:=H3.go
 obtain⟨dmB,a4,kmB⟩:=H4.go
 obtain⟨dmO,r0,kmO⟩:=H5.go
 obtain⟨dmC,r1,kmC⟩:=H6.go
 obtain⟨dmW,r2,kmW⟩:=H7.go
 obtain⟨dTI,r3,kTI⟩:=H8.go
 obtain⟨dTT,r4,kTT⟩:=H9.go
 obtain⟨dTN,r5,kTN⟩:=H'.go
 obtain⟨dRI,r6,kRI⟩:=I1.go
 obtain⟨dRC,a5,kRC⟩:=I2.go
 obtain⟨dRW,r7,kRW⟩:=I3.go
 obtain⟨dLI,r8,kLI⟩:=I4.go
 obtain⟨dLL,a',kLL⟩:=I5.go
 obtain⟨dLD,r9,kLD⟩:=I6.go
 obtain⟨dLS,r',kLS⟩:=I7.go
 obtain⟨ocZ,odZ,U6,U7,U8,U9,U',V0,slZ,lZ,cZ,kZ⟩:=tZ.2
 have FZ:=si (st:=nK) lZ cZ kZ
 have i:=mg_none_of X G z2
 have n0:=mg_none_of X G z3
 have a:=mg_none_of X G O
 have u:=mg_none_of X G z0
 have d:=mg_none_of X G r
 have N:=mg_none_of X G Q
 have g:=mg_none_of X G B
 have J:=mg_none_of X G z4
 have n1:=mg_none_of X G z5
 have k:=mg_none_of X G z1
 have b:=mg_none_of X G o
 have m:=mg_none_of X G j
 have s3:ny K x:=λH=>.inr #[_,_,_,B8,Z,Z,cg,(.cons #[_,Z] (.cons #[_,Z] .nil))]
 refine#[fnOf "law" "law" (bH nK) (bb nK) (ae nK) .none U6 U7 U8 U9 U' V0,λs v=>.of_eq Z,λbase _ _=>?_]
 have q:af l.prog w K mg base aE 1 c3 _ _ cn:=yh F
 have V1:af l.prog w K mg base aE 1 c2 _ _ (oq K):=Cr k7 i n0
 have s4:af l.prog w K mg base aE 2 c4 _ _ mN:=pF F4 #[q,F.b2,p,M]
 have s5:af l.prog w K mg base aE 2 c5 _ _ gq:=tS F5 q F.b2 p M a
 have NS:=AU (P:=l.prog) (w:=w) (base:=base) t t.b1 D J g
 have s6:af l.prog w K mg base aE 7 L _ _ (dh 6):=NS 6
 have V2:af l.prog w K mg base aE 7 L _ _ (oC K):=CG (fN:=L) (fdN:=I') t #[NS 5,t.b1,R,D] J g
 have V3:af l.prog w K mg base aE 1 b0 _ _ mO:=CH i5
 have US:=FR (P:=l.prog) (w:=w) (base:=base) j0 i' S j0.b2 L1 i'.b2 L0 S.b2 m2 #[V3,i5.b1,J0,K5] #[s6,t.b1,R,D] u J g d
 have V4:af l.prog w K mg base aE 31 f0 _ _ (gw 7):=(US 7).2
 have V5:af l.prog w K mg base aE 10 f0 _ _ (gw 0):=(US 0).2
 have V6:af l.prog w K mg base aE 1 b6 _ _ mE:=Cq j1
 have s7:af l.prog w K mg base aE 2 b7 _ _ gK:=yb F3 #[V6,j1.b1,L3,L5] u
 have V7:af l.prog w K mg base aE 1 b8 _ _ iz:=xU j3
 have V8:af l.prog w K mg base aE 8 f1 _ _ gu:=tT T #[s6,t.b1,R,D]
 have V9:af l.prog w K mg base aE 8 f1 _ _ (oE K):=CM T #[V2,t.b1,R,D]
 have V':af l.prog w K mg base aE 11 b9 _ _ iF:=yg j5 #[V5,S.b2,k3,m2]
 have W0:af l.prog w K mg base aE 63 f4 _ _ (mP C 8):=Ii (P:=l.prog) (w:=w) (base:=base) ck a4 r0 r1 r2 a4.b3 i4 r0.b3 H0 r1.b3 H1 r2.b4 H2 #[s7,F3.b1,k4,j2] #[V4,S.b2,k3,m2] #[V7,j3.b1,L6,L7] #[V8,T.b1,k5,j4] #[V',j5.b2,L8,L'] i N d 8 (Nat.le_refl _)
 have W1:af l.prog w K mg base aE 3 f3 _ _ (oA C):=CA q' ck #[s7,F3.b1,k4,j2]
 have W2:af l.prog w K mg base aE 64 b' _ _ (lW K x):=yd j' ck mk W1 q'.b2 (mg_of X G B') (mg_of X G B7) s3 W0 a4.b3 i4 #[V9,T.b1,k5,j4] N d
 have W3:af l.prog w K mg base aE 65 c1 _ _ (lS K x):=ya k6 #[W2,j'.b3,N1,N2] N
 have W4:af l.prog w K mg base aE 1 c6 _ _ iE:=pC l1 (mg_of X G v0)
 have G':af l.prog w K mg base aE 7 c9 _ _ (cw K 6):=wj (P:=l.prog) (w:=w) (base:=base) E E.b2 U #[W4,l1.b3,P1,P4] 6
 have G1:af l.prog w K mg base aE 1 d3 _ _ (iy x):=tN I
 have s8:af l.prog w K mg base aE 2 d4 _ _ (iD x):=px F7 #[G1,I.b2,V,Y] k n1
 have W5:af l.prog w K mg base aE 8 d5 _ _ gA:=pI l9 #[G',E.b2,k0,U] N
 have W6:af l.prog w K mg base aE 9 d6 _ _ (gm x):=pk l' #[s8,F7.b3,l7,l8] #[G1,I.b2,V,Y] #[G',E.b2,k0,U] #[W5,l9.b2,Q',R0]
 have W7:af l.prog w K mg base aE 1 f2 _ _ eR:=tP F0
 have s9:af l.prog w K mg base aE 8 d7 _ _ (mH x):=tO F8 #[G1,I.b2,V,Y] #[G',E.b2,k0,U] N s3
 have W8:af l.prog w K mg base aE 9 d8 _ _ (gp x):=YW n6 #[s9,F8.b3,n4,n5] k n1
 have W9:af l.prog w K mg base aE 9 d' _ _ (vC x):=pG n7 #[G1,I.b2,V,Y] #[s8,F7.b3,l7,l8] #[W7,F0.b1,n2,n3] #[s9,F8.b3,n4,n5]
 have hxL:clsIn K y≠none:=by
  unfold clsIn
  rw[D1]
  intro z
  cases z
 have hxD:clsIn K A≠none:=by
  unfold clsIn
  rw[E1]
  intro z
  cases z
 have W':=mg_of X G C'
 have Y':=mg_of X G D0
 have Z':XM K mg "TooLong" y:=#[e0,k1,X',t1,W']
 have xmD:XM K mg "TooDeep" A:=#[e1,k2,i2,t2,Y']
 have s':af l.prog w K mg base aE 1 c' _ _ lT:=pE F6
 have GPf:af l.prog w K mg base aE 2 d2 _ _ lT:=pH l6 #[s',F6.b2,l2,l3]
 have GBe:af l.prog w K mg base aE 2 d0 _ _ hX:=tL l4 #[s',F6.b2,l2,l3] i
 have GDp:af l.prog w K mg base (fu l.prog w) 1 d1 _ _ (eO A):=pq l5 (mg_of X G vD) xmD
 have GTI:af l.prog w K mg base aE 1 f5 _ _ (lX c):=yi r3 rk
 have GTT:af l.prog w K mg base (fu l.prog w) 1 f6 _ _ (iG c y):=tU r4 rk Z'
 have GTN:af l.prog w K mg base aE 1 f7 _ _ (gr c):=yj r5 rk
 have GRI:af l.prog w K mg base aE 2 f8 _ _ (lU c):=ye r6 rk GTI r3.b3 (mg_of X G vT) tm
 have GRC:=El (P:=l.prog) (w:=w) (base:=base) rk a5 a5.b4 m0 r7 r7.b3 m8 #[W8,n6.b2,R4,R5] #[W6,l'.b3,R1,R3] #[W9,n7.b2,R6,R7] GTT r4.b1 m5 GTN r5.b2 m7 (GDp) l5.b1 P7 P8 #[GPf,l6.b2,P9,P'] N 16
 have GRu:af l.prog w K mg base (fu l.prog w) 45 e2 _ _ (oF y A x):=CO n' rk E5 GRI r6.b4 (mg_of X G vR) #[GBe,l4.b3,P5,P6] GRC a5.b4 m0
 have GCe:af l.prog w K mg base aE 3 g0 _ _ hZ:=tM p7 #[q,F.b2,p,M] #[s4,F4.b1,k8,k9] a
 have GCg:af l.prog w K mg base aE 3 g1 _ _ oy:=Cy p9 #[q,F.b2,p,M] #[s4,F4.b1,k8,k9] a
 have hxB:clsIn K xB≠none:=by
  unfold clsIn
  rw[E2]
  intro z
  cases z
 have mxB:=mg_of X G vB
 have GWi:af l.prog w K mg base aE 34 e4 _ _ (iI 16):=FX (P:=l.prog) (w:=w) (base:=base) F1 F1.b2 o7 F9 F9.b2 o8 b 16
 have GWa:af l.prog w K mg base aE 35 e3 _ _ (mV 17):=tX (n:=16) F1 #[GWi,F9.b2,S0,o8]
 have t4:af l.prog w K mg base aE 36 e5 _ _ (iX 17):=CJ (n:=16) a1 #[GWa,F1.b2,R',o7]
 have t5:af l.prog w K mg base aE 1 e6 _ _ mG:=Cz a2
 have GFz:af l.prog w K mg base aE 1 f2 _ _ iB:=pw F0
 have GLk:af l.prog w K mg base aE 1 e7 _ _ lR:=xZ p2 i a
 have GLd:af l.prog w K mg base aE 2 e8 _ _ lQ:=xY p3 #[t5,a2.b1,p0,p1] i a
 have GTn:af l.prog w K mg base aE 3 e9 _ _ mQ:=CP p5 #[GLk,p2.b3,S1,S2] #[GLd,p3.b3,S3,S4] #[t5,a2.b1,p0,p1]
 have GLI:af l.prog w K mg base aE 1 f9 _ _ (lN f):=x9 r8 lk
 have GLD:af l.prog w K mg base aE 37 a0 _ _ (iA f):=xV r9 lk #[t4,a1.b2,o9,o'] a
 have GLL:af l.prog w K mg base aE 70 f' _ _ (iW f 16):=EK (P:=l.prog) (w:=w) (base:=base) lk a' a'.b5 m1 r' r'.b5 i3 #[GTn,p5.b3,S5,S6] #[t4,a1.b2,o9,o'] GLD r9.b5 m' #[GFz,F0.b1,n2,n3] b i 16
 have GLa:af l.prog w K mg base aE 71 e' _ _ lP:=xX p6 lk E' GLI r8.b1 (mg_of X G vL) GLL a'.b5 m1
 have GLb:af l.prog w K mg base aE 46 g4 _ _ (lO x):=tR q0 (GRu) n'.b5 R8 R9 #[mxB,hxB,t3,m4,E3,E4] k
 have GLc:af l.prog w K mg base aE 4 g5 _ _ ou:=Cw q1 #[GCg,p9.b2,T0,T1] #[q,F.b2,p,M] k
 have GLf:af l.prog w K mg base aE 1 g2 _ _ mJ:=CC p'
 have t6:af l.prog w K mg base aE 18 g6 _ _ (ff 17):=Ek (P:=l.prog) (w:=w) (base:=base) F2 F2.b2 m3 b 17
 have GBs:af l.prog w K mg base aE 36 g7 _ _ (gO 16):=Em (P:=l.prog) (w:=w) (base:=base) a3 a3.b5 q3 #[GLf,p'.b1,T2,T3] #[t6,F2.b2,q2,m3] b i a n0 16
 have GLl:af l.prog w K mg base aE 37 g8 _ _ oB:=CD q4 #[GBs,a3.b5,T8,q3] #[t6,F2.b2,q2,m3] g
 have GFl:af l.prog w K mg base aE 3 g' _ _ fi:=xW q5 #[q,F.b2,p,M] #[s5,F5.b2,k',l0] N
 have GRo:af l.prog w K mg base aE 3 h0 _ _ fi:=CN q6 #[q,F.b2,p,M] #[s5,F5.b2,k',l0] N
 have GTo:af l.prog w K mg base aE 3 h1 _ _ oG:=CQ q7 tk m N u i a
 exact CB FZ #[V1,k7.b2,O',P0] #[GFl,q5.b1,U0,U1] #[q,F.b2,p,M] #[GRo,q6.b1,U2,U3] #[W3,k6.b1,N3,N'] #[GCe,p7.b1,S9,S'] #[GLb,q0.b4,T4,T5] #[GLc,q1.b2,T6,T7] #[GLl,q4.b2,T9,T'] #[GLa,p6.b2,S7,S8] #[GTo,q7.b2,U4,U5]
theorem HJ{l:PySem.W.OpenLaw}{q:Program}{L:List Str}{X:(Str->Option Value)->Heap->Prop}{Y:World->Heap->Prop}{d:DefRec}{K:Params->Frag}(e:l.most=some 63)(H:d.params.defaults=[])
  (g:∀(w:World) (h:Heap),Y w h->(K w.params).In h)
  (F:∀(w:World) (mg:Str->Option Value) (b:Addr) (h:Heap),(K w.params).In h->h.Ns mainGlobals mg->mg d.name=some (.ref b)->
   ∃c:FuncData,(∀(s:Shared) (u:Value),BindsTo s c #[[u],[]] [("_law_script",u)])/\∀base:Heap,(K w.params).In base->base.Ns mainGlobals mg->af l.prog w (K w.params) mg base aE 72 b c ["_law_script"] (mM (K w.params))):
  PySem.W.WalkO q L X Y l.row.toRowW d [] (λf v=>PySem.call f v):=
 _L.Af (n:=63) (k:=72) (x:="_law_script") (CX:=λ_=>aE) (sp:=λw=>mM (K w.params)) e Pm H #[Z,Pm,Pm] g F (λ_ _ a N i _ j=>#[a,N,Z,j,i,λ_=>Z]) λ_ _ _ _ _ z=>z
end _K
structure PySem.W.Fast:Prop where(tw365003142393690449 tw8173407164626915156 tw4711392978980520390 tw12522641491908441546 tw9722276128402585632 tw7176347733913159673 tw6721510258487476319 tw2219909883323372118 tw8316904888519498376 tw17202406935855968227 tw267508654689312211 tw721592189724554402 tw7141888132103754176 tw15467011045762175860 tw4009618639441165946 tw15477487066757227089 tw6951945064231176219 tw14126776625568630396 tw1228860140277316440 tw8470875263744844080 tw1574044207730544581 tw3229808612410308294 tw9202443984754812434 tw10060875367531053696 tw10630370946536137167 tw10248017899278758292 tw11059372786379609817 tw16892022382059641782 tw189279910962153678 tw954474316180502156 tw6144392880302793235 tw13426189269530127691 tw14103482849286552574 tw11951496259228986326 tw2533321202904916580 tw11957316047864362645 tw5650344563090040468 tw18408294234295619805 tw6797156027691237014 tw12193399644858379635 tw17746928968857728146 tw6702828137699967381 tw14406670675567374894 tw268028559814370669 tw9591961140992096035 tw3425580631462142188 tw12352114932067646684 tw9912413025217177389 tw12144177622324831485 tw17608362954695579716 tw18009514500912962603 tw5202815584582016222 tw7225007912299822065 tw4459449696220047992 tw9385358172093600552 tw17847268421838087108 tw11310999702961523101 tw16612638177913281521 tw13023409106818303467 tw11697011509193961227 tw780183659872661525 tw6688233479065655810 tw7543453239158605321 tw8196775291895379782 tw16401208300257289306 tw14044736403301268483 tw13082115140976512564 tw16708370479674173102 tw3969649017085203422 tw1109683186704005112 tw6378193926500287389 tw5049489783527901559 tw8482538695919221243 tw9427856654813561648 tw14495856548389763979 tw16181078904527208457 tw11647145953850260257 tw494805411678847553 tw819611723642913181 tw7557099771106130562 tw15359135888969742316 tw19248620775625607 tw5308569967314213454 tw938659337428468401 tw14405229203401854397 tw11661468765478063636 tw5029529413048014722 tw12770741417632503206 tw17936667678535613587 tw10759255589120569359 tw17354435941001204138 tw16751931356743206311 tw11394032961173572023 tw614672195041007201 tw473200908483370314 tw9693516597298356589 tw11848883584387685829 tw2359448842904444241 tw5781255512597427577 tw6138017760337125962 tw4731930370108874940 tw786236453928622823 tw8559646052404799827 tw14972970493784794826 tw5770726000535558395 tw5282841029835944941 tw14667422042244622226 tw12054997716073322503 tw10440373896955102842 tw13408922882048746635 tw44924924896903617 tw3275305465777419686 tw2191598496012596054 tw11132543214291239380 tw12311888366835852546 tw8978638487196090555 tw8629757693960483459 tw15927633267638477894 tw15236821501966127777 tw5627372303078245575 tw6055643782346644026 tw2702290462846070650 tw7421537335072306753 tw16452269746850828106 tw9741395453185678296 tw16310408562598204733 tw3549789989817560736 tw8655296100064661777 tw1361518280904858173 tw11423919756941019048 tw15130260057402595974 tw13574573120909739951 tw9505747833084672966 tw13291778656383312 tw16133366154404952834 tw14305266772193295386 tw4315599225564791223 tw5588705888334177433 tw2258909473589104570 tw1289552872980456830 tw1486341348019203389 tw13763968576093961516 tw16332589579067145311 tw7997528730218728488 tw9843397652129719166 tw18053575775040845592 tw6438781098214290735 tw9443642066510340552 tw3321666976858424413 tw2113477234774063563 tw17030156161554247250 tw17583697155868744196 tw11396862536903600115 tw15456275084829669988 tw6213606071414288447 tw6020214351419134019 tw8157521063975466580 tw11073245317982227639 tw10620789699921470916 tw10624584521572310166 tw9008991228336998662 tw13055758013827549246 tw3022063041478313126 tw12260568781683392473 tw16833751034527716637 tw57447776918832438 tw14051772658142707913 tw15789366428448594103 tw6958108427952667717 tw8798939582445734227 tw3641265935125882664 tw11363731027170252869 tw5496381341299067750 tw14075937763728692584 tw10013377432145840279 tw3117954089159405140 tw3137309870180230137 tw9039225291132090759 tw9588715559320929277 tw5671876381653627115 tw12447762900383601770 tw722553883106506058 tw6210550564935759667 tw14168453508895921807 tw8681790275117733316 tw15496050391219094864 tw11533726685776873552 tw14994605144992330747 tw10222189555583288594 tw5079271050335669893 tw10329872291052384864 tw10026602304241825006 tw3800162989667301310 tw12207157902229270058 tw18167882161222221220 tw14812500257661136167 tw1601211452796415499 tw5874797593526525888 tw15104515124446553094 tw2640685462827360810 tw6303536519489975462 tw15450972534693275273 tw15072446059706416997 tw4780535289920983489 tw444704473591096285 tw6360967761818678862 tw10208557657853367303 tw256357448097687849 tw10968655203763861253 tw16511887159526766172 tw7530671869514846995 tw4987845561765830528 tw3587284007821910143 tw6091426122958230813 tw10520421028878870830 tw6739230676176566386 tw4071509593821067207 tw4163516210520850940 tw15787402549497978888 tw4485521350499390701 tw4431549525756852121 tw18413321254416530456 tw6532804651973272422 tw4589197651191998134 tw10531766575637260980 tw9708559817984223454 tw13098476092078343699 tw14708028999996608276 tw8984986888612978815 tw14202537712874601944 tw13588705058450617428 tw16983498611542968193 tw862179911294521046 tw18052094284625834899 tw13449021231447259926 tw7929312966087179924 tw17817483235108021852 tw11792375675165637220 tw13290934326458161247 tw756576298977283124 tw9795611510990629119 tw14019105481608415284 tw10907466913260044971 tw10645689641077591242 tw2838701640892387468 tw10253083568858921636 tw6323277185244964874 tw5090544379514529008 tw6024819399051939106 tw14986454634235580374 tw1418892656661739936 tw17445429668473494065 tw7240488406487617671 tw9032356098293147773 tw5418347955061282850 tw12204355226567393243 tw5342743826462951672 tw715531490035636894 tw9077849255617367949 tw7866016180480165249 tw12601792438896094724 tw11380007799393804132 tw17558665780386775924 tw17124062943863532595 tw5726433155427445300 tw3025398764310821655 tw1010194595641116781 tw4424567078058846650 tw5175800103978440369 tw17516018385715624853 tw18276692730305715049 tw11895113151026014791 tw10099002914954434973 tw2808447342227364008 tw17722806390045834316 tw4532268677048727623 tw9720122669497295643 tw7108600548411242616 tw5025472614391632814 tw7513344039095909046 tw12539733866602835405 tw4996647625154916031 tw770814055189492577 tw7626896912040879398 tw58904120874477694 tw13671045408493150381 tw4340006535854539375 tw2416207726732529361 tw5630704475579745833 tw1173756780170148899 tw7938673740684870441 tw17383582497061539415 tw17362179077785513469 tw8129140250873369675 tw12157730024041634207 tw12600588378684943736 tw9564452184035896420 tw8663277395747413063 tw5467400777085888588 tw1067757091373080330 tw7018478622691863165 tw4785337324053685838 tw16781818142060936642 tw4472409170530516181 tw3634702062280720388 tw12042781832565836606 tw3628354074510248668 tw12035374436386808488 tw17928891948403418690 tw9652086287784992946 tw9604433072015019726 tw11275286922151674343 tw17570315992071854362 tw12137421677982174558 tw16210452553517004292 tw12860435933495982159 tw12853992874518311804 tw9563015824273473266 tw14735652017808738068 tw15334147452841049137 tw5311333650795661660 tw12252084747823557900 tw4833287288474685424 tw8570121806030714617 tw17646365803630819583 tw4469182173945096448 tw17553128342656219033 tw16429470762686828374 tw13352181934044872812 tw15818622521306200043 tw12991222312646771006 tw8016043975888306176 tw11880981956670711430 tw11971045272481008862 tw1132277276390715864 tw14135171897484769974 tw6882633833446920085 tw8514632359135369093 tw6364064880826698420 tw13696577077898955834 tw4245676943370226121 tw7481579133168356436 tw15148869973094691662 tw4807390235326571023 tw10035809520822120012 tw5056307687157480389 tw13405613638305574349 tw16459154727462148463 tw9845383528655721925 tw11765201731129782757 tw5439008719553616350 tw11939524488075571919 tw6483571188432583331 tw16068437084143821391 tw6448049213410628130 tw9521270640781623474 tw16946951381455875001 tw15416638588382171216 tw10639263429235866569 tw2404755747999126550 tw6600939181972568118 tw4085020584107186367 tw9035612128857808025 tw10740499893402090667 tw16405930605571988188 tw2967939692553069143 tw4207935763464765324 tw5958615309474588764 tw8681774622092701111 tw17266820786404318474 tw3105275903183216393 tw14447043551248543566 tw17889662001381182421 tw13289452482279092821 tw4484767442390497899 tw13592877152222276039 tw10666270333366308614 tw16045212235702870714 tw10864716843115953858 tw13534425127245251412 tw17501304067391633656 tw17891481580836126162 tw10301202524670130719 tw13182250912043180096 tw9918800888343441706 tw6664426921360320009 tw6273719339014660907 tw7939149485812969644 tw9120360698429324254 tw6323304046519248663 tw8290431993601483680 tw13741865233332378743 tw10550982930432881031 tw3050573161379138501 tw148591494920199004 tw7361422331722681107 tw5308607769629994435 tw16850798347781085157 tw2516336272859115996 tw4754681349941761886 tw14824182718446200107 tw4042279883958438136 tw5587572771041844044 tw14502156168714796566 tw16648561926453318641 tw8084002703003500737 tw17963867983703232750 tw1810226978424609690:True)
open PySem PySem.W PyProof.Rows PySem.W.X
theorem _K.FV {q : Program} {loose : List PySem.Str} {XP : (PySem.Str → Option Value) → Heap → Prop} {K : Params → Frag} {as : List Addr} {n t : Nat} {r : RowW} {d : DefRec} {kwd : List (PySem.Str × PySem.Expr)} {run : Value → List Value → Sem Value}
    (e : ∀ P, as = (K P).map (·.1)) (h : WalkO q loose XP (InK K) r d kwd run) : WalkX q loose XP (obsZ as) (valZ K n t) r d kwd run :=
  fun w s₀ s₁ mg mb G Y a o pm cd doc dV kV h1 h2 h3 h4 h5 h6 args vals as' L => h w s₀ s₁ mg mb G (InK.keeps w _ _ (z_facts e Y).2.1 L.keeps) a o pm cd doc dV kV h1 h2 h3 h4 h5 h6 args vals as'
set_option maxRecDepth 100000 in
set_option maxHeartbeats 0 in
theorem PySem.Challenge.cw_againbook_k31_likes_in_one_chain_holds : PySem.Challenge.rw_againbook_k31_likes_in_one_chain.Holds := by
  w_on; o_law; z_head; (case hw => w_witness2)
  refine _K.FV (fun _ => by rfl) (_K.HJ (l := PySem.Challenge.rw_againbook_k31_likes_in_one_chain) rfl rfl (fun w h Y => Y) ?F)
  case F =>
    intro w mg fa h KX G hmg
    apply _K.Bo KX G hmg
    iterate 51 (apply _K.Hv;iterate 4 k_is)
    iterate 24 k_is
    iterate 2 k_exc
    iterate 2 (constructor<;>k_is)
    refine ⟨⟨?_,?_,?_,?_⟩,?_,?_,?_,?_,?_⟩;iterate 4 k_is
    iterate 5 (unfold _L.aX;k_is)
    iterate 2 (constructor;iterate 4 k_is)
    iterate 4 (constructor;iterate 3 k_is)
    refine ⟨⟨?_,?_,?_,?_⟩,?_,?_,?_,?_⟩;iterate 4 k_is
    iterate 4 (unfold _L.aX;k_is)
    constructor;iterate 4 k_is
    iterate 3 (constructor;iterate 3 k_is)
    refine ⟨⟨?_,?_,?_,?_⟩,?_,?_⟩;iterate 4 k_is
    iterate 2 (unfold _L.aX;k_is)
    constructor;iterate 4 k_is
    iterate 4 (constructor;iterate 3 k_is)
    iterate 15 (apply _K.Ig;iterate 3 k_is)
    iterate 12 k_is
    constructor;iterate 2 kit_is
