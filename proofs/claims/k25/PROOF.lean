import PyProof.Rows.All
import Wide.All
import OpenK.AllK
import Wide.FinOn
import Lean
import PyProof.EqAt
import PyProof.EqKinds
import PyProof.TupleCall
import PySem.Challenge.RW_againbook_k25_paths_and_steps
set_option Elab.async false
set_option linter.all false
set_option maxRecDepth 100000
set_option genSizeOf false
theorem iw:0≤PySem.sizeLine:=by decide
theorem gK:1≤PySem.sizeLine:=by decide
theorem bK:2≤PySem.sizeLine:=by decide
theorem dZ:3≤PySem.sizeLine:=by decide
theorem oe:4≤PySem.sizeLine:=by decide
set_option Elab.async false
set_option linter.all false
set_option maxRecDepth 100000
set_option maxHeartbeats 4000000
open PySem.W (keepIn Frag nsIn kitOne fnOf mg_of codeIn findIn mroIn isFn mg_none_of kia_one typeIn emptyDict clsIn instObj hasDictIn kitAny specialIn callWith_K excIn lookIn plainGet notCls tailIn)
theorem Se{p:Prop}(h:p:=by decide):p:=h
theorem Sf{p:Prop}(h:p:=by omega):p:=h
theorem Si{p:Prop}(h:p:=by simp):p:=h
theorem Sj{p:Prop}(h:p:=by decide +kernel):p:=h
theorem Sl{p:Prop}(h:p:=by rfl):p:=h
theorem Z{α:Sort u}{a:α}:a=a:=rfl
open PySem renaming wpAny_bind->GZ,wpAny_pure->Hc,wpAny_holding->Hs,wpAny_field->HJ,wpAny_call_entry->HU,wpAny_callSpecial?_slot->HX,wpAny_newObj_type->HY,wpAny_setField->Ic,builtinLookup_eq_fast->Ie,boot_len->Ih,wpAny_mono->Ik,wpAny_seqItems->Iu,wpAny_Call_Name_kw->Iv,typeLookup_type->II,codeAny_builtin->IJ,mem_of_lookup->IM,wpAny_truthy_bool->IP,isSubtype_type->I0,wpAny_setState_of->I9,wpAny_specialOf->La,wpAny_typeOf->Le,wpAny_rule->Lj,wpAny_execs_nil->Lq,wpAny_attempt->Lr,plainId_quiet->Ls,wpAny_isInstance->Lu,sizeLine_eq->Lw,wpAny_setField_rec->Lz,codeAny_mono->LA,wpAny_passesOwn->LB,wpAny_standAt->LC,wpAny_askSetting->LS,wpAny_setEntries_of->LX,wpAny_newList->LZ,wpAny_pyIter_tuple->Ma,wpAny_pyIter_list->Me,wpAny_newTuple->Mf,codeAny_handlers_test->Mi,wpAny_handleBy_cons->Mu,wpAny_loadPart->ME,tupleKind_room_in1->MF,wpAny_of_eq->MS,fits_of_scanBound->MV,wpAny_execs_cons->M7,entryFor_of_tree->M8,wpAny_call->Nc,call_meets->Nf,wpAny_updateSeq->Nh,wpAny_fieldsOf->No,isSubtype_stop->Nq,entryFor_alias->Nr,wpAny_onRaise->NC,wpAny_sequenceKey->NN,wpAny_pyIter_slot->NO,noFill_tuple_add->N6,codeAny_of_tree->Om,wpAny_runValue->OA,wpAny_listPart->OB,wpAny_bindName->OC,wpAny_comprehension_free->OL,seq_tuple_add->OM,wpAny_pyNext_list_item->OZ,seqIndex_neg->O1,concat_meets->O4,callType_new->O6,wpAny_pyNext_list_end->Pe,wpAny_isTrue_Compare1->Pf,wpAny_updateSeq_pair->Pm,wpAny_loadName_local->Pn,wpAny_letGo->Po,seqIndex_of->Pp,codeAny_extend_loopS->Pq,codeAny_call_builtin->Pr,wpAny_loadName_cell->PJ,wpAny_load->P0,wpAny_Name->P5,wpAny_storeSet_of->P8,wpAny_pyIter_enum->P9,wpAny_assign_Name->P',wpAny_Assign_Name->Ra,slot_list_setitem->Rb,wpAny_Try_except->Rk,merged_length_le->Rl,wpAny_Expr_any->R3,callType_codes->R6
open List renaming getElem?_eq_getElem->G8,length_map->He,length_append->Hf,size_toArray->Hh,mem_of_getElem?->Hu,map_append->Hz,mem_append_right->HC,getElem?_map->HE,mem_cons_self->HI,not_mem_nil->HK,length_take->HL,length_cons->HM,mem_cons_of_mem->HQ,getElem?_eq_none->Ib,mem_of_mem_take->Ii,take_length->Im,getD_eq_getElem?_getD->Io,map_cons->Ix,lookup_cons->Iy,mem_append_left->IH,take_add_one->IN,mem_cons->IW,getElem?_set_ne->IY,forIn_cons->IZ,take_of_length_le->J',getElem?_set_self->K',length_drop->Lb,getElem?_append_right->Ld,getElem?_append_left->Li,take_sublist->Lm,append_assoc->Ln,length_singleton->Lx,take_succ->LD,forIn_nil->LF,getElem_mem->LG,mem_append->LV,find?_cons->LW,map_map->L9,take_append_drop->Mc,getElem?_reverse->Md,map_take->Mh,append_nil->Ml,reverse_cons->Mw,length_range->Mx,append_cancel_right->Mz,any_cons->MD,ext_getElem->MJ,all_eq_true->MK,of_mem_zip->M0,length_set->M1,length_replicate->M5,length_filter_le->M6,nodup_nil->M',mem_of_mem_drop->Na,filterMap_cons->Nk,mem_singleton->Nn,eraseIdx_eq_take_drop_succ->NB,length_zip->NJ,length_nil->NK,length_eraseIdx_of_lt->N0,getElem?_zip_eq_some->Oa,all_cons->Oh,getElem?_replicate->Oo,append_cancel_left->Op,map_nil->Ot,getElem_cons_drop->Ou,length_reverse->OQ,forIn_toArray->OV,filter_append->OW,any_eq_false->O8,zipIdx_cons->Ph,append_inj'->Pj,any_eq_true->Pk,zipIdx_nil->Pw,nodup_cons->Px,mem_filter->Py,take_take->PQ,drop_zero->PR,map_drop->P7,map_set->Rh
open PySem.Heap renaming get?_push_of_some->Hd,lt_size->Hi,get?_push_size->Hj,get?_update_other->Ht,get?_update_self->HW,size_push->Ij,size_update->NF,get?_update_ne->OR
open Nat renaming le_refl->Hg,ne_of_lt->Hm,zero_le->Ho,lt_of_lt_of_le->Hq,le_trans->Hr,ne_of_gt->Il,lt_irrefl->Ip,lt_succ_self->IF,le_succ->IL,succ_le_succ->IU,lt_of_le_of_lt->IV,min_eq_left->Ll,lt_succ_of_lt->Lo,le_of_lt->Lp,le_add_right->LM,le_max_right->Mg,not_lt_zero->Mn,le_max_left->Mo,zero_add->MX,sub_self->MY,lt_or_ge->MZ,sub_zero->Ny,lt_of_succ_lt->Nz,le_of_eq->NA,min_le_left->NT,add_sub_cancel'->OT,add_le_add_left->OU,le_of_not_lt->Pt,le_add_left->PM,max_assoc->Rc,mod_lt->Sc
open Bool renaming false_ne_true->Hl,false_eq_true->Hn,and_eq_true->IE,not_true->LQ,eq_iff_iff->M3,and_false->Nb,or_false->Oi,not_eq_true'->Pb,eq_false_iff->Pd,false_and->PZ,true_or->Rj
open PySem.F renaming plainAttrs_list->Hv,type_list_append->HN,slot_list_append->HP,slot_tuple_iterator_next->Iz,slot_zip_next->IG,type_list_extend->LJ,slot_list_extend->LK,args_tuple_iterator_next_1->LN,plain_list_iadd->LO,args_zip_next_1->LP,entry_tuple_iterator_next->LU,entry_zip_next->LY,args_object_init_2->Mm,args_tuple_add_2->Mt,entry_tuple_add->Mv,slot_tuple_add->MG,plainAttrs_str->MH,type_str_join->MM,slot_str_join->MN,slot_dict_get->MO,plain_proto_collect->ND,entry_proto_collect->NE,plain_extend_loop->NH,plain_tuple_new->NW,entry_list_iadd->NY,args_dict_get_3->NZ,entry_dict_get->N8,slot_set_iter->Of,plain_set_new->Og,args_list_extend_2->Pa,entry_list_extend->Pl,slot_list_extend->Pz
open Array renaming length_toList->HF,getElem?_toList->IR,getElem?_eq_getElem->Lh,getElem?_eq_none->MQ,size_append->Nv,toList_push->OY,size_map->PH
open PySem.Obj renaming data_mapFields->HS,isFreed_of_fields->IA,cls_mapFields->Mb
open Option.some renaming inj->HV
open PySem.PassesOwn renaming never->HZ
open Int renaming emod_lt_of_pos->Ia,toNat_natCast->Iq,emod_nonneg->Iw,toNat_of_nonneg->Nl,eq_ofNat_of_zero_le->Ov,ediv_nonneg->PV
open PyProof.Rows renaming callWith_type1->Ig,boot_tuple->IQ,slot_tuple_getitem->Lg,listUpdate_at->Mq,seqEpoch_at->MT,entry_list_sort->Nj,slot_list_sort->Np,boot_sorted->Nt,args_list_sort->Nu,plain_sorted->NP,entry_sorted->NQ,args_sorted1->NR,kind_sorted->Oc,list_sort_plain->Oj,get?_update_seq->Ol,boot_isinstance->On,size_push'->OD,boot_reversed->ON,subscriptTail_builtinR->O0,listItems_at->O3,collect_list->O5,Subscript_->P6,boot_list->Rm,tupleItemsOf_->RT,iadd_int->RU,entry_tuple_getitem->RV,callWith_builtin1->RW,boot_zip->RX,boot_enumerate->RY,boot_dict->RZ,args_tuple_getitem->R0,slicePart_none->R4,boot_set->R8,boot_int->R9
open PySem.Around renaming under_plainId->Ir
open PySem.AutoSeq1 renaming wpAny_loadPart'->IS
open PySem.Heap.SameBut renaming update->IX,refl->Ob
open PySem.Calls renaming spliced_cons->Lc,spliced_nil->Ly,call_function_entry->LH,callWith_builtin->MP,Name_function_global->NV,evalArgs_plain->OF
open PySem.W renaming mg_none_of->Lk,kia_one->Mr,methodCall_KW->ML,looks_mroIn->MU,plainGet_of->M9,mg_of->Ni,callWith_K->NG,cellsFrom_some->N7,callWith_K0->Oq,kitx_list->OG,kitx_dict->OH,looks_typeIn->O2,any_some->Sa
open PyProof.Rows.F renaming plain_set_update_loop->Lv,entry_set_update_loop->My
open PySem.Value renaming isStrOf_shape->Mj
open PySem.W.KFB renaming if_not->MW,if_so->Sb
open PySem.SeqAt.EqAt renaming same->Ng,str_int->Od,int_str->Oe,str_str->Oy,int_int->Oz,tuple_int->PY,of_refs->Ri
open Option renaming getD_none->Nw,isNone_some->OJ,isNone_none->OK,isSome_map->OP,bind_some->OS
open PySem.Heap.IsSliceOf renaming new->NM
open PySem.W.Looks renaming of_pure->N9,ld->Pu,here->Rq
open PySem.Heap.DictOf renaming new->Ox
open PySem.IsL renaming isList->OE
open Eq renaming trans->OX
open StateT renaming run_pure->O7
open PyProof.Rows.IsTup renaming new->O9
open PySem.SeqAt.RcNeAt renaming lists->Pg
open PySem.SeqAt.RcAt renaming lists->PL,tuples->Rp
open PySem.ItemsOf renaming nil->PU
open PySem.Meets renaming of_wp->Rg
open PySem.Walks renaming list->Ro
open PySem.EqMixed renaming ne_str_int->Rr,ne_str_bool->Rs,ne_int_str->Rt,ne_bool_str->Ru,eq_str_int->Rv,eq_str_bool->Rx,eq_int_str->Ry,eq_bool_str->Rz
open PySem.Within renaming cons->RB
open PySem.EqNone renaming ne_str_none->RC,ne_none_str->RD,ne_none_none->RE,ne_none_int->RF,ne_none_bool->RG,ne_int_none->RI,ne_bool_none->RJ,eq_str_none->RL,eq_none_str->RM,eq_none_none->RN,eq_none_int->RO,eq_none_bool->RP,eq_int_none->RQ,eq_bool_none->RS
def Hk:=@decide_eq_false
def Hw:=@decide_eq_true
def HD:=@if_pos
def HG:=@if_neg
def HR:=@Ne.symm
def IB:=@if_false
def IC:=@congrArg
def ID:=@of_decide_eq_true
def IK:=@bne_self_eq_false
def I8:=@beq_self_eq_true
def Mp:=@or_false
def Ms:=@if_true
def M4:=@of_decide_eq_false
def N5:=@Iff.rfl
def PX:=@PySem.Heap.IsTupleIter.at
def Sd:=@PySem.Heap.IsList.at
local macro_rules|`(#[$x,*])=>`(⟨$x,*⟩)
local macro_rules|`(tactic|omega)=>`(tactic|lia)
namespace _L
open PySem PySem.Spec PyProof.Rows
abbrev bj:=Sum Int Str
noncomputable def iz:bj->Value->Bool
 | .inl k,v=>Value.isInt k v
 | .inr x,v=>Value.isStrOf x v
noncomputable def Fq(w:World):bj->Int
 | .inl k=>hashInt k
 | .inr x=>hashStr w x
theorem jX:∀{k:bj} {v:Value},iz k v=true->(∃i t,k=Sum.inl i/\v=Value.int i t)∨(∃x t,k=Sum.inr x/\v=Value.str x t)
 | .inl i,v,h=>by obtain⟨t,e⟩:=Value.isInt_shape (k:=i) (v:=v) h;exact .inl #[i,t,Z,e]
 | .inr x,v,h=>by obtain⟨t,e⟩:=Mj (x:=x) (v:=v) h;exact .inr #[x,t,Z,e]
theorem Zy(i:Int)(t:Tok):iz (.inl i) (.int i t)=true:=by simp [iz,Value.isInt]
theorem Zz(x:Str)(t:Tok):iz (.inr x) (.str x t)=true:=by simp [iz,Value.isStrOf]
theorem AG(a b:Int):decide ((Sum.inl a:bj)=Sum.inl b)=(a==b):=by
 by_cases e:a=b
 ·subst e;simp
 ·have h:¬(Sum.inl a:bj)=Sum.inl b:=λq=>e (Sum.inl.inj q);rw[Hk h];exact(beq_eq_false_iff_ne.mpr e).symm
theorem AN(a b:Str):decide ((Sum.inr a:bj)=Sum.inr b)=decide (a=b):=by
 by_cases e:a=b
 ·subst e;simp
 ·have h:¬(Sum.inr a:bj)=Sum.inr b:=λq=>e (Sum.inr.inj q);rw[Hk h,Hk e]
theorem AH(a:Int)(b:Str):decide ((Sum.inl a:bj)=Sum.inr b)=false:=Hk (λq=>nomatch q)
theorem AM(a:Str)(b:Int):decide ((Sum.inr a:bj)=Sum.inl b)=false:=Hk (λq=>nomatch q)
noncomputable def aS(p:Program)(w:World):PySem.KeyKind p w bj where
 is:=iz
 hash:=Fq w
 inj:=λv a b d c=>by
  rcases jX d with ⟨i,t,rfl,rfl⟩ | ⟨x,t,rfl,rfl⟩
  ·rcases jX c with ⟨j,u,rfl,e⟩ | ⟨y,u,rfl,e⟩
   ·injection e with E _;rw[E]
   ·exact nomatch e
  ·rcases jX c with ⟨j,u,rfl,e⟩ | ⟨y,u,rfl,e⟩
   ·exact nomatch e
   ·injection e with E _;rw[E]
 byValue:=λk v h=>by rcases jX h with ⟨i,t,rfl,rfl⟩ | ⟨x,t,rfl,rfl⟩<;>rfl
 pyHash:=λH h=>by
  rcases jX H with ⟨i,t,rfl,rfl⟩ | ⟨x,t,rfl,rfl⟩
  ·exact wpAny_pyHash_int h
  ·exact wpAny_pyHash_str h
 eqBool:=λf H h=>by
  rcases jX f with ⟨i,t,rfl,rfl⟩ | ⟨x,t,rfl,rfl⟩
  ·rcases jX H with ⟨j,u,rfl,rfl⟩ | ⟨y,u,rfl,rfl⟩
   ·rw[AG]at h;exact wpAny_eqBool_int h
   ·rw[AH]at h;exact Oe i t y u _ _ _ _ h
  ·rcases jX H with ⟨j,u,rfl,rfl⟩ | ⟨y,u,rfl,rfl⟩
   ·rw[AM]at h;exact Od x t j u _ _ _ _ h
   ·rw[AN]at h;exact wpAny_eqBool_str h
 «strs»:=λk x t v h=>by
  rcases jX h with ⟨i,u,rfl,e⟩ | ⟨y,u,rfl,e⟩
  ·exact nomatch e
  ·injection e with E _;subst E;cases v<;>rfl
theorem XG(p:Program)(w:World)(i:Int)(t:Tok):(aS p w).is (.inl i) (.int i t)=true:=Zy i t
theorem XH(p:Program)(w:World)(x:Str)(t:Tok):(aS p w).is (.inr x) (.str x t)=true:=Zz x t
end _L
namespace _L
open PySem PySem.Spec PyProof.Rows
inductive V where
 |non |bl (b:Bool) |int (i:Int) |str (x:Str) |byt (b:Array UInt8) |flt (b:UInt64) |ref (a:Addr) |ty (n:String)
 deriving DecidableEq
set_option genInjectivity false
def aw:V->Value->Prop
 | .non,u=>u=Value.none
 | .bl b,u=>u=Value.bool b
 | .int i,u=>∃t,u=Value.int i t
 | .str x,u=>∃t,u=Value.str x t
 | .byt b,u=>∃t,u=Value.bytes b t
 | .flt b,u=>∃t,u=Value.float b t
 | .ref a,u=>u=Value.ref a
 | .ty n,u=>u=Value.type n
abbrev au:List V->List Value->Prop:=Paired aw
theorem au.length(r:au x u):x.length=u.length:=Paired.length r
theorem au.get:∀{X:List V} {U:List Value} {i:Nat} {x:V},au X U->X[i]?=some x->∃u,U[i]?=some u/\aw x u
 |_,_,_,_,.nil,e=>by simp at e
 |_,_,0,_,.cons r _,e=>by simp at e;subst e;exact#[_,Z,r]
 |_,_,i+1,x,.cons _ t,e=>by obtain⟨u,h,H⟩:=au.get (i:=i) (x:=x) t (by simpa using e);exact#[u,by simpa using h,H]
theorem au.set(r:aw x u):∀{X:List V} {U:List Value} (i:Nat),au X U->au (X.set i x) (U.set i u)
 |_,_,_,.nil=>.nil
 |_,_,0,.cons _ t=>.cons r t
 |_,_,i+1,.cons q t=>.cons q (au.set r i t)
theorem au.append:∀{x y:List V} {u w:List Value},au x u->au y w->au (x++y) (u++w)
 |_,_,_,_,.nil,s=>s
 |_,_,_,_,.cons r t,s=>.cons r (au.append t s)
theorem au.take:∀{x:List V} {u:List Value} (n:Nat),au x u->au (x.take n) (u.take n)
 |_,_,0,_=>.nil
 |_,_,_+1,.nil=>.nil
 |_,_,n+1,.cons r t=>.cons r (au.take n t)
theorem au.drop:∀{x:List V} {u:List Value} (n:Nat),au x u->au (x.drop n) (u.drop n)
 |_,_,0,r=>r
 |_,_,_+1,.nil=>.nil
 |_,_,n+1,.cons _ t=>au.drop n t
def dw:Option V->Option Value->Prop
 |some v,some u=>aw v u
 |none,none=>True
 |_,_=>False
def KV{a:Type}:List (a×V)->List (a×Value)->Prop:=Paired λ(p:a×V) (q:a×Value)=>p.1=q.1/\aw p.2 q.2
noncomputable def kV:bj->V
 | .inl i=>.int i
 | .inr x=>.str x
inductive HO where
 |lst (xs:List V)
 |tup (xs:List V)
 |dK (kvs:List (bj×V)) |dT (kvs:List (List bj×V))
 |set (S:Int->Bool) (n:Nat)
 |ins (C dx:Addr) (fs:List (Str×V))
 |own (x:Addr)
 |xd (fs:List (Str×V))
 |met (f x:Addr)
 |rng (lo hi:Int)
 |frz (o:Obj) (u:HO)
 |tbl (ps:Array Value)
 |ext (φ:Heap->Prop)
abbrev Hp:=Addr->Option HO
noncomputable def af(H:Hp)(a:Addr)(o:HO):Hp:=λb=>if b=a then some o else H b
theorem jc:af H a o a=some o:=by unfold af;rw[HD Z]
theorem ji(h:b≠a):af H a o b=H b:=by unfold af;rw[HG h]
theorem jO{H:Hp}(h:H a=some o)(c:H b=some u)(d:o≠u):a≠b:=by intro e;subst e;rw[h]at c;exact d (HV c)
theorem jl{H:Hp}(h:H a=some o)(c:H b=none):a≠b:=by intro e;subst e;rw[h]at c;cases c
section
variable (P:Program)(w:World)
def aF(H:Hp)(h:Heap)(a:Addr):HO->Prop
 | .lst X=>X.length<=sizeLine/\∃(i:List Value) (n:Nat),au X i/\h.get? a=some { cls:=.type "list",data:=.seq i.toArray n }
 | .tup X=>X.length<=sizeLine/\∃i:List Value,au X i/\IsTup h a i.toArray
 | .dK k=>k.length<=sizeLine/\(a==sysModules)=false/\∃c,KV k c/\h.DictOf (aS P w) a c
 | .dT k=>k.length<=sizeLine/\(a==sysModules)=false/\∃X:List (List bj×Addr×Value),
   Paired (λ(p:List bj×V) (q:List bj×Addr×Value)=>p.1=q.1/\H q.2.1=some (.tup$ p.1.map kV)/\aw p.2 q.2.2) k X/\
   ∃o e E,h.get? a=some o/\o.ExactDict/\o.data= .dict e E/\e.toList=X.map (entryOfKey$ tupleKind$ aS P w)/\(X.map (·.1)).Nodup
 | .set S n=>h.SetOf (intKind P w) a S n
 | .ins C d F=>H d=some (.own a)/\F.length<=1000/\d≠a/\h.get? a=some (instObj C d)/\
   ∃m,h.Ns1 d m/\(∀f,dw (F.lookup f)$ m f)/\PySem.Within m (F.map (·.1))
 | .own _=>∃o,h.get? a=some o
 | .xd F=>∃m,h.Ns1 a m/\∀f,dw (F.lookup f) (m f)
 | .rng lo l=>∃t u v,h.get? a=some { cls:=.type "range",data:=.fields (List.toArray [.int lo t,.int l u,.int 1 v]) }
 | .frz o u=>h.get? a=some o/\aF H h a u
 | .tbl r=>h.get? a=some { cls:=.none,data:=.fields r }
 | .met f x=>h.get? a=some (PySem.W.methodObj (.ref f) (.ref x))
 | .ext b=>b h/\(∃o,h.get? a=some o)/\∀g j:Heap,b g->(∀o,g.get? a=some o->j.get? a=some o)->b j
def eh(H:Hp)(h:Heap):Prop:=∀a o,H a=some o->aF P w H h a o
end
section
variable {P:Program}{w:World}{H H':Hp}{h h':Heap}{a:Addr}{o:HO}
theorem aF.lt(x:aF P w H h a o):a < h.objs.size:=by
 cases o with
 |lst X=>obtain⟨_,_,_,_,e⟩:=x;exact Hi e
 |tup X=>obtain⟨_,_,_,p⟩:=x;exact p.lt
 |dK k=>obtain⟨_,_,_,_,o,_,_,e,_⟩:=x;exact Hi e
 |dT k=>obtain⟨_,_,_,_,o,_,_,e,_⟩:=x;exact Hi e
 |set S n=>obtain⟨o,_,_,_,e,_⟩:=x;exact Hi e
 |ins C d F=>obtain⟨_,_,_,e,_⟩:=x;exact Hi e
 |own y=>obtain⟨_,e⟩:=x;exact Hi e
 |xd F=>obtain⟨_,⟨_,_,_,e,_⟩,_⟩:=x;exact Hi e
 |rng lo b=>obtain⟨_,_,_,e⟩:=x;exact Hi e
 |frz O u=>obtain⟨e,_⟩:=x;exact Hi e
 |tbl c=>exact Hi (show h.get? a=some _ from x)
 |met f y=>exact Hi (show h.get? a=some _ from x)
 |ext g=>obtain⟨_,⟨_,e⟩,_⟩:=x;exact Hi e
theorem Paired.mapP{c d:Type}{F G:c->d->Prop}:∀{l:List c} {L:List d},Paired F l L->(∀a b,F a b->G a b)->Paired G l L
 |_,_,.nil,_=>.nil
 |_,_,.cons r t,f=>.cons (f _ _ r) (Paired.mapP t f)
theorem aF.stay(x:aF P w H h a o)(k:∀b u,(b=a∨H b=some (.own a))->h.get? b=some u->h'.get? b=some u)
  (s:∀b,H b=some (.own a)->H' b=some (.own a)) (A:∀b X,H b=some (.tup X)->H' b=some (.tup X)):aF P w H' h' a o:=by
 induction o with
 |lst X=>obtain⟨z,i,n,r,e⟩:=x;exact#[z,i,n,r,k _ _ (.inl Z) e]
 |tup X=>obtain⟨z,i,r,O,e,c⟩:=x;exact#[z,i,r,O,k _ _ (.inl Z) e,c]
 |dK K=>obtain⟨z,y,V,r,O,E,g,e,c⟩:=x;exact#[z,y,V,r,O,E,g,k _ _ (.inl Z) e,c]
 |dT K=>obtain⟨z,y,X,r,O,E,g,e,c⟩:=x;exact#[z,y,X,Paired.mapP r λp q z=>#[z.1,A _ _ z.2.1,z.2.2],O,E,g,k _ _ (.inl Z) e,c]
 |set S n=>obtain⟨O,E,g,t,e,c⟩:=x;exact#[O,E,g,t,k _ _ (.inl Z) e,c]
 |ins C D F=>obtain⟨d,z,N,e,m,⟨j,E,g,B,c⟩,r⟩:=x;exact#[s _ d,z,N,k _ _ (.inl Z) e,m,#[j,E,g,k _ _ (.inr d) B,c],r]
 |own y=>obtain⟨O,e⟩:=x;exact#[O,k _ _ (.inl Z) e]
 |xd F=>obtain⟨m,⟨j,E,g,e,c⟩,r⟩:=x;exact#[m,#[j,E,g,k _ _ (.inl Z) e,c],r]
 |rng lo G=>obtain⟨t,u,v,e⟩:=x;exact#[t,u,v,k _ _ (.inl Z) e]
 |frz O u I=>obtain⟨e,q⟩:=x;exact#[k _ _ (.inl Z) e,I q]
 |tbl l=>have e:h.get? a=some { cls:=.none,data:=.fields l }:=x;show h'.get? a=some { cls:=.none,data:=.fields l };exact k a _ (.inl Z) e
 |met f y=>have e:h.get? a=some (PySem.W.methodObj (.ref f)$ .ref y):=x;show h'.get? a=some (PySem.W.methodObj (.ref f)$ .ref y);exact k a _ (.inl Z) e
 |ext J=>obtain⟨p,⟨o,e⟩,st⟩:=x;exact#[st _ _ p λo q=>k _ _ (.inl Z) q,#[o,k _ _ (.inl Z) e],st]
theorem eh.lt(x:eh P w H h)(e:H a=some o):a < h.objs.size:=(x a o e).lt
theorem eh.fresh(x:eh P w H h)(e:h.objs.size<=a):H a=none:=by
 cases q:H a with
 |none=>rfl
 |some u=>exact absurd (Hq (x.lt q) e) (Ip _)
theorem eh.kept(x:eh P w H h)(k:∀b u,h.get? b=some u->h'.get? b=some u):eh P w H h':=λa o e=>
 (x a o e).stay (λb u _ q=>k b u q) (λ_ q=>q) λ_ _ q=>q
theorem eh.laid(x:eh P w H h)(k:∀b u,h.get? b=some u->h'.get? b=some u)(g:h.objs.size<=a)(n:aF P w (af H a o) h' a o):eh P w (af H a o) h':=λb u e=>by
 have d:=x.fresh g;by_cases f:b=a
 ·subst f;rw[jc]at e;cases e;exact n
 ·rw[ji f]at e;exact(x b u e).stay (λc v _ q=>k c v q) (λc q=>by rw[ji$ jl q d];exact q) λc X q=>by rw[ji$ jl q d];exact q
end
def Rd(H:Hp)(a:Addr)(u:HO):Prop:=H a=some u∨∃o,H a=some (.frz o u)
theorem Rd.ok{P:Program}(r:Rd H a u)(x:eh P w H h):aF P w H h a u:=by
 rcases r with r | ⟨o,r⟩
 ·exact x a u r
 ·obtain⟨_,q⟩:=x a _ r;exact q
def C4:Option HO->Prop
 |some (.lst _)=>True
 |some (.dK _)=>True
 |some (.dT _)=>True
 |some (.set _ _)=>True
 |some (.ins _ _ _)=>True
 |some (.ext _)=>True
 |_=>False
section
variable {P:Program}{w:World}{H:Hp}{h h':Heap}{x e:Addr}{o':HO}
theorem eh.write(o:eh P w H h)(m:C4 (H x))(i:e=x∨H e=some (.own x))(k:∀b u,b≠e->h.get? b=some u->h'.get? b=some u)(f:∃u,h'.get? e=some u)
  (g:aF P w (af H x o') h' x o'):eh P w (af H x o') h':=λb u q=>by
 have n:∀c y,H c=some (.own y)->c≠x:=λc y r z=>by subst z;rw[r]at m;exact m
 have N:∀c X,H c=some (.tup X)->c≠x:=λc X r z=>by subst z;rw[r]at m;exact m
 by_cases d:b=x
 ·subst d;rw[jc]at q;cases q;exact g
 ·rw[ji d]at q;by_cases a:b=e
  ·have Q:H b=some (.own x):=by
    rcases i with z |z
    ·exact absurd (a.trans z) d
    ·rw[a];exact z
   rw[q]at Q;cases Q;obtain⟨v,j⟩:=f;exact#[v,by rw[a];exact j]
  ·refine(o b u q).stay (λc v hc r=>k c v ?_ r) (λc r=>by rw[ji$ n c b r];exact r) λc X r=>by rw[ji$ N c X r];exact r
   rcases hc with rfl |hc
   ·exact a
   ·rintro rfl;rcases i with z |z
    ·exact n c b hc z
    ·rw[hc]at z;cases z;exact d Z
end
structure Un(fs ex:List Addr)(H H':Hp)(h h':Heap):Prop where
 keep:∀b o,h.get? b=some o->H b=none->b∉fs->b∉ex->h'.get? b=some o
 slot:∀b o,h.get? b=some o->H b=none->b∈fs->b∉ex->∃sl,h'.get? b=some { o with slots:=sl }
 free:∀b o,h.get? b=some o->H b=none->b∉ex->H' b=none
 there:∀b o,h.get? b=some o->b∉ex->∃o',h'.get? b=some o'
 tups:∀b xs,H b=some (.tup xs)->H' b=some (.tup xs)
 frzs:∀b o u,H b=some (.frz o u)->H' b=some (.frz o u)
 tbls:∀b ps,H b=some (.tbl ps)->∃more,H' b=some (.tbl$ ps++more)
section
variable {fs fs' ex ex':List Addr}{H H1 H2:Hp}{h h1 h2 h':Heap}{a x e:Addr}{o:HO}
theorem Un.any(u:Un fs ex H H1 h h1)(q:h.get? b=some O)(n:H b=none)(c:b∉ex):∃s,h1.get? b=some { O with slots:=s }:=by
 by_cases d:b∈fs
 ·exact u.slot b O q n d c
 ·exact#[O.slots,u.keep b O q n d c]
theorem Un.kept(k:∀b u,h.get? b=some u->h'.get? b=some u):Un fs ex H H h h':=
 #[λb O q _ _ _=>k b O q,λb O q _ _ _=>#[O.slots,k b O q],λ_ _ _ n _=>n,λb O q _=>#[O,k b O q],λ_ _ q=>q,λ_ _ _ q=>q,λ_ p q=>#[(List.toArray []),by rw[q];simp]]
theorem Un.refl:Un fs ex H H h h:=Un.kept λ_ _ q=>q
theorem Un.laid(k:∀b u,h.get? b=some u->h'.get? b=some u)(d:h.objs.size<=a)(c:H a=none):Un fs ex H (af H a o) h h' where
 keep:=λb u q _ _ _=>k b u q
 slot:=λb u q _ _ _=>#[u.slots,k b u q]
 free:=λb u q n _=>by rw[ji$ Hm$ Hq (Hi q) d];exact n
 there:=λb u q _=>#[u,k b u q]
 tups:=λb X q=>by rw[ji$ jl q c];exact q
 frzs:=λb u X q=>by rw[ji$ jl q c];exact q
 tbls:=λb p q=>#[(List.toArray []),by rw[ji$ jl q c,q];simp]
theorem Un.write(m:C4 (H x))(j:e=x∨H e=some (.own x))(k:∀b u,b≠e->h.get? b=some u->h'.get? b=some u)(d:∃u,h'.get? e=some u):Un fs ex H (af H x o) h h':=by
 have g:∀b,H b=none->b≠x:=λb n z=>by subst z;rw[n]at m;exact m
 have i:∀b,H b=none->b≠e:=λb n z=>by
  subst z;rcases j with r |r
  ·exact g b n r
  ·rw[n]at r;cases r
 have f:∀b u,H b=some u->¬C4 (some u)->b≠x:=λb u q N z=>by subst z;rw[q]at m;exact N m
 refine#[λb u q n _ _=>k b u (i b n) q,λb u q n _ _=>#[u.slots,k b u (i b n) q],λb u q n _=>by rw[ji$ g b n];exact n,λb u q _=>?_,
  λb X q=>by rw[ji$ f b _ q λz=>z];exact q,λb u X q=>by rw[ji$ f b _ q λz=>z];exact q,λb p q=>#[(List.toArray []),by rw[ji$ f b _ q λz=>z,q];simp]]
 by_cases c:b=e
 ·subst c;exact d
 ·exact#[u,k b u c q]
end
noncomputable def EQ(h:Heap)(H:Hp):List Addr:=(List.range h.objs.size).filter λa=>(H a).isSome
noncomputable def iF(h:Heap)(H:Hp):Heap:=PySem.W.hideAll h (EQ h H)
theorem ZA(h:Heap)(H:Hp):(iF h H).objs.size=h.objs.size:=PySem.W.hideAll_size _ _
theorem p7{h:Heap}{H:Hp}(e:h.get? b=some o)(n:H b=none):(iF h H).get? b=some o:=
 PySem.W.hideAll_get _ e λa=>by have q:(H b).isSome=true:=(List.mem_filter.mp a).2;rw[n]at q;simp at q
theorem we(e:(iF h H).get? b=some o):h.get? b=some o/\H b=none:=by
 have E:h.get? b=some o:=PySem.W.of_hideAll (EQ h H) e;refine#[E,?_];cases q:H b with
 |none=>rfl
 |some x=>have a:b∈EQ h H:=List.mem_filter.mpr #[List.mem_range.mpr$ Hi E,by simp [q]];have z:(iF h H).get? b=none:=PySem.W.hideAll_none (EQ h H) a;rw[z]at e;cases e
end _L
namespace _L
open PySem PySem.Spec PyProof.Rows
structure Mod(K:Frag)(mg:Str->Option Value)(base:Heap):Prop where
 kin:K.In base
 glob:base.Ns mainGlobals mg
 blt:∃mb,base.Ns builtinsNs mb/\∀x:Str,x≠"__name__"->mb x=bootBuiltins x
 nolimit:base.NoLimit
structure Cx where
 prog:Program
 w:World
 K:Frag
 mg:Str->Option Value
 base:Heap
 A:Around
 N:List Str
 s₀:Shared
 H₀:Hp
 env:Env
 outer:List Env
 stack:List Env
 ex:List Addr
 fn:Str->Bool
 calm:Bool
 pn:List (Addr×Obj)
 xe:Value->Shared->Prop
noncomputable def im(l:List Env):List Addr:=l.filterMap (·.frame)
noncomputable abbrev Cx.fs(X:Cx):List Addr:=im X.outer
def EK(s:Scope)(x:Str):Prop:=s.names.lookup x=some .local∨s.names.lookup x=some .cell∨s.names.lookup x=some .free
def pj(s:Scope)(x:Str):Prop:=s.names.lookup x=some .local∨s.names.lookup x=some .cell
def EU(e:Env)(h:Heap)(m:Str->Option Value)(x:Str)(u:Value):Prop:=
 (e.kindOf x=some .local/\m x=some u)∨((e.kindOf x=some .cell∨e.kindOf x=some .free)/\∃c,e.cells.lookup x=some c/\h.IsCell c (some u))
structure Cx.Ok(X:Cx):Prop where
 mod:Mod X.K X.mg X.base
 kind:X.env.scope.kind= .function
 glob:X.env.globals=mainGlobals
 blt:X.env.builtins=builtinsNs
 above:X.s₀.heap.objs.size<=X.env.locals
 inj:∀x y c,X.env.cells.lookup x=some c->X.env.cells.lookup y=some c->x=y
 has:∀x,(X.env.kindOf x=some .cell∨X.env.kindOf x=some .free)->∃c,X.env.cells.lookup x=some c
 cab:∀x c,X.fn x=true->X.env.cells.lookup x=some c->X.s₀.heap.objs.size<=c
 hd:X.calm=true->X.A.handled=none
 frames:X.A.frames=some X.stack
 stk:X.stack=X.outer∨(X.stack=X.env::X.outer/\X.env.frame=some X.env.locals)
 exf:∀b∈X.ex,b≠X.env.locals/\∀x c,X.env.cells.lookup x=some c->c≠b
 bs:∀b o,X.base.get? b=some o->X.s₀.heap.get? b=some o/\X.H₀ b=none
 bsz:X.base.objs.size<=X.s₀.heap.objs.size
 noex:∀b o,X.base.get? b=some o->b∉X.ex
 exfs:∀b∈X.ex,b∉X.fs
 funs:X.s₀.heap.FunFrames X.base X.outer
 frf:∀b∈X.fs,X.H₀ b=none
structure ap(X:Cx)(pins:List (Addr×Obj))(σ:List (Option V))(H:Hp)(s:Shared):Prop where
 ok:X.Ok
 os:s.os=X.s₀.os
 bare:AllBare s.gens
 base:Un X.fs X.ex X.H₀ H X.s₀.heap s.heap
 loc:∃m,s.heap.Ns X.env.locals m/\∀(i:Nat) (x:Str) (v:V),X.N[i]?=some x->σ[i]?=some (some v)->EK X.env.scope x->∃u,aw v u/\EU X.env s.heap m x u
 cell:∀x c,X.env.cells.lookup x=some c->∃v,s.heap.IsCell c v
 free:H X.env.locals=none
 freeC:∀x c,X.env.cells.lookup x=some c->H c=none
 pin:∀p∈X.pn++pins,s.heap.get? p.1=some p.2/\H p.1=none/\p.1≠X.env.locals/\p.1∉X.fs/\∀v,p.2.data≠ .cell v
 hok:eh X.prog X.w H s.heap
 len:σ.length=X.N.length
section
variable {X:Cx}{pins:List (Addr×Obj)}{σ:List (Option V)}{H H':Hp}{s:Shared}{h':Heap}
theorem Cx.Ok.nofr(O:X.Ok)(e:X.base.get? b=some o):b∉X.fs:=λh=>by have:=(O.funs.mem h).1;rw[e]at this;cases this
theorem ap.bs(I:ap X pins σ H s):∀b o,X.base.get? b=some o->s.heap.get? b=some o/\H b=none:=λb o e=>
 #[I.base.keep b o (I.ok.bs b o e).1 (I.ok.bs b o e).2 (I.ok.nofr e)$ I.ok.noex b o e,I.base.free b o (I.ok.bs b o e).1 (I.ok.bs b o e).2$ I.ok.noex b o e]
theorem ap.bk(I:ap X pins σ H s):∀b o,X.base.get? b=some o->s.heap.get? b=some o:=λb o e=>(I.bs b o e).1
theorem ap.mod(I:ap X pins σ H s):Mod X.K X.mg X.base:=I.ok.mod
theorem ap.kIn(I:ap X pins σ H s):X.K.In s.heap:=I.ok.mod.kin.keeps I.bk
theorem ap.lt(I:ap X pins σ H s):X.env.locals < s.heap.objs.size:=let #[_,h,_]:=I.loc;h.lt
theorem ap.sz(I:ap X pins σ H s):X.s₀.heap.objs.size<=s.heap.objs.size:=Hr I.ok.above (Lp I.lt)
theorem ap.nofs(I:ap X pins σ H s)(h:s.heap.objs.size<=a):a∉X.fs:=λb=>by obtain⟨_,o,c,_⟩:=I.ok.funs.mem b;exact absurd (Hq (Hi c)$ Hr I.sz h)$ Ip _
theorem ap.cne(I:ap X pins σ H s):∀x c,X.env.cells.lookup x=some c->c≠X.env.locals:=λx c e z=>by obtain⟨v,o,b,d⟩:=I.cell x c e;obtain⟨m,⟨O,E,f,h,a,_⟩,_⟩:=I.loc;rw[z,h]at b;cases b;rw[a]at d;cases d
theorem ap.funs(I:ap X pins σ H s):s.heap.FunFrames X.base X.outer:=by
 have all:∀(l:List Env),(∀b∈im l,b∈X.fs)->X.s₀.heap.FunFrames X.base l->s.heap.FunFrames X.base l:=by
  intro l;induction l with
  |nil=>intro _ _;trivial
  |cons E r i=>intro d f;obtain⟨g,⟨L,o,h,j,k,m⟩,n⟩:=f;have a:L∈X.fs:=d L (by unfold im;rw[List.filterMap_cons,h];exact List.mem_cons_self);obtain⟨S,e⟩:=I.base.slot L o k (I.ok.frf L a) a λz=>I.ok.exfs L z a;exact#[g,#[L,_,h,j,e,m],i (λb c=>d b (by unfold im;rw[List.filterMap_cons,h];exact List.mem_cons_of_mem _ c)) n]
 exact all X.outer (λ_ c=>c) I.ok.funs
theorem ap.stack(I:ap X pins σ H s):s.heap.FunFrames X.base X.stack:=by
 rcases I.ok.stk with e | ⟨e,h⟩
 ·rw[e];exact I.funs
 ·rw[e];obtain⟨m,a,_⟩:=I.loc;refine .cons (by rw[I.ok.kind];decide) h a ?_ I.funs;exact Heap.get?_none_of_le$ Hr I.ok.bsz I.ok.above
theorem ap.stkSub(I:ap X pins σ H s):∀b∈im X.stack,b∈X.env.locals::X.fs:=λb h=>by
 rcases I.ok.stk with e | ⟨e,a⟩
 ·rw[e]at h;exact HQ _ h
 ·rw[e]at h;unfold im at h;rw[Nk,a]at h;exact h
theorem ap.stkFree(I:ap X pins σ H s):∀b∈im X.stack,H b=none:=λb hb=>by
 rcases List.mem_cons.mp (I.stkSub b hb) with e |hb
 ·rw[e];exact I.free
 ·obtain⟨_,o,h,_⟩:=I.ok.funs.mem hb;exact I.base.free b o h (I.ok.frf b hb) λz=>I.ok.exfs b z hb
theorem ap.step{g':Array GenState}{d':Drawn}{ch:List Addr}(I:ap X pins σ H s)
  (a:∀b∈ch,(b∈X.ex∨X.s₀.heap.objs.size<=b)/\b≠X.env.locals/\(∀x c,X.env.cells.lookup x=some c->c≠b)/\∀p∈X.pn++pins,p.1≠b)
  (K:∀b o,b≠X.env.locals->b∉X.fs->b∉ch->s.heap.get? b=some o->H b=none->h'.get? b=some o)
  (S:∀b o,b≠X.env.locals->b∈X.fs->b∉ch->s.heap.get? b=some o->H b=none->∃J,h'.get? b=some { o with slots:=J }) (f:∀b o,b∉ch->s.heap.get? b=some o->H b=none->H' b=none)
  (t:∀b o,b∉ch->s.heap.get? b=some o->∃O,h'.get? b=some O)
  (T:∀b j,H b=some (.tup j)->H' b=some (.tup j)) (F:∀b o u,H b=some (.frz o u)->H' b=some (.frz o u)) (B:∀b P,H b=some (.tbl P)->∃M,H' b=some (.tbl$ P++M))
  (ns:∀m,s.heap.Ns X.env.locals m->h'.Ns X.env.locals m) (L:eh X.prog X.w H' h') (hg:AllBare g'):
  ap X pins σ H' { s with heap:=h',gens:=g',drawn:=d',toks:=t' }:=by
 have D:∀b o,X.s₀.heap.get? b=some o->b≠X.env.locals:=λb o e=>Hm (Hq (Hi e) I.ok.above);have g:∀b o,X.s₀.heap.get? b=some o->b∉X.ex->b∉ch:=λb o e h y=>by
  rcases(a b y).1 with z |z
  ·exact h z
  ·exact absurd (Hq (Hi e) z)$ Ip _
 have C:∀x c,X.env.cells.lookup x=some c->∀v,s.heap.IsCell c v->h'.IsCell c v:=λx c e v #[o,A,Q]=>by
  have N:c∉ch:=λz=>(a c z).2.2.1 x c e Z;by_cases U:c∈X.fs
  ·obtain⟨J,q⟩:=S c o (I.cne x c e) U N A (I.freeC x c e);exact#[_,q,Q]
  ·exact#[o,K c o (I.cne x c e) U N A$ I.freeC x c e,Q]
 refine#[I.ok,I.os,hg,#[λb o e n y h=>?_,λb o e n y h=>?_,λb o e n h=>?_,λb o e h=>?_,λb j e=>T b j (I.base.tups b j e),λb o j e=>F b o j (I.base.frzs b o j e),λb P e=>?_],?_,λx c e=>?_,?_,λx c e=>?_,λp W=>?_,L,I.len]
 ·exact K b o (D b o e) y (g b o e h) (I.base.keep b o e n y h)$ I.base.free b o e n h
 ·obtain⟨J,E⟩:=I.base.slot b o e n y h;obtain⟨R,G⟩:=S b _ (D b o e) y (g b o e h) E (I.base.free b o e n h);exact#[R,G]
 ·obtain⟨O,E⟩:=I.base.there b o e h;exact f b O (g b o e h) E$ I.base.free b o e n h
 ·obtain⟨O,E⟩:=I.base.there b o e h;exact t b O (g b o e h) E
 ·obtain⟨m1,E⟩:=I.base.tbls b P e;obtain⟨m2,G⟩:=B b _ E;exact#[m1++m2,by rw[G,Array.append_assoc]]
 ·obtain⟨m,hn,hl⟩:=I.loc;refine#[m,ns m hn,λi x v E G e3=>?_];obtain⟨u,r,l⟩:=hl i x v E G e3;refine#[u,r,?_];rcases l with l | ⟨k,c,e,z⟩
  ·exact .inl l
  ·exact .inr #[k,c,e,C x c e _ z]
 ·obtain⟨v,z⟩:=I.cell x c e;exact#[v,C x c e v z]
 ·obtain⟨m,⟨o,_,_,A,_⟩,_⟩:=I.loc;exact f _ o (λz=>(a _ z).2.1 Z) A I.free
 ·obtain⟨v,o,A,Q⟩:=I.cell x c e;exact f c o (λz=>(a c z).2.2.1 x c e Z) A$ I.freeC x c e
 ·obtain⟨e,n,Y,nf,d⟩:=I.pin p W;have N:p.1∉ch:=λz=>(a p.1 z).2.2.2 p W Z;exact#[K p.1 p.2 Y nf N e n,f p.1 p.2 N e n,Y,nf,d]
theorem ap.un{t':Nat}(I:ap X pins σ H s)(u:Un X.fs [] H H' s.heap h')(a:eh X.prog X.w H' h'):ap X pins σ H' { s with heap:=h',toks:=t' }:=by
 obtain⟨m,⟨o,j,k,f,r⟩,_⟩:=id I.loc;obtain⟨S,g⟩:=u.any f I.free Si;exact I.step (g':=s.gens) (d':=s.drawn) (ch:=[]) (λ_ z=>nomatch z) (λb o _ c _ e n=>u.keep b o e n c Si) (λb o _ c _ e n=>u.slot b o e n c Si) (λb o _ e n=>u.free b o e n Si) (λb o _ e=>u.there b o e Si) u.tups u.frzs u.tbls (λM i=>by
  obtain⟨O,E,d,h,R⟩:=i;rw[f]at h;cases h;exact#[_,E,d,g,R]) a I.bare
theorem ap.call{g':Array GenState}{t':Nat}{d':Drawn}{ch:List Addr}(I:ap X pins σ H s)(u:Un (im X.stack) ch H H' s.heap h')(f:eh X.prog X.w H' h')(k:AllBare g')
  (a:∀b∈ch,(b∈X.ex∨X.s₀.heap.objs.size<=b)/\b≠X.env.locals/\(∀x c,X.env.cells.lookup x=some c->c≠b)/\∀p∈X.pn++pins,p.1≠b):
  ap X pins σ H' { s with heap:=h',gens:=g',drawn:=d',toks:=t' }:=by
 obtain⟨m,⟨o,t,v,j,r⟩,_⟩:=id I.loc;obtain⟨S,g⟩:=u.any j I.free λz=>(a _ z).2.1 Z;exact I.step (ch:=ch) a (λb o g l h e n=>u.keep b o e n (λz=>(List.mem_cons.mp$ I.stkSub b z).elim g l) h) (λb o _ _ h e n=>u.any e n h) (λb o h e n=>u.free b o e n h) (λb o h e=>u.there b o e h) u.tups u.frzs u.tbls (λM q=>by
  obtain⟨O,E,i,d,R⟩:=q;rw[j]at d;cases d;exact#[_,E,i,g,R]) f k
theorem ap.turned{t':Nat}{it:Addr}(I:ap X pins σ H s)(k:∀b o,b≠it->s.heap.get? b=some o->h'.get? b=some o)(d:H it=none)(a:it≠X.env.locals)
  (f:it∈X.ex∨X.s₀.heap.objs.size<=it) (g:∀x c,X.env.cells.lookup x=some c->c≠it) (i:∀p∈X.pn++pins,p.1≠it):ap X pins σ H { s with heap:=h',toks:=t' }:=by
 have N:∀b u,H b=some u->b≠it:=λb u e z=>by rw[z,d]at e;cases e
 refine I.step (g':=s.gens) (d':=s.drawn) (ch:=[it]) (λb j=>?_) (λb o _ _ h e _=>k b o (λz=>h (by simp [z])) e) (λb o _ _ h e _=>#[o.slots,k b o (λz=>h (by simp [z])) e]) (λ_ _ _ _ n=>n)
  (λb o h e=>#[o,k b o (λz=>h (by simp [z])) e]) (λ_ _ e=>e) (λ_ _ _ e=>e) (λb P e=>#[(List.toArray []),by rw[e];simp]) (λm l=>?_) (λb u e=>?_) I.bare
 ·have e:b=it:=by simpa using j
  subst e;exact#[f,a,g,i]
 ·obtain⟨o,E,t,w,r⟩:=l;exact#[o,E,t,k _ o (HR a) w,r]
 ·refine(I.hok b u e).stay (λc v h q=>k c v ?_ q) (λ_ q=>q) λ_ _ q=>q;rcases h with z |z
  ·rw[z];exact N b u e
  ·exact N c _ z
theorem ap.tok(I:ap X pins σ H s)(t:Nat):ap X pins σ H { s with toks:=t }:=I.un (h':=s.heap) (t':=t) Un.refl I.hok
theorem ap.kept{t':Nat}(I:ap X pins σ H s)(k:∀b u,s.heap.get? b=some u->h'.get? b=some u):ap X pins σ H { s with heap:=h',toks:=t' }:=I.un (Un.kept k) (I.hok.kept k)
theorem ap.laid{a:Addr}{o:HO}{t':Nat}(I:ap X pins σ H s)(k:∀b u,s.heap.get? b=some u->h'.get? b=some u)(h:s.heap.objs.size<=a)(n:aF X.prog X.w (af H a o) h' a o):
  ap X pins σ (af H a o) { s with heap:=h',toks:=t' }:=I.un (Un.laid k h$ I.hok.fresh h) (I.hok.laid k h n)
theorem ap.write{x e:Addr}{o:HO}{t':Nat}(I:ap X pins σ H s)(m:C4 (H x))(a:e=x∨H e=some (.own x))(k:∀b u,b≠e->s.heap.get? b=some u->h'.get? b=some u)(h:∃u,h'.get? e=some u)
  (n:aF X.prog X.w (af H x o) h' x o):ap X pins σ (af H x o) { s with heap:=h',toks:=t' }:=I.un (Un.write m a k h) (I.hok.write m a k h n)
theorem ap.pins_of{pins':List (Addr×Obj)}(I:ap X pins σ H s)(h:∀p∈pins',s.heap.get? p.1=some p.2/\H p.1=none/\p.1≠X.env.locals/\p.1∉X.fs/\∀v,p.2.data≠ .cell v):ap X pins' σ H s:=
 #[I.ok,I.os,I.bare,I.base,I.loc,I.cell,I.free,I.freeC,λp a=>(List.mem_append.mp a).elim (λz=>I.pin p (IH _ z)) (h p),I.hok,I.len]
theorem Kj{N:List Str}(h:N.Nodup){i j:Nat}{x:Str}(a:N[i]?=some x)(b:N[j]?=some x):i=j:=by obtain⟨c,e⟩:=List.getElem?_eq_some_iff.mp a;obtain⟨d,E⟩:=List.getElem?_eq_some_iff.mp b;exact(List.getElem_inj h).mp (e.trans E.symm)
theorem Qk{v:V}{Q:Unit->Shared->Prop}(I:ap X pins σ H s)(hN:X.N.Nodup)(L:X.N[i]?=some x)(l:pj X.env.scope x)(r:aw v u)
  (h:∀s',ap X pins (σ.set i$ some v) H s'->(∃a,Heap.SameBut a s.heap s'.heap/\(a=X.env.locals∨X.env.cells.lookup x=some a))->Q () s') (hf:X.fn x=true∨X.env.scope.names.lookup x=some .local:=by first |exact .inl Z |exact .inr Z |assumption):wpAny M A (storeName X.env x u) Q E s:=by
 obtain⟨m,hn,hl⟩:=id I.loc;have O:(X.env.scope.kind== .class||(X.env.scope.kind== .module&&X.env.locals != X.env.globals))=false:=by rw[I.ok.kind];rfl
 have D:i < σ.length:=by rw[I.len];exact(List.getElem?_eq_some_iff.mp L).1
 have F:=I.cne;have t:∀{a:Addr} {h':Heap},(∃o,s.heap.get? a=some o/\H a=none)->Heap.SameBut a s.heap h'->eh X.prog X.w H h':=λ{a h'} ha f b ob e=>by
  obtain⟨_,_,B⟩:=ha;refine(I.hok b ob e).stay (λc W hc q=>(f.2 c ?_).trans q) (λ_ q=>q) λ_ _ q=>q;rintro rfl;rcases hc with rfl |hc
  ·rw[B]at e;cases e
  ·rw[B]at hc;cases hc
 rcases l with hk |hk
 ·refine wpAny_storeName_local hk hn (λh' h0 f=>?_) O;obtain⟨oL,_,_,h1,_⟩:=id hn;refine h _ #[I.ok,I.os,I.bare,#[λb o e n G l=>?_,λb o e n G l=>?_,I.base.free,λb o e l=>?_,I.base.tups,I.base.frzs,I.base.tbls],#[_,h0,λj y v' g C e3=>?_],λy c e=>?_,I.free,I.freeC,λp hp=>?_,t #[oL,h1,I.free] f,by simpa using I.len] #[_,f,.inl Z]
  ·exact(f.2 b$ Hm$ Hq (Hi e) I.ok.above).trans (I.base.keep b o e n G l)
  ·obtain⟨sl,g⟩:=I.base.slot b o e n G l;exact#[sl,(f.2 b$ Hm$ Hq (Hi e) I.ok.above).trans g]
  ·obtain⟨o',g⟩:=I.base.there b o e l;exact#[o',(f.2 b$ Hm$ Hq (Hi e) I.ok.above).trans g]
  ·by_cases J:j=i
   ·subst J;rw[L]at g;cases g;rw[K' D]at C;cases C;exact#[u,r,.inl #[hk,Si]]
   ·rw[IY$ HR J]at C;obtain⟨u',r',q⟩:=hl j y v' g C e3;refine#[u',r',?_];rcases q with ⟨k,e⟩ | ⟨k,c,e,z⟩
    ·refine .inl #[k,?_];have:y≠x:=λe=>J (Kj hN g$ e▸L);simp [this,e]
    ·exact .inr #[k,c,e,z.sameBut f$ F y c e]
  ·obtain⟨W,z⟩:=I.cell y c e;exact#[W,z.sameBut f$ F y c e]
  ·obtain⟨e,n,U,nf,d⟩:=I.pin p hp;exact#[(f.2 p.1 U).trans e,n,U,nf,d]
 ·have K:X.fn x=true:=by
   rcases hf with z |z
   ·exact z
   ·rw[z]at hk;cases hk
  obtain⟨c,hc⟩:=I.ok.has x (.inl hk);obtain⟨W,z⟩:=I.cell x c hc;refine wpAny_storeName_cell I.ok.kind hk hc z (λh' P f=>?_);obtain⟨oc,R,S⟩:=id z;refine h { s with heap:=h' } #[I.ok,I.os,I.bare,#[λb o e n G l=>?_,λb o e n G l=>?_,I.base.free,λb o e l=>?_,I.base.tups,I.base.frzs,I.base.tbls],#[m,hn.sameBut f$ HR$ F x c hc,λj y v' g C e3=>?_],λy Y e=>?_,I.free,I.freeC,λp hp=>?_,t #[oc,R,I.freeC x c hc] f,by simpa using I.len] #[c,f,.inr hc]
  ·exact(f.2 b$ Hm$ Hq (Hi e)$ I.ok.cab x c K hc).trans (I.base.keep b o e n G l)
  ·obtain⟨sl,g⟩:=I.base.slot b o e n G l;exact#[sl,(f.2 b$ Hm$ Hq (Hi e)$ I.ok.cab x c K hc).trans g]
  ·obtain⟨o',g⟩:=I.base.there b o e l;exact#[o',(f.2 b$ Hm$ Hq (Hi e)$ I.ok.cab x c K hc).trans g]
  ·by_cases J:j=i
   ·subst J;rw[L]at g;cases g;rw[K' D]at C;cases C;exact#[u,r,.inr #[.inl hk,c,hc,P]]
   ·rw[IY$ HR J]at C;obtain⟨u',r',q⟩:=hl j y v' g C e3;refine#[u',r',?_];rcases q with q | ⟨k,Y,e,z'⟩
    ·exact .inl q
    ·refine .inr #[k,Y,e,z'.sameBut f ?_];rintro rfl;exact J$ Kj hN g$ I.ok.inj _ _ _ e hc▸L
  ·by_cases T:Y=c
   ·subst T;exact#[_,P]
   ·obtain⟨w2,z2⟩:=I.cell y Y e;exact#[w2,z2.sameBut f T]
  ·obtain⟨e,n,U,nf,d⟩:=I.pin p hp;refine#[(f.2 p.1 ?_).trans e,n,U,nf,d];intro q;rw[q,R]at e;have q':oc=p.2:=HV e;exact d W (by rw[<- q'];exact S)
theorem kP{v:V}{Q:Unit->Shared->Prop}(I:ap X pins σ H s)(a:X.N.Nodup)(b:X.N[i]?=some x)(c:pj X.env.scope x)(r:aw v u)
  (h:∀S,ap X pins (σ.set i$ some v) H S->Q () S) (d:X.fn x=true∨X.env.scope.names.lookup x=some .local:=by first |exact .inl Z |exact .inr Z |assumption):wpAny M A (storeName X.env x u) Q E s:=
 Qk I a b c r (λS e _=>h S e) d
theorem ap.call'{S:Shared}{ch:List Addr}(I:ap X pins σ H s)(d:S.os=s.os)(u:Un (im X.stack) ch H H' s.heap S.heap)(h:eh X.prog X.w H' S.heap)(f:AllBare S.gens)
  (a:∀b∈ch,(b∈X.ex∨X.s₀.heap.objs.size<=b)/\b≠X.env.locals/\(∀x c,X.env.cells.lookup x=some c->c≠b)/\∀p∈X.pn++pins,p.1≠b):ap X pins σ H' S:=by
 obtain⟨h',g',d',t',o⟩:=S;have e:o=s.os:=d;subst e;exact I.call (g':=g') (t':=t') (d':=d') u h f a
end
abbrev XK:=Value->Option Addr->Hp->Prop
abbrev St:=List (Option V)
abbrev VK:=V->Hp->Prop
abbrev TE:=St->Hp->VK->Prop
abbrev TT:=St->Hp->(Bool->Hp->Prop)->Prop
abbrev TA:=St->Hp->(List V->Hp->Prop)->Prop
structure aU where
 nx:St->Hp->Prop
 rt:VK
 bk:St->Hp->Prop:=λ_ _=>False
 ct:St->Hp->Prop:=λ_ _=>False
abbrev TS:=aU->St->Hp->Prop
inductive EP(X:Cx)(a:List (Addr×Obj))(d:St)(Q:VK)(u:Value)(c:Shared):Prop
 |mk(v b:_)(_:ap X a d b c)(_:aw v u)(_:Q v b)
inductive TP(X:Cx)(a:List (Addr×Obj))(e:St)(Q:Bool->Hp->Prop)(b:Bool)(d:Shared):Prop
 |mk(c:_)(_:ap X a e c d)(_:Q b c)
inductive AP(X:Cx)(a:List (Addr×Obj))(f:St)(Q:List V->Hp->Prop)(d:List Value)(c:Shared):Prop
 |mk(e b:_)(_:ap X a f b c)(_:au e d)(_:Q e b)
def SP(X:Cx)(p:List (Addr×Obj))(D:aU)(f:Flow)(s:Shared):Prop:=
 match f with
 | .next=>∃a H,ap X p a H s/\D.nx a H
 | .brk=>∃a H,ap X p a H s/\D.bk a H
 | .cont=>∃a H,ap X p a H s/\D.ct a H
 | .ret u=>∃v a H,ap X p a H s/\aw v u/\D.rt v H
def PE(X:Cx)(e:Expr)(t:TE):Prop:=
 ∀(p:List (Addr×Obj)) (s:Shared) (a:St) (H:Hp) (Q:VK),ap X p a H s->t a H Q->wpAny (model X.prog X.w) X.A (eval e X.env) (EP X p a Q) X.xe s
def PT(X:Cx)(e:Expr)(t:TT):Prop:=
 ∀(p:List (Addr×Obj)) (s:Shared) (a:St) (H:Hp) (Q:Bool->Hp->Prop),ap X p a H s->t a H Q->wpAny (model X.prog X.w) X.A (isTrue e X.env$ eval e X.env) (TP X p a Q) X.xe s
def PW(X:Cx)(e:Expr)(t:TT):Prop:=
 ∀(W:Sem Value) (p:List (Addr×Obj)) (s:Shared) (a:St) (H:Hp) (Q:Bool->Hp->Prop),ap X p a H s->t a H Q->wpAny (model X.prog X.w) X.A (isTrue e X.env W) (TP X p a Q) X.xe s
theorem PW.pt{X:Cx}{e:Expr}{t:TT}(h:PW X e t):PT X e t:=h _
def PA(X:Cx)(e:List Expr)(t:TA):Prop:=
 ∀(P:Pos) (p:List (Addr×Obj)) (s:Shared) (a:St) (H:Hp) (Q:List V->Hp->Prop),ap X p a H s->t a H Q->wpAny (model X.prog X.w) X.A (spliced$ backTo P$ starEach e X.env) (AP X p a Q) X.xe s
def PS(X:Cx)(st:Stmt)(t:TS):Prop:=
 ∀(p:List (Addr×Obj)) (s:Shared) (a:St) (H:Hp) (D:aU),ap X p a H s->t D a H->wpAny (model X.prog X.w) X.A (exec st X.env) (SP X p D) X.xe s
def iE(X:Cx)(st:List Stmt)(t:TS):Prop:=
 ∀(p:List (Addr×Obj)) (s:Shared) (a:St) (H:Hp) (D:aU),ap X p a H s->t D a H->wpAny (model X.prog X.w) X.A (execs st X.env) (SP X p D) X.xe s
theorem aJ{b:Type}{t:Sem b}{Q q:b->Shared->Prop}{M:Model}{A:Around}{E:Value->Shared->Prop}{s:Shared}(h:wpAny M A t Q E s)(H:∀a s,Q a s->q a s):wpAny M A t q E s:=Ik h H λ_ _ x=>x
section
variable {X:Cx}
inductive aV(i:Nat)(a:St)(H:Hp)(Q:VK):Prop
 |mk(v:_)(_:a[i]?=some (some v))(_:Q v H)
def tC(v:V):TE:=λ_ H Q=>Q v H
theorem BE(j:X.N[i]?=some x)(k:EK X.env.scope x)(b:(x==("__debug__":Str))=false:=by decide)(d:(x==("__classdict__":Str))=false:=by decide):PE X (.Name x n) (aV i):=by
 intro p s o H Q I h;obtain⟨v,e,h⟩:=h;obtain⟨m,q,t⟩:=I.loc;obtain⟨u,r,l⟩:=t i x v j e k;have f:EP X p o Q u s:=#[v,H,I,r,h];rcases l with ⟨hk,w⟩ | ⟨hk,c,g,a⟩
 ·exact P5 (Pn I.ok.kind hk q w f) b
 ·rcases hk with hk |hk
  ·exact P5 (PJ I.ok.kind hk g a f) b
  ·exact P5 (wpAny_loadName_free I.ok.kind hk g a f d) b
theorem jf{i j p}:PE X (.Constant (.int i) j p) (tC$ .int i):=λ_ _ _ H _ I h=>wpAny_Constant_int #[.int i,H,I.tok _,#[_,Z],h]
theorem YQ{b j p}:PE X (.Constant (.bool b) j p) (tC$ .bl b):=λ_ _ _ H _ I h=>Constant_bool #[.bl b,H,I,Z,h]
theorem X2{j p}:PE X (.Constant .none j p) (tC .non):=λ_ _ _ H _ I h=>Constant_none #[.non,H,I,Z,h]
theorem jk{x j p}:PE X (.Constant (.str x) j p) (tC$ .str x):=λ_ _ _ H _ I h=>Calls.Constant_str #[.str x,H,I.tok _,#[_,Z],h]
def Gl(X:Cx)(x:Str):Prop:=X.env.kindOf x=some .globalImplicit
theorem kX{Q:Value->Shared->Prop}(I:ap X p e H s)(a:Gl X x)(b:X.mg x=some u)(h:Q u s)
  (c:(x==("__debug__":Str))=false:=by decide):wpAny (model X.prog X.w) X.A (eval (.Name x d) X.env) Q E s:=
 NV I.ok.kind a (Calls.loadGlobal_global (by rw[I.ok.glob];exact I.mod.glob.keeps I.bk) b h) c
theorem zF{Q:Value->Shared->Prop}(I:ap X p j H s)(a:Gl X x)(b:X.mg x=none)(c:bootBuiltins x=some u)(h:Q u s)
  (d:x≠"__name__":=by decide) (e:(x==("__debug__":Str))=false:=by decide):wpAny (model X.prog X.w) X.A (eval (.Name x f) X.env) Q E s:=by
 obtain⟨m,g,i⟩:=I.mod.blt;exact NV I.ok.kind a (Calls.loadGlobal_builtin (by rw[I.ok.glob];exact I.mod.glob.keeps I.bk) b (by rw[I.ok.blt];exact g.keeps I.bk) ((i x d).trans c) h) e
theorem kY{v:V}(a:Gl X x)(b:X.mg x=some u)(r:aw v u)(c:(x==("__debug__":Str))=false:=by decide):PE X (.Name x p) (tC v):=
 λ_ _ _ H _ I h=>kX I a b #[v,H,I,r,h] c
theorem wK{v:V}(a:Gl X x)(b:X.mg x=none)(c:bootBuiltins x=some u)(r:aw v u)(d:x≠"__name__":=by decide)(e:(x==("__debug__":Str))=false:=by decide):PE X (.Name x p) (tC v):=
 λ_ _ _ H _ I h=>zF I a b c #[v,H,I,r,h] d e
variable {a b:Expr}{ta tb:TE}{pos:Pos}
def PC(X:Cx)(o:CmpOp)(a b:Expr)(t:TE):Prop:=
 ∀(p:List (Addr×Obj)) (s:Shared) (d:St) (H:Hp) (Q:VK),ap X p d H s->t d H Q->
  wpAny (model X.prog X.w) X.A (eval a X.env) (λv S=>wpAny (model X.prog X.w) X.A (eval b X.env) (λu c=>wpAny (model X.prog X.w) X.A (compareOp o v u) (EP X p d Q) X.xe c) X.xe S) X.xe s
def FR(ta:TE):TE:=λc H Q=>ta c H λx h=>Q (.bl$ decide$ x= .non) h
theorem aw.none_iff(r:aw x v):(v==Value.none)=decide (x= .non):=by
 cases x with
 |non=>cases r;rfl
 |bl _=>cases r;rfl
 |int _=>obtain⟨t,rfl⟩:=r;rfl
 |str _=>obtain⟨t,rfl⟩:=r;rfl
 |byt _=>obtain⟨t,rfl⟩:=r;rfl
 |flt _=>obtain⟨t,rfl⟩:=r;rfl
 |ref _=>cases r;rfl
 |ty _=>cases r;rfl
theorem Bz{j p}(c:PE X a ta):PC X .Is a (.Constant .none j p) (FR ta):=by intro P s d H Q I h;refine aJ (c P s d H _ I h) λv S z=>?_;obtain⟨x,e,i,r,q⟩:=z;exact Constant_none$ is_none_gen #[.bl _,e,i,by rw[r.none_iff];rfl,q]
inductive Gr(Q:Bool->Hp->Prop)(x:V)(a:Hp):Prop
 |mk(c:_)(_:x= .bl c)(_:Q c a)
def tB(t:TE):TT:=λc H Q=>t c H (Gr Q)
theorem sE(h:PC X o a b t)(e:behindInMarks o b=false:=by first |exact n _ Se Se |rfl):PT X (.Compare a [o] [b] pos) (tB t):=by intro p s f H Q I g;refine Pf (aJ (h p s f H _ I g) λv S e=>aJ e λu m i=>aJ i λc w z=>?_) e;obtain⟨x,j,k,r,l⟩:=z;obtain⟨d,rfl,q⟩:=l;cases r;exact IP #[j,k,q]
theorem sG(h:PE X e t)(c:∀w,isTrue e X.env w=(do let v <- w;standAt e.pos;holding [v] (truthy v)):=by intro _;rfl):PT X e (tB t):=by intro p s f H Q I g;refine isTrue_plain (aJ (h p s f H _ I g) λv S z=>?_)$ c _;obtain⟨x,i,j,r,k⟩:=z;obtain⟨d,rfl,q⟩:=k;cases r;exact IP #[i,j,q]
variable {tA tB':TT}{rest:List Expr}
def FL(t u:TT):TT:=λd H Q=>t d H λc h=>if c=true then u d h Q else Q false h
def GK(t u:TT):TT:=λd H Q=>t d H λc h=>if c=true then Q true h else u d h Q
def FS(t:TT):TT:=λd H Q=>t d H λc h=>Q (!c) h
theorem qM(d:PT X a tA):PW X (.BoolOp .And [a] pos) tA:=by
 intro w p s f H Q I h;refine isTrue_and$ aJ (d p s f H Q I h) λc S e=>?_;cases c with
 |true=>exact isTrue_and_nil e
 |false=>exact e
theorem qB(d:PT X a tA):PW X (.BoolOp .Or [a] pos) tA:=by
 intro w p s f H Q I h;refine isTrue_or$ aJ (d p s f H Q I h) λc S e=>?_;cases c with
 |false=>exact isTrue_or_nil e
 |true=>exact e
theorem J9(f:PT X a tA)(g:PW X (.BoolOp .And (b::rest) pos) tB'):PW X (.BoolOp .And (a::b::rest) pos) (FL tA tB'):=by
 intro w p s d H Q I h;refine isTrue_and$ aJ (f p s d H _ I h) λc S z=>?_;obtain⟨e,i,q⟩:=z;cases c with
 |true=>exact g w p S d e Q i q
 |false=>exact#[e,i,q]
theorem Jw(f:PT X a tA)(g:PW X (.BoolOp .Or (b::rest) pos) tB'):PW X (.BoolOp .Or (a::b::rest) pos) (GK tA tB'):=by
 intro w p s d H Q I h;refine isTrue_or$ aJ (f p s d H _ I h) λc S z=>?_;obtain⟨e,i,q⟩:=z;cases c with
 |true=>exact#[e,i,q]
 |false=>exact g w p S d e Q i q
theorem X3(e:PT X a tA):PT X (.UnaryOp .Not a pos) (FS tA):=by intro p s f H Q I h;exact isTrue_not$ aJ (e p s f H (λc d=>Q (!c) d) I h) λc S #[d,i,q]=>#[d,i,q]
inductive uk(b:TE)(d:St)(Q:VK)(x:V)(a:Hp):Prop
 |mk(c:_)(_:x= .bl c)(_:if c=true then b d a Q else Q (.bl false) a)
def En(ta tb:TE):TE:=λc H Q=>ta c H (uk tb c Q)
inductive uy(Q:VK)(x:V)(a:Hp):Prop
 |mk(c:_)(_:x= .bl c)(_:Q (.bl (!c)) a)
def Eu(ta:TE):TE:=λc H Q=>ta c H (uy Q)
theorem BD(h:PE X a t):PE X (.BoolOp o [a] pos) t:=λp s c H Q I d=>BoolOp_one (h p s c H Q I d)
theorem BA(f:PE X a ta)(g:PE X (.BoolOp .And (b::rest) pos) tb):PE X (.BoolOp .And (a::b::rest) pos) (En ta tb):=by
 intro p s d H Q I h;refine BoolOp_and$ aJ (f p s d H _ I h) λv S z=>?_;obtain⟨x,e,i,r,q⟩:=z;obtain⟨c,rfl,q⟩:=q;cases r;refine IP ?_;cases c with
 |true=>exact g p S d e Q i q
 |false=>exact#[.bl false,e,i,Z,q]
theorem BC(d:PE X a ta):PE X (.UnaryOp .Not a pos) (Eu ta):=by intro p s e H Q I h;refine UnaryOp_$ aJ (d p s e H _ I h) λv S z=>?_;obtain⟨x,f,i,r,q⟩:=z;obtain⟨c,rfl,q⟩:=q;cases r;exact not_of$ IP #[.bl (!c),f,i,Z,q]
def GJ(t:TT)(ta tb:TE):TE:=λd H Q=>t d H λc h=>if c=true then ta d h Q else tb d h Q
theorem zc(g:PT X c tA)(j:PE X a ta)(k:PE X b tb):PE X (.IfExp c a b pos) (GJ tA ta tb):=by
 intro p s e H Q I h;refine wpAny_IfExp$ aJ (g p s e H _ I h) λd S z=>?_;obtain⟨f,i,q⟩:=z;cases d with
 |true=>exact j p S e f Q i q
 |false=>exact k p S e f Q i q
end
def aB(K:Frag)(H:Hp)(a:Addr)(x:List V):Prop:=
 Rd H a (.lst x)∨
  ∃(o:Obj) (i:Array Value) (n:Nat),K.lookup a=some o/\o.cls= .type "list"/\o.dict=none/\o.data= .seq i n/\i.size<=sizeLine/\au x i.toList
def ax(K:Frag)(H:Hp)(a:Addr)(x:List V):Prop:=
 Rd H a (.tup x)∨
  ∃(o:Obj) (i:Array Value) (n:Nat),K.lookup a=some o/\o.cls= .type "tuple"/\o.data= .seq i n/\i.size<=sizeLine/\au x i.toList
noncomputable def Fe:Value->Option V
 | .none=>some .non
 | .bool b=>some (.bl b)
 | .int i _=>some (.int i)
 | .str x _=>some (.str x)
 | .bytes b _=>some (.byt b)
 | .float b _=>some (.flt b)
 | .ref a=>some (.ref a)
 | .type n=>some (.ty n)
 |_=>none
theorem aw.abs(r:aw x u):Fe u=some x:=by
 cases x with
 |non=>cases r;rfl
 |bl _=>cases r;rfl
 |int _=>obtain⟨t,rfl⟩:=r;rfl
 |str _=>obtain⟨t,rfl⟩:=r;rfl
 |byt _=>obtain⟨t,rfl⟩:=r;rfl
 |flt _=>obtain⟨t,rfl⟩:=r;rfl
 |ref _=>cases r;rfl
 |ty _=>cases r;rfl
theorem aw.inj{x:V}(r:aw x u)(q:aw y u):x=y:=HV (r.abs.symm.trans q.abs)
theorem au.inj:∀{x y:List V} {u:List Value},au x u->au y u->x=y
 |_,_,_,.nil,.nil=>rfl
 |_,_,_,.cons r t,.cons R T=>by rw[r.inj R,au.inj t T]
section
variable {X:Cx}{pins:List (Addr×Obj)}{σ:St}{H:Hp}{s:Shared}{a:Addr}{xs ys:List V}
theorem aB.of{K:Frag}(h:H a=some (.lst xs)):aB K H a xs:=.inl (.inl h)
theorem ax.of{K:Frag}(h:H a=some (.tup xs)):ax K H a xs:=.inl (.inl h)
theorem ap.list(I:ap X pins σ H s)(h:aB X.K H a xs):∃i:List Value,au xs i/\PlainL s.heap a i.toArray/\xs.length<=sizeLine:=by
 rcases h with h | ⟨o,i,n,b,c,d,f,g,r⟩
 ·obtain⟨z,i,n,r,e⟩:=h.ok I.hok;exact#[i,r,#[_,n,e,Z,Z,Z],z]
 ·refine#[i.toList,r,#[o,n,I.kIn a o b,c,d,by simpa using f],?_];have e:=r.length;simp only[HF]at e;omega
theorem ap.tuple(I:ap X pins σ H s)(h:ax X.K H a xs):∃i:List Value,au xs i/\IsTup s.heap a i.toArray/\xs.length<=sizeLine:=by
 rcases h with h | ⟨o,i,n,b,c,d,f,r⟩
 ·obtain⟨z,i,r,p⟩:=h.ok I.hok;exact#[i,r,p,z]
 ·refine#[i.toList,r,#[o,I.kIn a o b,c,n,by simpa using d],?_];have e:=r.length;simp only[HF]at e;omega
theorem ap.list_inj(I:ap X pins σ H s)(h:aB X.K H a xs)(c:aB X.K H a ys):xs=ys:=by
 obtain⟨b,r,⟨o,n,e,_,_,d⟩,_⟩:=I.list h;obtain⟨i,R,⟨O,N,E,_,_,D⟩,_⟩:=I.list c;rw[e]at E;cases E;rw[d]at D;injection D with f _;have:b=i:=by simpa using IC Array.toList f
 subst this;exact r.inj R
theorem ap.tuple_inj(I:ap X pins σ H s)(h:ax X.K H a xs)(c:ax X.K H a ys):xs=ys:=by
 obtain⟨b,r,⟨o,e,_,n,d⟩,_⟩:=I.tuple h;obtain⟨i,R,⟨O,E,_,N,D⟩,_⟩:=I.tuple c;rw[e]at E;cases E;rw[d]at D;injection D with f _;have:b=i:=by simpa using IC Array.toList f
 subst this;exact r.inj R
end
noncomputable abbrev Cx.wish(X:Cx)(E:Value->Shared->Prop):Cx:={ X with xe:=E }
noncomputable abbrev Cx.nox(X:Cx):Cx:=X.wish λ_ _=>False
theorem Cx.Ok.wish{X:Cx}(o:X.Ok)(E:Value->Shared->Prop):(X.wish E).Ok:=
 #[o.mod,o.kind,o.glob,o.blt,o.above,o.inj,o.has,o.cab,o.hd,o.frames,o.stk,o.exf,o.bs,o.bsz,o.noex,o.exfs,o.funs,o.frf]
theorem Cx.Ok.unwish{X:Cx}(o:(X.wish E).Ok):X.Ok:=
 #[o.mod,o.kind,o.glob,o.blt,o.above,o.inj,o.has,o.cab,o.hd,o.frames,o.stk,o.exf,o.bs,o.bsz,o.noex,o.exfs,o.funs,o.frf]
section
variable {X:Cx}{pins:List (Addr×Obj)}{σ:St}{H:Hp}{s:Shared}{E:Value->Shared->Prop}
theorem ap.wish(I:ap X pins σ H s)(E:Value->Shared->Prop):ap (X.wish E) pins σ H s:=#[I.ok.wish E,I.os,I.bare,I.base,I.loc,I.cell,I.free,I.freeC,I.pin,I.hok,I.len]
theorem ap.unwish(I:ap (X.wish E) pins σ H s):ap X pins σ H s:=#[I.ok.unwish,I.os,I.bare,I.base,I.loc,I.cell,I.free,I.freeC,I.pin,I.hok,I.len]
theorem SP.unwish(h:SP (X.wish E) pins D f c):SP X pins D f c:=by
 cases f with
 |next=>obtain⟨a,b,I,q⟩:=h;exact#[a,b,I.unwish,q]
 |brk=>obtain⟨a,b,I,q⟩:=h;exact#[a,b,I.unwish,q]
 |cont=>obtain⟨a,b,I,q⟩:=h;exact#[a,b,I.unwish,q]
 |ret u=>obtain⟨v,a,b,I,r,q⟩:=h;exact#[v,a,b,I.unwish,r,q]
theorem iE.nox{st:List Stmt}(h:iE X.nox st t):iE X st t:=λpins s σ H D I a=>
 Ik (h pins s σ H D (I.wish _) a) (λ_ _ q=>q.unwish) λ_ _ z=>False.elim z
end
section
variable {X:Cx}{st:Stmt}{rest:List Stmt}{t u:TS}{e:Expr}{te:TE}{pos:Pos}
def uu:TS:=λD a H=>D.nx a H
def gf(t u:TS):TS:=λD a H=>t { D with nx:=u D } a H
theorem jp:iE X [] uu:=λ_ _ a H _ I h=>Lq #[a,H,I,h]
theorem jd(b:PS X st t)(c:iE X rest u):iE X (st::rest) (gf t u):=by
 intro p s d H D I h;refine M7$ aJ (b p s d H { D with nx:=u D } I h) λf S q=>?_;cases f with
 |next=>obtain⟨a,g,i,q⟩:=q;exact c p S a g D i q
 |ret v=>exact q
 |brk=>exact q
 |cont=>exact q
theorem jg(a:PS X st t):iE X [st] t:=by
 intro p s b H D I h;refine M7$ aJ (a p s b H D I h) λf S q=>?_;cases f with
 |next=>exact Lq q
 |ret v=>exact q
 |brk=>exact q
 |cont=>exact q
theorem ap.quiet(I:ap X p a H s):interactive X.env=false:=by simp [interactive,I.ok.kind]
def oi(te:TE):TS:=λD a H=>te a H λ_ h=>D.nx a h
theorem jN(b:PE X e te)(c:swapsWith e none pos.line X.env=pure false:=by rfl):PS X (.Expr e pos) (oi te):=by intro p s a H D I h;exact R3 (aJ (b p s a H _ I h) λv S #[x,d,i,r,q]=>#[a,d,i,q]) I.quiet c
def iy(te:TE):TS:=λD a H=>te a H D.rt
theorem jm(b:PE X e te):PS X (.Return (some e) pos) (iy te):=by intro p s a H D I h;exact wpAny_Return_some$ aJ (b p s a H _ I h) λv S #[x,c,i,r,q]=>#[x,a,c,i,r,q]
def lg(c:TT)(t u:TS):TS:=λD a H=>c a H λb h=>if b=true then t D a h else u D a h
theorem jw{c:Expr}{a b:List Stmt}{T:TT}(j:PT X c T)(k:iE X a t)(l:iE X b u):PS X (.If c a b pos) (lg T t u):=by
 intro p s f H D I h;refine wpAny_If$ aJ (j p s f H _ I h) λd S z=>?_;obtain⟨g,i,q⟩:=z;cases d with
 |true=>exact k p S f g D i q
 |false=>exact l p S f g D i q
end
abbrev TG:=V->St->Hp->(St->Hp->Prop)->Prop
abbrev vj:=List V->St->Hp->(St->Hp->Prop)->Prop
def PG(X:Cx)(T:Expr)(t:TG):Prop:=
 ∀(p:List (Addr×Obj)) (s:Shared) (b:St) (H:Hp) (v:V) (u:Value) (Q:St->Hp->Prop),ap X p b H s->aw v u->t v b H Q->
  wpAny (model X.prog X.w) X.A (assign T X.env u) (λ_ S=>∃a h,ap X p a h S/\Q a h) X.xe s
def CS(X:Cx)(T:List Expr)(t:vj):Prop:=
 ∀(p:List (Addr×Obj)) (s:Shared) (b:St) (H:Hp) (v:List V) (u:List Value) (Q:St->Hp->Prop),ap X p b H s->au v u->t v b H Q->
  wpAny (model X.prog X.w) X.A (assignInOrder ((assignEach T X.env).map (·.2)) u) (λ_ S=>∃a h,ap X p a h S/\Q a h) X.xe s
abbrev Aa:=V->V->V->Hp->(Hp->Prop)->Prop
def C7(X:Cx)(t:Aa):Prop:=
 ∀(p:List (Addr×Obj)) (s:Shared) (a:St) (H:Hp) (o i v:V) (O I u:Value) (Q:Hp->Prop),ap X p a H s->aw o O->aw i I->aw v u->t o i v H Q->
  wpAny (model X.prog X.w) X.A (setItem O I u) (λ_ S=>∃h,ap X p a h S/\Q h) X.xe s
abbrev EZ:=V->V->Hp->VK->Prop
def Gf(X:Cx)(o:Operator)(t:EZ):Prop:=
 ∀(p:List (Addr×Obj)) (s:Shared) (a:St) (H:Hp) (x y:V) (v u:Value) (Q:VK),ap X p a H s->aw x v->aw y u->t x y H Q->
  wpAny (model X.prog X.w) X.A (inplaceOp o v u) (EP X p a Q) X.xe s
section
variable {X:Cx}{pos:Pos}
def bf(i:Nat):TG:=λv a H Q=>Q (a.set i$ some v) H
theorem js{i:Nat}{x:Str}(a:X.N.Nodup)(b:X.N[i]?=some x)(c:pj X.env.scope x)(d:X.fn x=true∨X.env.scope.names.lookup x=some .local:=by first |exact .inl Z |exact .inr Z |assumption):PG X (.Name x pos) (bf i):=by intro p s f H v u Q I r h;exact P'$ kP I a b c r (λS e=>#[_,H,e,h]) d
def pY:vj:=λv a H Q=>v=[]/\Q a H
inductive de(t:TG)(u:vj)(a:List V)(b:St)(H:Hp)(Q:St->Hp->Prop):Prop
 |mk(v r:_)(_:a=v::r)(_:t v b H λσ' H'=>u r σ' H' Q)
theorem j4:CS X [] pY:=by intro p s a H v u Q I r h;obtain⟨e,h⟩:=h;subst e;cases r;exact assignInOrder_nil #[a,H,I,h]
theorem jy(b:PG X e t)(c:CS X E u)
  (d:(assignEach (e::E) X.env).map (·.2)=assign e X.env::(assignEach E X.env).map (·.2):=by rfl):CS X (e::E) (de t u):=by
 intro p s f H V U Q I r h;obtain⟨v,k,g,h⟩:=h;subst g;cases r with
 |cons r R=>rw[d];refine assignInOrder_cons$ aJ (b p s f H _ _ _ I r h) λ_ S z=>?_;obtain⟨a,i,j,q⟩:=z;exact c p S a i _ _ Q j R q
inductive ot(K:Frag)(n:Nat)(t:vj)(v:V)(c:St)(H:Hp)(Q:St->Hp->Prop):Prop
 |mk(a b:_)(_:v= .ref a)(_:ax K H a b)(_:b.length=n)(_:t b c H Q)
theorem zk{n:Nat}(g:X.calm=true)(h:CS X E t)
  (i:(assignEach E X.env).length=n:=by rfl) (c:(assignEach E X.env).findIdx? (·.1)=none:=by rfl):PG X (.Tuple E k pos) (ot X.K n t):=by
 intro p s f H v u Q I r d;obtain⟨a,x,j,l,m,d⟩:=d;subst j;cases r;obtain⟨q,R,w,B⟩:=I.tuple l;refine assign_Tuple_tuple (I.ok.hd g) w (by simp [i,<- m,R.length]) c λy z=>?_;have A:ap X p f H { s with heap:=y }:=I.kept (t':=s.toks) λb o e=>z b o (Hm$ Hi e) e;exact h p _ f H x _ Q A (by simpa using R) d
def Ay(T b:TE)(t:Aa):TG:=λv a H Q=>T a H λo h=>b a h λi c=>t o i v c λd=>Q a d
theorem z9{o i:Expr}{T c:TE}{t:Aa}(d:PE X o T)(e:PE X i c)(f:C7 X t)
  (g:∀v,assign (.Subscript o i pos) X.env v=(do
   let O <- holding [v] (eval o X.env)
   let a <- holding [v,O] (eval i X.env)
   standAt pos
   holding [v,O,a] (setItem O a v)
   release [v,O,a] []):=by intro _;rfl):PG X (.Subscript o i pos) (Ay T c t):=by
 intro p s b H v u Q I r h;rw[g];refine GZ$ Hs$ aJ (d p s b H _ I h) λO S z=>?_;obtain⟨x,j,k,R,q⟩:=z;refine GZ$ Hs$ aJ (e p S b j _ k q) λa l z=>?_;obtain⟨y,m,n,w,A⟩:=z;refine GZ$ LC$ GZ$ Hs$ aJ (f p l b m x y v O a u _ n R w r A) λ_ E z=>?_;obtain⟨B,C,D⟩:=z;exact wpAny_release #[b,B,C,D]
def dS(t:TE)(g:TG):TS:=λD a H=>t a H λx h=>g x a h D.nx
theorem kQ{t e:Expr}{T:TE}{g:TG}(b:PE X e T)(c:PG X t g)(d:swapsWithSole [t] e pos.line X.env=pure false:=by rfl)(f:swappedStores [t] e X.env=pure none:=by rfl)
  (i:(assignEach [t] X.env).map (·.2)=[assign t X.env]:=by rfl):PS X (.Assign [t] e pos) (dS T g):=by
 intro p s a H D I h;refine wpAny_Assign_stores (aJ (b p s a H _ I h) λv S z=>?_) d f;obtain⟨x,j,k,r,Q⟩:=z;rw[i];exact aJ (c p S a j x v _ k r Q) λ_ l q=>q
theorem kI{i:Nat}{x:Str}{e:Expr}{t:TE}{p:Pos}(a:X.N.Nodup)(b:X.N[i]?=some x)(c:pj X.env.scope x)(d:PE X e t)(f:swapsWith e (some$ .Name x p) pos.line X.env=pure false:=by rfl)(g:X.fn x=true∨X.env.scope.names.lookup x=some .local:=by first |exact .inl Z |exact .inr Z |assumption):
  PS X (.Assign [.Name x p] e pos) (dS t$ bf i):=by
 intro P s j H D I h;refine Ra (aJ (d P s j H _ I h) λv S z=>?_) f;obtain⟨y,k,l,r,q⟩:=z;exact kP l a b c r (λn m=>#[_,k,m,q]) g
inductive Eo(i:Nat)(a:TE)(b:EZ)(D:aU)(c:St)(H:Hp):Prop
 |mk(x:_)(_:c[i]?=some (some x))(_:a c H λy H1=>b x y H1 λz H2=>D.nx (c.set i (some z)) H2)
theorem BF{i:Nat}(q:X.N.Nodup)(g:X.N[i]?=some x)(f:pj X.env.scope x)(t:PE X e T)(B:Gf X o C)(E:X.fn x=true∨X.env.scope.names.lookup x=some .local:=by first |exact .inl Z |exact .inr Z |assumption):
  PS X (.AugAssign (.Name x j) o e pos) (Eo i T C):=by
 intro p s n H D I h;obtain⟨v,F,h⟩:=h;obtain⟨m,J,K⟩:=I.loc;have V:EK X.env.scope x:=by rcases f with k |k;exact .inl k;exact .inr$ .inl k
 obtain⟨u,r,l⟩:=K i x v g F V;refine wpAny_AugAssign_Name ?_;have G:wpAny (model X.prog X.w) X.A (eval e X.env) (λw S=>wpAny (model X.prog X.w) X.A (inplaceOp o u w) (λr d=>wpAny (model X.prog X.w) X.A (storeName X.env x r) (λ_=>SP X p D .next) X.xe d) X.xe S) X.xe s:=by refine aJ (t p s n H _ I h) λw L a=>?_;obtain⟨y,M,O,R,Q⟩:=a;refine aJ (B p L n M v y u w _ O r R Q) λz s2 a=>?_;obtain⟨zv,P,U,W,Y⟩:=a;exact kP U q g f W (λs3 I3=>#[_,P,I3,Y]) E
 rcases l with ⟨hk,hm⟩ | ⟨hk,c,hc,b⟩
 ·exact Pn I.ok.kind hk J hm G
 ·rcases hk with hk |hk
  ·exact PJ I.ok.kind hk hc b G
  ·rcases f with k |k
   ·have:X.env.scope.names.lookup x=some .free:=hk;rw[k]at this;cases this
   ·have:X.env.scope.names.lookup x=some .free:=hk;rw[k]at this;cases this
inductive Gm(f:Int->Int->Int)(x y:V)(H:Hp)(Q:VK):Prop
 |mk(i j:_)(_:x= .int i)(_:y= .int j)(_:Q (.int (f i j)) H)
theorem AE:Gf X .Add (Gm λi j=>i+j):=by intro p s a H x y v u Q I r R h;obtain⟨i,j,e,E,q⟩:=h;subst e;subst E;obtain⟨t,rfl⟩:=r;obtain⟨T,rfl⟩:=R;exact iadd_int #[.int _,H,I.tok _,#[_,Z],q]
end
section
variable {X:Cx}{pos:Pos}
def uC(c:TT)(t:TS):TS:=λD a H=>∃W:Nat->St->Hp->Prop,(∃m,W m a H)/\∀m a H,W m a H->
 c a H λb h=>if b=true then ∃N:St->Hp->Prop,(∀d e,N d e->∃M,M < m/\W M d e)/\t { D with nx:=N,ct:=N,bk:=D.nx } a h else D.nx a h
theorem Xk(o:PassesOwn (model X.prog X.w) X.A X.env X.xe)(E:PT X c T)(F:iE X B G):PS X (.While c B [] pos) (uC T G):=by
 intro p s J H D I h;obtain⟨W,⟨M,K⟩,t⟩:=h;refine wpAny_While$ codeAny_whileLoop (λn S=>∃e r,ap X p e r S/\W n e r) ?_ M #[J,H,I,K];rintro n L ⟨d,u,O,P⟩;refine LB o$ aJ (E p L d u _ O$ t n d u P) λb R z=>?_;obtain⟨x,y,q⟩:=z;cases b with
 |true=>
  obtain⟨N,C,q⟩:=q;rw[HD Z];refine LB o$ aJ (F p R d x _ y q) λf U Q=>?_;cases f with
  |next=>obtain⟨a,g,i,j⟩:=Q;obtain⟨m,k,l⟩:=C a g j;exact#[m,k,a,g,i,l]
  |cont=>obtain⟨a,g,i,j⟩:=Q;obtain⟨m,k,l⟩:=C a g j;exact#[m,k,a,g,i,l]
  |brk=>exact Q
  |ret v=>exact Q
 |false=>rw[HG Hl];exact Lq #[d,x,y,q]
end
structure It where
 go:Nat->Hp->Prop
 yld:Nat->Hp->V->Hp->Prop
 stop:Nat->Hp->Prop
def eP(X:Cx)(P:List (Addr×Obj))(H:Hp)(b:Addr):Prop:=
 H b=none/\b≠X.env.locals/\b∉X.fs/\(b∈X.ex∨X.s₀.heap.objs.size<=b)/\(∀x c,X.env.cells.lookup x=some c->c≠b)/\∀p∈X.pn++P,p.1≠b
theorem ap.fpOk{X:Cx}{d:Hp}(I:ap X a i H s)(h:s.heap.objs.size<=b)(f:d b=none):eP X a d b:=by
 refine#[f,Il$ Hq I.lt h,I.nofs h,.inr$ Hr I.sz h,λx c e z=>?_,λp g z=>?_]
 ·obtain⟨v,q⟩:=I.cell x c e;exact absurd (Hq q.lt (by rw[z];exact h))$ Ip _
 ·exact absurd (Hq (Hi (I.pin p g).1) (by rw[z];exact h))$ Ip _
structure ms(P:Program)(w:World)(K:Frag)(tg:Expr)(J:It)(fp:List Addr)(it:Addr)(tn:Nat->Heap->Prop):Prop where
 mem:it∈fp
 obj:∀i h,tn i h->∀b∈fp,∃o,h.get? b=some o/\∀v,o.data≠ .cell v
 keep:∀i h h',tn i h->(∀b∈fp,∀o,h.get? b=some o->h'.get? b=some o)->tn i h'
 item:∀(X:Cx),X.prog=P->X.w=w->X.K=K->X.calm=true->∀(i:Nat) (pins:List (Addr×Obj)) (s:Shared) (σ:St) (H:Hp) (E:Value->Shared->Prop),ap X pins σ H s->(∀b∈fp,eP X pins H b)->tn i s.heap->J.go i H->
  wpAny (model P w) X.A (pyNext$ .ref it) (λr s1=>∃u,r=some u/\
   wpAny (model P w) X.A (letOwnedTupleGo tg (.ref it) u) (λ_ s2=>∃x H',ap X pins σ H' s2/\aw x u/\J.yld i H x H'/\tn (i+1) s2.heap/\∀b∈fp,H' b=none) E s1) E s
 done:∀(X:Cx),X.prog=P->X.w=w->X.K=K->X.calm=true->∀(i:Nat) (pins:List (Addr×Obj)) (s:Shared) (σ:St) (H:Hp) (E:Value->Shared->Prop),ap X pins σ H s->(∀b∈fp,eP X pins H b)->tn i s.heap->J.stop i H->
  wpAny (model P w) X.A (pyNext$ .ref it) (λr s1=>r=none/\ap X pins σ H s1) E s
 self:∀(A:Around) (i:Nat) (s:Shared) (Q:Value->Shared->Prop) (E:Value->Shared->Prop),tn i s.heap->Q (.ref it) s->wpAny (model P w) A (pyIter$ .ref it) Q E s
abbrev TI:=St->Hp->(It->Hp->Prop)->Prop
def Ge(X:Cx)(p:List (Addr×Obj))(a:St)(T:Expr)(R:It->Hp->Prop)(i:Value)(s:Shared):Prop:=
 ∃(I:Addr) (f:List Addr) (t:Nat->Heap->Prop) (J:It) (H:Hp),i= .ref I/\ap X p a H s/\ms X.prog X.w X.K T J f I t/\t 0 s.heap/\(∀b∈f,eP X p H b)/\R J H
def PI(X:Cx)(t iter:Expr)(W:TI):Prop:=
 ∀(p:List (Addr×Obj)) (s:Shared) (a:St) (H:Hp) (R:It->Hp->Prop),ap X p a H s->W a H R->
  wpAny (model X.prog X.w) X.A (eval iter X.env) (λv S=>wpAny (model X.prog X.w) X.A (pyIter v) (Ge X p a t R) X.xe S) X.xe s
theorem YR{s : Shared}{n : String}{Q : Unit -> Shared -> Prop}(a : s.heap.get? i = some o)(b : o.cls = .type n)(c : o.data = .fields v)
    (d : ["enumerate", "zip", "dict_itemiterator", "dict_reverseitemiterator", "odict_iterator", "itertools.zip_longest", "itertools.pairwise"].contains n = false) (H : Q () s) : wpAny M A (letOwnedTupleGo t (.ref i) u) Q E s := by
  unfold letOwnedTupleGo;cases t <;> first
    | exact Hc H
    | (cases u <;> first
        | exact Hc H
        | (refine GZ (P0 a ?_)
           rw [b, c];show wpAny M A (if (["enumerate", "zip", "dict_itemiterator", "dict_reverseitemiterator", "odict_iterator", "itertools.zip_longest", "itertools.pairwise"].contains n && v[0]? == some (rawInt _)) = true then _ else _) Q E s;rw [HG (by intro h; rw [d, PZ] at h; cases h)];exact Hc H))
noncomputable def uV(K:Frag)(a:Addr):It:=
 #[λi H=>∃X x,aB K H a X/\X[i]?=some x,λi H x h=>h=H/\∀X,aB K H a X->X[i]?=some x,λi H=>∃X,aB K H a X/\X.length<=i]
noncomputable def vb(K:Frag)(a:Addr):It:=
 #[λi H=>∃X x,ax K H a X/\X[i]?=some x,λi H x h=>h=H/\∀X,ax K H a X->X[i]?=some x,λi H=>∃X,ax K H a X/\X.length<=i]
noncomputable def va(lo:Int)(n:Nat):It:=#[λi _=>i < n,λi H x h=>h=H/\x= .int (lo+i),λi _=>n<=i]
theorem ZB{P:Program}{K:Frag}(a g:Addr):ms P w K tg (uV K a) [g] g (λi h=>h.IsListIter g a i) where
 mem:=by simp
 obj:=λi h st b j=>by
  have e:b=g:=by simpa using j
  subst e;obtain⟨o,e,c,d⟩:=st;exact#[o,e,λv z=>by rw[d]at z;cases z]
 keep:=λi h l st k=>st.at λo e=>k g Si o e
 item:=by intro X q r t L i f s M H E I m st y;subst q r t;obtain⟨N,x,n,A⟩:=y;obtain⟨B,R,p,O⟩:=I.list n;obtain⟨u,Q,T⟩:=R.get A;obtain⟨F,C,U,D,G,J⟩:=m g Si;refine OZ st p.isList (x:=u) (by simpa using Q) λl S V=>?_;have W:ap X f M H { s with heap:=l }:=I.turned (t':=s.toks) (λb o j e=>(V.2 b j).trans e) F C D G J;obtain⟨o,e,c,d⟩:=id S;exact#[u,Z,YR (s:={ s with heap:=l }) e c d Se #[x,H,W,T,#[Z,λys Y=>by rw[I.list_inj Y n];exact A],S,λb j=>(m b j).1]]
 done:=by intro X q r t L i f s M H E I m st y;subst q r t;obtain⟨N,n,A⟩:=y;obtain⟨B,R,p,O⟩:=I.list n;obtain⟨F,C,U,D,G,J⟩:=m g Si;have hl:=R.length;exact Pe (I.ok.hd L) st p.isList (by simp;omega) λl eb=>#[Z,I.turned (t':=s.toks) (λb o j e=>eb b o j e) F C D G J]
 self:=λ_ _ _ _ _ st h=>wpAny_pyIter_listiter st h
theorem X9{P:Program}{K:Frag}(a g:Addr):ms P w K tg (vb K a) [g] g (λi h=>h.IsTupleIter g a i) where
 mem:=by simp
 obj:=λi h st b j=>by
  have e:b=g:=by simpa using j
  subst e;obtain⟨o,e,c,d⟩:=st;exact#[o,e,λv z=>by rw[d]at z;cases z]
 keep:=λi h m st k=>st.at λo e=>k g Si o e
 item:=by intro X r t y L i f s M H E I n st A;subst r t y;obtain⟨N,x,q,B⟩:=A;obtain⟨l,R,p,O⟩:=I.tuple q;obtain⟨u,Q,T⟩:=R.get B;obtain⟨F,C,U,D,G,J⟩:=n g Si;refine wpAny_pyNext_tuple_item st (show s.heap.IsTuple a l.toArray from p) (x:=u) (by simpa using Q) λm S V=>?_;have W:ap X f M H { s with heap:=m }:=I.turned (t':=s.toks) (λb o j e=>(V.2 b j).trans e) F C D G J;obtain⟨o,e,c,d⟩:=id S;exact#[u,Z,YR (s:={ s with heap:=m }) e c d Se #[x,H,W,T,#[Z,λys Y=>by rw[I.tuple_inj Y q];exact B],S,λb j=>(n b j).1]]
 done:=by intro X r t y L i f s M H E I n st A;subst r t y;obtain⟨N,q,B⟩:=A;obtain⟨l,R,p,O⟩:=I.tuple q;obtain⟨F,C,U,D,G,J⟩:=n g Si;have hl:=R.length;exact wpAny_pyNext_tuple_end (I.ok.hd L) st (show s.heap.IsTuple a l.toArray from p) (by simp;omega) λm eb=>#[Z,I.turned (t':=s.toks) (λb o j e=>eb b o j e) F C D G J]
 self:=λ_ _ _ _ _ st h=>wpAny_pyIter_tupleiter st h
theorem Ya{P:Program}{K:Frag}(a:Addr)(lo:Int)(n:Nat):ms P w K M (va lo n) [a] a (λi h=>IsRangeIter h a (lo+(i:Nat)*1) ((n:Int) - (i:Nat)) 1) where
 mem:=by simp
 obj:=λi h st b c=>by
  have e:b=a:=by simpa using c
  subst e;exact#[_,st,λv z=>by
   have B:Data.fields _=Data.cell v:=z;cases B]
 keep:=λi h d st k=>k a Si _ st
 item:=by intro X g j l m i p s A H E I f st q;subst g j l;obtain⟨F,r,C,u,x,y⟩:=f a Si;have W:=Walks.range (prog:=X.prog) (w:=X.w) (I.ok.hd m) a lo 1 n;refine W.item i s _ _ q st λv d T D S G=>?_;obtain⟨t,rfl⟩:=D;have J:ap X p A H { s with heap:=d,toks:=T }:=I.turned (λb o c e=>G b o (by simpa using c) e) F r u x y;refine#[_,Z,YR (s:={ s with heap:=d,toks:=T }) (n:="range_iterator") S Z Z Se #[.int$ lo+i,H,J,#[t,?_],#[Z,Z],S,λb c=>(f b c).1]];rw[Int.mul_one]
 done:=by intro X g j l m i p s A H E I f st q;subst g j l;obtain⟨F,r,C,u,x,y⟩:=f a Si;exact wpAny_pyNext_range_end (I.ok.hd m) st (by have:n<=i:=q;omega) λd L=>#[Z,I.turned (t':=s.toks) (λb o c e=>L b o c e) F r u x y]
 self:=λ_ _ _ _ _ st h=>wpAny_pyIter_rangeiter st h
section
variable {X:Cx}{tg:Expr}
inductive re(K:Frag)(R:It->Hp->Prop)(x:V)(b:Hp):Prop
 |mk(a:_)(_:x= .ref a)(_:∃xs,aB K b a xs)(_:R (uV K a) b)
def yA(K:Frag)(t:TE):TI:=λa H R=>t a H (re K R)
inductive yC(K:Frag)(R:It->Hp->Prop)(x:V)(b:Hp):Prop
 |mk(a:_)(_:x= .ref a)(_:∃xs,ax K b a xs)(_:R (vb K a) b)
def Fp(K:Frag)(t:TE):TI:=λa H R=>t a H (yC K R)
theorem za(c:PE X l t):PI X tg l (yA X.K t):=by
 intro P s d H R I h;refine aJ (c P s d H _ I h) λv S z=>?_;obtain⟨x,f,i,r,Q⟩:=z;obtain⟨a,e,⟨m,g⟩,q⟩:=Q;subst e;cases r;obtain⟨j,n,p,u⟩:=i.list g;refine Me p.isList ?_;refine#[S.heap.objs.size,[S.heap.objs.size],_,_,f,Z,i.kept (t':=S.toks) λb o e=>Hd _ e,ZB a _,#[_,Hj _ Z,Z,Z],λb k=>?_,q];have e:b=S.heap.objs.size:=by simpa using k
 subst e;exact i.fpOk (Hg _)$ i.hok.fresh$ Hg _
theorem qc(d:PE X l t):PI X tg l (Fp X.K t):=by
 intro P s f H R I h;refine aJ (d P s f H _ I h) λv S z=>?_;obtain⟨x,g,i,r,Q⟩:=z;obtain⟨a,e,⟨m,j⟩,q⟩:=Q;subst e;cases r;obtain⟨c,n,p,u⟩:=i.tuple j;refine Ma (show S.heap.IsTuple a c.toArray from p) ?_;refine#[S.heap.objs.size,[S.heap.objs.size],_,_,g,Z,i.kept (t':=S.toks) λb o e=>Hd _ e,X9 a _,#[_,Hj _ Z,Z,Z],λb k=>?_,q];have e:b=S.heap.objs.size:=by simpa using k
 subst e;exact i.fpOk (Hg _)$ i.hok.fresh$ Hg _
theorem sM{R:It->Hp->Prop}{lo:Int}(I:ap X p a H s)(c: -(2 ^ 62)<=lo)(d:lo < 2 ^ 62)(f: -(2 ^ 62)<=h)(g:h < 2 ^ 62)
  (q:R (va lo (h - lo).toNat) H):wpAny (model X.prog X.w) X.A (pyIter$ .ref s.heap.objs.size) (Ge X p a tg R) E { s with heap:=s.heap.push { cls:=.type "range",data:=.fields (List.toArray [.int lo t,.int h u,.int 1 v]) },toks:=T }:=by
 refine wpAny_pyIter_range (IsRange.new ..) (small_one c d f g) ?_;have i:ap X p a H { s with heap:=s.heap.push { cls:=.type "range",data:=.fields (List.toArray [.int lo t,.int h u,.int 1 v]) },toks:=T }:=I.kept λb o e=>Hd _ e;refine#[(s.heap.push { cls:=.type "range",data:=.fields (List.toArray [.int lo t,.int h u,.int 1 v]) }).objs.size,[(s.heap.push { cls:=.type "range",data:=.fields (List.toArray [.int lo t,.int h u,.int 1 v]) }).objs.size],_,_,H,Z,
  i.kept (t':=T) λb o e=>Hd _ e,Ya _ lo (h - lo).toNat,?_,λb j=>?_,q]
 ·have k:lo+((0:Nat):Int)*1=lo:=by simp
  have l:(((h - lo).toNat:Nat):Int) - ((0:Nat):Int)=Builtin.Range.rangeSize lo h 1:=by rw[rangeSize_one];split<;>omega
  show IsRangeIter _ _ (lo+((0:Nat):Int)*1) ((((h - lo).toNat:Nat):Int) - ((0:Nat):Int)) 1;rw[k,l];exact Hj _ Z
 ·have e:b=(s.heap.push { cls:=.type "range",data:=.fields (List.toArray [.int lo t,.int h u,.int 1 v]) }).objs.size:=by simpa using j
  subst e;exact i.fpOk (Hg _)$ i.hok.fresh$ Hg _
inductive rf(R:It->Hp->Prop)(b:List V)(a:Hp):Prop
 |mk(j:Int)(_:b=[.int j])(_:-(2 ^ 62)<=j)(_:j < 2 ^ 62)(_:R (va 0 j.toNat) a)
def DB(t:TA):TI:=λa H R=>t a H (rf R)
theorem j6{a:Expr}{T:TA}{p P:Pos}(c:Gl X "range")(d:X.mg "range"=none)(f:PA X [a] T)(g:starEach [a] X.env=[(false,eval a X.env)]:=by rfl):PI X tg (.Call (.Name "range" p) [a] [] P) (DB T):=by
 intro b s i H R I h;refine Call_$ zF I c d boot_range$ Ig (aJ (f P b s i H _ I h) λu S z=>?_) g Z;obtain⟨v,o,k,l,Q⟩:=z;obtain⟨j,e,Q,m,q⟩:=Q;subst e;cases l with
 |cons r n=>cases n;obtain⟨t,rfl⟩:=r;exact call_range_1$ sM k Sf Sf Q m (by simpa using q)
def Cy(w:TI)(g:TG)(t:TS):TS:=λD a H=>w a H λJ d=>∃W:Nat->Nat->St->Hp->Prop,(∃m,W 0 m a d)/\∀i m a H,W i m a H->
 (J.stop i H/\D.nx a H)∨(J.go i H/\∃N:St->Hp->Prop,(∀b h,N b h->∃M,M < m/\W (i+1) M b h)/\∀x h,J.yld i H x h->g x a h λc e=>t { D with nx:=N,ct:=N,bk:=D.nx } c e)
noncomputable def iI(f:List Addr)(h:Heap):List (Addr×Obj):=f.filterMap λb=>(h.get? b).map λo=>(b,o)
theorem kW{h:Heap}(H:b∈f)(e:h.get? b=some o):(b,o)∈iI f h:=List.mem_filterMap.mpr #[b,H,by rw[e];rfl]
theorem ZC(H:p∈iI f h):p.1∈f/\h.get? p.1=some p.2:=by
 obtain⟨b,a,e⟩:=List.mem_filterMap.mp H;cases q:h.get? b with
 |none=>rw[q]at e;cases e
 |some o=>rw[q]at e;have E:(b,o)=p:=HV e;subst E;exact#[a,q]
theorem ap.pinned(I:ap X a c H s)(g:∀b∈f,eP X a H b)(i:∀b∈f,∃o,s.heap.get? b=some o/\∀v,o.data≠ .cell v):ap X (a++iI f s.heap) c H s:=
 I.pins_of λp j=>(List.mem_append.mp j).elim (λz=>I.pin p (HC _ z)) λz=>by obtain⟨h,e⟩:=ZC z;obtain⟨F,k,l,_⟩:=g p.1 h;obtain⟨o,E,d⟩:=i p.1 h;rw[e]at E;cases E;exact#[e,F,k,l,d]
theorem ap.unpinned(I:ap X (a++c) b H s):ap X a b H s:=I.pins_of λp h=>I.pin p (HC _$ IH _ h)
theorem km{iter:Expr}{B:List Stmt}{wi:TI}{g:TG}{tb:TS}{P:Pos}(C:PassesOwn (model X.prog X.w) X.A X.env X.xe)(hc:X.calm=true)(hi:PI X tg iter wi)(hg:PG X tg g)(c:iE X B tb)
  (hs:∀x,foldedSetIterable iter X.env x=pure x:=by intro _;rfl):PS X (.For tg iter B [] P) (Cy wi g tb):=by
 intro p s σ H D I h;refine wpAny_For (aJ (hi p s σ H _ I h) λv s1 h1=>aJ h1 λi0 s2 h2=>?_) hs;obtain⟨it,F,tn,J,H2,e,I2,T,O,f2,W,⟨m0,w0⟩,E⟩:=h2;subst e;have S:∀{t:Hp},(∀b∈F,t b=none)->∀b∈F,eP X p t b:=λhn b c=>#[hn b c,(f2 b c).2];refine codeAny_forLoop_any (λn s'=>∃i j t,ap X p j t s'/\tn i s'.heap/\(∀b∈F,t b=none)/\W i n j t) ?_ m0 #[0,σ,H2,I2,O,λb c=>(f2 b c).1,w0];rintro n s3 ⟨i,k,M,I3,G,K,w3⟩;rcases E i n k M w3 with ⟨stop,qn⟩ | ⟨go,N,hN,step⟩
 ·refine LB C$ aJ (T.done X Z Z Z hc i p s3 k M X.xe I3 (S K) G stop) λr s4 z=>?_;obtain⟨R,I4⟩:=z;subst R;exact Lq #[k,M,I4,qn]
 ·refine LB C$ aJ (T.item X Z Z Z hc i p s3 k M X.xe I3 (S K) G go) λr s4 z=>?_;obtain⟨u,R,h4⟩:=z;subst R;refine LB C$ aJ h4 λ_ s5 z=>?_;obtain⟨x,H5,I5,r5,y5,y,U⟩:=z;have V:=I5.pinned (S U) (T.obj _ _ y);refine LB C$ aJ (hg _ s5 k H5 x u _ V r5$ step x H5 y5) λ_ s6 z=>?_;obtain⟨Y,H6,I6,q6⟩:=z;refine LB C$ aJ (c _ s6 Y H6 _ I6 q6) λf s7 Q=>?_;have again:∀{a:St} {l:Hp},ap X (p++iI F s5.heap) a l s7->N a l->∃m,m < n/\∃i j t,ap X p j t s7/\tn i s7.heap/\(∀b∈F,t b=none)/\W i m j t:=λ{a l} q L=>by obtain⟨m',hm,w7⟩:=hN a l L;refine#[m',hm,i+1,a,l,q.unpinned,T.keep _ _ _ y λb c o e=>(q.pin (b,o)$ HC _$ HC _$ kW c e).1,λb c=>?_,w7];obtain⟨o,e,d⟩:=T.obj _ _ y b c;exact(q.pin (b,o)$ HC _$ HC _$ kW c e).2.1
  cases f with
  |next=>obtain⟨a,l,q,L⟩:=Q;exact again q L
  |cont=>obtain⟨a,l,q,L⟩:=Q;exact again q L
  |brk=>obtain⟨a,l,q,Q⟩:=Q;exact#[a,l,q.unpinned,Q]
  |ret v=>obtain⟨x7,a,l,q,r7,Q⟩:=Q;exact#[x7,a,l,q.unpinned,r7,Q]
end
theorem pV{K:Frag}{a:Addr}{X:List V}{g:TG}{t:TS}{D:aU}{b:St}{H:Hp}(Pv:Nat->St->Hp->Prop)(k:Pv 0 b H)(l:∀i b H,i<=X.length->Pv i b H->aB K H a X)
  (n:∀i x b H,X[i]?=some x->Pv i b H->g x b H λc j=>t { D with nx:=Pv (i+1),ct:=Pv (i+1),bk:=D.nx } c j) (o:∀b H,Pv X.length b H->D.nx b H):
  ∃W:Nat->Nat->St->Hp->Prop,(∃m,W 0 m b H)/\∀i m b H,W i m b H->
   ((uV K a).stop i H/\D.nx b H)∨((uV K a).go i H/\∃N:St->Hp->Prop,(∀d h,N d h->∃M,M < m/\W (i+1) M d h)/\∀x h,(uV K a).yld i H x h->g x b h λc j=>t { D with nx:=N,ct:=N,bk:=D.nx } c j):=by
 refine#[λi m b H=>m=X.length - i/\i<=X.length/\Pv i b H,#[X.length,Si,Ho _,k],?_];rintro i m b H ⟨rfl,r,p⟩;have q:=l i b H r p;by_cases f:i < X.length
 ·refine .inr #[#[X,X[i],q,by simp [f]],Pv$ i+1,λd h P=>#[X.length - (i+1),Sf,Z,f,P],λx h y=>?_];obtain⟨e,y⟩:=y;subst e;exact n i x b _ (y X q) p
 ·have e:i=X.length:=by omega
  subst e;exact .inl #[#[X,q,Hg _],o b H p]
theorem vJ{K:Frag}{a:Addr}{X:List V}{g:TG}{t:TS}{D:aU}{b:St}{H:Hp}(Pv:Nat->St->Hp->Prop)(k:Pv 0 b H)(l:∀i b H,i<=X.length->Pv i b H->ax K H a X)
  (n:∀i x b H,X[i]?=some x->Pv i b H->g x b H λc j=>t { D with nx:=Pv (i+1),ct:=Pv (i+1),bk:=D.nx } c j) (o:∀b H,Pv X.length b H->D.nx b H):
  ∃W:Nat->Nat->St->Hp->Prop,(∃m,W 0 m b H)/\∀i m b H,W i m b H->
   ((vb K a).stop i H/\D.nx b H)∨((vb K a).go i H/\∃N:St->Hp->Prop,(∀d h,N d h->∃M,M < m/\W (i+1) M d h)/\∀x h,(vb K a).yld i H x h->g x b h λc j=>t { D with nx:=N,ct:=N,bk:=D.nx } c j):=by
 refine#[λi m b H=>m=X.length - i/\i<=X.length/\Pv i b H,#[X.length,Si,Ho _,k],?_];rintro i m b H ⟨rfl,r,p⟩;have q:=l i b H r p;by_cases f:i < X.length
 ·refine .inr #[#[X,X[i],q,by simp [f]],Pv$ i+1,λd h P=>#[X.length - (i+1),Sf,Z,f,P],λx h y=>?_];obtain⟨e,y⟩:=y;subst e;exact n i x b _ (y X q) p
 ·have e:i=X.length:=by omega
  subst e;exact .inl #[#[X,q,Hg _],o b H p]
theorem Ql{lo:Int}{n:Nat}{g:TG}{t:TS}{D:aU}{a:St}{H:Hp}(Pv:Nat->St->Hp->Prop)(j:Pv 0 a H)
  (k:∀i a H,i < n->Pv i a H->g (.int$ lo+i) a H λb f=>t { D with nx:=Pv (i+1),ct:=Pv (i+1),bk:=D.nx } b f) (l:∀a H,Pv n a H->D.nx a H):
  ∃W:Nat->Nat->St->Hp->Prop,(∃m,W 0 m a H)/\∀i m a H,W i m a H->
   ((va lo n).stop i H/\D.nx a H)∨((va lo n).go i H/\∃N:St->Hp->Prop,(∀c h,N c h->∃M,M < m/\W (i+1) M c h)/\∀x h,(va lo n).yld i H x h->g x a h λb f=>t { D with nx:=N,ct:=N,bk:=D.nx } b f):=by
 refine#[λi m a H=>m=n - i/\i<=n/\Pv i a H,#[n,Si,Ho _,j],?_];rintro i m a H ⟨rfl,o,p⟩;by_cases d:i < n
 ·refine .inr #[d,Pv$ i+1,λc h P=>#[n - (i+1),Sf,Z,d,P],λx h y=>?_];obtain⟨e,y⟩:=y;subst e y;exact k i a _ d p
 ·have e:i=n:=by omega
  subst e;exact .inl #[Hg _,l a H p]
abbrev R2:=V->V->Hp->VK->Prop
def eG(X:Cx)(f:Value->Value->Sem Value)(r:R2):Prop:=
 ∀(p:List (Addr×Obj)) (s:Shared) (a:St) (H:Hp) (x y:V) (v u:Value) (Q:VK),ap X p a H s->aw x v->aw y u->r x y H Q->
  wpAny (model X.prog X.w) X.A (f v u) (EP X p a Q) X.xe s
def Fc(X:Cx)(f:Value->Sem Value)(r:V->Hp->VK->Prop):Prop:=
 ∀(p:List (Addr×Obj)) (s:Shared) (a:St) (H:Hp) (x:V) (v:Value) (Q:VK),ap X p a H s->aw x v->r x H Q->
  wpAny (model X.prog X.w) X.A (f v) (EP X p a Q) X.xe s
def b8(X:Cx)(f:Value)(r:List V->Hp->VK->Prop):Prop:=
 ∀(p:List (Addr×Obj)) (s:Shared) (a:St) (H:Hp) (x:List V) (u:List Value) (Q:VK),ap X p a H s->au x u->r x H Q->
  wpAny (model X.prog X.w) X.A (call f u) (EP X p a Q) X.xe s
def Fb(X:Cx)(r:V->Hp->(Bool->Hp->Prop)->Prop):Prop:=
 ∀(p:List (Addr×Obj)) (s:Shared) (a:St) (H:Hp) (x:V) (v:Value) (Q:Bool->Hp->Prop),ap X p a H s->aw x v->r x H Q->
  wpAny (model X.prog X.w) X.A (truthy v) (TP X p a Q) X.xe s
def dD(r:R2)(t T:TE):TE:=λa H Q=>t a H λx h=>T a h λy b=>r x y b Q
def GL(r:V->Hp->VK->Prop)(t:TE):TE:=λa H Q=>t a H λx h=>r x h Q
inductive rI(C:Int->Int->Prop)(g:Int->Int->V)(x y:V)(H:Hp)(Q:VK):Prop
 |mk(i j:_)(_:x= .int i)(_:y= .int j)(_:C i j)(_:Q (g i j) H)
inductive sK(g:Int->Int->V)(x y:V)(H:Hp)(Q:VK):Prop
 |mk(i j:_)(_:x= .int i)(_:y= .int j)(_:Q (g i j) H)
inductive rU(g:Int->V)(x:V)(H:Hp)(Q:VK):Prop
 |mk(i:_)(_:x= .int i)(_:Q (g i) H)
section
variable {X:Cx}{a b c:Expr}{ta tb tc:TE}{pos:Pos}
theorem Ah(k:PE X a ta)(l:PE X b tb){R:V->V->Hp->Prop}(I:ap X p e H s)
  (h:ta e H λx j=>tb e j λy d=>R x y d)  {f:Value->Value->Sem Value}
  (m:∀v u i x y d,ap X p e d i->aw x v->aw y u->R x y d->wpAny (model X.prog X.w) X.A (f v u) Q X.xe i):
  wpAny (model X.prog X.w) X.A (eval a X.env) (λv S=>wpAny (model X.prog X.w) X.A (eval b X.env) (λu g=>wpAny (model X.prog X.w) X.A (f v u) Q X.xe g) X.xe S) X.xe s:=by
 refine aJ (k p s e H _ I h) λv n z=>?_;obtain⟨x,j,o,r,q⟩:=z;refine aJ (l p n e j _ o q) λu i z=>?_;obtain⟨y,d,t,B,C⟩:=z;exact m v u i x y d t r B C
theorem ju{o:Operator}{r:R2}(d:eG X (binaryOp o) r)(e:PE X a ta)(f:PE X b tb):PE X (.BinOp a o b pos) (dD r ta tb):=by intro p s g H Q I h;exact wpAny_BinOp$ Ah e f I h λv u S x y i j R k q=>d p S g i x y v u Q j R k q
theorem Qe(e:Fc X (unaryOp o) r)(f:PE X a ta):PE X (.UnaryOp o a pos) (GL r ta):=by intro p s d H Q I h;exact UnaryOp_$ aJ (f p s d H _ I h) λv S #[x,g,i,R,q]=>e p S d g x v Q i R q
theorem EM{f:Value->Value->Sem Value}{C:Int->Int->Prop}{g:Int->Int->Int}
  (rule:∀(i j:Int) (t u:Tok) (s:Shared) (Q:Value->Shared->Prop) (E:Value->Shared->Prop),C i j->Q (.int (g i j) s.toks) { s with toks:=s.toks+1 }->wpAny (model X.prog X.w) X.A (f (.int i t)$ .int j u) Q E s):
  eG X f (rI C λi j=>.int (g i j)):=by
 intro p s e H x y v u Q I r R h;obtain⟨i,j,rfl,rfl,d,q⟩:=h;obtain⟨t,rfl⟩:=r;obtain⟨T,rfl⟩:=R;exact rule i j t T s _ _ d #[.int$ g i j,H,I.tok _,#[_,Z],q]
theorem DR{f:Value->Value->Sem Value}{g:Int->Int->Int}
  (rule:∀(i j:Int) (t u:Tok) (s:Shared) (Q:Value->Shared->Prop) (E:Value->Shared->Prop),Q (.int (g i j) s.toks) { s with toks:=s.toks+1 }->wpAny (model X.prog X.w) X.A (f (.int i t)$ .int j u) Q E s):
  eG X f (sK λi j=>.int (g i j)):=by
 intro p s d H x y v u Q I r R h;obtain⟨i,j,rfl,rfl,q⟩:=h;obtain⟨t,rfl⟩:=r;obtain⟨T,rfl⟩:=R;exact rule i j t T s _ _ #[.int$ g i j,H,I.tok _,#[_,Z],q]
theorem wF{f:Value->Value->Sem Value}{g:Int->Int->Bool}
  (rule:∀(i j:Int) (t u:Tok) (s:Shared) (Q:Value->Shared->Prop) (E:Value->Shared->Prop),Q (.bool$ g i j) s->wpAny (model X.prog X.w) X.A (f (.int i t)$ .int j u) Q E s):
  eG X f (sK λi j=>.bl (g i j)):=by
 intro p s d H x y v u Q I r R h;obtain⟨i,j,rfl,rfl,q⟩:=h;obtain⟨t,rfl⟩:=r;obtain⟨T,rfl⟩:=R;exact rule i j t T s _ _ #[.bl$ g i j,H,I,Z,q]
def ER(i j:Int):Prop:=0<=j/\j<=1000000/\i.natAbs < 2 ^ 64
def uZ(i j:Int):Prop:=(-(2 ^ 64) < i/\i < 2 ^ 64)∨(-(2 ^ 64) < j/\j < 2 ^ 64)
theorem uZ.ok(h:uZ i j):IntMulOk i j:=by
 rcases h with ⟨H,d⟩ | ⟨H,d⟩
 ·exact .of_left$ intBits_le_64 H d
 ·exact .of_right$ intBits_le_64 H d
theorem jY:eG X (binaryOp .Add) (sK λi j=>.int (i+j)):=DR λ_ _ _ _ _ _ _ q=>add_int q
theorem kJ:eG X (binaryOp .Sub) (sK λi j=>.int (i - j)):=DR λ_ _ _ _ _ _ _ q=>sub_int q
theorem zn:eG X (binaryOp .Mult) (rI uZ λi j=>.int (i*j)):=EM λ_ _ _ _ _ _ _ h q=>mul_int q h.ok
theorem kU:eG X (binaryOp .Mod) (rI (λ_ j=>0 < j) λi j=>.int (i % j)):=EM λi j _ _ _ _ _ h q=>by have H:(0:Int) < j:=h;exact mod_int' Sf (by rw[Int.fmod_eq_emod_of_nonneg i Sf];exact q)
theorem Ka:eG X (binaryOp .Pow) (rI ER λi j=>.int (i ^ j.toNat)):=EM λ_ _ _ _ _ _ _ h q=>pow_int_small h.1 h.2.1 h.2.2 q
theorem GP{f:Value->Sem Value}{g:Int->Int}
  (rule:∀(i:Int) (t:Tok) (s:Shared) (Q:Value->Shared->Prop) (E:Value->Shared->Prop),Q (.int (g i) s.toks) { s with toks:=s.toks+1 }->wpAny (model X.prog X.w) X.A (f$ .int i t) Q E s):
  Fc X f (rU λi=>.int (g i)):=by
 intro p s d H x v Q I r h;obtain⟨i,rfl,q⟩:=h;obtain⟨t,rfl⟩:=r;exact rule i t s _ _ #[.int$ g i,H,I.tok _,#[_,Z],q]
theorem Jf:Fc X (unaryOp .USub) (rU λi=>.int (-i)):=GP λ_ _ _ _ _ q=>neg_int q
end
noncomputable def Eb:V->V->Bool
 | .non,.non=>true | .non,.int _=>true | .int _,.non=>true | .non,.bl _=>true | .bl _,.non=>true | .non,.str _=>true | .str _,.non=>true
 | .int _,.int _=>true | .bl _,.bl _=>true | .str _,.str _=>true | .byt _,.byt _=>true
 | .int _,.str _=>true | .str _,.int _=>true | .bl _,.str _=>true | .str _,.bl _=>true
 |_,_=>false
def DY:R2:=λx y H Q=>Eb x y=true/\Q (.bl$ decide$ x=y) H
def GF:R2:=λx y H Q=>Eb x y=true/\Q (.bl (!decide (x=y))) H
theorem YZ:decide (V.int i=V.int j)=(i==j):=by rw[M3];simp
theorem pM:decide (V.bl i=V.bl j)=(i==j):=by rw[M3];simp
theorem Y0:decide (V.str i=V.str j)=(i==j):=by rw[M3];simp
theorem Y1:decide (V.byt i=V.byt j)=(i.toList==j.toList):=by rw[M3];cases i;cases j;simp
section
variable {X:Cx}{a b c:Expr}{ta tb tc:TE}{pos:Pos}
theorem jL{Q:VK}(I:ap X p d H s)(q:Q (.bl k) H)(e:k=f):EP X p d Q (.bool f) s:=by subst e;exact#[.bl k,H,I,Z,q]
theorem Jx:eG X (compareOp .Eq) DY:=by
 intro p s e H x y v u Q I R r h;obtain⟨d,q⟩:=h;cases x with
 |non=>
  cases R;cases y with
  |non=>cases r;exact RN (jL I q Si)
  |bl j=>cases r;exact RP (jL I q Si)
  |int j=>obtain⟨T,rfl⟩:=r;exact RO (jL I q Si)
  |str j=>obtain⟨T,rfl⟩:=r;exact RM (jL I q Si)
  |_=>exact absurd (show false=true from d) Hl
 |bl i=>
  cases R;cases y with
  |non=>cases r;exact RS (jL I q Si)
  |bl j=>cases r;exact eq_bool (jL I q pM)
  |str j=>obtain⟨T,rfl⟩:=r;exact Rz (jL I q Si)
  |_=>exact absurd (show false=true from d) Hl
 |int i=>
  obtain⟨t,rfl⟩:=R;cases y with
  |non=>cases r;exact RQ (jL I q Si)
  |int j=>obtain⟨T,rfl⟩:=r;exact eq_int (jL I q YZ)
  |str j=>obtain⟨T,rfl⟩:=r;exact Ry (jL I q Si)
  |_=>exact absurd (show false=true from d) Hl
 |str i=>
  obtain⟨t,rfl⟩:=R;cases y with
  |non=>cases r;exact RL (jL I q Si)
  |bl j=>cases r;exact Rx (jL I q Si)
  |int j=>obtain⟨T,rfl⟩:=r;exact Rv (jL I q Si)
  |str j=>obtain⟨T,rfl⟩:=r;exact eq_str (jL I q Y0)
  |_=>exact absurd (show false=true from d) Hl
 |byt i=>
  obtain⟨t,rfl⟩:=R;cases y with
  |byt j=>obtain⟨T,rfl⟩:=r;exact PySem.W.eq_bytes (jL I q Y1)
  |_=>exact absurd (show false=true from d) Hl
 |_=>cases y<;>exact absurd (show false=true from d) Hl
theorem sg:eG X (compareOp .NotEq) GF:=by
 intro p s e H x y v u Q I R r h;obtain⟨d,q⟩:=h;cases x with
 |non=>
  cases R;cases y with
  |non=>cases r;exact RE (jL I q Si)
  |bl j=>cases r;exact RG (jL I q Si)
  |int j=>obtain⟨T,rfl⟩:=r;exact RF (jL I q Si)
  |str j=>obtain⟨T,rfl⟩:=r;exact RD (jL I q Si)
  |_=>exact absurd (show false=true from d) Hl
 |bl i=>
  cases R;cases y with
  |non=>cases r;exact RJ (jL I q Si)
  |bl j=>cases r;exact ne_bool (jL I q (IC not pM))
  |str j=>obtain⟨T,rfl⟩:=r;exact Ru (jL I q Si)
  |_=>exact absurd (show false=true from d) Hl
 |int i=>
  obtain⟨t,rfl⟩:=R;cases y with
  |non=>cases r;exact RI (jL I q Si)
  |int j=>obtain⟨T,rfl⟩:=r;exact ne_int (jL I q (IC not YZ))
  |str j=>obtain⟨T,rfl⟩:=r;exact Rt (jL I q Si)
  |_=>exact absurd (show false=true from d) Hl
 |str i=>
  obtain⟨t,rfl⟩:=R;cases y with
  |non=>cases r;exact RC (jL I q Si)
  |bl j=>cases r;exact Rs (jL I q Si)
  |int j=>obtain⟨T,rfl⟩:=r;exact Rr (jL I q Si)
  |str j=>obtain⟨T,rfl⟩:=r;exact ne_str (jL I q (IC not Y0))
  |_=>exact absurd (show false=true from d) Hl
 |byt i=>
  obtain⟨t,rfl⟩:=R;cases y with
  |byt j=>obtain⟨T,rfl⟩:=r;exact PySem.W.ne_bytes (jL I q (IC not Y1))
  |_=>exact absurd (show false=true from d) Hl
 |_=>cases y<;>exact absurd (show false=true from d) Hl
theorem qH:eG X (compareOp .Lt) (sK λi j=>.bl (decide$ i < j)):=wF λ_ _ _ _ _ _ _ q=>lt_int q
theorem yI:eG X (compareOp .LtE) (sK λi j=>.bl (decide$ i<=j)):=wF λ_ _ _ _ _ _ _ q=>le_int q
theorem qI:eG X (compareOp .Gt) (sK λi j=>.bl (decide$ j < i)):=wF λ_ _ _ _ _ _ _ q=>gt_int q
theorem sf:eG X (compareOp .GtE) (sK λi j=>.bl (decide$ j<=i)):=wF λ_ _ _ _ _ _ _ q=>ge_int q
theorem aC(b:Expr)(h:o≠ .In:=by decide)(H:o≠ .NotIn:=by decide):behindInMarks o b=false:=by
 have e:(o==CmpOp.In)=false:=by cases o<;>first |rfl |exact absurd Z h
 have E:(o==CmpOp.NotIn)=false:=by cases o<;>first |rfl |exact absurd Z H
 cases b<;>simp [behindInMarks,e,E]
theorem JO(d:eG X (compareOp o) r)(e:PE X a ta)(f:PE X b tb)(g:behindInMarks o b=false):PE X (.Compare a [o] [b] pos) (dD r ta tb):=by intro p s i H Q I h;exact wpAny_Compare1 (Ah e f I h λv u S x y j k R l q=>d p S i j x y v u Q k R l q) g
inductive uB(Q:Bool->Hp->Prop)(x:V)(a:Hp):Prop
 |mk(k:_)(_:x= .bl k)(_:Q k a)
def ik(t:TE):TT:=λd H Q=>t d H (uB Q)
theorem jA{o:CmpOp}{r:R2}(f:eG X (compareOp o) r)(g:PE X a ta)(i:PE X b tb)(j:behindInMarks o b=false):PT X (.Compare a [o] [b] pos) (ik$ dD r ta tb):=by
 intro p s d H Q I h;refine Pf (aJ (g p s d H _ I h) λv S #[x,l,m,R,q]=>aJ (i p S d l _ m q) λu n #[y,t,w,A,B]=>
  aJ (f p n d t x y v u _ w R A B) λc G #[z,C,D,E,k,e,F]=>?_) j
 subst e;cases E;exact IP #[C,D,F]
inductive og(b:R2)(c:TE)(d:St)(Q:VK)(y z:V)(a:Hp):Prop
 |mk(k:_)(_:z= .bl k)(_:if k=true then c d a λw' H4=>b y w' H4 Q else Q (.bl false) a)
def Cr(r R:R2)(ta tb tc:TE):TE:=λd H Q=>ta d H λx h=>tb d h λy e=>r x y e (og R tc d Q y)
theorem sD{O o:CmpOp}{r R:R2}(n:eG X (compareOp O) r)(g:eG X (compareOp o) R)(t:PE X a ta)(w:PE X b tb)(A:PE X c tc)
  (B:lastMarks [O,o] [b,c]=false:=by with_unfolding_all rfl):PT X (.Compare a [O,o] [b,c] pos) (ik$ Cr r R ta tb tc):=by
 intro p s f H Q I h;refine isTrue_chain (aJ (t p s f H _ I h) λv S #[x,C,D,E,F]=>test_link (aJ (w p S f C _ D F) λu G #[y,J,K,j,L]=>
  aJ (n p G f J x y v u _ K E j L) λd M #[z,l,m,N,k,e,q]=>?_)) B
 subst e;cases N;refine IP ?_;cases k with
 |false=>obtain⟨k',P,T⟩:=q;cases P;exact ite_ff #[l,m,T]
 |true=>refine ite_tt$ test_last$ aJ (A p M f l _ m q) λW U #[V,Y,I4,r4,q4]=>aJ (g p U f Y y V u W _ I4 j r4 q4) λd' s5 i=>?_;obtain⟨z2,H5,I5,r5,k2,e2,q5⟩:=i;subst e2;cases r5;exact IP #[H5,I5,q5]
def De(K:Frag)(x:V)(H:Hp)(k:Bool):Prop:=
 match x with
 | .non=>k=false
 | .bl b=>k=b
 | .int i=>k=(i != 0)
 | .str y=>y.length<=sizeLine/\k=((y.length:Int) != 0)
 | .byt y=>y.size<=sizeLine/\k=((y.size:Int) != 0)
 | .ref p=>(∃d,aB K H p d/\k=!d.isEmpty)∨(∃d,ax K H p d/\k=!d.isEmpty)∨∃e,H p=some (.dK e)/\k=!e.isEmpty
 |_=>False
theorem Yb{d:Type}{k:List (d×V)}{v:List (d×Value)}(r:KV k v):(!v.isEmpty)=!k.isEmpty:=by cases r<;>rfl
theorem Ku(r:au x i):(!i.toArray.isEmpty)=!x.isEmpty:=by cases r<;>simp
theorem dM:(sizeLine:Nat) < 2 ^ 63:=by rw[Lw];decide
theorem CA:Fb X (λx H Q=>∃k,De X.K x H k/\Q k H):=by
 intro o s B H x v Q I R h;obtain⟨k,e,q⟩:=h;have C:=dM;have D:sizeLine=16777216:=Lw;cases x with
 |non=>cases R;have E:k=false:=e;subst E;exact truthy_none #[H,I,q]
 |bl b=>cases R;have E:k=b:=e;subst E;exact IP #[H,I,q]
 |int i=>obtain⟨t,rfl⟩:=R;have E:k=(i != 0):=e;subst E;exact PySem.P.truthy_int #[H,I,q]
 |str y=>obtain⟨t,rfl⟩:=R;obtain⟨z,E⟩:y.length<=sizeLine/\k=((y.length:Int) != 0):=e;subst E;exact PySem.P.truthy_str Sf #[H,I.tok _,q]
 |byt y=>obtain⟨t,rfl⟩:=R;obtain⟨z,E⟩:y.size<=sizeLine/\k=((y.size:Int) != 0):=e;subst E;exact PySem.W.truthy_bytes Sf #[H,I.tok _,q]
 |ref p=>
  cases R;have E:(∃g,aB X.K H p g/\k=!g.isEmpty)∨(∃g,ax X.K H p g/\k=!g.isEmpty)∨∃d,H p=some (.dK d)/\k=!d.isEmpty:=e;rcases E with ⟨g,j,E⟩ | ⟨g,j,E⟩ | ⟨d,j,E⟩
  ·subst E;obtain⟨l,r,n,u⟩:=I.list j;have f:=r.length;exact wpAny_truthy_list n.isList (by simp only[Hh];omega) #[H,I.tok _,by rw[Ku r];exact q]
  ·subst E;obtain⟨l,r,n,u⟩:=I.tuple j;have f:=r.length;exact truthy_tuple n (by simp only[Hh];omega) #[H,I.tok _,by rw[Ku r];exact q]
  ·subst E;obtain⟨u,A,V,r,m⟩:d.length<=sizeLine/\(p==sysModules)=false/\∃V,KV d V/\s.heap.DictOf (aS X.prog X.w) p V:=I.hok p _ j;have f:d.length=V.length:=Paired.length r;exact wpAny_truthy_dict A m Sf #[H,I.tok _,by rw[Yb r];exact q]
 |_=>exact(show False from e).elim
theorem sF(f:PE X a ta)(g:∀w,isTrue a X.env w=(do let v <- w;standAt a.pos;holding [v] (truthy v))):
  PT X a (λd H Q=>ta d H λx e=>∃k,De X.K x e k/\Q k e):=by
 intro p s d H Q I h;exact isTrue_plain (aJ (f p s d H _ I h) λv S #[x,i,j,r,q]=>CA p S d i x v Q j r q)$ g _
theorem zA:eG X (binaryOp .Add) (λx y H Q=>∃i j,x= .str i/\y= .str j/\i.length+j.length<=sizeLine/\Q (.str$ i++j) H):=by intro p s e H x y v u Q I r R h;obtain⟨i,j,rfl,rfl,d,q⟩:=h;obtain⟨t,rfl⟩:=r;obtain⟨T,rfl⟩:=R;exact add_str (λT f=>#[.str$ i++j,H,I.tok _,#[_,Z],q]) d
theorem dU(r:au [x] U):∃u,U=[u]/\aw x u:=by
 cases r with
 |cons R d=>cases d;exact#[_,Z,R]
theorem uL(r:au [x,y] U):∃u w,U=[u,w]/\aw x u/\aw y w:=by
 cases r with
 |cons R d=>
  cases d with
  |cons e f=>cases f;exact#[_,_,Z,R,e]
theorem Jo:b8 X (.type "int") (λx H Q=>(∃i,x=[.int i]/\Q (.int i) H)∨∃k,x=[.bl k]/\Q (.int (if k then 1 else 0)) H):=by
 intro p s d H x U Q I r h;rcases h with ⟨i,rfl,q⟩ | ⟨k,rfl,q⟩
 ·obtain⟨u,rfl,t,rfl⟩:=dU r;exact call_int_int #[.int i,H,I,#[_,Z],q]
 ·obtain⟨u,rfl,R⟩:=dU r;cases R;exact call_int_bool #[.int (if k then 1 else 0),H,I.tok _,#[_,Z],q]
end
structure mq(h:Heap)(x dx C:Addr)(mA:Str->Option Value):Prop where
 obj:h.get? x=some (instObj C dx)
 ns:h.Ns1 dx mA
 ne:dx≠x
theorem Qm{h:Heap}(n:h.Ns1 d m):∃O,h.get? d=some O/\∀name,lookIn name O=some (m name):=by
 obtain⟨o,E,j,b,c,f,_,g⟩:=n;refine#[o,b,λname=>?_];have e:=g name;unfold nsFind findBy at e;rw[<- Array.find?_toList]at e;unfold lookIn;rw[c];dsimp only;split
 ·rename_i y q
  rw[q]at e;exact IC some e
 ·rename_i q
  rw[q]at e;have a:E.toList.any (·.refKey)=false:=by rw[O8];intro y i;obtain⟨z,t,H⟩:=f y (Array.mem_toList_iff.mp i);simp [DictEntry.refKey,H]
  have A:¬E.toList.any (·.refKey)=true:=by rw[a];exact Hl
  rw[HG A];exact IC some e
theorem mq.look(I:mq h x d C m):∃o,PySem.W.InstAt h x (instObj C d) C (some o)/\∀name,lookIn name o=some (m name):=
 let #[o,H,a]:=Qm I.ns
 #[o,#[I.obj,Z,Z,H],a]
section
variable {prog:Program}{w:World}{A:Around}{E:Value->Shared->Prop}{s:Shared}{K:Frag}{x dx C f:Addr}{mA:Str->Option Value}{name:Str}{v:Value}
theorem vK{Q:Value->Shared->Prop}(X:K.In s.heap)(I:mq s.heap x dx C mA)(a:plainGet K C name=true)(b:hasDictIn K C=true)
  (c:findIn K (.ref C) name=some none) (d:mA name=some v) (H:PySem.W.handedIn v=true) (h:Q v { s with toks:=s.toks+1 }):
  wpAny (model prog w) A (getAttr (.ref x) name e) Q E s:=by
 obtain⟨o,J,g⟩:=I.look;exact PySem.W.get_value X J (M9 a).1 (PySem.W.findObj_own b c Z (by rw[g,d])) H h
theorem pZ{Q:Value×List Value->Shared->Prop}(X:K.In s.heap)(I:mq s.heap x dx C mA)(H:plainGet K C name=true)
  (a:findIn K (.ref C) name=some (some$ .ref f)) (b:isFn K (.ref f)=true) (c:mA name=none) (h:Q (.ref f,[.ref x]) s):
  wpAny (model prog w) A (getMethod (.ref x) name p) Q E s:=by
 obtain⟨o,J,d⟩:=I.look;exact PySem.W.method_fn X J (M9 H).1 (M9 H).2 a (beq_iff_eq.mp b) (by show(lookIn name o).map (·.isSome)=some false;rw[d,c];rfl) h
theorem xJ{Q:Unit->Shared->Prop}(X:K.In s.heap)(I:mq s.heap x dx C mA)
  (k:findIn K (.ref C) "__setattr__"=some (some$ .builtin "object.__setattr__")) (l:PySem.W.plainOver K C=true) (m:PySem.W.takerIn K C name=some none) (n:hasDictIn K C=true)
  (o:PySem.Within mA N) (p:N.length<=sizeLine)
  (h:∀d,mq d x dx C (λy=>if y=name then some v else mA y)->Heap.SameBut dx s.heap d->Q () { s with heap:=d,toks:=s.toks+2 }):
  wpAny (model prog w) A (setAttr (.ref x) name v) Q E s:=by
 obtain⟨O,J,B⟩:=I.look;refine PySem.W.set_plain X J k$ PySem.W.osa_open (s:={ s with toks:=s.toks+1 }) (r:=none) X J l m λb=>?_;obtain⟨D,q,e⟩:=PySem.W.any_some n;have t:s.heap.get? x=some #[.ref C,some dx,.plain,(List.toArray [])]:=I.obj;refine GZ$ Hc$ GZ$ GZ$ ME t$ GZ$ Rq (s:={ s with toks:=s.toks+1 }) (PySem.W.looks_clsIn X q) ?_;rw[e];refine Hc (a:=some dx)$ GZ$ Hc$ GZ ?_;refine wpAny_nsSet1 (s:={ s with toks:=s.toks+1 }) I.ns λd H c=>?_;obtain⟨F,u,z,g,i,j⟩:=H.count (RB name v o);refine GZ$ wpAny_lookBehind g (by rw[i];exact pastItsLine_dict$ Hr j (by rw[HM];omega)) ?_;exact Hc$ h _ #[(c.2 _$ HR I.ne).trans I.obj,H,I.ne] c
theorem rC{R:Result->Shared->Prop}(X:K.In s.heap)(H:PySem.W.makesIn K C=true)
  (b:findIn K (.ref C) "__init__"=some (some$ .ref f)) (c:typeIn K (.ref f)=some (.type "function"))
  (h:codeAny (model prog w) (A.under$ .builtin "type.__call__" #[.ref C::a,k]) (.call (.ref f) #[.ref (s.heap.objs.size+1)::a,k]) (PySem.W.InitBack (s.heap.objs.size+1) R)
   { s with heap:=(s.heap.push emptyDict).push (instObj C s.heap.objs.size) }):
  codeAny (model prog w) A (.call (.ref C) #[a,k]) R s:=by
 obtain⟨e,g,d,t,os⟩:=s;exact PySem.W.make_core (PySem.W.makes_of X H) (PySem.W.looks_findIn X b) (λS=>PySem.W.bind_fn X S c) (.inl Z) h
end
noncomputable def dO(f:Str)(v:V):List (Str×V)->List (Str×V)
 | []=>[(f,v)]
 | (g,x)::r=>if g=f then (g,v)::r else (g,x)::dO f v r
theorem JA(f g:Str)(v:V):∀F:List (Str×V),(dO f v F).lookup g=if g=f then some v else F.lookup g
 | []=>by
  show List.lookup g [(f,v)]=_;by_cases h:g=f
  ·have H:(g==f)=true:=beq_iff_eq.mpr h;simp only[List.lookup,H,HD h]
  ·have H:(g==f)=false:=beq_eq_false_iff_ne.mpr h;simp only[List.lookup,H,HG h]
 | (k,x)::r=>by
  have i:=JA f g v r;rw[show dO f v ((k,x)::r)=(if k=f then (k,v)::r else (k,x)::dO f v r) from Z];by_cases a:k=f
  ·rw[HD a];by_cases h:g=k
   ·have H:(g==k)=true:=beq_iff_eq.mpr h;simp only[List.lookup,H,HD$ h.trans a]
   ·have H:(g==k)=false:=beq_eq_false_iff_ne.mpr h;simp only[List.lookup,H,HG (λe:g=f=>h (e.trans a.symm))]
  ·rw[HG a];by_cases h:g=k
   ·have H:(g==k)=true:=beq_iff_eq.mpr h;simp only[List.lookup,H,HG (λe:g=f=>a (h.symm.trans e))]
   ·have H:(g==k)=false:=beq_eq_false_iff_ne.mpr h;simp only[List.lookup,H];exact i
theorem Jp(f:Str)(v:V):∀F:List (Str×V),f∈(dO f v F).map (·.1)/\∀g,g∈F.map (·.1)->g∈(dO f v F).map (·.1)
 | []=>#[by simp [dO],λg h=>by simp at h]
 | (k,x)::r=>by
  obtain⟨i,I⟩:=Jp f v r;rw[show dO f v ((k,x)::r)=(if k=f then (k,v)::r else (k,x)::dO f v r) from Z];by_cases H:k=f
  ·rw[HD H];subst H;exact#[Si,λg h=>by simpa using h]
  ·rw[HG H];refine#[?_,λg h=>?_]
   ·rw[Ix];exact HQ _ i
   ·rw[Ix]at h ⊢;rcases List.mem_cons.mp h with e |e
    ·exact List.mem_cons.mpr$ .inl e
    ·exact HQ _$ I g e
theorem JB(f:Str)(v:V):∀F:List (Str×V),(dO f v F).length<=F.length+1
 | []=>by simp [dO]
 | (k,x)::r=>by
  have i:=JB f v r;rw[show dO f v ((k,x)::r)=(if k=f then (k,v)::r else (k,x)::dO f v r) from Z];by_cases h:k=f
  ·rw[HD h,HM,HM];omega
  ·rw[HG h,HM,HM];omega
theorem dw.some_of{v:V}{o:Option Value}(r:dw (some v) o):∃u,o=some u/\aw v u:=by
 cases o with
 |none=>exact(show False from r).elim
 |some u=>exact#[u,Z,r]
theorem dw.none_of(r:dw none o):o=none:=by
 cases o with
 |none=>rfl
 |some u=>exact(show False from r).elim
theorem ZD(r:aw v u):PySem.W.handedIn u=true:=by
 cases v with
 |non=>cases (show u=Value.none from r);rfl
 |bl b=>cases (show u=Value.bool b from r);rfl
 |int i=>obtain⟨t,e⟩:=(show ∃t,u=Value.int i t from r);cases e;rfl
 |str x=>obtain⟨t,e⟩:=(show ∃t,u=Value.str x t from r);cases e;rfl
 |byt b=>obtain⟨t,e⟩:=(show ∃t,u=Value.bytes b t from r);cases e;rfl
 |flt b=>obtain⟨t,e⟩:=(show ∃t,u=Value.float b t from r);cases e;rfl
 |ref a=>cases (show u=Value.ref a from r);rfl
 |ty n=>cases (show u=Value.type n from r);rfl
section
variable {P:Program}{w:World}{H H':Hp}{h h':Heap}{a C dx:Addr}{fs fs':List (Str×V)}
theorem JP(b:eh P w H h)(e:H a=some (.ins C dx fs)):∃m,mq h a dx C m/\(∀f,dw (fs.lookup f)$ m f)/\PySem.Within m (fs.map (·.1))/\fs.length<=1000/\H dx=some (.own a):=by obtain⟨d,z,N,o,m,n,r,q⟩:=(show aF P w H h a (.ins C dx fs) from b a _ e);exact#[m,#[o,n,N],r,q,z,d]
end
structure oj(K:Frag)(C:Addr):Prop where
 pg:plainGet K C Str.empty=true
 hd:hasDictIn K C=true
 po:PySem.W.plainOver K C=true
 sa:findIn K (.ref C) "__setattr__"=some (some$ .builtin "object.__setattr__")
theorem oj.get{K:Frag}(c:oj K C)(f:Str):plainGet K C f=true:=c.pg
def bq(K:Frag)(C:Addr)(f:Str):Prop:=findIn K (.ref C) f=some none
theorem bq.taker{K:Frag}(n:bq K C f):PySem.W.takerIn K C f=some none:=by unfold PySem.W.takerIn;rw[show findIn K (.ref C) f=some none from n];rfl
structure bN(K:Frag)(C:Addr)(m:Str)(f:Addr):Prop where
 at_:findIn K (.ref C) m=some (some$ .ref f)
 fn:isFn K (.ref f)=true
 kp:keepIn K (.ref f)=true
section
variable {X:Cx}{pins:List (Addr×Obj)}{σ:St}{H:Hp}{s:Shared}{a C dx:Addr}{fs:List (Str×V)}{f:Str}{v:V}{A:Around}{E:Value->Shared->Prop}
theorem Kv{Q:Value->Shared->Prop}(I:ap X pins σ H s)(e:H a=some (.ins C dx fs))(c:oj X.K C)(n:bq X.K C f)(l:fs.lookup f=some v)
  (h:∀u S,ap X pins σ H S->aw v u->Q u S):wpAny (model X.prog X.w) A (getAttr (.ref a) f b) Q E s:=by
 obtain⟨m,O,r,_,_,_⟩:=JP I.hok e;obtain⟨u,d,R⟩:=dw.some_of (v:=v) (o:=m f) (by rw[<- l];exact r f);exact vK I.kIn O (c.get f) c.hd n d (ZD R)$ h u _ (I.tok _) R
theorem Kw{Q:Value×List Value->Shared->Prop}(I:ap X pins σ H s)(e:H a=some (.ins C dx fs))(c:oj X.K C)(k:bN X.K C m g)(l:fs.lookup m=none)
  (h:Q (.ref g,[.ref a]) s):wpAny (model X.prog X.w) A (getMethod (.ref a) m p) Q E s:=by
 obtain⟨M,O,r,_,_,_⟩:=JP I.hok e;have b:M m=none:=dw.none_of (by rw[<- l];exact r m);exact pZ I.kIn O (c.get m) k.at_ k.fn b h
theorem Kx{Q:Unit->Shared->Prop}(I:ap X pins σ H s)(e:H a=some (.ins C dx fs))(c:oj X.K C)(n:bq X.K C f)(F:fs.length < 1000)(R:aw y u)
  (h:∀S,ap X pins σ (af H a$ .ins C dx$ dO f y fs) S->Q () S):wpAny (model X.prog X.w) A (setAttr (.ref a) f u) Q E s:=by
 obtain⟨m,O,r,W,_,i⟩:=JP I.hok e;have j:(fs.map (·.1)).length<=sizeLine:=by rw[He,Lw];omega
 refine xJ I.kIn O c.sa c.po n.taker c.hd W j λk d l=>h _ ?_;have p:∃o,k.get? dx=some o:=let #[o,_,_,t,_]:=d.ns;#[o,t]
 refine I.write (x:=a) (e:=dx) (by rw[e];exact True.intro) (.inr i) (λb q B z=>(l.2 b B).trans z) p ?_;refine#[by rw[ji O.ne];exact i,?_,O.ne,d.obj,_,d.ns,λg=>?_,λg D=>?_]
 ·have:=JB f y fs;omega
 ·show dw ((dO f y fs).lookup g) (if g=f then some u else m g);rw[JA];by_cases q:g=f
  ·rw[HD q,HD q];exact R
  ·rw[HG q,HG q];exact r g
 ·by_cases q:g=f
  ·rw[q];exact(Jp f y fs).1
  ·refine(Jp f y fs).2 g (W g λz=>D ?_);show(if g=f then some u else m g)=none;rw[HG q];exact z
theorem ap.made(I:ap X pins σ H s):ap X pins σ (af (af H s.heap.objs.size$ .own$ s.heap.objs.size+1) (s.heap.objs.size+1)$ .ins C s.heap.objs.size [])
  { s with heap:=(s.heap.push emptyDict).push (instObj C s.heap.objs.size) }:=by
 have c:(s.heap.push emptyDict).get? s.heap.objs.size=some emptyDict:=Hj s.heap Z;have d:((s.heap.push emptyDict).push$ instObj C s.heap.objs.size).get? (s.heap.objs.size+1)=some (instObj C s.heap.objs.size):=by have:=Hj (s.heap.push emptyDict) (o:=instObj C s.heap.objs.size) Z;rwa [Ij]at this
 have g:(s.heap.push emptyDict).Ns s.heap.objs.size (λ_=>none):=#[emptyDict,(List.toArray []),_,c,Z,(λe h=>absurd h Si),λ_=>Z];have i:=I.laid (a:=s.heap.objs.size) (o:=.own (s.heap.objs.size+1)) (h':=s.heap.push emptyDict) (t':=s.toks) (λb u q=>Hd _ q) (Hg _) #[_,c];refine i.laid (a:=s.heap.objs.size+1) (o:=.ins C s.heap.objs.size []) (t':=s.toks) (λb u q=>Hd _ q) (NA$ Ij _ _) ?_;have n:s.heap.objs.size≠s.heap.objs.size+1:=Hm (IF _);refine#[by rw[ji n,jc],Ho _,n,d,λ_=>none,(Heap.Ns1.of_empty g).at λo q=>Hd _ q,λ_=>True.intro,λy j=>absurd Z j]
theorem vp{f:Str}{s:Shared}(c:attributeBase e f b (eval e b)=eval e b)
  (h:wpAny (model p w) A (eval e b) (λo S=>wpAny (model p w) A (getAttr o f true) Q E S) E s):wpAny (model p w) A (eval (.Attribute e f d) b) Q E s:=
 Attribute_any_ h (by rw[arm_eval_Attribute,c])
end
inductive yX(K:Frag)(f:Str)(Q:VK)(x:V)(b:Hp):Prop
 |mk(a C c d v:_)(_:x= .ref a)(_:b a=some (.ins C c d))(_:oj K C)(_:bq K C f)(_:d.lookup f=some v)(_:Q v b)
def FQ(K:Frag)(t:TE)(f:Str):TE:=λa H Q=>t a H (yX K f Q)
inductive yN(K:Frag)(f:Str)(D:aU)(e:St)(y x:V)(b:Hp):Prop
 |mk(a C c d:_)(_:x= .ref a)(_:b a=some (.ins C c d))(_:oj K C)(_:bq K C f)(_:d.length < 1000)(_:D.nx e (af b a (.ins C c (dO f y d))))
def FD(K:Frag)(t T:TE)(f:Str):TS:=λD a H=>T a H λy h=>t a h (yN K f D a y)
def C2(X:Cx)(o:Operator)(r:V->V->Hp->VK->Prop):Prop:=
 ∀(p:List (Addr×Obj)) (s:Shared) (a:St) (H:Hp) (x y:V) (u v:Value) (Q:VK),ap X p a H s->aw x u->aw y v->r x y H Q->wpAny (model X.prog X.w) X.A (inplaceOp o u v) (EP X p a Q) X.xe s
inductive lH(K:Frag)(g:TE)(e:V->V->Hp->VK->Prop)(f:Str)(D:aU)(h:St)(x:V)(b:Hp):Prop
 |mk(a C c d v:_)(_:x= .ref a)(_:b a=some (.ins C c d))(_:oj K C)(_:bq K C f)(_:d.lookup f=some v)(_:g h b λy H2=>e v y H2 λz H3=>∃dx' fs',H3 a=some (.ins C dx' fs')/\fs'.length < 1000/\D.nx h (af H3 a (.ins C dx' (dO f z fs'))))
def xk(K:Frag)(t T:TE)(r:V->V->Hp->VK->Prop)(f:Str):TS:=λD a H=>t a H (lH K T r f D a)
section
variable {X:Cx}{o e value:Expr}{f:Str}{pos pos' tpos:Pos}{ta tv:TE}
theorem zo(b:PE X e ta)(d:attributeBase e f X.env (eval e X.env)=eval e X.env):PE X (.Attribute e f pos) (FQ X.K ta f):=by intro p s g H Q I h;refine vp d$ aJ (b p s g H _ I h) λu S z=>?_;obtain⟨x,i,j,r,a,C,D,F,v,E,k,c,n,l,q⟩:=z;subst E;obtain rfl:u=Value.ref a:=r;exact Kv j k c n l λU t m R=>#[v,i,m,R,q]
theorem qC(d:PE X o ta)(g:PE X value tv)(i:swapsWith value (some$ .Attribute o f pos') pos.line X.env=pure false):PS X (.Assign [.Attribute o f pos'] value pos) (FD X.K ta tv f):=by intro p s b H D I h;refine plainObj_wpAny_Assign_Attribute (aJ (g p s b H _ I h) λu S #[y,j,k,r,q]=>aJ (d p S b j _ k q) λO w z=>?_) i;obtain⟨x,A,m,R,a,C,B,F,E,t,c,n,l,Q⟩:=z;subst E;obtain rfl:O=Value.ref a:=R;exact Kx m t c n l r λG v=>#[b,_,v,Q]
theorem ZE{O:Operator}{r:V->V->Hp->VK->Prop}(i:PE X o ta)(j:PE X value tv)(g:C2 X O r):PS X (.AugAssign (.Attribute o f tpos) O value pos) (xk X.K ta tv r f):=by intro p s d H D I h;refine wpAny_AugAssign_AttributeAny$ aJ (i p s d H _ I h) λk s1 b=>?_;obtain⟨x,m,t,R,a,C,dx,fs,v,w,A,c,n,l,q⟩:=b;subst w;obtain rfl:k=Value.ref a:=R;refine Kv t A c n l λu S B F=>aJ (j p S d m _ B q) λW G #[y,J,L,M,Q]=>aJ (g p G d J v y u W _ L F M Q) λw4 s4 b=>?_;obtain⟨z,H3,N,P,T,U,E,Y,q4⟩:=b;exact Kx N E c n Y P λs5 I5=>#[d,_,I5,q4]
inductive DX(x y:V)(H:Hp)(Q:VK):Prop
 |mk(i j:_)(_:x= .int i)(_:y= .int j)(_:Q (.int (i+j)) H)
theorem AD:C2 X .Add DX:=by rintro p s a H x y u v Q I r R ⟨i,j,rfl,rfl,q⟩;obtain⟨t,rfl⟩:=(show ∃t,u=Value.int i t from r);obtain⟨T,rfl⟩:=(show ∃T,v=Value.int j T from R);exact RU #[.int$ i+j,H,I.tok _,#[_,Z],q]
end
section
variable {X:Cx}{pins:List (Addr×Obj)}{σ:St}{H:Hp}{s:Shared}{A:Around}{E:Value->Shared->Prop}{Q:Value->Shared->Prop}{c:Value}{b:Bool}
inductive fX(K:Frag)(H:Hp):V->Value->Prop where
 |non:fX K H .non (.type "NoneType")
 |bl (x:Bool):fX K H (.bl x) (.type "bool")
 |int (i:Int):fX K H (.int i) (.type "int")
 |str (x:Str):fX K H (.str x) (.type "str")
 |flt (x:UInt64):fX K H (.flt x) (.type "float")
 |lst {a:Addr} {xs:List V} (e:H a=some (.lst xs)):fX K H (.ref a) (.type "list")
 |frz {a:Addr} {o:Obj} {xs:List V} (e:H a=some (.frz o (.lst xs))):fX K H (.ref a) (.type "list")
 |tup {a:Addr} {xs:List V} (e:H a=some (.tup xs)):fX K H (.ref a) (.type "tuple")
 |dK {a:Addr} {kvs:List (bj×V)} (e:H a=some (.dK kvs)):fX K H (.ref a) (.type "dict")
 |dT {a:Addr} {kvs:List (List bj×V)} (e:H a=some (.dT kvs)):fX K H (.ref a) (.type "dict")
 |ins {a C dx:Addr} {fs:List (Str×V)} (e:H a=some (.ins C dx fs)) (cl:oj K C) (ha:findIn K (.ref C) "__class__"=some (some (.builtin "object.__class__")))
   (hn:specialIn K (.builtin "object.__class__") "__get__"=some (some$ .builtin "getset_descriptor.__get__")) (htk:PySem.W.takesIn K (.builtin "object.__class__")=some true)
   (hm:mroIn K C (.type "object")=some true):fX K H (.ref a) (.ref C)
theorem ZF(I:ap X pins σ H s)(r:aw x u)(T:fX X.K H x t)(e:kitOne X.K t c=some b)(h:∀v,Q (.bool b) { s with toks:=v }):
  wpAny (model X.prog X.w) A (call (.builtin "isinstance") [u,c]) Q E s:=by
 cases T with
 |non=>cases (show u=Value.none from r);exact Mr PySem.W.kitx_none I.kIn True.intro e (λz=>nomatch z) h
 |bl y=>cases (show u=Value.bool y from r);exact Mr PySem.W.kitx_bool I.kIn True.intro e (λz=>nomatch z) h
 |int i=>obtain⟨t,q⟩:=(show ∃t,u=Value.int i t from r);cases q;exact Mr PySem.W.kitx_int I.kIn True.intro e (λz=>nomatch z) h
 |str y=>obtain⟨t,q⟩:=(show ∃t,u=Value.str y t from r);cases q;exact Mr PySem.W.kitx_str I.kIn True.intro e (λz=>nomatch z) h
 |flt y=>obtain⟨t,q⟩:=(show ∃t,u=Value.float y t from r);cases q;exact Mr PySem.W.kitx_float I.kIn True.intro e (λz=>nomatch z) h
 | @lst a g d=>cases (show u=Value.ref a from r);obtain⟨_,_,n,_,f⟩:=(show aF X.prog X.w H s.heap a (.lst g) from I.hok a _ d);exact Mr OG I.kIn #[_,f,Z] e (λz=>nomatch z) h
 | @frz a B g d=>cases (show u=Value.ref a from r);obtain⟨_,_,_,n,_,f⟩:=(show aF X.prog X.w H s.heap a (.frz B$ .lst g) from I.hok a _ d);exact Mr OG I.kIn #[_,f,Z] e (λz=>nomatch z) h
 | @tup a g d=>cases (show u=Value.ref a from r);obtain⟨_,_,_,p⟩:=(show aF X.prog X.w H s.heap a (.tup g) from I.hok a _ d);obtain⟨o,f,j,_⟩:=p;exact Mr PySem.W.kitx_tuple I.kIn #[o,f,j] e (λz=>nomatch z) h
 | @dK a k d=>cases (show u=Value.ref a from r);obtain⟨_,_,V,_,p⟩:=(show aF X.prog X.w H s.heap a (.dK k) from I.hok a _ d);obtain⟨o,D,F,f,j,_⟩:=p;exact Mr OH I.kIn #[o,f,j.1] e (λz=>nomatch z) h
 | @dT a k d=>cases (show u=Value.ref a from r);obtain⟨_,_,g,_,o,D,F,f,j,_⟩:=(show aF X.prog X.w H s.heap a (.dT k) from I.hok a _ d);exact Mr OH I.kIn #[o,f,j.1] e (λz=>nomatch z) h
 | @ins a C N P d m G L l M=>cases (show u=Value.ref a from r);obtain⟨R,O,_⟩:=JP I.hok d;obtain⟨S,J,_⟩:=O.look;exact Mr (PySem.W.kitx_own (m.get _) m.hd G L l M) I.kIn J e (λz=>nomatch z) h
end
structure bn(k:Nat)(A:Around):Prop where
 hd:A.handled=none
 dp:A.depth+3*k+5 < recursionLimit
 un:A.units+16*k+200 < cLine
theorem bn.mono(r:bn k A)(h:j<=k):bn j A:=#[r.hd,by have:=r.dp;omega,by have:=r.un;omega]
theorem bn.deeper(r:bn (k+1) A)(e:Env):bn k (A.deeper e):=
 #[r.hd,by have:=r.dp;show A.depth+1+3*k+5 < _;omega,by have:=r.un;show A.units+3+16*k+200 < _;omega]
theorem Yc{A:Around}:(A.under$ .builtin "type.__call__" #[.ref C::u,k]).depth=A.depth+1:=by
 first |rfl |simp [Around.under,Code.weight,Code.isCreation,Code.isGuard,Code.isCaller,Code.frames,Code.isFrame,guardIds]
theorem Yd{A:Around}:(A.under$ .builtin "type.__call__" #[.ref C::u,k]).units=A.units+1:=by
 first |rfl |simp [Around.under,Code.cUnits,Code.frames,Code.isFrame]
theorem bn.make(r:bn (k+1) A)(C:Addr)(u:List Value)(K:List (Str×Value)):bn k (A.under$ .builtin "type.__call__" #[.ref C::u,K]):=
 #[r.hd,by have:=r.dp;rw[Yc];omega,by have:=r.un;rw[Yd];omega]
theorem bn.depth(r:bn k A):A.depth < recursionLimit:=by have:=r.dp;omega
theorem bn.units(r:bn k A):A.units+64 < cLine:=by have:=r.un;omega
def aM:TA:=λ_ H Q=>Q [] H
def al(t:TE)(T:TA):TA:=λa H Q=>t a H λx h=>T a h λX b=>Q (x::X) b
section
variable {X:Cx}{e:Expr}{es:List Expr}{te:TE}{t:TA}{pos:Pos}
theorem jb:PA X [] aM:=λ_ _ _ _ H Q I h=>Ly #[[],H,I,.nil,h]
theorem ja(b:PE X e te)(c:PA X es t)(d:starEach (e::es) X.env=(false,eval e X.env)::starEach es X.env:=by rfl):PA X (e::es) (al te t):=by intro pos p s a H Q I h;rw[d];show wpAny _ _ (spliced ((false,eval e X.env)::backTo pos (starEach es X.env))) _ _ s;refine Lc$ aJ (b p s a H _ I h) λu S z=>?_;obtain⟨x,f,i,r,q⟩:=z;exact aJ (c pos p S a f _ i q) λU m #[g,j,k,R,l]=>#[x::g,j,k,.cons r R,l]
def bL(t:TA):TE:=λa H Q=>t a H λx h=>x.length<=sizeLine/\∀p,h p=none->Q (.ref p) (af h p$ .tup x)
def lS(t:TA):TE:=λa H Q=>t a H λx h=>x.length<=sizeLine/\∀p,h p=none->Q (.ref p) (af h p$ .lst x)
theorem jh{x}(h:PA X es t):PE X (.Tuple es x pos) (bL t):=by intro p s c H Q I d;refine wpAny_Tuple_spliced$ aJ (h pos p s c H _ I d) λU S #[f,a,i,r,z,q]=>#[by rw[<- r.length];exact z,?_];have g:a S.heap.objs.size=none:=i.hok.fresh (Hg _);refine#[.ref S.heap.objs.size,af a S.heap.objs.size$ .tup f,i.laid (t':=S.toks) (λb u e=>Hd _ e) (Hg _) ?_,Z,q _ g];exact#[z,U,r,#[_,Hj _ Z,Z,_,Z]]
theorem jD(h:PA X es t):PE X (.List es pos) (lS t):=by intro p s c H Q I d;refine wpAny_List_spliced$ aJ (h pos p s c H _ I d) λU S #[x,a,i,r,z,q]=>#[by rw[<- r.length];exact z,?_];have f:a S.heap.objs.size=none:=i.hok.fresh (Hg _);refine#[.ref S.heap.objs.size,af a S.heap.objs.size$ .lst x,i.laid (t':=S.toks) (λb u e=>Hd _ e) (Hg _) ?_,Z,q _ f];exact#[z,U,0,r,Hj _ Z]
end
abbrev Sp:=List V->Hp->VK->XK->Prop
abbrev mY:=List Env->Hp->Shared->XK->Value->Shared->Prop
structure mh(P:Program)(w:World)(K:Frag)(mg:Str->Option Value)(base:Heap)(A:Around)(outer:List Env)(s:Shared)(H:Hp):Prop where
 frames:A.frames=some outer
 mod:Mod K mg base
 bs:∀b o,base.get? b=some o->s.heap.get? b=some o/\H b=none
 bsz:base.objs.size<=s.heap.objs.size
 funs:s.heap.FunFrames base outer
 frf:∀b∈im outer,H b=none
 hok:eh P w H s.heap
 bare:AllBare s.gens
def CE(o:List Env)(P:Program)(w:World)(H:Hp)(s:Shared)(Q:VK)(u:Value)(S:Shared):Prop:=
 ∃v h,S.os=s.os/\AllBare S.gens/\Un (im o) [] H h s.heap S.heap/\eh P w h S.heap/\aw v u/\Q v h
def CR(C:mY)(o:List Env)(P:Program)(w:World)(H:Hp)(s:Shared)(Q:VK)(E:XK)(r:Result)(S:Shared):Prop:=
 match r with
 | .ok (.ret u)=>CE o P w H s Q u S
 | .ok _=>False
 | .error e=>C o H s E e S
structure ah(P:Program)(w:World)(K:Frag)(mg:Str->Option Value)(base:Heap)(CX:mY)(k:Nat)(f:Addr)(fd:FuncData)(ps:List Str)(sp:Sp):Prop where
 len:∀vs H Q E,sp vs H Q E->vs.length=ps.length
 run:∀(A:Around) (outer:List Env) (s:Shared) (H:Hp) (args:Args) (us:List Value) (vs:List V) (Q:VK) (E:XK),bn k A->mh P w K mg base A outer s H->BindsTo s fd args (ps.zip us)->au vs us->sp vs H Q E->
  codeAny (model P w) A (.call (.ref f) args) (CR CX outer P w H s Q E) s
theorem ah.mono{P:Program}{K:Frag}(F:ah P w K m b C j f c p d)(h:j<=k):
  ah P w K m b C k f c p d:=#[F.len,λA o s H a u v Q E e=>F.run A o s H a u v Q E (e.mono h)]
theorem mh.make{P:Program}{K:Frag}(e:mh P w K m b A o s H)(C:Addr)(u:List Value)(k:List (Str×Value)):
  mh P w K m b (A.under$ .builtin "type.__call__" #[.ref C::u,k]) o s H:=#[by first |exact e.frames | (simpa [Around.under,Code.envs,Code.isFrame,pushEnvs] using e.frames),e.mod,e.bs,e.bsz,e.funs,e.frf,e.hok,e.bare]
section
variable {X:Cx}{pins:List (Addr×Obj)}{σ:St}{H:Hp}{s s':Shared}
theorem ap.env0(I:ap X pins σ H s):mh X.prog X.w X.K X.mg X.base X.A X.stack s H:=
 #[I.ok.frames,I.ok.mod,I.bs,Hr I.ok.bsz I.sz,I.stack,I.stkFree,I.hok,I.bare]
theorem ap.after(I:ap X pins σ H s)(h:CE X.stack X.prog X.w H s Q u s'):EP X pins σ Q u s':=by obtain⟨v,c,os,B,U,a,r,q⟩:=h;obtain⟨e,g,d,t,o⟩:=s';obtain rfl:o=s.os:=os;exact#[v,c,I.call (h':=e) (g':=g) (d':=d) (t':=t) (ch:=[]) U a B (λb z=>absurd z Si),r,q]
end
def dC(s:Sp)(d:List V)(E:XK)(t:TA):TE:=λa H Q=>t a H λv h=>s (v++d) h Q E
inductive ut(C:Addr)(m:Str)(f:Sp)(b:List V)(E:XK)(t:TA)(g:St)(Q:VK)(x:V)(c:Hp):Prop
 |mk(a d e:_)(_:x= .ref a)(_:c a=some (.ins C d e))(_:e.lookup m=none)(_:t g c λvs H2=>f (x::(vs++b)) H2 Q E)
def ur(C:Addr)(m:Str)(s:Sp)(d:List V)(E:XK)(T:TE)(t:TA):TE:=λa H Q=>T a H (ut C m s d E t a Q)
def Es(C:Addr)(s:Sp)(D:List V)(E:XK)(t:TA):TE:=λa H Q=>t a H λb h=>∀x d,h x=none->h d=none->d≠x->
 s (.ref x::(b++D)) (af (af h d$ .own x) x$ .ins C d []) (λv c=>v= .non/\Q (.ref x) c) E
def ay(K:Frag)(f:FuncData)(p:List Str)(d:List Value):Prop:=
 ∀(s:Shared) (u:List Value),K.In s.heap->(u++d).length=p.length->BindsTo s f #[u,[]] (p.zip$ u++d)
theorem ay.all{K:Frag}{p:List Str}(h:∀u:List Value,u.length=p.length->bindArgs f #[u,[]]=pure (p.zip u)):ay K f p []:=λs u _ H=>by rw[Ml]at H ⊢;exact .of_eq$ h u H
def dh(C:mY)(X:Cx)(E:XK):Prop:=∀(p:List (Addr×Obj)) (a:St) (H:Hp) (s:Shared) (e:Value) (S:Shared),ap X p a H s->C X.stack H s E e S->X.xe e S
section
variable {X:Cx}{CX:mY}{k:Nat}{f C:Addr}{fd:FuncData}{ps:List Str}{sp:Sp}{dvs:List V}{ds:List Value}{E:XK}{x m:Str}{p pos apos:Pos}{e o:Expr}{es:List Expr}{ta:TE}{t:TA}
theorem QI{us:List Value}{vs:List V}(F:ah X.prog X.w X.K X.mg X.base CX k f fd ps sp)(d:bn k X.A)(g:ay X.K fd ps ds)(i:au dvs ds)(j:dh CX X E)
  (I:ap X a c H s) (r:au vs us) (h:sp (vs++dvs) H Q E):wpAny (model X.prog X.w) X.A (call (.ref f) us) (EP X a c Q) X.xe s:=by
 have R:au (vs++dvs) (us++ds):=r.append i;have l:(us++ds).length=ps.length:=by rw[<- R.length];exact F.len _ _ _ _ h
 refine Nc$ LA (F.run X.A X.stack s H #[us,[]] (us++ds) (vs++dvs) Q E d I.env0 (g s us I.kIn l) R h) λr S b=>?_;cases r with
 |error e=>exact j a c H s e S I b
 |ok n=>
  cases n with
  |ret u=>exact I.after b
  |next=>exact False.elim b
  |brk=>exact False.elim b
  |cont=>exact False.elim b
theorem kf(F:ah X.prog X.w X.K X.mg X.base CX k f fd ps sp)(c:bn k X.A)(d:Gl X x)(g:X.mg x=some (.ref f))(j:keepIn X.K (.ref f)=true)(l:ay X.K fd ps ds)(n:au dvs ds)(u:dh CX X E)
  (v:PA X (e::es) t) (a:(x==("__debug__":Str))=false:=by decide) (y:starEach (e::es) X.env=(false,eval e X.env)::starEach es X.env:=by rfl) (b:(backTo pos$ starEach es X.env).any (·.1)=false:=by rfl):
  PE X (.Call (.Name x p) (e::es) [] pos) (dC sp dvs E t):=by
 intro P s z H Q I h;refine Iv$ kX I d g ?_ a;refine NG (h₀:=X.base) I.ok.mod.kin j (aJ (v pos P s z H _ I h) λU S #[B,D,i,r,q]=>#[i.kIn,?_]) y b;exact QI F c l n u i r q
theorem kN(v:PE X o ta)(c:oj X.K C)(g:bN X.K C m f)(F:ah X.prog X.w X.K X.mg X.base CX k f fd ps sp)(y:bn k X.A)(B:ay X.K fd ps ds)(D:au dvs ds)(G:dh CX X E)(J:PA X (e::es) t)
  (b:starEach (e::es) X.env=(false,eval e X.env)::starEach es X.env:=by rfl) (d:(backTo pos$ starEach es X.env).any (·.1)=false:=by rfl)
  (L:eval (.Call (.Attribute o m apos) (e::es) [] pos) X.env=(do
   let O <- eval o X.env
   standAt apos.atName
   let (f,first) <- holding [O] (getMethod O m pl)
   callWith pos f first (backTo pos$ starEach (e::es) X.env) (backToKw pos$ keywordEach [] X.env)):=by rfl):
  PE X (.Call (.Attribute o m apos) (e::es) [] pos) (ur C m sp dvs E ta t):=by
 intro P s i H Q I h;refine ML (pl:=pl) (aJ (v P s i H _ I h) λu S z=>?_) L;obtain⟨x,M,j,R,a,W,Y,N,T,l,q⟩:=z;subst N;obtain rfl:u=Value.ref a:=R;refine Kw j T c g l ?_;refine NG (first:=[.ref a]) (h₀:=X.base) I.ok.mod.kin g.kp (aJ (J pos P S i M _ j q) λus s2 #[vs,H2,n,r,U]=>#[n.kIn,?_]) b d;exact QI (us:=.ref a::us) (vs:=.ref a::vs) F y B D G n (.cons Z r) U
theorem sj(d:PE X o ta)(c:oj X.K C)(b:bN X.K C m f)(F:ah X.prog X.w X.K X.mg X.base CX k f fd ps sp)(g:bn k X.A)(j:ay X.K fd ps ds)(n:au dvs ds)(r:dh CX X E)
  (v:eval (.Call (.Attribute o m apos) [] [] pos) X.env=(do
   let O <- eval o X.env
   standAt apos.atName
   let (f,first) <- holding [O] (getMethod O m pl)
   callWith pos f first (backTo pos$ starEach [] X.env) (backToKw pos$ keywordEach [] X.env)):=by rfl):
  PE X (.Call (.Attribute o m apos) [] [] pos) (ur C m sp dvs E ta aM):=by
 intro P s y H Q I h;refine ML (pl:=pl) (aJ (d P s y H _ I h) λu S z=>?_) v;obtain⟨x,G,i,R,a,J,L,B,D,l,q⟩:=z;subst B;obtain rfl:u=Value.ref a:=R;refine Kw i D c b l ?_;exact Oq (first:=[.ref a]) i.kIn b.kp$ QI (us:=[.ref a]) (vs:=[.ref a]) F g j n r i (.cons Z .nil) q
structure Mk(K:Frag)(C f:Addr):Prop where
 makes:PySem.W.makesIn K C=true
 init:findIn K (.ref C) "__init__"=some (some$ .ref f)
 fn:isFn K (.ref f)=true
 kp:keepIn K (.ref C)=true
theorem sN(M:Mk X.K C f)(F:ah X.prog X.w X.K X.mg X.base CX k f fd ps sp)(l:bn (k+1) X.A)(n:ay X.K fd ps ds)(q:au dvs ds)
  (y:dh CX X E) (I:ap X b c H s) (r:au g U)
  (h:∀x d,H x=none->H d=none->d≠x->sp (.ref x::(g++dvs)) (af (af H d$ .own x) x$ .ins C d []) (λv z=>v= .non/\Q (.ref x) z) E):
  wpAny (model X.prog X.w) X.A (call (.ref C) U) (EP X b c Q) X.xe s:=by
 have j:=h (s.heap.objs.size+1) s.heap.objs.size (I.hok.fresh$ IL _) (I.hok.fresh$ Hg _) (Hm$ IF _);have i:=ap.made (C:=C) I;have R:au (V.ref (s.heap.objs.size+1)::(g++dvs)) (Value.ref (s.heap.objs.size+1)::(U++ds)):=.cons Z (r.append q);have B:(Value.ref (s.heap.objs.size+1)::U++ds).length=ps.length:=by have e:=R.length;rw[F.len _ _ _ _ j]at e;exact e.symm
 refine Nc (rC (f:=f) I.kIn M.makes M.init (beq_iff_eq.mp M.fn) (LA (F.run _ X.stack _ _ #[Value.ref (s.heap.objs.size+1)::U,[]] (Value.ref (s.heap.objs.size+1)::(U++ds)) _ _ E (l.make C U [])
  (i.env0.make C U []) (n _ (Value.ref (s.heap.objs.size+1)::U) i.kIn B) R j) λr S a=>?_))
 cases r with
 |error e=>exact y b c _ _ e S i a
 |ok D=>
  cases D with
  |ret u=>obtain⟨v,G,J,L,N,O⟩:=i.after a;subst N;exact#[L,#[V.ref$ s.heap.objs.size+1,G,J,Z,O]]
  |next=>exact False.elim a
  |brk=>exact False.elim a
  |cont=>exact False.elim a
theorem Y2(M:Mk X.K C f)(F:ah X.prog X.w X.K X.mg X.base CX k f fd ps sp)(c:bn (k+1) X.A)(d:Gl X x)(g:X.mg x=some (.ref C))(j:ay X.K fd ps ds)(l:au dvs ds)(n:dh CX X E)
  (u:PA X (e::es) t) (a:(x==("__debug__":Str))=false:=by decide) (v:starEach (e::es) X.env=(false,eval e X.env)::starEach es X.env:=by rfl) (b:(backTo pos$ starEach es X.env).any (·.1)=false:=by rfl):
  PE X (.Call (.Name x p) (e::es) [] pos) (Es C sp dvs E t):=by
 intro P s y H Q I h;refine Iv$ kX I d g ?_ a;refine NG (h₀:=X.base) I.ok.mod.kin M.kp (aJ (u pos P s y H _ I h) λU S #[z,B,i,r,q]=>#[i.kIn,?_]) v b;exact sN M F c j l n i r q
end
structure ak(N P:List Str)(sc:Scope):Prop where
 kind:sc.kind= .function
 co:sc.isCoroutine=false
 gen:sc.isGenerator=false
 nd:N.Nodup
 pre:N.take P.length=P
 par:∀x∈P,sc.names.lookup x=some .local∨sc.names.lookup x=some .cell
 nofree:∀y∈sc.names,y.2≠ .free
theorem Qn{kindOf:Str->Option NameKind}:∀{b:List (Str×Value)} {m:Str->Option Value},(∀v,(x,v)∉b)->bindL kindOf b m x=m x
 | [],_,_=>rfl
 | (n,v)::r,m,h=>by
  unfold bindL;rw[Qn λw H=>h w (HQ _ H)];split
  ·have:x≠n:=by rintro rfl;exact h v HI
   simp [this]
  ·rfl
theorem Qo{kindOf:Str->Option NameKind}:∀{b:List (Str×Value)} {m:Str->Option Value},(∀v,(x,v)∉b)->bindC kindOf b m x=m x
 | [],_,_=>rfl
 | (n,v)::r,m,h=>by
  unfold bindC;rw[Qo λw H=>h w (HQ _ H)];split
  ·rfl
  ·have:x≠n:=by rintro rfl;exact h v HI
   simp [this]
theorem Qp{kindOf:Str->Option NameKind}:∀{P:List Str} {V:List Value} {i:Nat} {m:Str->Option Value},P.Nodup->P[i]?=some x->V[i]?=some v->kindOf x=some .local->
  bindL kindOf (P.zip V) m x=some v
 | [],_,_,_,_,h,_,_=>by simp at h
 |_::_,[],_,_,_,_,h,_=>by simp at h
 |p::P,w::V,0,m,n,H,a,b=>by simp at H a;subst H;subst a;show bindL kindOf ((p,w)::P.zip V) m p=_;unfold bindL;rw[Qn λv c=>(List.nodup_cons.mp n).1 (M0 c).1,HD b];simp
 |p::P,w::V,i+1,m,n,H,a,b=>by show bindL kindOf ((p,w)::P.zip V) m x=_;unfold bindL;exact Qp (i:=i) (List.nodup_cons.mp n).2 (by simpa using H) (by simpa using a) b
theorem Qq{kindOf:Str->Option NameKind}:∀{P:List Str} {V:List Value} {i:Nat} {m:Str->Option Value},P.Nodup->P[i]?=some x->V[i]?=some v->kindOf x≠some .local->
  bindC kindOf (P.zip V) m x=some v
 | [],_,_,_,_,h,_,_=>by simp at h
 |_::_,[],_,_,_,_,h,_=>by simp at h
 |p::P,w::V,0,m,n,H,a,b=>by simp at H a;subst H;subst a;show bindC kindOf ((p,w)::P.zip V) m p=_;unfold bindC;rw[Qo λv c=>(List.nodup_cons.mp n).1 (M0 c).1,HG b];simp
 |p::P,w::V,i+1,m,n,H,a,b=>by show bindC kindOf ((p,w)::P.zip V) m x=_;unfold bindC;exact Qq (i:=i) (List.nodup_cons.mp n).2 (by simpa using H) (by simpa using a) b
noncomputable def fQ(N:List Str)(v:List V):St:=v.map some++List.replicate (N.length - v.length) none
noncomputable def eQ(C:mY)(P:Program)(w:World)(K:Frag)(mg:Str->Option Value)(base:Heap)(N:List Str)(q:Str)(S:Scope)(f:Addr)(c:Value)(A:Around)(outer:List Env)(s:Shared)(H:Hp)(E:XK):Cx where
 prog:=P
 w:=w
 K:=K
 mg:=mg
 base:=base
 A:=A.deeper (envOfC q S s.heap.objs.size f c)
 N:=N
 s₀:=s
 H₀:=H
 env:=envOfC q S s.heap.objs.size f c
 outer:=outer
 stack:=envOfC q S s.heap.objs.size f c::outer
 ex:=[]
 calm:=true
 fn:=λ_=>true
 pn:=[]
 xe:=λe b=>wpAny (model P w) (A.deeper$ envOfC q S s.heap.objs.size f c) (leaving (envOfC q S s.heap.objs.size f c) e) (λ_ a=>C outer H s E e a) (λd a=>C outer H s E d a) b
theorem Xl{s:Scope}{n:Nat}(h:s.names.lookup x=some .cell):∃c,(cellsFrom n s.names []).lookup x=some c:=by have q:=N7 s.names n [] (.inl h);exact Option.isSome_iff_exists.mp q
theorem ZG{P:Program}{K:Frag}{A:Around}{l:List V}
  (S:ak N t d) (O:A.handled=none) (j:mh P w K M B A o s H) (hl:l.length=t.length) (r:au l U)
  (x:InCallC s s.heap.objs.size (bindL (envOfC Q d s.heap.objs.size f I).kindOf (t.zip U) λ_=>none) (cellsFrom (s.heap.objs.size+1) d.names []) (bindC (envOfC Q d s.heap.objs.size f I).kindOf (t.zip U) λ_=>none) T):
  ap (eQ Y P w K M B N Q d f I A o s H E) [] (fQ N l) H T:=by
 have R:t.length<=N.length:=by have:=IC List.length S.pre;rw[HL]at this;omega
 obtain⟨F,tk,rfl,J⟩:=x.done;have m:∀b:Addr,b∉(eQ Y P w K M B N Q d f I A o s H E).ex:=λb z=>absurd (show b∈([]:List Addr) from z) Si;refine#[#[j.mod,S.kind,Z,Z,Hg _,λy z c F g=>?_,λy hy=>?_,λy c _ h=>?_,λ_=>O,Around.frames_deeper j.frames,.inr #[Z,Z],λb z=>absurd z (m b),j.bs,j.bsz,λb _ _=>m b,λb z=>absurd z (m b),j.funs,j.frf],
  rfl,j.bare,Un.kept J,#[_,x.toInCall.ns,λi y v F g h3=>?_],λy c h=>#[_,x.cell y c h],j.hok.fresh$ Hg _,λy c h=>?_,λp C=>absurd (show p∈([]:List (Addr×Obj)) from C) Si,j.hok.kept J,?_]
 ·exact name_of_addr x.apart (IM F)$ IM g
 ·have hy:d.names.lookup y=some .cell∨d.names.lookup y=some .free:=hy;rcases hy with hy |hy
  ·exact Xl hy
  ·exact absurd Z$ S.nofree _$ IM hy
 ·exact Lp$ x.above y c$ IM h
 ·have G:i < l.length:=by
   unfold fQ at g;by_cases G:i < l.length
   ·exact G
   ·rw[Ld (by simpa using G)]at g;rw[Oo]at g;split at g<;>cases g
  have W:l[i]?=some v:=by
   unfold fQ at g;rw[Li (by simpa using G),HE]at g;cases e:l[i]? with
   |none=>rw[e]at g;cases g
   |some a=>rw[e]at g;cases g;rfl
  obtain⟨u,L,X⟩:=r.get W;have C:t[i]?=some y:=by rw[<- S.pre,List.getElem?_take_of_lt Sf];exact F
  have D:t.Nodup:=by rw[<- S.pre];exact S.nd.sublist$ Lm _ _
  refine#[u,X,?_];rcases S.par y (Hu C) with k |k
  ·exact .inl #[k,Qp D C L k]
  ·obtain⟨c,e⟩:=Xl (n:=s.heap.objs.size+1) k;refine .inr #[.inl k,c,e,?_];have q:=x.cell y c e;rw[Qq D C L (by show d.names.lookup y≠_;rw[k];decide)]at q;exact q
 ·exact j.hok.fresh$ Lp$ x.above y c$ IM h
 ·unfold fQ;show _=N.length;rw[Hf,He,M5];omega
theorem yz{P:Program}{K:Frag}{kV:Value}
    {G:Sp} (lk:K.lookup f=some #[oc,od,.func$ fnOf name c p h a dV kV L pm an C ct,o1]) (M:codeIn K C c=true) (S:ak N T a)
  (len:∀d H Q E,G d H Q E->d.length=T.length)
  (j:∀(A:Around) (O:List Env) (s:Shared) (H:Hp) (d:List V) (Q:VK) (E:XK),bn k (A.deeper$ envOfC c a s.heap.objs.size f C)->G d H Q E->
   ∃t,iE (eQ U P w K Y B N c a f C A O s H E) h t/\t { nx:=λ_ i=>Q .non i,rt:=Q } (fQ N d) H):
  ah P w K Y B U (k+1) f (fnOf name c p h a dV kV L pm an C ct) T G:=by
 refine#[len,λA O s H a0 us d Q E R z hb r D=>?_];have hl:=len _ _ _ _ D;have KX:K.In s.heap:=z.mod.kin.keeps λb o e=>(z.bs b o e).1;have X:s.heap.NoLimit:=z.mod.nolimit.keeps λb o e=>(z.bs b o e).1;have l:∀y∈T.zip us,a.names.lookup y.1=some .local∨(a.names.lookup y.1=some .cell/\((cellsFrom (s.heap.objs.size+1) a.names []).lookup y.1).isSome=true):=λ#[n,v] hy=>by
  rcases S.par n (M0 hy).1 with q |q
  ·exact .inl q
  ·exact .inr #[q,N7 _ _ _$ .inl q]
 refine codeAny_call_function R.depth (KX _ _ lk) Z S.co S.gen Z (PySem.W.codeRec_of KX M)$ hb _ _ _ _ ?_;refine wpAny_newFunctionEnv_cells S.kind l λe1 he s1 x=>?_;subst he;refine#[X.keeps x.toInCall.keep,codeAny_func ?_];obtain⟨t,ht,hq⟩:=j A O s H d Q E (R.deeper _) D;have I:ap (eQ U P w K Y B N c a f C A O s H E) [] (fQ N d) H s1:=ZG S R.hd z hl r x;refine Ik (ht [] s1 (fQ N d) H _ I hq) (λfl s' m=>?_) λe s' m=>m;have F:∀{g:St} {i:Hp} {v:V} {u:Value},ap (eQ U P w K Y B N c a f C A O s H E) [] g i s'->aw v u->Q v i->CE O P w H s Q u s':=
  λ{g i v u} J rv q=>#[v,i,J.os,J.bare,J.base,J.hok,rv,q]
 cases fl with
 |ret u=>obtain⟨v,g,i,J,rv,q⟩:=m;exact F J rv q
 |next=>obtain⟨g,i,J,q⟩:=m;exact F (v:=V.non) (u:=Value.none) J Z q
 |brk=>obtain⟨_,_,_,q⟩:=m;exact False.elim q
 |cont=>obtain⟨_,_,_,q⟩:=m;exact False.elim q
section
variable {X:Cx}{x:Str}{p pos:Pos}{e:Expr}{es:List Expr}{t:TA}{id T:String}{r:List V->Hp->VK->Prop}
def EN(r:List V->Hp->VK->Prop)(t:TA):TE:=λa H Q=>t a H λv h=>r v h Q
theorem jH(d:b8 X (.builtin id) r)(f:Gl X x)(g:X.mg x=none)(i:bootBuiltins x=some (.builtin id))(j:PA X (e::es) t)(k:x≠"__name__":=by decide)(a:(x==("__debug__":Str))=false:=by decide)
  (l:starEach (e::es) X.env=(false,eval e X.env)::starEach es X.env:=by rfl) (b:(backTo pos$ starEach es X.env).any (·.1)=false:=by rfl):PE X (.Call (.Name x p) (e::es) [] pos) (EN r t):=by
 intro P s c H Q I h;refine Iv$ zF I f g i ?_ k a;exact RW (aJ (j pos P s c H _ I h) λu S #[v,m,n,R,q]=>d P S c m v u Q n R q) l b
theorem jF(d:b8 X (.type T) r)(f:Gl X x)(g:X.mg x=none)(i:bootBuiltins x=some (.type T))(j:PA X (e::es) t)(k:x≠"__name__":=by decide)(a:(x==("__debug__":Str))=false:=by decide)
  (l:starEach (e::es) X.env=(false,eval e X.env)::starEach es X.env:=by rfl) (b:(backTo pos$ starEach es X.env).any (·.1)=false:=by rfl):PE X (.Call (.Name x p) (e::es) [] pos) (EN r t):=by
 intro P s c H Q I h;refine Iv$ zF I f g i ?_ k a;exact Ig (aJ (j pos P s c H _ I h) λu S #[v,m,n,R,q]=>d P S c m v u Q n R q) l b
end
end _L
namespace HT
open PySem PyProof.Rows
section
variable {prog:Program}{w:World}{A:Around}{E:Value->Shared->Prop}{s:Shared}
theorem cat_tup{v W:List Value}{Q:Value->Shared->Prop}(m:IsTup s.heap t v.toArray)(o:IsTup s.heap b W.toArray)(i:v≠[])
  (p:W=[]->Q (.ref t) s) (q:W≠[]->Q (.ref s.heap.objs.size) { s with heap:=s.heap.push { cls:=.type "tuple",data:=.seq (v++W).toArray } })
  (g:v.length+W.length<=sizeLine):wpAny (model prog w) A (binaryOp .Add (.ref t)$ .ref b) Q E s:=by
 obtain⟨⟨cls,D,data,j⟩,c,k,n,l⟩:=id m;obtain⟨⟨C,d,data2,S⟩,h,H,N,a⟩:=id o;simp only at k l H a;subst k l H a;have e:v.toArray++W.toArray=(v++W).toArray:=by simp
 by_cases f:W=[]
 ·exact O4 #[_,c,Z] #[_,h,Z] N6 OM MG Mv (Mt _ _)
   (tuple_addW1 t b v.toArray W.toArray n N D d j S (by simpa using i) (by simp [f])) #[c,h,p f]
 ·refine O4 #[_,c,Z] #[_,h,Z] N6 OM MG Mv (Mt _ _)
   (tuple_addW2 t b v.toArray W.toArray n N D d j S (by simpa using i) (by simpa using f) (by rw[Hh,Hh];exact g)) #[c,h,?_]
  rw[e];exact q f
noncomputable def sIx(n d:Nat):Option Int->Nat
 |none=>d
 |some v=>if v < 0 then (v+(n:Int)).toNat else min v.toNat n
theorem sIx_none(n d:Nat):sIx n d none=d:=rfl
theorem sIx_nat(n d k:Nat):sIx n d (some (k:Int))=min k n:=by show(if (k:Int) < 0 then ((k:Int)+(n:Int)).toNat else min (k:Int).toNat n)=min k n;rw[HG Sf,Iq]
theorem BR(n d:Nat)(H:d<=n)(o:Option Int):sIx n d o<=n:=by
 cases o with
 |none=>exact H
 |some v=>
  show(if v < 0 then (v+(n:Int)).toNat else min v.toNat n)<=n;by_cases h:v < 0
  ·rw[HD h];omega
  ·rw[HG h];exact Nat.min_le_right _ _
theorem Y3(v:Int)(n d:Nat):(if v < 0 then max (v+(n:Int)) 0 else min v (n:Int))=((sIx n d (some v):Nat):Int):=by
 show(if v < 0 then max (v+(n:Int)) 0 else min v (n:Int))=(((if v < 0 then (v+(n:Int)).toNat else min v.toNat n):Nat):Int);by_cases h:v < 0
 ·simp only[HD h];omega
 ·simp only[HG h];omega
theorem Ye(lo h:Option Int)(n:Nat):Builtin.Slice.sliceAdjust lo h 1 (n:Int)=(((sIx n 0 lo:Nat):Int),((sIx n n h:Nat):Int)):=by
 have H:¬((1:Int) < 0):=by omega
 unfold Builtin.Slice.sliceAdjust;simp only[H,IB];refine Prod.ext ?_ ?_
 ·cases lo with
  |none=>rfl
  |some v=>exact Y3 v n 0
 ·cases h with
  |none=>rfl
  |some v=>exact Y3 v n n
theorem Yf(i j:Nat):Builtin.Slice.slicePlaces (i:Int) (j:Int) 1=j - i:=by
 unfold Builtin.Slice.slicePlaces;have h:(1:Int) > 0:=by omega
 simp only[h,Ms,Int.ediv_one];split<;>omega
theorem Ky{Q:Option Int->Shared->Prop}(p:IsPart v o)(h:Q o s):wpAny (model prog w) A (Builtin.Slice.slicePartIndex v) Q E s:=by
 cases p with
 |none=>exact R4 h
 |int i t=>exact slicePart_int h
theorem sliceApplied_gen{lo:Option Int}{Q:Int×Int×Nat->Shared->Prop}(d:s.heap.IsSliceOf e v c .none)(p:IsPart v lo)(P:IsPart c b)
  (h:Q (((sIx n 0 lo:Nat):Int),1,sIx n n b - sIx n 0 lo) s):wpAny (model prog w) A (Builtin.Slice.sliceApplied (.ref e)$ pure (n:Int)) Q E s:=by
 obtain⟨os,H,f,a⟩:=id d;unfold Builtin.Slice.sliceApplied Builtin.Slice.sliceFields;refine GZ$ GZ$ HJ H a (x:=v) Z$ GZ$ HJ H a (x:=c) Z$ GZ$ HJ H a (x:=.none) Z$ Hc ?_;refine GZ$ R4 ?_;show wpAny _ _ (if ((1:Int)==0)=true then _ else _) _ _ s;rw[HG Se];refine GZ$ Ky p$ GZ$ Ky P$ GZ$ Hc ?_;show wpAny _ _ (match Builtin.Slice.sliceAdjust lo b 1 (n:Int) with | (lo,b)=>pure (lo,(1:Int),Builtin.Slice.slicePlaces lo b 1)) _ _ s;rw[Ye lo b n];show wpAny _ _ (pure (((sIx n 0 lo:Nat):Int),(1:Int),Builtin.Slice.slicePlaces ((sIx n 0 lo:Nat):Int) ((sIx n n b:Nat):Int) 1)) _ _ s;rw[Yf];exact Hc h
theorem sw(X:Array Value)(i k:Nat):((List.range k).filterMap λ(m:Nat)=>X[((i:Int)+(m:Int)*1).toNat]?).toArray=((X.toList.drop i).take k).toArray:=by
 have e:(λ(m:Nat)=>X[((i:Int)+(m:Int)*1).toNat]?)=λm=>X[i+m]?:=by
  funext m;have:((i:Int)+(m:Int)*1).toNat=i+m:=by omega
  rw[this]
 rw[e];have:=pick_run X i k;rw[List.filterMap_map]at this;have a:((λx=>X[x]?) ∘ λx=>i+x)=λm=>X[i+m]?:=rfl;rw[a]at this;rw[this]
theorem getItem_tuple_cut{lo:Option Int}{Q:Value->Shared->Prop}(ht:IsTup s.heap t items)(hs:s.heap.IsSliceOf sl vl vu .none)(pl:IsPart vl lo)(pu:IsPart vu hi)
  (hw:¬(sIx items.size 0 lo=0/\sIx items.size items.size hi=items.size))
  (h:Q (.ref s.heap.objs.size) { s with heap:=s.heap.push { cls:=.type "tuple",data:=.seq ((items.toList.drop$ sIx items.size 0 lo).take$ sIx items.size items.size hi - sIx items.size 0 lo).toArray } })
  (hsz:items.size<=sizeLine):wpAny (model prog w) A (getItem (.ref t)$ .ref sl) Q E s:=by
 have htake:sizeOk (.seq ((items.toList.drop$ sIx items.size 0 lo).take$ sIx items.size items.size hi - sIx items.size 0 lo).toArray):=by show((items.toList.drop$ sIx items.size 0 lo).take$ sIx items.size items.size hi - sIx items.size 0 lo).toArray.size<=sizeLine;rw[Hh,HL,Lb,HF];omega
 have hj:sIx items.size items.size hi<=items.size:=BR _ _ (Hg _) hi;obtain⟨os,hos,hcs,hds⟩:=id hs;have hTs:s.TypeIs (.ref sl) "slice":=#[os,hos,hcs];unfold getItem;try with_reducible refine Hs ?_
 first |refine GZ (Hc ?_) |skip
 refine GZ$ NN ht.typeIs Se ?_;refine GZ (HX (name:=Str.ofString "__getitem__") ht.typeIs Lg
  (HU Lg ht.typeIs entry_tuple_getitem ?_$ args_tuple_getitem _ _))
 show wpAny _ _ (Builtin.Tuple.tupleItemsOf (.ref t) >>= _) _ _ s;refine GZ$ tupleItemsOf_ ht ?_;refine GZ$ Le hTs ?_;rw[HD Se];refine GZ$ sliceApplied_gen hs pl pu ?_;have hno:¬((((sIx items.size 0 lo:Nat):Int)==0&&(1:Int)==1&&(sIx items.size items.size hi - sIx items.size 0 lo)==items.size)=true):=by intro q;rw[IE,IE]at q;have q1:((sIx items.size 0 lo:Nat):Int)=0:=eq_of_beq q.1.1;have q2:sIx items.size items.size hi - sIx items.size 0 lo=items.size:=eq_of_beq q.2;exact hw #[Sf,Sf]
 show wpAny _ _ (if (((sIx items.size 0 lo:Nat):Int)==0&&(1:Int)==1&&(sIx items.size items.size hi - sIx items.size 0 lo)==items.size)=true then _ else _) _ _ s;rw[HG hno,sw];first
  |exact GZ (m:=Builtin.Tuple.tupleExact _) (HY (Hc #[_,Z,Hc h]) htake)
  |exact GZ (m:=Builtin.Tuple.tupleExact _) (HY (GZ (Hc (Hc #[_,Z,Hc h]))) htake)
  |exact GZ (GZ (m:=Builtin.Tuple.tupleExact _) (HY (Hc (Hc #[_,Z,Hc h])) htake))
  |exact GZ (GZ (m:=Builtin.Tuple.tupleExact _) (HY (Hc #[_,Z,Hc h]) htake))
end
end HT
namespace _L
open PySem PySem.Spec PyProof.Rows
abbrev TO:=St->Hp->(Option Int->Hp->Prop)->Prop
def PO(X:Cx)(e:Option Expr)(t:TO):Prop:=
 ∀(p:List (Addr×Obj)) (s:Shared) (a:St) (H:Hp) (Q:Option Int->Hp->Prop),ap X p a H s->t a H Q->
  wpAny (model X.prog X.w) X.A (evalPart e X.env) (λu S=>∃o h,ap X p a h S/\IsPart u o/\Q o h) X.xe s
def lh:TO:=λ_ H Q=>Q none H
inductive uA(Q:Option Int->Hp->Prop)(x:V)(a:Hp):Prop
 |mk(i:_)(_:x= .int i)(_:Q (some i) a)
def lT(t:TE):TO:=λa H Q=>t a H (uA Q)
section
variable {X:Cx}{e:Expr}{te:TE}{lo hi:Option Expr}{tl th:TO}{pos p2:Pos}
theorem j8:PO X none lh:=by intro p s a H Q I h;rw[evalPart_none];exact Hc #[none,H,I,.none,h]
theorem jI(h:PE X e te):PO X (some e) (lT te):=by intro p s a H Q I b;rw[evalPart_some];refine aJ (h p s a H _ I b) λu S z=>?_;obtain⟨x,c,d,r,f⟩:=z;obtain⟨i,rfl,q⟩:=f;obtain⟨t,rfl⟩:=r;exact#[some i,c,d,.int i t,q]
def EH(X:Cx)(r:V->Option Int->Option Int->Hp->VK->Prop):Prop:=
 ∀(p:List (Addr×Obj)) (s:Shared) (a:St) (H:Hp) (x:V) (v b c:Value) (lo hi:Option Int) (S:Addr) (Q:VK),ap X p a H s->aw x v->s.heap.IsSliceOf S b c .none->IsPart b lo->IsPart c hi->r x lo hi H Q->
  ∃T id,typeLookup (.type T) "__getitem__"=pure (some$ .builtin id)/\s.TypeIs v T/\wpAny (model X.prog X.w) X.A (getItem v$ .ref S) (EP X p a Q) X.xe s
def EO(r:V->Option Int->Option Int->Hp->VK->Prop)(te:TE)(tl th:TO):TE:=λa H Q=>te a H λx h=>tl a h λl b=>th a b λu c=>r x l u c Q
theorem jK{r:V->Option Int->Option Int->Hp->VK->Prop}(g:EH X r)(i:PE X e te)(j:PO X lo tl)(k:PO X hi th):PE X (.Subscript e (.Slice lo hi none p2) pos) (EO r te tl th):=by intro p s a H Q I h;refine P6$ aJ (i p s a H _ I h) λv m z=>?_;obtain⟨x,n,o,R,t⟩:=z;refine wpAny_Slice$ aJ (j p m a n _ o t) λc y #[l,B,C,P,D]=>aJ (k p y a B _ C D) λd S z=>?_;obtain⟨u,f,E,F,G⟩:=z;rw[evalPart_none];refine Hc ?_;have J:ap X p a f { S with heap:=S.heap.push { cls:=.type "slice",data:=.fields (List.toArray [c,d,.none]) } }:=E.kept (t':=S.toks) λb O q=>Hd _ q;obtain⟨T,id,K,L,M⟩:=g p { S with heap:=S.heap.push { cls:=.type "slice",data:=.fields (List.toArray [c,d,.none]) } } a f x v c d l u S.heap.objs.size Q J R (NM ..) P F G;show wpAny (model X.prog X.w) X.A (subscriptTail e (.Slice lo hi none p2) v$ .ref S.heap.objs.size) (EP X p a Q) X.xe { S with heap:=S.heap.push { cls:=.type "slice",data:=.fields (List.toArray [c,d,.none]) } };exact tail_any (ops:=[.ref S.heap.objs.size,v]) L K M (by with_unfolding_all rfl)
noncomputable def aE(x:List V)(lo hi:Option Int):List V:=(x.drop$ HT.sIx x.length 0 lo).take (HT.sIx x.length x.length hi - HT.sIx x.length 0 lo)
theorem ze(x:List V)(lo hi:Option Int):(aE x lo hi).length<=x.length:=by unfold aE;rw[HL,Lb];omega
inductive D3(K:Frag)(x:V)(c b:Option Int)(H:Hp)(Q:VK):Prop
 |mk(a d:_)(_:x= .ref a)(_:ax K H a d)(_:¬(HT.sIx d.length 0 c=0/\HT.sIx d.length d.length b=d.length))(_:∀p,H p=none->Q (.ref p) (af H p (.tup (aE d c b))))
theorem Cj:EH X (D3 X.K):=by
 intro p s n H x v V t lo hi S Q I R j P k h;obtain⟨a,d,rfl,l,m,q⟩:=h;cases R;obtain⟨i,r,f,g⟩:=I.tuple l;have c:i.toArray.size=d.length:=by rw[Hh];exact r.length.symm
 refine#["tuple",_,PyProof.Rows.slot_tuple_getitem.lookup,f.typeIs,?_];refine HT.getItem_tuple_cut f j P k (by rw[c];exact m) ?_ (by rw[c];exact g);rw[c];refine#[.ref s.heap.objs.size,_,I.laid (t':=s.toks) (o:=.tup (aE d lo hi)) (λb O q=>Hd _ q) (Hg _) ?_,Z,q _$ I.hok.fresh$ Hg _];exact#[Hr (ze d lo hi) g,_,(r.drop$ HT.sIx d.length 0 lo).take$ HT.sIx d.length d.length hi - HT.sIx d.length 0 lo,O9 _ _]
inductive yJ(K:Frag)(x y:V)(H:Hp)(Q:VK):Prop
 |mk(a b c d:_)(_:x= .ref a)(_:y= .ref b)(_:ax K H a c)(_:ax K H b d)(_:c≠[])(_:c.length+d.length<=sizeLine)(_:d=[]->Q (.ref a) H)(_:d≠[]->∀p,H p=none->Q (.ref p) (af H p (.tup (c++d))))
theorem au.nil_iff(r:au x u):u=[]↔x=[]:=by
 cases r with
 |nil=>simp
 |cons _ _=>simp
theorem wG:eG X (binaryOp .Add) (yJ X.K):=by intro p s A H x y v u Q I d f h;obtain⟨a,b,g,Y,rfl,rfl,j,k,l,c,m,n⟩:=h;cases d;cases f;obtain⟨t,R,P,_⟩:=I.tuple j;obtain⟨i,r,p2,_⟩:=I.tuple k;refine HT.cat_tup P p2 (λz=>l (R.nil_iff.mp z)) (λz=>#[.ref a,H,I,Z,m$ r.nil_iff.mp z]) (λz=>?_) (by rw[<- R.length,<- r.length];exact c);refine#[.ref s.heap.objs.size,_,I.laid (t':=s.toks) (o:=.tup (g++Y)) (λb O q=>Hd _ q) (Hg _) ?_,Z,n (λw=>z (r.nil_iff.mpr w)) _$ I.hok.fresh$ Hg _];exact#[by rw[Hf];exact c,_,R.append r,O9 _ _]
end
noncomputable def my(n:Nat)(i:Int):Option Nat:=if 0<=i then (if i < n then some i.toNat else none) else if -(n:Int)<=i then some (i+n).toNat else none
noncomputable def dq{a:Type}(x:List a)(i:Int):Option a:=(my x.length i).bind λj=>x[j]?
theorem Y4(h:my n i=some j):seqIndex? i n=some j/\j < n/\ -(n:Int)<=i/\i < n:=by
 unfold my at h;by_cases a:0<=i
 ·rw[HD a]at h;by_cases H:i < n
  ·rw[HD H]at h;have e:i.toNat=j:=HV h;exact#[by rw[Pp a H,e],Sf,Sf,H]
  ·rw[HG H]at h;cases h
 ·rw[HG a]at h;by_cases H: -(n:Int)<=i
  ·rw[HD H]at h;have e:(i+n).toNat=j:=HV h;exact#[by rw[O1 Sf H,e],Sf,H,Sf]
  ·rw[HG H]at h;cases h
theorem QV{a:Type}{x:List a}{v:a}(h:dq x i=some v):∃j,seqIndex? i x.length=some j/\x[j]?=some v/\j < x.length/\ -(x.length:Int)<=i/\i < x.length:=by
 unfold dq at h;cases e:my x.length i with
 |none=>rw[e]at h;cases h
 |some j=>rw[e]at h;obtain⟨H,b,c,d⟩:=Y4 e;exact#[j,H,h,b,c,d]
theorem jM{a:Type}{x:List a}{j:Nat}{v:a}(h:x[j]?=some v):dq x (j:Int)=some v:=by
 have H:j < x.length:=(List.getElem?_eq_some_iff.mp h).1;have e:my x.length (j:Int)=some j:=by unfold my;rw[HD Sf,HD Sf];simp
 unfold dq;rw[e];exact h
def vg(b:Expr):Prop:=∀o i,subscripted b false o i=operate [o,i] (getItem o i)
def EE(X:Cx)(r:R2):Prop:=
 ∀(a S:Expr) (p:List (Addr×Obj)) (s:Shared) (b:St) (H:Hp) (x y:V) (v u:Value) (Q:VK),ap X p b H s->aw x v->aw y u->r x y H Q->
  subscripted S false v u=operate [v,u] (getItem v u)->wpAny (model X.prog X.w) X.A (subscriptTail a S v u) (EP X p b Q) X.xe s
def EV(X:Cx)(id:String)(r:V->List V->Hp->VK->Prop):Prop:=
 ∀(p:List (Addr×Obj)) (s:Shared) (a:St) (H:Hp) (x:V) (b:List V) (v:Value) (u:List Value) (Q:VK),ap X p a H s->aw x v->au b u->r x b H Q->
  wpAny (model X.prog X.w) X.A (call (.builtin id) (v::u)) (EP X p a Q) X.xe s
section
variable {X:Cx}{a b:Expr}{ta tb:TE}{pos:Pos}
theorem jr{r:R2}(c:EE X r)(d:PE X a ta)(e:PE X b tb)(f:vg b):PE X (.Subscript a b pos) (dD r ta tb):=by intro p s g H Q I h;exact P6$ Ah d e I h λv u S x y i j R k q=>c a b p S g i x y v u Q j R k q (f _ _)
inductive ip(K:Frag)(x y:V)(H:Hp)(Q:VK):Prop
 |mk(p a i v:_)(_:x= .ref p)(_:y= .int i)(_:aB K H p a)(_:dq a i=some v)(_:Q v H)
inductive eY(K:Frag)(x y:V)(H:Hp)(Q:VK):Prop
 |mk(p a i v:_)(_:x= .ref p)(_:y= .int i)(_:ax K H p a)(_:dq a i=some v)(_:Q v H)
inductive wU(x y:V)(H:Hp)(Q:VK):Prop
 |mk(z i c:_)(_:x= .str z)(_:y= .int i)(_:z.length<=sizeLine)(_:dq z.cps.toList i=some c)(_:Q (.str #[(List.toArray [c])]) H)
theorem jq:EE X (ip X.K):=by
 intro V S P s k H x y v u Q I n o h l;obtain⟨p,L,i,z,rfl,rfl,A,B,q⟩:=h;cases n;obtain⟨t,rfl⟩:=o;obtain⟨d,r,e,M⟩:=I.list A;obtain⟨j,c,C,N,D,F⟩:=QV B;obtain⟨w,E,R⟩:=r.get C;have G:=r.length;have O:=dM;have f:EP X P k Q w s:=#[z,H,I,R,q];by_cases m:0<=i
 ·have g:i.toNat=j:=by rw[Pp m F]at c;exact HV c
  exact item_listR e.isList m Sf (by rw[g];simpa using E) f l
 ·have g:(i+(d.toArray.size:Int)).toNat=j:=by rw[O1 Sf D]at c;rw[Hh,<- G];exact HV c
  exact O0 (x:=w) e.isList.typeIs slot_list_getitem.lookup
   (wpAny_getItem_list_neg (Q:=λr J=>r=w/\EP X P k Q r J) e.isList Sf (by rw[Hh]<;>omega) Sf (by rw[g];simpa using E) #[Z,f]) l
theorem jS:EE X (eY X.K):=by
 intro V S P s c H x y v u Q I e g h k;obtain⟨p,D,i,z,rfl,rfl,l,m,q⟩:=h;cases e;obtain⟨t,rfl⟩:=g;obtain⟨n,r,d,F⟩:=I.tuple l;obtain⟨j,o,A,G,J,L⟩:=QV m;obtain⟨w,E,R⟩:=r.get A;have B:=r.length;have M:=dM;have f:EP X P c Q w s:=#[z,H,I,R,q];exact O0 (x:=w) d.typeIs slot_tuple_getitem.lookup
  (getItem_tuple (j:=j) (Q:=λr C=>r=w/\EP X P c Q r C) d Sf Sf (by rw[Hh,<- B];exact o) (by simpa using E) #[Z,f]) k
theorem Kb:EE X wU:=by
 intro V S p s o H x y v u Q I r R h e;obtain⟨z,i,c,rfl,rfl,w,f,q⟩:=h;obtain⟨t,rfl⟩:=r;obtain⟨T,rfl⟩:=R;obtain⟨j,d,g,A,k,l⟩:=QV f;have m:z.cps.toList.length=z.length:=by simp [Str.length]
 rw[m]at d k l;have B:=dM;exact tail_any (typeIs_str s z t) slot_str_getitem.lookup (getItem_str (c:=c) (by
  have E:decide (i < -(2 ^ 63:Int))=false:=Hk Sf;have n:decide (i≥2 ^ 63)=false:=Hk Sf;rw[E,n,Oi]) (by rw[d];simpa using g) #[.str #[(List.toArray [c])],H,I.tok _,#[_,Z],q]) e
theorem Yg(i:List Value)(n j:Nat)(u:Value):Obj.mapSeq (·.setIfInBounds j u) { cls:=.type "list",data:=.seq i.toArray n }={ cls:=.type "list",data:=.seq (i.set j u).toArray n }:=by simp [Obj.mapSeq]
theorem ap.lst(I:ap X c d H s)(h:H p=some (.lst x)):
  ∃(i:List Value) (n:Nat),au x i/\s.heap.get? p=some { cls:=.type "list",data:=.seq i.toArray n }/\x.length<=sizeLine:=by
 obtain⟨z,i,n,r,e⟩:=I.hok p _ h;exact#[i,n,r,e,z]
theorem ap.lstUpd{c i:List Value}{f:Obj->Obj}(I:ap X d j H s)(h:H p=some (.lst o))
  (k:s.heap.get? p=some { cls:=.type "list",data:=.seq c.toArray n }) (g:f { cls:=.type "list",data:=.seq c.toArray n }={ cls:=.type "list",data:=.seq i.toArray N }) (r:au y i) (l:y.length<=sizeLine) (t:Nat):
  ap X d j (af H p$ .lst y) { s with heap:=s.heap.update p f,toks:=t }:=by
 have e:(s.heap.update p f).get? p=some { cls:=.type "list",data:=.seq i.toArray N }:=by rw[Heap.get?_update_self f k (by rw[g]<;>rfl),g]
 refine I.write (x:=p) (e:=p) (by rw[h];trivial) (.inl Z) (λb u m q=>(Heap.get?_update_other _ _$ Ne.symm m).trans q) #[_,e] ?_;exact#[l,i,N,r,e]
inductive nB(o i v:V)(H:Hp)(Q:Hp->Prop):Prop
 |mk(p a k j:_)(_:o= .ref p)(_:i= .int k)(_:H p=some (.lst a))(_:my a.length k=some j)(_:Q (af H p (.lst (a.set j v))))
theorem zd:C7 X nB:=by
 intro P s z H o i v O F u Q I R A B h;obtain⟨p,C,k,j,rfl,rfl,l,D,q⟩:=h;cases R;obtain⟨t,rfl⟩:=A;obtain⟨c,n,r,e,E⟩:=I.lst l;obtain⟨d,G,m,w⟩:=Y4 D;have f:=r.length;have J:=dM;have x:ap X P z (af H p$ .lst$ C.set j v) { s with heap:=s.heap.update p (Obj.mapSeq (·.setIfInBounds j u)) }:=
  I.lstUpd l e (Yg c n j u) (r.set B j) (by rw[M1];exact E) s.toks
 by_cases y:0<=k
 ·have g:k.toNat=j:=by rw[Pp y w]at d;exact HV d
  exact PySem.W.ki_setAt e y Sf (by rw[Hh,<- f];exact w) (by rw[g];exact#[_,x,q])
 ·have g:(k+(c.toArray.size:Int)).toNat=j:=by rw[O1 Sf m]at d;rw[Hh,<- f];exact HV d
  exact PySem.W.ki_setBack e Sf (by rw[Hh,<- f];exact m) Sf (by rw[g];exact#[_,x,q])
theorem Q6(lo H:Option Int)(n:Nat):(sliceBounds lo H none n).1=((HT.sIx n 0 lo:Nat):Int)/\(sliceBounds lo H none n).2.1=((HT.sIx n n H:Nat):Int)/\(sliceBounds lo H none n).2.2=1:=by
 refine#[?_,?_,Z]
 ·cases lo with
  |none=>simp [sliceBounds,HT.sIx]
  |some i=>
   simp only[sliceBounds,HT.sIx,Nw,show(1:Int) > 0 by decide,Ms];by_cases h:i < 0
   ·simp only[h,Ms]<;>omega
   ·simp only[h,IB]<;>omega
 ·cases H with
  |none=>simp [sliceBounds,HT.sIx]
  |some i=>
   simp only[sliceBounds,HT.sIx,Nw,show(1:Int) > 0 by decide,Ms];by_cases h:i < 0
   ·simp only[h,Ms]<;>omega
   ·simp only[h,IB]<;>omega
theorem KR(i:List Value)(lo h:Option Int):slicePick i.toArray lo h none=((i.drop$ HT.sIx i.length 0 lo).take$ HT.sIx i.length i.length h - HT.sIx i.length 0 lo).toArray:=by obtain⟨H,c,d⟩:=Q6 lo h i.toArray.size;unfold slicePick;rw[H,c,d];simp only[sliceRange_one,pick_run,Hh]<;>rfl
inductive wV(K:Frag)(x:V)(c b:Option Int)(H:Hp)(Q:VK):Prop
 |mk(a d:_)(_:x= .ref a)(_:aB K H a d)(_:∀p,H p=none->Q (.ref p) (af H p (.lst (aE d c b))))
theorem kh:EH X (wV X.K):=by intro p s m H x v V n lo e S Q I R g P i h;obtain⟨a,c,rfl,j,q⟩:=h;cases R;obtain⟨k,r,f,l⟩:=I.list j;have d:=r.length;refine#["list",_,slot_list_getitem.lookup,f.isList.typeIs,?_];refine wpAny_getItem_list_slice f.isList g P i .none Si ?_ (by rw[Hh]<;>omega);rw[KR,<- d];refine#[.ref s.heap.objs.size,_,I.laid (t':=s.toks) (o:=.lst (aE c lo e)) (λb O q=>Hd _ q) (Hg _) ?_,Z,q _$ I.hok.fresh$ Hg _];exact#[Hr (ze c lo e) l,_,0,(r.drop$ HT.sIx c.length 0 lo).take$ HT.sIx c.length c.length e - HT.sIx c.length 0 lo,Hj _ Z]
noncomputable def ci:V->Bool
 | .non=>true
 | .bl _=>true
 | .int _=>true
 | .str _=>true
 |_=>false
noncomputable def ma:V->V->Bool
 | .non,.non=>true
 | .bl a,.bl b=>a==b
 | .bl a,.int b=>(if a then 1 else 0)==b
 | .int a,.bl b=>a==(if b then 1 else 0)
 | .int a,.int b=>a==b
 | .str a,.str b=>a==b
 |_,_=>false
theorem pP(R:aw y u)(r:aw x v)(F:ci y=true)(f:ci x=true):SeqAt.EqAt A s u v (ma y x):=by
 cases y with
 |non=>
  cases R;cases x with
  |non=>cases r;exact SeqAt.EqAt.same _
  |bl b=>cases r;exact SeqAt.EqAt.none_bool b
  |int b=>obtain⟨t,rfl⟩:=r;exact SeqAt.EqAt.none_int b t
  |str b=>obtain⟨t,rfl⟩:=r;exact SeqAt.EqAt.none_str b t
  |_=>exact absurd (show false=true from f) Hl
 |bl a=>
  cases R;cases x with
  |non=>cases r;exact SeqAt.EqAt.bool_none a
  |bl b=>cases r;exact SeqAt.EqAt.bool_bool a b
  |int b=>obtain⟨t,rfl⟩:=r;exact SeqAt.EqAt.bool_int a b t
  |str b=>obtain⟨t,rfl⟩:=r;exact SeqAt.EqAt.bool_str a b t
  |_=>exact absurd (show false=true from f) Hl
 |int a=>
  obtain⟨T,rfl⟩:=R;cases x with
  |non=>cases r;exact SeqAt.EqAt.int_none a T
  |bl b=>cases r;exact SeqAt.EqAt.int_bool a T b
  |int b=>obtain⟨t,rfl⟩:=r;exact SeqAt.EqAt.int_int a T b t
  |str b=>obtain⟨t,rfl⟩:=r;exact Oe a T b t
  |_=>exact absurd (show false=true from f) Hl
 |str a=>
  obtain⟨T,rfl⟩:=R;cases x with
  |non=>cases r;exact SeqAt.EqAt.str_none a T
  |bl b=>cases r;exact SeqAt.EqAt.str_bool a T b
  |int b=>obtain⟨t,rfl⟩:=r;exact Od a T b t
  |str b=>obtain⟨t,rfl⟩:=r;exact SeqAt.EqAt.str_str a T b t
  |_=>exact absurd (show false=true from f) Hl
 |_=>exact absurd (show false=true from F) Hl
noncomputable def mx(x:V)(u:Value):Bool:=match u with
 | .none=>ma .non x
 | .bool b=>ma (.bl b) x
 | .int i _=>ma (.int i) x
 | .str z _=>ma (.str z) x
 |_=>false
theorem pR(r:aw y u)(f:ci y=true):mx x u=ma y x:=by
 cases y with
 |non=>cases r;rfl
 |bl b=>cases r;rfl
 |int i=>obtain⟨t,rfl⟩:=r;rfl
 |str z=>obtain⟨t,rfl⟩:=r;rfl
 |_=>exact absurd (show false=true from f) Hl
theorem qN:∀{c:List V} {U:List Value},au c U->c.all ci=true->U.any (mx x)=c.any λy=>ma y x
 |_,_,.nil,_=>rfl
 |y::c,u::U,.cons r t,f=>by rw[Oh,IE]at f;rw[MD,MD,pR r f.1,qN t f.2]
theorem qe(R:aw x v)(F:ci x=true):∀{c:List V} {U:List Value},au c U->c.all ci=true->∀u∈U,SeqAt.EqAt A s u v (mx x u)
 |_,_,.nil,_=>λu hu=>by cases hu
 |y::c,u::U,.cons r t,f=>λd hu=>by
  rw[Oh,IE]at f;rcases List.mem_cons.mp hu with rfl |hu
  ·rw[pR r f.1];exact pP r R f.1 F
  ·exact qe R F t f.2 d hu
noncomputable def nj(x:V)(c:List V):Bool:=c.any λy=>ma y x
inductive D0(K:Frag)(a:Bool)(x y:V)(H:Hp)(Q:VK):Prop
 |mk(p b:_)(_:y= .ref p)(_:aB K H p b∨ax K H p b)(_:ci x=true)(_:b.all ci=true)(_:Q (.bl (if a then !nj x b else nj x b)) H)
theorem zi:eG X (compareOp .In) (D0 X.K false):=by
 intro d s j H x y v u Q I R e h;obtain⟨p,k,rfl,hq,F,f,q⟩:=h;cases e;rcases hq with hq |hq
 ·obtain⟨i,r,P,g⟩:=I.list hq;refine SeqAt.in_listAt (mx x) P.isList (λw c=>qe R F r f w (by simpa using c)) #[.bl _,H,I,Z,?_];rw[show i.toArray.any (mx x)=i.any (mx x) by simp,qN r f];exact q
 ·obtain⟨i,r,P,g⟩:=I.tuple hq;refine SeqAt.in_tupleAt (mx x) P (λw c=>qe R F r f w (by simpa using c)) #[.bl _,H,I,Z,?_];rw[show i.toArray.any (mx x)=i.any (mx x) by simp,qN r f];exact q
theorem qX:eG X (compareOp .NotIn) (D0 X.K true):=by
 intro d s j H x y v u Q I R e h;obtain⟨p,k,rfl,hq,F,f,q⟩:=h;cases e;rcases hq with hq |hq
 ·obtain⟨i,r,P,g⟩:=I.list hq;refine SeqAt.notIn_listAt (mx x) P.isList (λw c=>qe R F r f w (by simpa using c)) #[.bl _,H,I,Z,?_];rw[show i.toArray.any (mx x)=i.any (mx x) by simp,qN r f];exact q
 ·obtain⟨i,r,P,g⟩:=I.tuple hq;refine SeqAt.notIn_tupleAt (mx x) P (λw c=>qe R F r f w (by simpa using c)) #[.bl _,H,I,Z,?_];rw[show i.toArray.any (mx x)=i.any (mx x) by simp,qN r f];exact q
theorem jE:b8 X (.builtin "len") (λx H Q=>∃p y,x=[.ref p]/\(aB X.K H p y∨ax X.K H p y)/\Q (.int y.length) H):=by
 intro d s g H x U Q I r h;obtain⟨p,y,rfl,hq,q⟩:=h;obtain⟨u,rfl,e⟩:=dU r;cases e;have j:=dM;rcases hq with hq |hq
 ·obtain⟨i,R,P,f⟩:=I.list hq;have c:=R.length;exact Calls.call_len_list P.isList (by simp only[Hh]<;>omega) #[.int y.length,H,I.tok _,#[s.toks+1,by rw[Hh,c]],q]
 ·obtain⟨i,R,P,f⟩:=I.tuple hq;have c:=R.length;exact len_tuple P (by simp only[Hh]<;>omega) #[.int y.length,H,I.tok _,#[s.toks+1,by rw[Hh,c]],q]
theorem qY:b8 X (.type "list") (λx H Q=>∃p y,x=[.ref p]/\(aB X.K H p y∨ax X.K H p y)/\∀l,H l=none->Q (.ref l) (af H l$ .lst y)):=by
 intro P s z H x U Q I r h;obtain⟨p,y,rfl,hq,q⟩:=h;obtain⟨u,rfl,A⟩:=dU r;cases A;have f:∀(i:List Value),au y i->y.length<=sizeLine->∀(c:Heap) (C:Nat),(∀b O,s.heap.get? b=some O->c.get? b=some O)->
   c.get? s.heap.objs.size=some { cls:=.type "list",dict:=none,data:=.seq i.toArray C,slots:=(List.toArray []) }->EP X P z Q (.ref s.heap.objs.size) { s with heap:=c }:=λi R d c C k e=>
  #[.ref s.heap.objs.size,_,I.laid (t':=s.toks) k (Hg _) (show aF X.prog X.w _ c _ (.lst y) from #[d,i,C,R,e]),Z,q _$ I.hok.fresh$ Hg _]
 rcases hq with hq |hq
 ·obtain⟨i,R,j,d⟩:=I.list hq;have g:=R.length;obtain⟨o,m,t,n,v⟩:=j.isList;exact call_list_seq p (.inl Z) m t v (λc C k e=>f i R d c C k e) (by simp only[Hh]<;>omega)
 ·obtain⟨i,R,j,d⟩:=I.tuple hq;have g:=R.length;obtain⟨o,m,t,n,v⟩:=j;exact call_list_seq p (.inr Z) m t v (λc C k e=>f i R d c C k e) (by simp only[Hh]<;>omega)
theorem jB:b8 X (.type "tuple") (λx H Q=>∃p y,x=[.ref p]/\((aB X.K H p y/\∀l,H l=none->Q (.ref l) (af H l$ .tup y))∨(ax X.K H p y/\Q (.ref p) H))):=by
 intro P s g H x U Q I r h;obtain⟨p,y,rfl,h⟩:=h;obtain⟨u,rfl,n⟩:=dU r;cases n;rcases h with ⟨d,q⟩ | ⟨d,q⟩
 ·obtain⟨i,R,f,j⟩:=I.list d;have k:=R.length;refine call_tuple_list f.isList (λc t=>?_) (by simp only[Hh]<;>omega);have m:ap X P g H { s with heap:=c }:=I.kept (t':=s.toks) t;have v:ap X P g (af H c.objs.size$ .tup y) { s with heap:=c.push { cls:=.type "tuple",data:=.seq i.toArray } }:=
   m.laid (t':=s.toks) (λb o e=>Hd _ e) (Hg _) (show aF X.prog X.w _ _ _ (.tup y) from #[j,i,R,O9 _ _])
  exact#[.ref c.objs.size,_,v,Z,q _$ m.hok.fresh$ Hg _]
 ·obtain⟨i,R,f,j⟩:=I.tuple d;exact call_tuple_same f #[.ref p,H,I,Z,q]
def FX(K:Frag)(T:String)(x:V)(H:Hp):Prop:=match x with
 | .str _=>T="str"
 | .int _=>T="int"
 | .ref p=>(T="list"/\∃c,aB K H p c)∨(T="tuple"/\∃o,K.lookup p=some o/\o.cls= .type "tuple"/\o.dict=none)∨
   (T="dict"/\((∃k,H p=some (.dK k))∨∃k,H p=some (.dT k)))∨(T="set"/\∃S n,H p=some (.set S n))
 |_=>False
theorem uJ(I:ap X j u H s)(r:aw x v)(d:FX X.K T x H):
  s.TypeIs v T/\∀a,v= .ref a->∃O,s.heap.get? a=some O/\O.dict=none:=by
 cases x with
 |str z=>obtain⟨t,rfl⟩:=r;cases (show T="str" from d);exact#[typeIs_str s z t,λ_ e=>nomatch e]
 |int i=>obtain⟨t,rfl⟩:=r;cases (show T="int" from d);exact#[typeIs_int s i t,λ_ e=>nomatch e]
 |ref p=>
  cases r;rcases d with ⟨rfl,w,l⟩ | ⟨rfl,o,h,m,f⟩ | ⟨rfl,h⟩ | ⟨rfl,S,n,h⟩
  ·obtain⟨q,_,P,_⟩:=I.list l;refine#[P.isList.typeIs,λa e=>?_];cases e;obtain⟨o,n,e,c,f,_⟩:=P;exact#[o,e,f]
  ·refine#[#[o,I.kIn p o h,m],λa e=>?_];cases e;exact#[o,I.kIn _ o h,f]
  ·have z:∃o,s.heap.get? p=some o/\o.ExactDict:=by
    rcases h with ⟨k,h⟩ | ⟨k,h⟩
    ·obtain⟨_,_,_,_,o,_,_,e,E,_⟩:=I.hok p _ h;exact#[o,e,E]
    ·obtain⟨_,_,_,_,o,_,_,e,E,_⟩:=I.hok p _ h;exact#[o,e,E]
   obtain⟨o,e,E⟩:=z;refine#[#[o,e,E.1],λa g=>?_];cases g;exact#[o,e,E.2.1]
  ·obtain⟨o,_,_,_,e,E,_⟩:=I.hok p _ h;refine#[#[o,e,E.1],λa g=>?_];cases g;exact#[o,e,E.2.1]
 |_=>exact False.elim d
def FN(K:Frag)(T:String)(r:V->List V->Hp->VK->Prop)(t:TE):TE:=λc H Q=>t c H λx h=>FX K T x h/\r x [] h Q
def FM(K:Frag)(T:String)(r:V->List V->Hp->VK->Prop)(d:TE)(t:TA):TE:=λc H Q=>d c H λx h=>FX K T x h/\t c h λe f=>r x e f Q
variable {o e:Expr}{es:List Expr}{to:TE}{t:TA}{name:Str}{apos cpos:Pos}{T id:String}{r:V->List V->Hp->VK->Prop}
theorem si(P:PlainAttrs T)(S:Slot T name id)(f:typeOf (.builtin id)=pure (.type "method_descriptor"))(j:EV X id r)(k:PE X o to)
  (c:attributeBase o name X.env (eval o X.env)=eval o X.env:=by rfl) (d:(apos.endLine==cpos.line)=true:=by rfl):PE X (.Call (.Attribute o name apos) [] [] cpos) (FN X.K T r to):=by
 intro p s g H Q I h;refine wpAny_Call_method0_late c d$ aJ (k p s g H _ I h) λv l z=>?_;obtain⟨x,m,i,R,n,q⟩:=z;obtain⟨u,w⟩:=uJ i R n;exact#[T,id,P,S,f,u,w,MP Z$ PySem.evalArgs_none$ j p l g m x [] v [] Q i R .nil q]
theorem kr(P:PlainAttrs T)(S:Slot T name id)(i:typeOf (.builtin id)=pure (.type "method_descriptor"))(m:EV X id r)(n:PE X o to)(q:PA X (e::es) t)
  (d:attributeBase o name X.env (eval o X.env)=eval o X.env:=by rfl)
  (g:((backTo cpos$ starEach (e::es) X.env).all (λx=>!x.1)&&(backToKw cpos$ keywordEach [] X.env).all (λx=>x.1.isSome)
   &&decide ((e::es).length+([]:List Keyword).length+(if ([]:List Keyword).isEmpty then 0 else 1) < 30))=true:=by rfl)
  (f:(apos.endLine==cpos.line)=true:=by rfl) (u:starEach (e::es) X.env=(false,eval e X.env)::starEach es X.env:=by rfl) (c:(backTo cpos$ starEach es X.env).any (·.1)=false:=by rfl):
  PE X (.Call (.Attribute o name apos) (e::es) [] cpos) (FM X.K T r to t):=by
 intro p s j H Q I h;refine wpAny_Call_method_late d g f Z$ aJ (n p s j H _ I h) λv w z=>?_;obtain⟨x,y,k,R,A,B⟩:=z;obtain⟨C,D⟩:=uJ k R A;refine#[T,id,P,S,i,C,D,?_];have l:=q cpos p w j y _ k B;rw[u]at l ⊢;refine MP (by show(false||(backTo cpos$ starEach es X.env).any (·.1))=false;rw[c]<;>rfl)$ OF ?_;exact aJ l λU E #[F,G,J,L,M]=>m p E j G x F v U Q J R L M
end
def C3(X:Cx)(id:String)(r:V->List V->Hp->VK->Prop):Prop:=
 ∀(p:List (Addr×Obj)) (s:Shared) (a:St) (H:Hp) (x:V) (b:List V) (v:Value) (u:List Value) (Q:VK),ap X p a H s->aw x v->au b u->r x b H Q->
  wpAny (model X.prog X.w) X.A (call (.builtin id) (v::u)) (EP X p a Q) X.xe s
theorem au.one:∀{x:V} {U:List Value},au [x] U->∃u,U=[u]/\aw x u
 |_,_,.cons r .nil=>#[_,Z,r]
theorem au.zero:∀{u:List Value},au [] u->u=[]
 |_,.nil=>rfl
theorem au.dropLast(h:au x u):au x.dropLast u.dropLast:=by
 induction h with
 |nil=>exact .nil
 |cons r t i=>
  cases t with
  |nil=>exact .nil
  |cons q T=>exact .cons r i
theorem au.reverse(h:au x u):au x.reverse u.reverse:=by
 induction h with
 |nil=>exact .nil
 |cons r t i=>rw[Mw,Mw];exact au.append i (.cons r .nil)
theorem Yh{c:Type}(l:List c):l.eraseIdx (l.length - 1)=l.dropLast:=by
 induction l with
 |nil=>rfl
 |cons a r i=>
  cases r with
  |nil=>rfl
  |cons b r=>
   have e:(a::b::r).length - 1=((b::r).length - 1)+1:=by have h:(a::b::r).length=r.length+2:=rfl;have H:(b::r).length=r.length+1:=rfl;omega
   rw[e,List.eraseIdx_cons_succ,i];all_goals rfl
section
variable {X:Cx}{pins:List (Addr×Obj)}{σ:St}{H:Hp}{s:Shared}{l b:Addr}{xs ys zs:List V}
theorem ap.lset{i its':List Value}{f:Array Value->Array Value}{t':Nat}(I:ap X pins σ H s)(h:H l=some (.lst xs))
  (e:s.heap.get? l=some { cls:=.type "list",data:=.seq i.toArray n }) (a:f i.toArray=its'.toArray) (c:au ys its') (d:ys.length<=sizeLine):
  ap X pins σ (af H l$ .lst ys) { s with heap:=s.heap.update l (Obj.mapSeq f),toks:=t' }:=by
 have q:=PySem.IsL.update e f;rw[a]at q;refine I.write (x:=l) (e:=l) (by rw[h];exact trivial) (.inl Z) (λB u g j=>(Ht s.heap (Obj.mapSeq f)$ HR g).trans j) #[_,q] ?_;exact#[d,its',_,c,q]
theorem ap.lnew{t':Nat}(I:ap X pins σ H s)(h:au ys i)(a:ys.length<=sizeLine):
  ap X pins σ (af H s.heap.objs.size$ .lst ys) { s with heap:=s.heap.push { cls:=.type "list",data:=.seq i.toArray },toks:=t' }:=
 I.laid (λ_ _ q=>Hd _ q) (Hg _) #[a,i,0,h,Hj _ Z]
theorem ap.fresh(I:ap X pins σ H s):H s.heap.objs.size=none:=I.hok.fresh (Hg _)
theorem ap.lstM(I:ap X pins σ H s)(h:H l=some (.lst xs)):xs.length<=sizeLine/\∃(i:List Value) (n:Nat),au xs i/\xs.length=i.length/\s.heap.get? l=some { cls:=.type "list",data:=.seq i.toArray n }:=by obtain⟨z,i,n,r,e⟩:=I.hok l _ h;exact#[z,i,n,r,r.length,e]
theorem eW(h:n<=sizeLine):Builtin.List.listTooLong n=false:=by unfold Builtin.List.listTooLong;exact Hk Sf
end
section
variable {X:Cx}
inductive iJ(x:V)(a:List V)(H:Hp)(Q:VK):Prop
 |mk(l b y:_)(_:x= .ref l)(_:a=[y])(_:H l=some (.lst b))(_:b.length < sizeLine)(_:Q .non (af H l (.lst (b++[y]))))
theorem jP:C3 X "list.append" iJ:=by intro p s d H x V v U Q I R b h;obtain⟨l,f,y,rfl,rfl,a,g,q⟩:=h;cases R;obtain⟨u,rfl,c⟩:=b.one;obtain⟨z,i,n,r,j,e⟩:=I.lstM a;refine Nf F.slot_list_append #[_,e,Z] F.entry_list_append (F.args_list_append_2 _ _) (PySem.list_append l i.toArray n u (by rw[Hh];omega)) #[e,?_];refine#[.non,_,I.lset (its':=i++[u]) a e Si (r.append$ .cons c .nil) ?_,Z,q];rw[Hf,Lx];omega
inductive ny(x:V)(a:List V)(H:Hp)(Q:VK):Prop
 |mk(l b c d:_)(_:x= .ref l)(_:a=[.ref b])(_:H l=some (.lst c))(_:H b=some (.lst d))(_:c.length+d.length<=sizeLine)(_:Q .non (af H l (.lst (c++d))))
theorem Jq:C3 X "list.extend" ny:=by
 intro p s t H x V v U Q I R g h;obtain⟨l,b,w,y,rfl,rfl,f,j,A,q⟩:=h;cases R;obtain⟨u,rfl,k⟩:=g.one;cases k;obtain⟨z,a,n,r,B,e⟩:=I.lstM f;obtain⟨C,i,N,m,o,E⟩:=I.lstM j;have d:a.toArray.size+i.toArray.size<=sizeLine:=by rw[Hh,Hh];omega
 have c:¬(!a.toArray.isEmpty&&Builtin.List.listTooLong (a.toArray.size+i.toArray.size))=true:=by rw[eW d,Nb];exact Hl
 refine Nf Pz #[_,e,Z] Pl (Pa _ _)
  (AutoSeq1.list_extend_list_list_0 l a.toArray n b i.toArray N c (by rw[Hh];omega) Sf) #[e,E,?_]
 refine#[.non,_,I.lset (its':=a++i) f e Si (r.append m) ?_,Z,q];rw[Hf];omega
inductive D2(x:V)(a:List V)(H:Hp)(Q:VK):Prop
 |mk(l b y:_)(_:x= .ref l)(_:a=[])(_:H l=some (.lst b))(_:b[b.length - 1]?=some y)(_:Q y (af H l (.lst b.dropLast)))
theorem AS:C3 X "list.pop" D2:=by
 intro p s m H x V v U Q I R d h;obtain⟨l,o,y,rfl,rfl,c,f,q⟩:=h;cases R;have a:=d.zero;subst a;obtain⟨z,i,n,r,g,e⟩:=I.lstM c;obtain⟨u,j,k⟩:=r.get f;have b:i.toArray[i.toArray.size - 1]?=some u:=by show i.toArray[i.length - 1]?=some u;rw[<- IR,<- g];exact j
 refine Nf F.slot_list_pop #[_,e,Z] F.entry_list_pop (F.args_list_pop_1 _) (MeetsSeq.list_pop_last l i.toArray n u b (by rw[Hh];omega)) #[e,?_];refine#[y,_,I.lset (its':=i.dropLast) c e ?_ r.dropLast ?_,k,q]
 ·show i.toArray.eraseIdxIfInBounds (i.toArray.size - 1)=i.dropLast.toArray;rw[Hh,List.eraseIdxIfInBounds_toArray,Yh]
 ·rw[List.length_dropLast];omega
inductive sJ(x:V)(a:List V)(H:Hp)(Q:VK):Prop
 |mk(l b:_)(_:x= .ref l)(_:a=[])(_:H l=some (.lst b))(_:Q .non (af H l (.lst [])))
theorem rE:C3 X "list.clear" sJ:=by intro p s d H x V v u Q I R c h;obtain⟨l,f,rfl,rfl,b,q⟩:=h;cases R;have a:=c.zero;subst a;obtain⟨z,i,n,r,g,e⟩:=I.lstM b;refine Nf F.slot_list_clear #[_,e,Z] F.entry_list_clear (F.args_list_clear_1 _) (AutoSeq1.list_clear_list_0 l i.toArray n (by rw[Hh];omega)) #[e,?_];exact#[.non,_,I.lset (its':=[]) (ys:=[]) b e Z .nil$ Ho _,Z,q]
inductive wT(x y:V)(H:Hp)(Q:VK):Prop
 |mk(l b a c:_)(_:x= .ref l)(_:y= .ref b)(_:H l=some (.lst a))(_:H b=some (.lst c))(_:a.length+c.length<=sizeLine)(_:∀p,H p=none->Q (.ref p) (af H p (.lst (a++c))))
theorem zO:eG X (binaryOp .Add) wT:=by
 intro p s m H x y v u Q I R c h;obtain⟨l,b,o,t,rfl,rfl,d,f,w,q⟩:=h;cases R;cases c;obtain⟨z,a,n,r,A,e⟩:=I.lstM d;obtain⟨B,i,N,g,j,E⟩:=I.lstM f;refine PySem.P.add_list e E ?_ (by rw[Hh,Hh];omega);have k:a.toArray++i.toArray=(a++i).toArray:=by simp
 rw[k];exact#[.ref _,_,I.lnew (t':=s.toks) (r.append g) (by rw[Hf];omega),Z,q _ I.fresh]
end
section
variable {prog:Program}{w:World}{A:Around}{E:Value->Shared->Prop}{s:Shared}
theorem ZH(i I : List Value)(a c : Nat) : i.toArray.extract 0 a ++ I.toArray ++ i.toArray.extract c i.toArray.size = (i.take a ++ I ++ i.drop c).toArray := by
  apply Array.toList_inj.mp;first
    | (simp
       exact J' Si)
    | simp [J']
    | simp
theorem Yi{a c n:Nat}(hac:a<=c)(hc:c<=n):sliceBounds (some (a:Int)) (some (c:Int)) none n=((a:Int),(c:Int),1):=by
 simp only[sliceBounds,Nw];have h1:¬((a:Int) < 0):=by omega
 have h2:¬((c:Int) < 0):=by omega
 simp only[h1,h2,IB,show(1:Int) > 0 by decide,Ms];congr 1
 ·omega
 ·congr 1;omega
set_option maxRecDepth 100000 in
theorem KS{a c : Nat}{Q : Unit -> Shared -> Prop}
    (e : s.heap.get? l = some { cls := .type "list", data := .seq i n }) (y : s.heap.get? b = some { cls := .type "list", data := .seq N I }) (q : l ≠ b)
    (C : s.heap.IsSliceOf p z B .none) (P : IsPart z (some (a : Int))) (D : IsPart B (some (c : Int))) (r : a <= c) (F : c <= i.size)
    (f : i.size + N.size <= sizeLine) (h : Q () { s with heap := s.heap.update l (Obj.mapSeq λX => X.extract 0 a ++ N ++ X.extract c X.size) }) :
    wpAny (model prog w) A (setItem (.ref l) (.ref p)$ .ref b) Q E s := by
  have t : s.heap.IsList l i := OE e;have G : s.heap.IsList b N := OE y;obtain ⟨os, d, u, g⟩ := id C;have k : s.TypeIs (.ref p) "slice" := #[os, d, u];have j : ¬ ((rawPart none == rawInt 0) = true) := Hl;have H : Builtin.List.listSameRef (.ref l) (.ref b) = false := by unfold Builtin.List.listSameRef;exact beq_eq_false_iff_ne.mpr q
  have o : (max (a : Int) (c : Int)).toNat = c := by omega
  have v : ((λX : Array Value => X.extract 0 a ++ N ++ X.extract c X.size) i).size <= sizeLine + 1 := by simp only [Nv, Array.size_extract];omega
  unfold setItem;try with_reducible refine Hs ?_
  first | refine GZ (Hc ?_) | skip
  refine GZ$ NN t.typeIs Se ?_;refine GZ (HX (name := Str.ofString "__setitem__") t.typeIs Rb
    (HU Rb t.typeIs entry_list_setitem ?_$ args_list_setitem _ _ _))
  show wpAny _ _ (Builtin.List.listSubscript? (.ref p) >>= _) _ _ s;refine GZ ?_;unfold Builtin.List.listSubscript?;refine GZ$ La k slice_no_index ?_;simp only [OK, Ms];refine Hc ?_;show wpAny _ _ (typeOf (.ref p) >>= _) _ _ s;refine GZ$ Le k ?_;first
    | rw [HG Se]
    | refine MW Se ?_
  rw [listSliceParts_eq];refine GZ$ GZ$ HJ d g (x := .none) Z$ GZ$ OB .none ?_;rw [HG j];refine GZ$ HJ d g (x := z) Z$ GZ$ OB P ?_;refine GZ$ HJ d g (x := B) Z$ GZ$ OB D$ Hc ?_;first
    | simp only [H, Hn, IB]
    | refine MW H ?_
    | (dsimp only
       rw [HG (by rw [H]; exact Hl)])
  refine GZ (m := Builtin.List.listAllItems (.ref b) "must assign iterable to extended slice") ?_;unfold Builtin.List.listAllItems;refine GZ$ Le G.typeIs ?_;first
    | refine Sb Se ?_
    | rw [HD Se]
    | simp only [I8, Rj, Ms]
  unfold Builtin.List.listItems;refine GZ$ Iu y Z$ Hc ?_;refine GZ$ GZ$ Iu e Z$ Hc ?_;refine GZ$ MS ((sliceIndices_raw (some (a : Int)) (some (c : Int)) none i.size Si).trans$ IC (pure : Int × Int × Int -> Sem (Int × Int × Int))$ Yi r F) ?_;show wpAny _ _ (if ((1 : Int) == 1) = true then _ else _) _ _ s;rw [HD Se];refine GZ$ Lj ?_;first
    | simp only [eW f, Hn, IB]
    | refine MW (eW f) ?_
  first | refine GZ (Hc ?_) | skip
  show wpAny _ _ (updateSeq l (λX => X.extract 0 ((a : Int)).toNat ++ N ++ X.extract (max (a : Int) (c : Int)).toNat X.size) >>= _) _ _ s;rw [o, Iq];refine GZ$ Nh (hz := Hr (LM _ _) f) (_hz' := v) e Z ?_;refine GZ$ Po ?_;first
    | exact GZ (Hc (Hc #[.none, Z, Hc h]))
    | exact Hc #[.none, Z, Hc h]
end
section
variable {X:Cx}
theorem ZI{Q:Unit->Shared->Prop}(I:ap X p o H s)
  (k:H l=some (.lst x)) (q:H b=some (.lst y)) (f:l≠b) (t:s.heap.IsSliceOf u v B .none) (R:aw (.int a) v) (D:aw (.int c) B) (m:0<=a) (g:a<=c) (J:c<=x.length)
  (K:x.length+y.length<=sizeLine) (h:∀S,ap X p o (af H l$ .lst$ x.take a.toNat++y++x.drop c.toNat) S->Q () S):
  wpAny (model X.prog X.w) X.A (setItem (.ref l) (.ref u)$ .ref b) Q X.xe s:=by
 obtain⟨T,rfl⟩:=R;obtain⟨L,rfl⟩:=D;obtain⟨z,d,n,r,M,e⟩:=I.lstM k;obtain⟨N,i,O,E,F,G⟩:=I.lstM q;obtain⟨j,rfl⟩:=Ov m;obtain⟨C,rfl⟩:=Ov (Int.le_trans m g);simp only[Iq]at h;refine KS (a:=j) (c:=C) e G f t (.int _ _) (.int _ _) Sf (by rw[Hh];omega) (by rw[Hh,Hh];omega)$ h _ ?_;refine I.lset (its':=d.take j++i++d.drop C) (t':=s.toks) k e ?_ (au.append (au.append (r.take _) E)$ r.drop _) ?_
 ·exact ZH d i j C
 ·rw[Hf,Hf,HL,Lb];omega
end
end _L
namespace Att
open PySem PySem.W PySem.Calls PyProof.Rows
theorem JJ{P:Params}:∀(N:List Int) (v:List Value),WellAll P h v (N.map WData.int)->IntsAre v N:=by
 intro N;induction N with
 |nil=>intro v w;rw[Ot]at w;cases w;exact .nil
 |cons n N i=>
  intro v w;rw[Ix]at w;cases w with
  |cons a b=>cases a;exact .cons _ _$ i _ b
theorem ZJ{l:OpenLaw}(k:l.most=some n){P:Params}
  (H:l.row.toRowW.claim.pre args=true) (g:WellAll P h v args):
  ∃a V N,v=[Value.ref a]/\args=[WData.list$ N.map WData.int]/\h.get? a=some { cls:=.type "list",data:=.seq V.toArray }/\IntsAre V N/\N.length<=n:=by
 have i:WShape.hasAll [] args [.list .int]=true:=(pre_splitW H).1;have j:l.pre.holds [] { args:=args }=true:=(pre_splitW H).2;obtain⟨d,r,rfl,m,o⟩:=hasAllW_cons i;obtain rfl:=hasAllW_nil o;obtain⟨x,rfl,p⟩:=hasW_list m;obtain⟨N,rfl⟩:=items_int p;have b:N.length<=n:=by
  unfold OpenLaw.pre at j;have e:(WTm.not$ .lt (.lit$ .int (n:Int))$ .len$ .arg 0).holds [] { args:=[.list$ N.map .int] }=true:=by have e:=(holds_andW j).1;rw[k]at e;exact e
  have f:=condW_of e (w_not$ w_lt w_lit$ w_len_list$ w_arg Z);rw[He]at f;refine Pt λq=>?_;have Q:(n:Int) < ((N.length:Nat):Int):=by omega
  first
   | (rw[Hw Q]at f;exact absurd f Se)
   | (simp at f;omega)
 cases g with
 |cons w W=>
  cases W;cases w with
  |list s c=>exact#[_,_,N,Z,Z,s,JJ N _ c,b]
theorem ZK(l:OpenLaw)(args:List WData):l.row.toRowW.claim.post args (.bool true) args=true:=
 postW_of (r:=l.row.toRowW) (X:=(true==true))
  (show WShape.has [] (.bool true) .bool=true by first |rfl |decide |simp [WShape.has,WShape.arms,WShape.armsAll])
  (show(WTm.eq .res$ .lit$ .bool true).value [] { args:=args,res:=some (.bool true),after:=args }=some (.bool$ true==true) from w_eq_bool (w_res Z) w_lit) Z
theorem attach_call{l:OpenLaw}{y:World->Heap->Prop}{d:DefRec}
  (x:l.most=some n) (g:d.params.defaults=[])
  (call:∀(w:World) (S s:Shared) (m M:Str->Option Value) (F:Addr) (o:Obj) (p C D:Value) (a:Addr) (v:List Value) (N:List Int),
   Ground q L [] z w S m M s.heap->y w s.heap->
   s.heap.get? F=some o->o.data= .func (docDef d.name d.params d.body d.scope p C D)->s.heap.CodeRec C d.name->m d.name=some (.ref F)->
   s.heap.get? a=some { cls:=.type "list",data:=.seq v.toArray }->IntsAre v N->N.length<=n->s.gens=(List.toArray [])->
   codeAny (model l.prog w) callerA (.call (.ref F) #[[.ref a],[]]) (λr e=>r= .ok (.ret$ .bool true)/\OldK s.heap e.heap/\e.os=s.os/\AllBare e.gens) s):
  WalkO q L z y l.row.toRowW d [] (λf v=>PySem.call f v):=by
 intro w S s m M G Y F o p C D B kV E I i t j J A V W H u K k O;obtain rfl:B= .none:=Dflts.none t g;obtain rfl:kV= .none:=Dflts.noKw t;obtain⟨a,v,N,rfl,rfl,b,h,c⟩:=ZJ x H k;refine enter_call$ LA (call w S s m M F o p C D a v N G Y E (fd_plain I) i j b h c J) λr e P=>?_;obtain⟨rfl,Q,R,T⟩:=P;exact#[.inl #[.bool true,.bool true,[],Z,λ_=>Z,.bool true,ZK l _,λ_=>#[List.Pairwise.nil,λ_ U=>(nomatch U)]],Q,R,T]
end Att
namespace _L
open PySem PySem.Spec PyProof.Rows
theorem Qr:∀{v:List Value} {N:List Int},IntsAre v N->au (N.map V.int) v
 |_,_,.nil=>.nil
 |_,_,.cons n t h=>.cons #[t,Z] (Qr h)
def y9(H:Hp):Prop:=∀b,H b=none∨∃o x,H b=some (.frz o$ .lst x)
theorem rn{P:Program}{K:Frag}{S:Shared}{i:List Value}
  (Y:K.In S.heap) (l:S.heap.Ns mainGlobals M) (c:S.heap.Ns builtinsNs mb) (Q:∀x:Str,x≠"__name__"->mb x=bootBuiltins x) (p:S.heap.NoLimit) (hg:S.gens=(List.toArray []))
  (J:S.heap.get? a=some { cls:=.type "list",data:=.seq i.toArray }) (hi:IntsAre i O) (hl:O.length<=sizeLine) (hr:bn k callerA)
  (F:∀f:Heap,K.In f->f.Ns mainGlobals M->ah P w K M f CX k fa fd [x] sp) (j:∀(s:Shared) (u:Value),BindsTo s fd #[[u],[]] [(x,u)])
  (R:∀H:Hp,y9 H->aB K H a (O.map V.int)->sp [.ref a] H (λv _=>v= .bl true) λ_ _ _=>False)
  (T:∀H e g,CX [] H S (λ_ _ _=>False) e g->False):
  codeAny (model P w) callerA (.call (.ref fa) #[[.ref a],[]]) (λr g=>r= .ok (.ret$ .bool true)/\OldK S.heap g.heap/\g.os=S.os/\AllBare g.gens) S:=by
 have rv:=Qr hi;have L:=hi.length;have C:∀H:Hp,y9 H->aB K H a (O.map V.int)->eh P w H S.heap->(∀b,H b≠none->b=a)->(H a≠none->K.lookup a=none)->
   codeAny (model P w) callerA (.call (.ref fa) #[[.ref a],[]]) (λr g=>r= .ok (.ret$ .bool true)/\OldK S.heap g.heap/\g.os=S.os/\AllBare g.gens) S:=by
  intro H hO hS t hA hK;have B:∀{b:Addr} {o:Obj},S.heap.get? b=some o->H b=none->(iF S.heap H).get? b=some o:=λe n=>p7 e n;have U:∀{b:Addr} {o:Obj} {E:Array DictEntry} {y:Nat},S.heap.get? b=some o->o.data= .dict E y->H b=none:=λ{b o E y} e d=>by
   cases q:H b with
   |none=>rfl
   |some u=>have W:b=a:=hA b (by rw[q];simp);subst W;rw[J]at e;cases e;have d':Data.seq i.toArray _=Data.dict E y:=d;cases d'
  have N:∀{b:Addr} {m:Str->Option Value},S.heap.Ns b m->(iF S.heap H).Ns b m:=λ{b m} #[o,E,y,e,d,r]=>#[o,E,y,B e$ U e d,d,r];have A:K.In (iF S.heap H):=λb o e=>B (Y b o e) (by
   cases q:H b with
   |none=>rfl
   |some u=>
    have W:b=a:=hA b (by rw[q];simp);subst W;rw[hK (by rw[q];simp)]at e;cases e)
  have hM:Mod K M (iF S.heap H):=#[A,N l,#[mb,N c,Q],let #[mc,h1,h2]:=p;#[mc,N h1,h2]];have e0:mh P w K M (iF S.heap H) callerA [] S H:=#[Z,hM,λb o e=>we e,NA$ ZA _ _,trivial,λb c=>absurd (show b∈([]:List Addr) from c) Si,t,.of_eq hg];refine LA ((F _ A$ N l).run callerA [] S H #[[.ref a],[]] [.ref a] [.ref a] _ _ hr e0 (j S$ .ref a) (.cons Z .nil) (R H hO hS)) λr g h=>?_;cases r with
  |error e=>exact(T H e g h).elim
  |ok fl=>
   cases fl with
   |next=>exact False.elim h
   |brk=>exact False.elim h
   |cont=>exact False.elim h
   |ret u=>
    obtain⟨v,H',os,D,un,G,r',q⟩:=h;have q':v= .bl true:=q;subst q';obtain rfl:u=Value.bool true:=r';refine#[Z,OldK.of_keep λb o e=>?_,os,D];cases q:H b with
    |none=>exact un.keep b o e q (by intro z;exact absurd (show b∈([]:List Addr) from z) Si) Si
    |some u=>
     rcases hO b with z | ⟨ob,xs,z⟩
     ·rw[q]at z;cases z
     ·have z2:=un.frzs b ob _ z;obtain⟨e1,_⟩:=t b _ z;obtain⟨e2,_⟩:=G b _ z2;rw[e]at e1;cases e1;exact e2
 cases X:K.lookup a with
 |some o=>have e:=Y a o X;rw[J]at e;cases e;refine C (λ_=>none) (λ_=>.inl Z) (.inr #[_,i.toArray,_,X,Z,Z,Z,by rw[Hh,L];exact hl,by simpa using rv]) (λb u z=>by have I:(none:Option HO)=some u:=z;cases I) (λb z=>absurd Z z) λz=>absurd Z z
 |none=>
  refine C (λb=>if b=a then some (.frz { cls:=.type "list",data:=.seq i.toArray }$ .lst$ O.map V.int) else none) (λb=>?_) (.inl$ .inr #[{ cls:=.type "list",data:=.seq i.toArray },HD Z]) (λb u z=>?_) (λb z=>?_) λ_=>X
  ·by_cases c:b=a
   ·exact .inr #[_,_,HD c]
   ·exact .inl$ HG c
  ·by_cases c:b=a
   ·have I:=(HD c).symm.trans z;cases I;subst c;exact#[J,by rw[He];exact hl,i,_,rv,J]
   ·have I:=(HG c).symm.trans z;cases I
  ·by_cases c:b=a
   ·exact c
   ·exact absurd (HG c) z
theorem yb{l:PySem.W.OpenLaw}{n k:Nat}{E:World->Heap->Prop}{d:DefRec}{K:Params->Frag}{CX:World->mY}{sp:World->Sp}{x:Str}
  (O:l.most=some n) (r:n<=sizeLine) (t:d.params.defaults=[]) (P:bn k callerA)
  (Q:∀(w:World) (h:Heap),E w h->(K w.params).In h)
  (F:∀(w:World) (m:Str->Option Value) (p:Addr) (h:Heap),(K w.params).In h->h.Ns mainGlobals m->m d.name=some (.ref p)->
   ∃y:FuncData,(∀(s:Shared) (u:Value),BindsTo s y #[[u],[]] [(x,u)])/\
    ∀B:Heap,(K w.params).In B->B.Ns mainGlobals m->ah l.prog w (K w.params) m B (CX w) k p y [x] (sp w))
  (z:∀(w:World) (H:Hp) (a:Addr) (N:List Int),N.length<=n->y9 H->aB (K w.params) H a (N.map V.int)->sp w [.ref a] H (λv _=>v= .bl true) λ_ _ _=>False)
  (A:∀(w:World) (H:Hp) (s:Shared) (e:Value) (C:Shared),CX w [] H s (λ_ _ _=>False) e C->False):
  PySem.W.WalkO q L XP E l.row.toRowW d [] (λf I=>PySem.call f I):=by
 refine Att.attach_call O t λw J S m mb p o pm cd R a I N G Y ho hd U D j i c X=>?_;have M:=Q w _ Y;obtain⟨y,hb,hF⟩:=F w m p _ M G.T.g D;exact rn M G.T.g G.T.b G.T.builtins G.T.nolimit X j i (Hr c r) P hF hb (λH hO hS=>z w H a N c hO hS) λH e C=>A w H S e C
noncomputable def bV(s:Stmt)(j:Nat):Stmt:=match s with
 | .ClassDef _ _ _ b _ _ _ _ _ _ _=>b.getD j (.Pass #[0,0,0,0])
 |_=>.Pass #[0,0,0,0]
noncomputable def bo(s:Stmt):Arguments:=match s with
 | .FunctionDef _ a _ _ _ _ _ _ _ _=>a
 |_=>{ posonlyargs:=[],args:=[],vararg:=none,kwonlyargs:=[],kw_defaults:=[],kwarg:=none,defaults:=[] }
noncomputable def ba(s:Stmt):List Stmt:=match s with
 | .FunctionDef _ _ b _ _ _ _ _ _ _=>b
 |_=>[]
noncomputable def aa(s:Stmt):Scope:=match s with
 | .FunctionDef _ _ _ _ _ _ S _ _ _=>S
 |_=>{ kind:=.function,names:=[],isGenerator:=false,isCoroutine:=false }
abbrev aA:mY:=λ_ _ _ _ _ _=>False
abbrev E0:XK:=λ_ _ _=>False
theorem bp{X:Cx}:dh aA X E0:=λ_ _ _ _ _ _ _ h=>h.elim
structure aK(K:Frag)(x qual:Str)(st:Stmt)(f:Addr)(fd:FuncData):Prop where
 ex:∃(oc:Value) (od:Option Addr) (kV doc pm:Value) (an:Option Addr) (cdv ct:Value) (osl:Array (Option Value)),
  fd=fnOf x qual (bo st) (ba st) (aa st) .none kV doc pm an cdv ct/\K.lookup f=some #[oc,od,.func fd,osl]/\codeIn K cdv qual=true
 kp:keepIn K (.ref f)=true
section
variable {P:Program}{w:World}{K:Frag}{mg:Str->Option Value}{base:Heap}
theorem aK.ok{st:Stmt}{d:Sp}(F:aK K x a st f i)(S:ak N p (aa st))(len:∀v H Q E,d v H Q E->v.length=p.length)
  (b:∀(c:Value) (A:Around) (o:List Env) (s:Shared) (H:Hp) (v:List V) (Q:VK) (E:XK),bn k (A.deeper$ envOfC a (aa st) s.heap.objs.size f c)->d v H Q E->
   ∃t,iE (eQ aA P w K mg base N a (aa st) f c A o s H E).nox (ba st) t/\t { nx:=λ_ j=>Q .non j,rt:=Q } (fQ N v) H):ah P w K mg base aA (k+1) f i p d:=by
 obtain⟨m,n,kV,D,r,u,c,C,O,rfl,lk,e⟩:=F.ex;refine yz lk e S len λA o s H v Q E l g=>?_;obtain⟨t,h,q⟩:=b c A o s H v Q E l g;exact#[t,h.nox,q]
theorem aK.binds{st:Stmt}{p:List Str}(F:aK K x q st f b)
  (h:∀(kV d a:Value) (A:Option Addr) (c C:Value) (u:List Value),u.length=p.length->bindArgs (fnOf x q (bo st) (ba st) (aa st) .none kV d a A c C) #[u,[]]=pure (p.zip u)):ay K b p []:=by
 obtain⟨O,e,kV,d,a,A,c,C,o,rfl,lk,H⟩:=F.ex;exact .all$ h kV d a A c C
theorem pX{st:Stmt}{kV:Value}(l:K.lookup f=some #[O,e,.func$ fnOf x q (bo st) (ba st) (aa st) .none kV d p a C b,o])
  (c:codeIn K C q=true) (k:keepIn K (.ref f)=true):aK K x q st f (fnOf x q (bo st) (ba st) (aa st) .none kV d p a C b):=#[#[O,e,kV,d,p,a,C,b,o,Z,l,c],k]
end
theorem zY(h:bn k A):A.units+1 < cLine:=IV (OU (by decide:1<=64) _) h.units
section
variable {X:Cx}
theorem pv(i:Nat){x:Str}{p:Pos}(H:X.N[i]?=some x:=by rfl)(a:EK X.env.scope x:=by first |exact Or.inl Z |exact Or.inr (Or.inl Z) |exact Or.inr$ Or.inr Z)(b:(x==("__debug__":Str))=false:=by decide)
  (h:(x==("__classdict__":Str))=false:=by decide):PE X (.Name x p) (aV i):=BE H a b h
end
theorem ou{A B:Prop}(h:B):if false=true then A else B:=by rw[HG Hl];exact h
theorem oy{A B:Prop}(h:A):if true=true then A else B:=by rw[HD Z];exact h
theorem bG{c A B:Prop}[Decidable c](H:c->A)(a:¬c->B):if c then A else B:=by
 by_cases h:c
 ·rw[HD h];exact H h
 ·rw[HG h];exact a h
def ae(H h:Hp):Prop:=∀b o,H b=some o->h b=some o
theorem ae.refl(H:Hp):ae H H:=λ_ _ h=>h
theorem ae.trans(a:ae H d)(b:ae d e):ae H e:=λc o h=>b c o (a c o h)
theorem ae.free(e:ae H a)(h:a l=Option.none):H l=Option.none:=by
 cases q:H l with
 |none=>rfl
 |some o=>rw[e l o q]at h;cases h
theorem ae.seq{K:Frag}(e:ae H b)(h:aB K H a x):aB K b a x:=by
 rcases h with (h | ⟨o,h⟩) |h
 ·exact .inl$ .inl$ e _ _ h
 ·exact .inl$ .inr #[o,e _ _ h]
 ·exact .inr h
section
variable {prog:Program}{w:World}{A:Around}{R:Result->Shared->Prop}{s:Shared}
abbrev yl:Value->Shared->Prop:=λ_ _=>False
theorem ZL{iter:Expr}(I:Nat->Shared->Prop)
  (T:∀n s,I n s->wpAny (model prog w) A (pyNext B) (λr S=>match r with
   |none=>R (.ok .next) S
   |some v=>wpAny (model prog w) A (letOwnedTupleGo t B v) (λ_ b=>wpAny (model prog w) A (assign t e v) (λ_ d=>
     wpAny (model prog w) A (forIn l true λc r=>if r=true then do let o <- isTrue c e (eval c e);pure (ForInStep.yield o) else pure (ForInStep.yield r)) (λo a=>
      if o=true then wpAny (model prog w) A (eval E e) (λx g=>
       wpAny (model prog w) A (call (.builtin "list.append") [p,x]) (λ_ i=>∃m,m < n/\I m i) yl g) yl a
      else ∃m,m < n/\I m a) yl d) yl b) yl S) yl s)
  (n:Nat) (h:I n s):
  codeAny (model prog w) A (.compLoop (.ListComp E [#[t,iter,l,0]] k C) 0 B p e) R s:=by
 refine codeAny_loop Z I (λn s D=>?_) n h;show wpAny _ A ((compTurn (.ListComp E [#[t,iter,l,0]] k C) 0 B p e).onRaise (λx=>do noteFrame x e;theTreesLotGoes x)) _ _ s;refine wpAny_noted ?_;rw[compTurn_list];refine GZ$ LC$ GZ$ Ik (T n s D) (λr S H=>?_) λ_ _ f=>f.elim;cases r with
 |none=>exact Hc H
 |some v=>
  refine GZ$ Ik H (λ_ b q=>?_) λ_ _ f=>f.elim;refine GZ$ Ik q (λ_ d u=>GZ (Ik u (λo a j=>?_) λ_ _ f=>f.elim)) λ_ _ f=>f.elim;cases o with
  |false=>exact Hc #[Z,j]
  |true=>exact GZ$ GZ$ Ik j (λx g y=>GZ (Ik y (λ_ i z=>Hc (Hc #[Z,z])) λ_ _ f=>f.elim)) λ_ _ f=>f.elim
end
noncomputable def aX(X:Cx)(s:Scope)(M:List Str)(c:List (Str×Addr))(C:Addr)(f:List Addr)(S:Shared)(H:Hp):Cx where
 prog:=X.prog
 w:=X.w
 K:=X.K
 mg:=X.mg
 base:=X.base
 A:=X.A
 N:=M
 s₀:=S
 H₀:=H
 env:=compEnvC s c C X.env
 outer:=X.stack
 stack:=X.stack
 ex:=f
 fn:=λ_=>false
 calm:=X.calm
 pn:=[]
 xe:=λ_ _=>False
noncomputable def CV(n:Nat)(I:List Nat)(a:St):St:=List.replicate n none++I.map λi=>(a[i]?).getD none
structure aT(N:List Str)(sc scope:Scope)(M:List Str)(nT:Nat)(ix:List Nat):Prop where
 cell:∀y∈scope.names,y.2≠ .cell
 kind:scope.kind= .function
 loc:∀y∈scope.names,y.2= .local->scope.names.lookup y.1=some .local
 fre:∀y∈scope.names,y.2= .free->sc.names.lookup y.1=some .cell
 nms:M.drop nT=ix.map λi=>N.getD i Str.empty
 len:M.length=nT+ix.length
 vis:∀i∈ix,scope.names.lookup (N.getD i Str.empty)=some .free
theorem qZ{E:Env}(c:E.scope.kind= .function):∀{N:List (Str×NameKind)} {y:Str},N.lookup y=some .free->E.kindOf y=some .cell->
  (N.map λ(n,k)=>if (k==NameKind.free&&E.scope.kind== .function&&E.kindOf n==some .cell) then (n,NameKind.cell) else (n,k)).lookup y=some .cell
 | [],_,h,_=>by simp at h
 | (n,k)::r,y,h,b=>by
  have i:=@qZ E c r y;show List.lookup y ((if (k==NameKind.free&&E.scope.kind== .function&&E.kindOf n==some .cell)=true then (n,NameKind.cell) else (n,k))::_)=_;cases H:y==n with
  |true=>
   simp only[Iy,H]at h;cases h;have e:y=n:=by simpa using H
   subst e;rw[HD (by rw[c,b];rfl)];simp [Iy]
  |false=>
   simp only[Iy,H]at h;by_cases a:(k==NameKind.free&&E.scope.kind== .function&&E.kindOf n==some .cell)=true
   ·rw[HD a];simp only[Iy,H];exact i h b
   ·rw[HG a];simp only[Iy,H];exact i h b
theorem Kz{E:Env}:∀{N:List (Str×NameKind)} {y:Str} {K:NameKind},
  (N.map λ(n,k)=>if (k==NameKind.free&&E.scope.kind== .function&&E.kindOf n==some .cell) then (n,NameKind.cell) else (n,k)).lookup y=some K->
  ∃k,N.lookup y=some k/\(K=k∨k= .free)
 | [],_,_,h=>by simp at h
 | (n,k)::r,y,K,h=>by
  have i:=@Kz E r y K;have h:List.lookup y ((if (k==NameKind.free&&E.scope.kind== .function&&E.kindOf n==some .cell)=true then (n,NameKind.cell) else (n,k))::_)=some K:=h;cases a:y==n with
  |true=>
   refine#[k,by simp only[Iy,a],?_];by_cases H:(k==NameKind.free&&E.scope.kind== .function&&E.kindOf n==some .cell)=true
   ·right;simp only[IE]at H;simpa using H.1.1
   ·rw[HG H]at h;simp only[Iy,a]at h;left;exact(HV h).symm
  |false=>
   have b:List.lookup y (r.map λ(n,k)=>if (k==NameKind.free&&E.scope.kind== .function&&E.kindOf n==some .cell) then (n,NameKind.cell) else (n,k))=some K:=by
    by_cases H:(k==NameKind.free&&E.scope.kind== .function&&E.kindOf n==some .cell)=true
    ·rw[HD H]at h;simp only[Iy,a]at h;exact h
    ·rw[HG H]at h;simp only[Iy,a]at h;exact h
   obtain⟨c,e,q⟩:=i b;exact#[c,by simp only[Iy,a];exact e,q]
noncomputable def aR(e:Env):List (Str×NameKind)->List (Str×Addr)->List (Str×Addr)
 | [],a=>a
 | (n,k)::r,a=>if k== .free then aR e r ((n,(e.cells.lookup n).getD 0)::a) else aR e r a
theorem zR{E:Env}:∀{N:List (Str×NameKind)} {acc:List (Str×Addr)},(∀y∈N,y.2= .free->∃c,E.cells.lookup y.1=some c)->(∀x c,acc.lookup x=some c->E.cells.lookup x=some c)->
  ∀x c,(aR E N acc).lookup x=some c->E.cells.lookup x=some c
 | [],_,_,b,x,c,h=>b x c h
 | (n,k)::r,acc,f,b,x,c,h=>by
  unfold aR at h;by_cases g:(k==NameKind.free)=true
  ·rw[HD g]at h;refine zR (λy H=>f y (HQ _ H)) (λX j a=>?_) x c h;obtain⟨C,d⟩:=f (n,k) HI (by simpa using g);have d:E.cells.lookup n=some C:=d;simp only[Iy]at a;cases i:X==n with
   |true=>
    rw[i]at a;have e:X=n:=by simpa using i
    subst e;rw[d]at a;rw[d];exact a
   |false=>rw[i]at a;exact b _ _ a
  ·rw[HG g]at h;exact zR (λy H=>f y (HQ _ H)) b x c h
theorem ql:∀{a:List (Str×Addr)},(∃c,(x,c)∈a)->∃c,a.lookup x=some c
 | [],h=>by obtain⟨_,h⟩:=h;cases h
 | (n,c)::r,h=>by
  simp only[Iy];cases H:x==n with
  |true=>exact#[c,Z]
  |false=>
   obtain⟨C,h⟩:=h;rcases List.mem_cons.mp h with e |h
   ·injection e with E _;subst E;simp at H
   ·exact ql #[C,h]
theorem qE:∀{N:List (Str×NameKind)} {a:List (Str×Addr)},((∃c,(x,c)∈a)∨(x,NameKind.free)∈N)->∃c,(x,c)∈aR E N a
 | [],_,h=>by
  rcases h with h |h
  ·exact h
  ·cases h
 | (n,k)::r,a,h=>by
  unfold aR;by_cases H:(k==NameKind.free)=true
  ·rw[HD H];refine qE ?_;rcases h with ⟨c,h⟩ |h
   ·exact .inl #[c,HQ _ h]
   ·rcases List.mem_cons.mp h with e |h
    ·injection e with b _;subst b;exact .inl #[_,HI]
    ·exact .inr h
  ·rw[HG H];refine qE ?_;rcases h with h |h
   ·exact .inl h
   ·rcases List.mem_cons.mp h with e |h
    ·injection e with _ d;subst d;exact absurd Z H
    ·exact .inr h
theorem qu{e:Env}:∀(N:List (Str×NameKind)) (A:List (Str×Addr)),(∀y∈N,y.2= .free->∃c,e.cells.lookup y.1=some c)->
  (forIn N A (λx r=>match x with | (name,K)=>if (K==NameKind.free)=true then (do let a <- cellOf e name;pure (ForInStep.yield ((name,a)::r))) else pure (ForInStep.yield r)):Sem (List$ Str×Addr))=pure (aR e N A)
 | [],A,_=>rfl
 | (n,k)::r,A,b=>by
  have i:=λA=>qu r A λy H=>b y (HQ _ H);rw[IZ];unfold aR;by_cases h:(k==NameKind.free)=true
  ·obtain⟨C,E⟩:=b (n,k) HI (by simpa using h);have E:e.cells.lookup n=some C:=E;have d:cellOf e n=pure C:=by unfold cellOf;rw[E]
   rw[HD h];simp only[h,Ms,d,E];exact i _
  ·rw[HG h];simp only[h];exact i _
theorem qv{e:Env}{S:Scope}(H:∀y∈S.names,y.2= .free->∃c,e.cells.lookup y.1=some c):closureFor S e=pure (aR e S.names []):=by have h:=qu S.names [] H;exact IC (λt:Sem (List$ Str×Addr)=>t >>= λs=>pure s) h
section
variable {X:Cx}{pins:List (Addr×Obj)}{σ:St}{H:Hp}{s:Shared}
theorem qU(I:ap X pins σ H s)(S:aT X.N X.env.scope a M n i):∀y∈a.names,y.2= .free->∃c,X.env.cells.lookup y.1=some c:=
 λy h e=>I.ok.has y.1 (.inl$ S.fre y h e)
theorem pF{g:Heap}(I:ap X pins σ H s)(F:∀b∈Y,eP X pins H b)(P:∀b∈Y,b < s.heap.objs.size)
  (S:aT X.N X.env.scope a M n G) (Q:s.heap.objs.size<=C) (O:∀b o,s.heap.get? b=some o->g.get? b=some o) (R:g.Ns C m):
  ap (aX X a M (aR X.env a.names []) C Y s H) [] (CV n G σ) H { s with heap:=g,toks:=tk }:=by
 have sub:∀x c,(aR X.env a.names []).lookup x=some c->X.env.cells.lookup x=some c:=zR (qU I S) (λx c h=>by simp at h);have j:∀x,a.names.lookup x=some .free->∃c,(aR X.env a.names []).lookup x=some c:=λx e=>ql (qE$ .inr$ IM e);have hex:∀x K,(relabel a X.env).names.lookup x=some K->(K= .cell∨K= .free)->a.names.lookup x=some .free:=λx K e A=>by
  obtain⟨k,t,q⟩:=Kz e;rcases q with q |q
  ·rcases A with z |z
   ·exact absurd (q.symm.trans z)$ S.cell (x,k)$ IM t
   ·rw[t,<- q,z]
  ·rw[t,q]
 refine#[#[I.ok.mod,S.kind,I.ok.glob,I.ok.blt,Q,λx y c h1 h2=>I.ok.inj x y c (sub x c h1) (sub y c h2),λx hx=>?_,λx c hx=>?_,I.ok.hd,I.ok.frames,.inl Z,λb w=>#[λz=>?_,λx c e=>?_],I.bs,Hr I.ok.bsz I.sz,λb o e w=>?_,λb w hz=>?_,I.stack,I.stkFree],
  rfl,I.bare,Un.kept O,#[m,R,λk y v t E _=>?_],λx c e=>?_,I.hok.fresh Q,λx c e=>I.freeC x c (sub x c e),λp hp=>absurd (show p∈([]:List (Addr×Obj)) from hp) Si,I.hok.kept O,?_]
 ·rcases hx with hx |hx
  ·exact j x$ hex x _ hx$ .inl Z
  ·exact j x$ hex x _ hx$ .inr Z
 ·exact absurd (show false=true from hx) Se
 ·have z':b=C:=z;have:=P b w;rw[z']at this;exact absurd this$ Nat.not_lt.mpr Q
 ·exact(F b w).2.2.2.2.1 x c (sub x c e)
 ·rcases(F b w).2.2.2.1 with z |z
  ·exact I.ok.noex b o e z
  ·exact absurd (Hq (Hi e)$ Hr I.ok.bsz z)$ Ip _
 ·rcases List.mem_cons.mp (I.stkSub b hz) with z |z
  ·exact(F b w).2.1 z
  ·exact(F b w).2.2.1 z
 ·have E:(CV n G σ)[k]?=some (some v):=E;have t:M[k]?=some y:=t;unfold CV at E;by_cases A:k < n
  ·rw[Li (by simpa using A),Oo]at E;simp [A]at E
  ·have B:n<=k:=Pt A;rw[Ld (by simpa using B),M5,HE]at E;cases J:G[k - n]? with
   |none=>rw[J]at E;cases E
   |some i=>
    rw[J]at E;have L:(σ[i]?).getD none=some v:=HV E;have V:σ[i]?=some (some v):=by
     cases W:σ[i]? with
     |none=>rw[W]at L;cases L
     |some o=>rw[W]at L;exact IC some L
    have hi:i < X.N.length:=by rw[<- I.len];exact(List.getElem?_eq_some_iff.mp V).1
    have e7:y=X.N.getD i Str.empty:=by
     have q:(M.drop n)[k - n]?=some y:=by rw[List.getElem?_drop];rw[OT B];exact t
     rw[S.nms,HE,J]at q;exact(HV q).symm
    have e8:X.N[i]?=some y:=by rw[e7,G8 hi,Io,G8 hi];rfl
    have d:a.names.lookup y=some .free:=by rw[e7];exact S.vis i$ Hu J
    have f:X.env.scope.names.lookup y=some .cell:=S.fre (y,.free) (IM d) Z;obtain⟨m',_,hl⟩:=I.loc;obtain⟨u,r,l⟩:=hl i y v e8 V (.inr$ .inl f);refine#[u,r,?_];rcases l with ⟨l,_⟩ | ⟨_,c,ec,o,T,U⟩
    ·have l:X.env.scope.names.lookup y=some .local:=l;rw[f]at l;cases l
    ·obtain⟨c',D⟩:=j y d;have q:=sub y c' D;rw[ec]at q;cases q;exact .inr #[.inl$ qZ I.ok.kind d f,c,D,o,O _ _ T,U]
 ·obtain⟨v,o,T,U⟩:=I.cell x c (sub x c e);exact#[v,o,O _ _ T,U]
 ·show(CV n G σ).length=M.length;rw[S.len];simp [CV]
theorem ap.track(I:ap X pins σ H s)(f:eP X pins H D)(G:X.s₀.heap.objs.size<=D)(a:aF X.prog X.w (af H D o) s.heap D o):ap X pins σ (af H D o) s:=by
 have n:=f.1;have N:∀b u,H b=some u->b≠D:=λb u e=>jl e n;refine#[I.ok,I.os,I.bare,#[I.base.keep,I.base.slot,λb O e q i=>?_,I.base.there,λb d e=>?_,λb O u e=>?_,λb P e=>?_],I.loc,I.cell,?_,λx c e=>?_,λp h=>?_,λb u e=>?_,I.len]
 ·rw[ji$ Hm$ Hq (Hi e) G];exact I.base.free b O e q i
 ·have q:=I.base.tups b d e;rw[ji$ N _ _ q];exact q
 ·have q:=I.base.frzs b O u e;rw[ji$ N _ _ q];exact q
 ·obtain⟨m,q⟩:=I.base.tbls b P e;exact#[m,by rw[ji$ N _ _ q];exact q]
 ·rw[ji$ HR f.2.1];exact I.free
 ·rw[ji$ f.2.2.2.2.1 x c e];exact I.freeC x c e
 ·obtain⟨e,q,r⟩:=I.pin p h;exact#[e,by rw[ji$ f.2.2.2.2.2 p h];exact q,r]
 ·by_cases g:b=D
  ·subst g;rw[jc]at e;cases e;exact a
  ·rw[ji g]at e;exact(I.hok b u e).stay (λ_ _ _ q=>q) (λc q=>by rw[ji$ N _ _ q];exact q) λc d q=>by rw[ji$ N _ _ q];exact q
noncomputable abbrev io(u:List Value):Obj:={ cls:=.type "list",data:=.seq u.toArray u.length }
theorem ZM(u:List Value)(y:Value):({ cls:=.type "list",data:=.seq (u.toArray.push y) (u.length+1) }:Obj)=io (u++[y]):=by show({ cls:=.type "list",data:=.seq (u.toArray.push y) (u.length+1) }:Obj)={ cls:=.type "list",data:=.seq (u++[y]).toArray (u++[y]).length };rw[Hf,Lx,List.push_toArray]
def PF(X:Cx)(i:List Expr)(t:TT):Prop:=
 ∀(pins:List (Addr×Obj)) (s:Shared) (σ:St) (H:Hp) (Q:Bool->Hp->Prop),ap X pins σ H s->t σ H Q->
  wpAny (model X.prog X.w) X.A (forIn i true λc r=>if r=true then do let o <- isTrue c X.env (eval c X.env);pure (ForInStep.yield o) else pure (ForInStep.yield r)) (TP X pins σ Q) X.xe s
def j':TT:=λ_ H Q=>Q true H
theorem kM:PF X [] j':=λ_ _ _ H _ I h=>wpAny_tests_nil #[H,I,h]
theorem sq{c:Expr}{t:TT}(h:PT X c t):PF X [c] t:=λpins s σ H Q I q=>wpAny_tests_one (h pins s σ H Q I q)
noncomputable def nH(I:List Nat)(σ:St):St:=I.map λi=>(σ[i]?).getD none
def dI(J:It)(n:Nat)(t:St)(g:TG)(j:TT)(k:TE)(Q:List V->Hp->Prop)(H:Hp):Prop:=
 ∃W:Nat->Nat->List V->Hp->Prop,(∃m,W 0 m [] H)/\∀i m Y H,W i m Y H->
  (J.stop i H/\Q Y H)∨(J.go i H/\Y.length < sizeLine/\∃N:List V->Hp->Prop,(∀c h,N c h->∃M,M < m/\W (i+1) M c h)/\
   ∀x d (e:St),e.length=n->J.yld i H x d->g x (e++t) d λa h=>(∃T:St,T.length=n/\a=T++t)/\j a h λb f=>if b=true then k a f λy l=>N (Y++[y]) l else N Y f)
theorem KB{iter:Expr}
  {RR:Value->Addr->Result->Shared->Prop} 
  (I:ap X pins σ H s) (hc:X.calm=true) (T:ms X.prog X.w X.K tg J k it tn) (st:tn 0 s.heap) (hf:∀b∈k,eP X pins H b) (S:aT X.N X.env.scope scope M nT ix)
  (hg:∀cl C k s H,PG (aX X scope M cl C k s H) tg g) (hi:∀cl C k s H,PF (aX X scope M cl C k s H) i0 tt) (he:∀cl C k s H,PE (aX X scope M cl C k s H) e0 te)
  (h:dI J nT (nH ix σ) g tt te Qf H)
  (h9:∀D C Y m t G,(∀b o u,H b=some (.frz o u)->t b=some (.frz o u))->t D=none->ap X pins σ (af t D$ .lst Y) G->eP X pins (af t D$ .lst Y) C->G.heap.Ns C m->Qf Y t->RR (.ref D) C (.ok .next) G):
  wpAny (model X.prog X.w) X.A (newList []) (λacc B=>wpAny (model X.prog X.w) X.A (newFunctionEnv scope X.env.globals (aR X.env scope.names []) [] X.env.qual none .none$ some X.env) (λc0 s0=>
   codeAny (model X.prog X.w) X.A (.compStart (.ListComp e0 [#[tg,iter,i0,0]] scope p1) 0 (.ref it) acc { c0 with scope:=relabel scope X.env }) (RR acc c0.locals) s0) E B) E s:=by
 obtain⟨W,⟨m0,w0⟩,t1⟩:=h;have h3:∀b∈k,b < s.heap.objs.size:=λb a=>by obtain⟨o,e,_⟩:=T.obj 0 _ st b a;exact Hi e
 refine HY$ wpAny_newFunctionEnv S.cell (by intro y hy;simp at hy) (λF l f=>?_) S.kind;dsimp only at l f ⊢;generalize h4:s.heap.push { cls:=.type "list",dict:=none,data:=.seq ([]:List Value).toArray }=H2 at l f ⊢;have hC:H2.objs.size=s.heap.objs.size+1:=by rw[<- h4,Ij]
 have P:s.heap.objs.size≠H2.objs.size:=by rw[hC];exact Hm$ IF _
 have h0:s.heap.objs.size<=H2.objs.size:=by rw[hC];exact IL _
 have b0:∀b,b < s.heap.objs.size->b≠H2.objs.size/\b≠s.heap.objs.size:=λb a=>#[by rw[hC];exact Hm$ Lo a,Hm a];have o1:∀b o,s.heap.get? b=some o->F.get? b=some o:=λb o e=>f.extBut b o (b0 b$ Hi e).1 (Hd _$ h4▸Hd _ e);have h5:F.get? s.heap.objs.size=some (io []):=f.extBut _ _ P (Hd _$ h4▸Hj _ Z);have h':H s.heap.objs.size=none:=I.hok.fresh (Hg _);have h6:s.heap.objs.size∉im X.stack:=λa=>(List.mem_cons.mp$ I.stkSub _ a).elim (λe=>absurd I.lt (by rw[<- e];exact Ip _)) (I.nofs$ Hg _);generalize hD:s.heap.objs.size=D at*;generalize a6:H2.objs.size=C at*;have J0:∀tk,ap (aX X scope M (aR X.env scope.names []) C k s H) [] (CV nT ix σ) H { s with heap:=F,toks:=tk }:=λtk=>pF I hf (by rw[hD];exact h3) S (by rw[hD];exact h0) o1 l;have c1:∀x c,(aR X.env scope.names []).lookup x=some c->c≠D:=λx c e z=>by have sub:=zR (qU I S) (acc:=[]) (λx c h=>by simp at h) x c e;obtain⟨v,o,ho,_⟩:=I.cell x c sub;have:=Hi ho;rw[z,hD]at this;exact Ip _ this
 have p0:∀{σ0:St} {t:Hp} {G:Shared} {U:List Value},ap (aX X scope M (aR X.env scope.names []) C k s H) [] σ0 t G->G.heap.get? D=some (io U)->t D=none->
   ap (aX X scope M (aR X.env scope.names []) C k s H) [(D,io U)] σ0 t G:=λ{σ0 t G U} I' e n=>I'.pins_of λp hp=>by
  have ep:p=(D,io U):=by simpa using hp
  subst ep;exact#[e,n,P,h6,λv z=>by cases z]
 have L:∀{t:Hp} {U:List Value},(∀b∈k,t b=none)->∀b∈k,eP (aX X scope M (aR X.env scope.names []) C k s H) [(D,io U)] t b:=λ{t U} hn b a=>
  #[hn b a,((J0 0).ok.exf b a).1,(J0 0).ok.exfs b a,.inl a,((J0 0).ok.exf b a).2,λp hp z=>by
   have ep:p=(D,io U):=by simpa [aX] using hp
   rw[ep]at z;have:=h3 b a;rw[<- z]at this;exact Ip _ this]
 have l0:∀B:Shared,(∃tk,B={ s with heap:=F,toks:=tk })->
   codeAny (model X.prog X.w) X.A (.compLoop (.ListComp e0 [#[tg,iter,i0,0]] scope p1) 0 (.ref it) (.ref D)$ compEnvC scope (aR X.env scope.names []) C X.env) (RR (.ref D) C) B:=by
  rintro B ⟨tk,rfl⟩;refine ZL (λn G=>∃i Y U ts t,ts.length=nT/\ap (aX X scope M (aR X.env scope.names []) C k s H) [(D,io U)] (ts++nH ix σ) t G/\au Y U/\Y.length<=sizeLine/\tn i G.heap/\(∀b∈k,t b=none)/\W i n Y t) ?_ m0
   #[0,[],[],List.replicate nT none,H,M5,p0 (J0 tk) h5 h',.nil,Ho _,T.keep _ _ _ st λb a o e=>o1 b o e,λb a=>(hf b a).1,w0]
  rintro n s1 ⟨i,Y,U,ts,Q,a0,I1,rv,hz,s7,f0,w1⟩;rcases t1 i n Y Q w1 with ⟨stop,q⟩ | ⟨go,a1,N,hN,step⟩
  ·refine aJ (T.done (aX X scope M (aR X.env scope.names []) C k s H) Z Z Z hc i _ s1 _ Q yl I1 (L f0) s7 stop) λr s2 j=>?_;obtain⟨hr,I2⟩:=j;subst hr;have IO:ap X pins σ Q s2:=I.call' (ch:=k) I2.os I2.base I2.hok I2.bare λb a=>#[(hf b a).2.2.2.1,(hf b a).2.1,(hf b a).2.2.2.2.1,(hf b a).2.2.2.2.2];have pD:=I2.pin (D,io U) (by simp [aX]);have h8:Q D=none:=pD.2.1;have fD:eP X pins Q D:=by rw[<- hD];exact I.fpOk (Hg _) (by rw[hD];exact h8)
   have IT:ap X pins σ (af Q D$ .lst Y) s2:=IO.track fD (by rw[<- hD];exact I.sz) #[hz,U,U.length,rv,pD.1];obtain⟨mC,a2,_⟩:=I2.loc;have a3:Q C=none:=I2.free;exact h9 D C Y mC Q s2 I2.base.frzs h8 IT (I.fpOk (by rw[hD];exact h0) (by rw[ji$ HR P];exact a3)) a2 q
  ·refine aJ (T.item (aX X scope M (aR X.env scope.names []) C k s H) Z Z Z hc i _ s1 _ Q yl I1 (L f0) s7 go) λr s2 j=>?_;obtain⟨u,hr,h2⟩:=j;subst hr;refine aJ h2 λ_ s3 j=>?_;obtain⟨x,H3,I3,r3,y3,O,f1⟩:=j;have a4:=I3.pinned (L f1) (T.obj _ _ O);refine aJ (hg _ _ _ _ _ _ s3 _ H3 x u _ a4 r3$ step x H3 ts a0 y3) λ_ s4 j=>?_;obtain⟨σ1,H4,I4,⟨t0,h1,e4⟩,q4⟩:=j;subst e4;refine aJ (hi _ _ _ _ _ _ s4 _ H4 _ I4 q4) λb s5 j=>?_;obtain⟨H5,I5,q5⟩:=j;cases b with
   |false=>obtain⟨m',hm,w'⟩:∃m',m' < n/\W (i+1) m' Y H5:=hN _ _ q5;refine#[m',hm,i+1,Y,U,t0,H5,h1,I5.unpinned,rv,hz,T.keep _ _ _ O λb a o e=>(I5.pin (b,o)$ HC _$ HC _$ kW a e).1,λb a=>?_,w'];obtain⟨o,e,d⟩:=T.obj _ _ O b a;exact(I5.pin (b,o)$ HC _$ HC _$ kW a e).2.1
   |true=>
    refine aJ (he _ _ _ _ _ _ s5 _ H5 _ I5 q5) λv s6 j=>?_;obtain⟨y,H6,I6,r6,q6⟩:=j;obtain⟨m',hm,w'⟩:=hN _ _ q6;have pD:=I6.pin (D,io U) (HC _$ IH _ HI);have hl:=rv.length;have R:∀b∈k,∀o,s3.heap.get? b=some o->s6.heap.get? b=some o:=λb a o e=>(I6.pin (b,o)$ HC _$ HC _$ kW a e).1;have V:∀b∈k,H6 b=none:=λb a=>by obtain⟨o,e,d⟩:=T.obj _ _ O b a;exact(I6.pin (b,o)$ HC _$ HC _$ kW a e).2.1
    refine append_at (hsz:=by rw[Hh,<- hl];exact hz) pD.1 λh7 sb a5=>?_;have I7:ap (aX X scope M (aR X.env scope.names []) C k s H) [] (t0++nH ix σ) H6 { s6 with heap:=h7 }:=
     (I6.pins_of (pins':=[]) λp hp=>absurd hp Si).turned (t':=s6.toks) (it:=D) (λb o a e=>(sb.2 b a).trans e) pD.2.1 P (.inr (by show s.heap.objs.size<=D;rw[hD];exact Hg _)) c1 λp hp=>absurd (show p∈([]:List (Addr×Obj)) from hp) Si
    refine#[m',hm,i+1,Y++[y],U++[v],t0,H6,h1,p0 I7 (a5.trans$ IC some$ ZM U v) pD.2.1,rv.append$ .cons r6 .nil,by rw[Hf,Lx];exact a1,
     T.keep _ _ _ (T.keep _ _ _ O R) λb a o e=>(sb.2 b λz=>?_).trans e,V,w']
    have:=h3 b a;rw[z]at this;exact Ip _ this
 exact codeAny_compStart_list (l0 _ #[_,Z])$ T.self _ 0 _ _ _ (T.keep _ _ _ st λb a o e=>o1 b o e)$ l0 _ #[_,Z]
def uo(w:TI)(n:Nat)(i:List Nat)(g:TG)(t:TT)(T:TE):TE:=λσ H Q=>w σ H λJ a=>dI J n (nH i σ) g t T (λy h=>∀p,h p=none->Q (.ref p) (af h p$ .lst y)) a
theorem ki{t E iter:Expr}{i:List Expr}{a:Scope}{p:Pos}{M:List Str}{k:Nat}{l:List Nat}{W:TI}{g:TG}{r:TT}{u:TE}(v:X.calm=true)(y:PI X t iter W)(S:aT X.N X.env.scope a M k l)
  (z:∀c C f s H,PG (aX X a M c C f s H) t g) (B:∀c C f s H,PF (aX X a M c C f s H) i r) (G:∀c C f s H,PE (aX X a M c C f s H) E u)
  (K:∀x,foldedSetIterable iter X.env x=pure x:=by intro _;rfl):
  PE X (.ListComp E [#[t,iter,i,0]] a p) (uo W k l g r u):=by
 intro pins s σ H Q I h;rw[eval_ListComp];refine OL (use:=none) Z K (qv$ qU I S) S.kind S.loc$ aJ (y pins s σ H _ I h) λxv s1 L=>aJ L λO s2 P=>?_;obtain⟨it,f,tn,J,H2,e,U,T,d,V,R⟩:=P;subst e;refine KB (RR:=λj C=>compPost (model X.prog X.w) X.A X.xe none (EP X pins σ Q) j C) U v T d V S z B G R ?_;intro D C ys m H' Y _ n I' F ns q;exact#[m,ns,λh' sb=>#[.ref D,_,I'.turned (t':=Y.toks) (λb o hb e=>(sb.2 b hb).trans e) F.1 F.2.1 F.2.2.2.1 F.2.2.2.2.1 F.2.2.2.2.2,Z,q D n]]
theorem QW{t E iter:Expr}{d:List Expr}{c:Scope}{p P f:Pos}{y:Str}{i:Nat}{M:List Str}{U:Nat}{V:List Nat}{W:TI}{g:TG}{Y:TT}{te:TE}(hN:X.N.Nodup)(hy:X.N[i]?=some y)(hx:pj X.env.scope y)
  (hc:X.calm=true) (hI:PI X t iter W) (S:aT X.N X.env.scope c M U V)
  (hg:∀l C j s H,PG (aX X c M l C j s H) t g) (hi:∀l C j s H,PF (aX X c M l C j s H) d Y) (he:∀l C j s H,PE (aX X c M l C j s H) E te)
  (r:swapsWith (.ListComp E [#[t,iter,d,0]] c p) (some$ .Name y P) f.line X.env=pure true:=by rfl)
  (hf:X.fn y=true∨X.env.scope.names.lookup y=some .local:=by first |exact .inl Z |exact .inr Z |assumption)
  (hs:∀x,foldedSetIterable iter X.env x=pure x:=by intro _;rfl):
  PS X (.Assign [.Name y P] (.ListComp E [#[t,iter,d,0]] c p) f) (λD σ H=>uo W U V g Y te σ H λv H1=>D.nx (σ.set i$ some v) H1):=by
 intro pins s σ H D I h;rw[exec_Assign_Name_used _ _ _ _ r];refine GZ$ LC$ GZ ?_;show wpAny _ X.A (do let _ <- comprehension (.ListComp E [#[t,iter,d,0]] c p) c X.env _ (newList []) false (eval iter X.env) (some$ assign (.Name y P) X.env)) _ _ s;refine GZ (aJ (OL (use:=some (assign (.Name y P) X.env)) (Q:=λ_ k=>SP X pins D .next k) Z hs (qv$ qU I S) S.kind S.loc
  (aJ (hI pins s σ H _ I h) λxv s1 h1=>aJ h1 λi0 s2 h2=>?_)) λ_ k hq=>Hc (Hc hq))
 obtain⟨it,j,tn,J,H2,e,I2,T,u,f2,R⟩:=h2;subst e;refine KB (RR:=λB C=>compPost (model X.prog X.w) X.A X.xe (some$ assign (.Name y P) X.env) (λ_ k=>SP X pins D .next k) B C) I2 hc T u f2 S hg hi he R ?_;intro Dd C ys m H' k _ n I' F ns q;show wpAny _ X.A (assign (.Name y P) X.env$ .ref Dd) _ _ k;refine P'$ Qk I' hN hy hx (v:=.ref Dd) Z (λG K hh=>?_) hf;obtain⟨a,sb,ha⟩:=hh;have L:C≠a:=by
  rcases ha with z |z
  ·rw[z];exact F.2.1
  ·exact HR$ F.2.2.2.2.1 _ _ z
 exact#[m,ns.sameBut sb L,λh' O=>#[_,_,K.turned (t':=G.toks) (λb o hb e=>(O.2 b hb).trans e) F.1 F.2.1 F.2.2.2.1 F.2.2.2.2.1 F.2.2.2.2.2,q Dd n]]
end
section
variable {X:Cx}
def CW(i j:Int):Prop:=0 < j/\j<=1000000000000000000
theorem Kk:eG X (binaryOp .FloorDiv) (rI CW λi j=>.int (i / j)):=EM λi j _ _ _ _ _ h q=>by
 have b:(0:Int) < j:=h.1;have c:j<=1000000000000000000:=h.2;refine floordiv_int Sf (by rw[Int.fdiv_eq_ediv_of_nonneg i Sf];exact q)$ .inl$ PyProof.noPylong_of_log2 ?_;have H:j.natAbs≠0:=by omega
 have a:j.natAbs < 2 ^ 60:=by omega
 have d:j.natAbs.log2 < 60:=(Nat.log2_lt H).mpr a;omega
noncomputable def Am:V->Option Value
 | .ty n=>some (.type n)
 | .ref a=>some (.ref a)
 |_=>none
theorem XI:b8 X (.builtin "isinstance") (λf H Q=>∃x y c t b,f=[x,y]/\Am y=some c/\fX X.K H x t/\kitOne X.K t c=some b/\Q (.bl b) H):=by
 intro p s i H f U Q I r h;obtain⟨x,y,c,t,b,rfl,d,ty,e,q⟩:=h;obtain⟨u,w,rfl,g,R⟩:=uL r;have E:w=c:=by
  cases y with
  |ty n=>exact OX R (HV d)
  |ref a=>exact OX R (HV d)
  |_=>cases d
 subst E;exact ZF I g ty e λT=>#[.bl b,H,I.tok T,Z,q]
theorem JC:∀{B:List Bool} {U:List Value},au (B.map V.bl) U->LSm.BoolsAre U B
 | [],_,.nil=>.nil
 |b::r,_,.cons (b:=u) h t=>by have e:u=Value.bool b:=h;subst e;exact .cons b$ JC t
theorem pC(j:X.calm=true):b8 X (.builtin "all") (λx H Q=>∃(p:Addr) (B:List Bool),x=[.ref p]/\aB X.K H p (B.map V.bl)/\Q (.bl$ B.all id) H):=by
 intro P s w H x U Q I r h;obtain⟨p,B,rfl,k,q⟩:=h;obtain⟨u,rfl,R⟩:=dU r;cases R;obtain⟨a,l,m,y⟩:=I.list k;have f:=JC l;have c:=m.isList;have d:p < s.heap.objs.size:=by obtain⟨_,e,_⟩:=c;exact Hi e
 refine call_all_walk$ Me c ?_;refine#[s.heap.objs.size,[s.heap.objs.size,p],[s.heap.objs.size],a.toArray.size,_,_,λi=>(B[i]?).getD true,Z,Ro (A:=X.A.in1) (I.ok.hd j) _ p (Hm d) a.toArray,
  #[#[_,Hj _ Z,Z,Z],c.push _],λi v S z E n g=>?_,λC t o=>?_]
 ·obtain⟨b,e,rfl⟩:=f.get i v (by simpa using n);simp only[e,Option.getD_some]at g;exact IP g
 ·have e:((List.range a.toArray.size).all λi=>(B[i]?).getD true)=B.all id:=by rw[Hh,f.length];exact LSm.range_all B
  rw[e];exact#[.bl _,H,I.kept (t':=t)$ LSm.kept_iter o,Z,q]
theorem zS:∀{Y:List Str} {U:List Value},au (Y.map V.str) U->StrsAre U Y
 | [],_,.nil=>.nil
 |y::r,_,.cons (b:=u) h t=>by obtain⟨T,e⟩:∃T,u=Value.str y T:=h;subst e;exact .cons y T$ zS t
theorem QX:EV X "str.join" (λx a H Q=>∃(z:Str) (p:Addr) (y:List Str),x= .str z/\a=[.ref p]/\aB X.K H p (y.map V.str)/\z.length<=16/\(y.map (·.length)).sum+y.length<=1048576/\Q (.str$ Txt.join z y) H):=by intro P s l H x a v U Q I r R h;obtain⟨z,p,y,rfl,rfl,b,c,d,q⟩:=h;obtain⟨u,rfl,e⟩:=dU R;cases e;obtain⟨t,rfl⟩:=r;obtain⟨i,f,g,j⟩:=I.list b;exact join_listW g.isList (by simpa using zS f) c d λT k=>#[.str _,H,I.tok k,#[_,Z],q]
noncomputable def pI:Expr->Option V
 | .Constant (.str x) _ _=>some (.str x)
 | .Constant (.int i) _ _=>some (.int i)
 |_=>none
theorem BB(h:pI e=some v):PE X e (tC v):=by
 cases e with
 |Constant c j p=>
  cases c with
  |str x=>cases h;exact jk
  |int i=>cases h;exact jf
  |_=>cases h
 |_=>cases h
theorem uf(h:pI e=some v):starEach (e::a) E=(false,eval e E)::starEach a E:=by
 cases e with
 |Constant c j p=>rfl
 |_=>cases h
noncomputable def rh(e:Expr):Bool:=(pI e).isSome
noncomputable def pH(e:Expr):V:=(pI e).getD .non
theorem QY:∀{E:List Expr},E.all rh=true->PA X E (λ_ H Q=>Q (E.map pH) H)
 | [],_=>jb
 |e::E,h=>by
  rw[Oh,IE]at h;obtain⟨v,a⟩:=Option.isSome_iff_exists.mp (show(pI e).isSome=true from h.1);have b:pH e=v:=by unfold pH;rw[a];rfl
  rw[Ix,b];exact ja (BB a) (QY h.2)$ uf a
theorem ZN{E:List Expr}(h:E.all rh=true):(E.map pH).all ci=true:=by
 rw[MK]at h ⊢;intro v H;obtain⟨e,a,rfl⟩:=List.mem_map.mp H;have q:=h e a;unfold rh at q;unfold pH;cases e with
 |Constant c j p=>
  cases c with
  |str x=>rfl
  |int i=>rfl
  |_=>exact absurd q Hl
 |_=>exact absurd q Hl
def Et(t:TS):TS:=λD b H=>∃R:St->Hp->Prop,t { D with nx:=R } b H/\∀a h,R a h->D.nx a h
theorem jZ{st:Stmt}{t:TS}(h:PS X st t):PS X st (Et t):=by
 intro p s b H D I c;obtain⟨R,d,e⟩:=c;refine aJ (h p s b H _ I d) λf S q=>?_;cases f with
 |next=>obtain⟨a,g,i,q⟩:=q;exact#[a,g,i,e _ _ q]
 |brk=>exact q
 |cont=>exact q
 |ret v=>exact q
theorem rB{t:St}(h:t.length=1):∃v,t=[v]:=by
 cases t with
 |nil=>cases h
 |cons v r=>
  cases r with
  |nil=>exact#[v,Z]
  |cons _ _=>cases h
theorem qj{lo:Int}{n:Nat}{t:TE}{Q:List V->Hp->Prop}(Pv:Nat->List V->Hp->Prop)(g:Pv 0 [] H)(j:n<=sizeLine)(b:∀i Y h,Pv i Y h->Y.length<=i)
  (k:∀i Y h,i < n->Pv i Y h->t (some (.int$ lo+i)::c) h λy d=>Pv (i+1) (Y++[y]) d) (l:∀Y h,Pv n Y h->Q Y h):
  dI (va lo n) 1 c (bf 0) j' t Q H:=by
 refine#[λi m Y h=>m=n - i/\i<=n/\Pv i Y h,#[n,Si,Ho _,g],?_];rintro i m Y h ⟨rfl,q,p⟩;by_cases a:i < n
 ·refine .inr #[a,IV (b i Y h p)$ Hq a j,Pv$ i+1,λo d P=>#[n - (i+1),Sf,Z,a,P],λx d T f y=>?_];obtain⟨e,y⟩:=y;subst e y;obtain⟨v,rfl⟩:=rB f;exact#[#[[some _],Z,Z],k i Y _ a p]
 ·have e:i=n:=by omega
  subst e;exact .inl #[Hg _,l Y h p]
end
section
variable {κ:Type}[DecidableEq κ]
noncomputable def dn(K:List (κ×V))(k:κ):Option V:=(K.find? λa=>decide (a.1=k)).map (·.2)
noncomputable def bJ(K:List (κ×V))(k:κ)(v:V):List (κ×V):=
 if (K.any λa=>decide (a.1=k))=true then K.map (λa=>if a.1=k then (a.1,v) else a) else K++[(k,v)]
theorem Kl{p:κ×V}(e:p.1=k):dn (p::r) k=some p.2:=by simp [dn,LW,e]
theorem Km{p:κ×V}(e:¬p.1=k):dn (p::r) k=dn r k:=by simp [dn,LW,e]
theorem Xm(k:κ):∀K:List (κ×V),(K.any λa=>decide (a.1=k))=(dn K k).isSome
 | []=>rfl
 |p::r=>by
  rw[MD];by_cases e:p.1=k
  ·simp only[Kl e,Hw e,Rj,Option.isSome_some]
  ·rw[Km e,Hk e,Bool.false_or];exact Xm k r
theorem qk(K:List (κ×V))(k:κ)(v:V):(bJ K k v).length<=K.length+1:=by
 unfold bJ;split
 ·rw[He];omega
 ·rw[Hf,HM,NK];omega
theorem dw.isSome_eq(r:dw o u):o.isSome=u.isSome:=by
 cases o with
 |none=>cases u with
  |none=>rfl
  |some _=>exact(show False from r).elim
 |some _=>cases u with
  |none=>exact(show False from r).elim
  |some _=>rfl
theorem dw.getD(r:dw o u)(R:aw d D):aw (o.getD d) (u.getD D):=by
 cases o with
 |none=>cases u with
  |none=>exact R
  |some _=>exact(show False from r).elim
 |some _=>cases u with
  |none=>exact(show False from r).elim
  |some _=>exact r
theorem KV.val(r:KV a v)(k:κ):dw (dn a k) (valueAt v k):=by
 unfold KV at r;induction r with
 |nil=>exact True.intro
 | @cons p q P Q h t i=>
  obtain⟨H,c⟩:=h;by_cases e:p.1=k
  ·have E:q.1=k:=H.symm.trans e;have b:valueAt (q::Q) k=some q.2:=by simp [valueAt,LW,E]
   rw[Kl e,b];exact c
  ·have E:¬q.1=k:=λz=>e (H.trans z);have b:valueAt (q::Q) k=valueAt Q k:=by simp [valueAt,LW,E]
   rw[Km e,b];exact i
theorem KV.any(r:KV a v)(k:κ):(a.any λK=>decide (K.1=k))=v.any λK=>decide (K.1=k):=by
 unfold KV at r;induction r with
 |nil=>rfl
 |cons h t i=>rw[MD,MD,i,h.1]
theorem KV.repl(r:KV a v)(k:κ)(R:aw y u):
  KV (a.map λK=>if K.1=k then (K.1,y) else K) (v.map λK=>if K.1=k then (K.1,u) else K):=by
 unfold KV at r ⊢;induction r with
 |nil=>exact .nil
 | @cons p q P Q h t i=>
  rw[Ix,Ix];refine .cons ?_ i;obtain⟨H,b⟩:=h;by_cases e:p.1=k
  ·rw[HD e,HD$ H.symm.trans e];exact#[H,R]
  ·rw[HG e,HG (λz=>e (H.trans z))];exact#[H,b]
theorem KV.put(r:KV a v)(k:κ)(R:aw y u):KV (bJ a k y) (stored v k u):=by
 unfold bJ stored;rw[r.any k];by_cases e:(v.any λK=>decide (K.1=k))=true
 ·rw[HD e,HD e];exact r.repl k R
 ·rw[HG e,HG e];exact Paired.snoc r #[Z,R]
theorem KV.length(r:KV k v):k.length=v.length:=Paired.length r
end
theorem Qg{P:Program}(r:aw (kV k) u):(aS P w).is k u=true:=by
 cases k with
 |inl i=>obtain⟨t,e⟩:=(show ∃t,u=Value.int i t from r);subst e;exact XG P w i t
 |inr x=>obtain⟨t,e⟩:=(show ∃t,u=Value.str x t from r);subst e;exact XH P w x t
theorem Qs{P:Program}:∀{K:List bj} {u:List Value},au (K.map kV) u->ItemsAre (aS P w) K u
 | [],_,r=>by rw[Ot]at r;cases r;exact .nil
 |k::K,_,r=>by
  rw[Ix]at r;cases r with
  |cons h t=>exact .cons (Qg h) (Qs t)
abbrev KT(H:Hp):List (List bj×V)->List (List bj×Addr×Value)->Prop:=Paired λp q=>p.1=q.1/\H q.2.1=some (.tup$ p.1.map kV)/\aw p.2 q.2.2
theorem KT.val(r:KT H a x)(k:List bj):dw (dn a k) ((atKey x k).map (·.2)):=by
 induction r with
 |nil=>exact True.intro
 | @cons p q P Q h t i=>
  obtain⟨c,_,d⟩:=h;by_cases e:p.1=k
  ·have E:q.1=k:=c.symm.trans e;have b:atKey (q::Q) k=some q.2:=by simp [atKey,LW,E]
   rw[Kl e,b];exact d
  ·have E:¬q.1=k:=λz=>e (c.trans z);have b:atKey (q::Q) k=atKey Q k:=by simp [atKey,LW,E]
   rw[Km e,b];exact i
theorem KT.repl(r:KT H b x)(k:List bj)(R:aw y u):
  KT H (b.map λK=>if K.1=k then (K.1,y) else K) (x.map$ putAt k u):=by
 induction r with
 |nil=>exact .nil
 | @cons p q P Q h t i=>
  rw[Ix,Ix];refine .cons ?_ i;obtain⟨a,c,d⟩:=h;unfold putAt;by_cases e:p.1=k
  ·rw[HD e,HD$ a.symm.trans e];exact#[a,c,R]
  ·rw[HG e,HG (λz=>e (a.trans z))];exact#[a,c,d]
theorem KT.put(r:KT H a x)(k:List bj)(h:H b=some (.tup$ k.map kV))(R:aw y u):
  KT H (bJ a k y) (storedH x k b u):=by
 have e:(a.any λK=>decide (K.1=k))=(atKey x k).isSome:=by rw[Xm,(r.val k).isSome_eq,OP]
 unfold bJ storedH;rw[e];by_cases q:(atKey x k).isSome=true
 ·rw[HD q,HD q];exact r.repl k R
 ·rw[HG q,HG q];exact Paired.snoc r #[Z,h,R]
theorem KT.keeps{h:Hp}(r:KT H k x)(a:∀b y,H b=some (.tup y)->h b=some (.tup y)):KT h k x:=
 Paired.mapP r λ_ _ z=>#[z.1,a _ _ z.2.1,z.2.2]
section
variable {P:Program}{w:World}{H:Hp}{h:Heap}{a:Addr}
theorem yL(o:eh P w H h)(e:Rd H a u):aF P w H h a u:=e.ok o
theorem Qh(o:eh P w H h)(e:Rd H a (.dK k)):k.length<=sizeLine/\(a==sysModules)=false/\∃v,KV k v/\h.DictOf (aS P w) a v:=
 show aF P w H h a (.dK k) from yL o e
theorem Dp(o:eh P w H h)(e:H a=some (.dK k)):k.length<=sizeLine/\(a==sysModules)=false/\∃v,KV k v/\h.DictOf (aS P w) a v:=Qh o (.inl e)
theorem Kc{k:List bj}(O:eh P w H h)(e:H a=some (.tup$ k.map kV)):(tupleKind$ aS P w).is h k a:=by obtain⟨_,i,r,o,b,c,n,d⟩:=(show aF P w H h a (.tup$ k.map kV) from O a _ e);exact#[o,i.toArray,n,b,c,d,by simpa using Qs r]
theorem Qi(O:eh P w H h)(e:Rd H a (.dT k)):k.length<=sizeLine/\(a==sysModules)=false/\
  ∃X,KT H k X/\h.DictOfH (tupleKind$ aS P w) a X:=by
 obtain⟨z,y,X,r,o,E,c,d,f,g,i,j⟩:=(show aF P w H h a (.dT k) from yL O e);refine#[z,y,X,r,o,E,c,d,f,g,i,λx hx=>?_,j];have all:∀{l:List (List bj×V)} {m:List (List bj×Addr×Value)},KT H l m->∀x∈m,(tupleKind$ aS P w).is h x.1 x.2.1:=by
  intro l m q;induction q with
  |nil=>intro x hx;exact nomatch hx
  | @cons p q n Q b t I=>
   intro x hx;rcases List.mem_cons.mp hx with e |hx
   ·subst e;exact Kc O (by rw[<- b.1];exact b.2.1)
   ·exact I x hx
 exact all r x hx
theorem Dq(o:eh P w H h)(e:H a=some (.dT k)):k.length<=sizeLine/\(a==sysModules)=false/\
  ∃x,KT H k x/\h.DictOfH (tupleKind$ aS P w) a x:=Qi o (.inl e)
end
def eO(H:Hp)(a:Addr)(y:V)(r:Option V):Prop:=
 (∃K k,Rd H a (.dK K)/\y=kV k/\r=dn K k)∨∃K k b,Rd H a (.dT K)/\y= .ref b/\H b=some (.tup$ k.map kV)/\r=dn K k
def om(H:Hp)(a:Addr)(y v:V)(h:Hp):Prop:=
 (∃K k,H a=some (.dK K)/\y=kV k/\K.length < sizeLine/\h=af H a (.dK$ bJ K k v))∨
 ∃K k b,H a=some (.dT K)/\y= .ref b/\H b=some (.tup$ k.map kV)/\K.length < sizeLine/\h=af H a (.dT$ bJ K k v)
theorem eO.k{H:Hp}{k:bj}(e:H a=some (.dK b)):eO H a (kV k) (dn b k):=.inl #[b,k,.inl e,Z,Z]
theorem om.k{H:Hp}{k:bj}(e:H a=some (.dK b))(h:b.length < sizeLine):om H a (kV k) v (af H a$ .dK$ bJ b k v):=.inl #[b,k,e,Z,h,Z]
section
variable {X:Cx}{pins:List (Addr×Obj)}{σ:St}{H:Hp}{s:Shared}{a:Addr}{y v:V}{u r:Value}{o:Option V}{A:Around}{E:Value->Shared->Prop}
theorem ap.big(I:ap X pins σ H s):sysModules < s.heap.objs.size:=by have h:mainGlobals < s.heap.objs.size:=(I.mod.glob.keeps I.bk).lt;exact Nat.lt_trans Se h
theorem ZO{Q:Value->Shared->Prop}(m:A.units+1 < cLine)(I:ap X pins σ H s)(g:eO H a y (some v))(j:aw y u)(h:∀W S,ap X pins σ H S->aw v W->Q W S):
  wpAny (model X.prog X.w) A (getItem (.ref a) u) Q E s:=by
 rcases g with ⟨K,k,e,d,l⟩ | ⟨K,k,b,e,d,n,l⟩
 ·subst d;obtain⟨z,q,t,R,D⟩:=Qh I.hok e;obtain⟨W,f,c⟩:=dw.some_of (v:=v) (o:=valueAt t k) (by rw[l];exact R.val k);exact wpAny_getItem_of (Qg j) D.mapOf f$ h W _ (I.tok _) c
 ·subst d;cases (show u=Value.ref b from j);obtain⟨z,q,x,R,D⟩:=Qi I.hok e;obtain⟨W,f,c⟩:=dw.some_of (v:=v) (o:=(atKey x k).map (·.2)) (by rw[l];exact R.val k);obtain⟨p,B,i⟩:=Option.map_eq_some_iff.mp f;refine wpAny_getItem_heap (MF m) (Kc I.hok n) D B ?_;rw[i];exact h W _ (I.tok _) c
theorem Fi{Q:Value->Shared->Prop}(i:A.units+1 < cLine)(I:ap X pins σ H s)(g:eO H a y o)(f:aw y u)(h:∀S,ap X pins σ H S->Q (.bool o.isSome) S):
  wpAny (model X.prog X.w) A (compareOp .In u$ .ref a) Q E s:=by
 rcases g with ⟨K,k,e,c,l⟩ | ⟨K,k,b,e,c,j,l⟩
 ·subst c;obtain⟨z,d,m,R,D⟩:=Qh I.hok e;refine wpAny_in_of (Qg f) d D.mapOf ?_;rw[<- (R.val k).isSome_eq,<- l];exact h _$ I.tok _
 ·subst c;cases (show u=Value.ref b from f);obtain⟨z,d,x,R,D⟩:=Qi I.hok e;refine wpAny_in_heap (MF i) (Kc I.hok j) d D ?_;have q:=(R.val k).isSome_eq;rw[OP]at q;rw[<- q,<- l];exact h _$ I.tok _
theorem Y5(I:ap X pins σ H s)(m:C4 (H a))(c:Heap.SameBut a s.heap h)(d:∃q,h.get? a=some q)(n:aF X.prog X.w (af H a O) h a O):
  ap X pins σ (af H a O) { s with heap:=h,toks:=t }:=
 I.write (x:=a) (e:=a) m (.inl Z) (λb q f z=>(c.2 b f).trans z) d n
theorem pO{P:Program}{h:Heap}{k:List (bj×V)}(z:k.length<=sizeLine)(c:(a==sysModules)=false)(R:KV k b)(d:h.DictOf (aS P w) a b):
  aF P w e h a (.dK k):=#[z,c,b,R,d]
theorem ZP{Q:Unit->Shared->Prop}(J:A.units+1 < cLine)(I:ap X pins σ H s)(g:om H a y v L)(x:aw y u)(B:aw v r)(h:∀S,ap X pins σ L S->Q () S):
  wpAny (model X.prog X.w) A (setItem (.ref a) u r) Q E s:=by
 rcases g with ⟨K,k,e,i,l,j⟩ | ⟨K,k,b,e,i,C,l,j⟩
 ·subst i j;obtain⟨z,m,M,R,D⟩:=Dp I.hok e;have n:M.length<=sizeLine:=by rw[<- R.length];exact z
  have p:(bJ K k v).length<=sizeLine:=by have:=qk K k v;omega
  refine wpAny_setItem_pairs (hsz:=n) (Qg x) D λF d t=>h _ ?_;have N:∃q,F.get? a=some q:=let #[q,_,_,f,_]:=d;#[q,f]
  exact Y5 I (by rw[e];exact True.intro) t N$ pO p m (R.put k B) d
 ·subst i j;cases (show u=Value.ref b from x);obtain⟨z,m,O,R,D⟩:=Dq I.hok e;have n:O.length<=sizeLine:=by rw[<- Paired.length R];exact z
  have p:(bJ K k v).length<=sizeLine:=by have:=qk K k v;omega
  refine wpAny_setItem_heap (hsz:=n) (MF J) (Kc I.hok C) D λF d t=>h _ ?_;obtain⟨q,P,T,f,U,W,Y,_,h5⟩:=d;refine Y5 I (by rw[e];exact True.intro) t #[q,f] #[p,m,_,(R.put k C B).keeps λc ys G=>?_,q,P,T,f,U,W,Y,h5];rw[ji$ jO G e (λz=>nomatch z)];exact G
end
def C5(i:Expr):Prop:=∀o I,subscripted i false o I=operate [o,I] (getItem o I)
theorem xW{id:String}
  (k:typeLookup (.type T) "__getitem__"=pure (some$ .builtin id)) (l:C5 a)
  (h:wpAny (model p w) A (eval v e) (λo b=>wpAny (model p w) A (eval a e) (λi S=>S.TypeIs o T/\wpAny (model p w) A (getItem o i) Q E S) E b) E s):
  wpAny (model p w) A (eval (.Subscript v a m) e) Q E s:=by
 refine P6$ Ik h (λo b d=>Ik d (λi S H=>?_) λ_ _ x=>x) λ_ _ x=>x;obtain⟨j,H⟩:=H;unfold subscriptTail;refine GZ ?_;rw[getitemInPython_of_ne j.not_modules];refine GZ$ La j k ?_;have f:wpAny (model p w) A (subscripted a false o i) (λr c=>wpAny (model p w) A (letTemporaryGo v o r >>= λ_=>pure r) Q E c) E S:=by rw[l o i];exact wpAny_operating$ Ik H (λr c g=>GZ (wpAny_letTemporaryGo$ Hc g)) λ_ _ x=>x
 first
  |exact Hc (GZ f)
  |exact GZ (Hc (GZ f))
  |exact GZ f
theorem XJ{X:Cx}(I:ap X p c H s)(g:eO H a y o):s.TypeIs (.ref a) "dict":=by
 rcases g with ⟨K,k,e,_,_⟩ | ⟨K,k,b,e,_,_,_⟩
 ·obtain⟨_,_,v,_,d⟩:=Qh I.hok e;exact d.typeIs
 ·obtain⟨_,_,x,_,d⟩:=Qi I.hok e;exact d.typeIs
inductive uq(Q:VK)(x y:V)(b:Hp):Prop
 |mk(a v:_)(_:x= .ref a)(_:eO b a y (some v))(_:Q v b)
def Ep(t T:TE):TE:=λa H Q=>t a H λx h=>T a h (uq Q x)
inductive yW(Q:VK)(y x:V)(b:Hp):Prop
 |mk(a o:_)(_:x= .ref a)(_:eO b a y o)(_:Q (.bl o.isSome) b)
def FP(t T:TE):TE:=λa H Q=>t a H λy h=>T a h (yW Q y)
inductive sR(D:aU)(d:St)(v x y:V)(b:Hp):Prop
 |mk(a c:_)(_:x= .ref a)(_:om b a y v c)(_:D.nx d c)
def sQ(t T b:TE):TS:=λD a H=>b a H λv h=>t a h λx c=>T a c (sR D a v x)
section
variable {X:Cx}{o i e value:Expr}{pos pos' tpos:Pos}{td ty tv:TE}
theorem wM(d:X.A.units+1 < cLine)(f:PE X o td)(j:PE X i ty)(k:C5 i):PE X (.Subscript o i pos) (Ep td ty):=by intro p s b H Q I h;refine xW PySem.F.slot_dict_getitem.lookup k$ aJ (f p s b H _ I h) λu S #[x,l,m,R,q]=>aJ (j p S b l _ m q) λC D z=>?_;obtain⟨y,n,c,t,a,v,E,g,w⟩:=z;subst E;obtain rfl:u=Value.ref a:=R;exact#[XJ c g,ZO d c g t λW G B r=>#[v,n,B,r,w]]
theorem By(c:X.A.units+1 < cLine)(d:PE X i ty)(f:PE X o td):PC X .In i o (FP ty td):=by intro p s b H Q I h;refine aJ (d p s b H _ I h) λv S #[y,j,k,r,q]=>aJ (f p S b j _ k q) λu w z=>?_;obtain⟨x,l,m,R,a,O,E,g,n⟩:=z;subst E;obtain rfl:u=Value.ref a:=R;exact Fi c m g r λB t=>#[.bl O.isSome,l,t,Z,n]
theorem JQ(c:X.A.units+1 < cLine)(d:PE X o td)(f:PE X i ty)(j:PE X value tv)(k:swapsWith value (some$ .Subscript o i pos') pos.line X.env=pure false):
  PS X (.Assign [.Subscript o i pos'] value pos) (sQ td ty tv):=by
 intro p s b H D I h;refine wpAny_Assign_Subscript (aJ (j p s b H _ I h) λr S #[v,l,m,R,q]=>aJ (d p S b l _ m q) λu n #[x,t,w,B,Q]=>aJ (f p n b t _ w Q) λL M z=>?_) k;obtain⟨y,N,C,E,a,F,G,g,J⟩:=z;subst G;obtain rfl:u=Value.ref a:=B;exact ZP c C g E R λO K=>#[b,F,K,J]
end
theorem pN{P:Program}(h:Heap)(a:sysModules < h.objs.size):aF P w H (h.push { cls:=.type "dict",data:=.dict (List.toArray []) }) h.objs.size (.dK []):=
 #[Ho _,beq_eq_false_iff_ne.mpr$ HR$ Hm a,[],.nil,Ox h]
def Cw:TE:=λ_ H Q=>∀p,H p=none->Q (.ref p) (af H p$ .dK [])
section
variable {X:Cx}{pos:Pos}
theorem Xn:PE X (.Dict [] [] pos) Cw:=λp s b H Q I h=>
 wpAny_Dict_empty #[.ref s.heap.objs.size,_,I.laid (a:=s.heap.objs.size) (o:=.dK []) (t':=s.toks) (λ_ _ q=>Hd _ q) (Hg _)$ pN s.heap I.big,Z,h _$ I.hok.fresh$ Hg _]
end
noncomputable def cX(k m:List (bj×V)):List (bj×V):=m.foldl (λa K=>bJ a K.1 K.2) k
theorem KV.merge:∀{m:List (bj×V)} {R:List (bj×Value)} {k:List (bj×V)} {v:List (bj×Value)},KV m R->KV k v->KV (cX k m) (merged v R):=by
 intro m R k v r;unfold KV at r;induction r generalizing k v with
 |nil=>intro q;exact q
 | @cons p q P Q h t i=>
  intro a;have e:KV (bJ k p.1 p.2) (stored v q.1 q.2):=by have:=a.put p.1 h.2;rw[<- h.1];exact this
  exact i e
theorem qw:∀(m k:List (bj×V)),(cX k m).length<=k.length+m.length
 | [],k=>by show k.length<=k.length+0;omega
 |p::r,k=>by have h:=qw r (bJ k p.1 p.2);have H:=qk k p.1 p.2;show(cX (bJ k p.1 p.2) r).length<=_;rw[HM];omega
structure M2(X:Cx)(o:Expr)(m:Str)(apos:Pos)(e f:Expr)(cpos:Pos):Prop where
 base:attributeBase o m X.env (eval o X.env)=eval o X.env
 few:((backTo cpos$ starEach [e,f] X.env).all (λx=>!x.1)&&(backToKw cpos$ keywordEach [] X.env).all (λx=>x.1.isSome)
  &&decide (([e,f]:List Expr).length+([]:List Keyword).length+(if ([]:List Keyword).isEmpty then 0 else 1) < 30))=true
 line:(apos.endLine==cpos.line)=true
 trees:backTo cpos (starEach [e,f] X.env)=[(false,eval e X.env),(false,eval f X.env)]
def Gd(H:Hp)(a:Addr):Prop:=(∃k,Rd H a$ .dK k)∨∃k,Rd H a (.dT k)
theorem AF{X:Cx}(I:ap X p g H s)(d:Gd H a):
  s.TypeIs (.ref a) "dict"/\(∀b,Value.ref a= .ref b->∃o,s.heap.get? b=some o/\o.dict=none)/\(a==sysModules)=false:=by
 rcases d with ⟨k,e⟩ | ⟨k,e⟩
 ·obtain⟨_,h,v,_,D⟩:=Qh I.hok e;refine#[D.typeIs,λb q=>?_,h];cases q;obtain⟨o,_,_,c,f,_⟩:=D;exact#[o,c,f.2.1]
 ·obtain⟨_,h,x,_,D⟩:=Qi I.hok e;refine#[D.typeIs,λb q=>?_,h];cases q;obtain⟨o,_,_,c,f,_⟩:=D;exact#[o,c,f.2.1]
section
variable {X:Cx}{pins:List (Addr×Obj)}{σ:St}{H:Hp}{s:Shared}{a:Addr}{y d:V}{u r:Value}{o:Option V}{A:Around}{E:Value->Shared->Prop}
theorem As{Q:Value->Shared->Prop}(m:A.units+1 < cLine)(I:ap X pins σ H s)(g:eO H a y o)(i:aw y u)(j:aw d r)(h:∀W S,ap X pins σ H S->aw (o.getD d) W->Q W S):
  wpAny (model X.prog X.w) A (call (.builtin "dict.get") [.ref a,u,r]) Q E s:=by
 rcases g with ⟨K,k,e,c,l⟩ | ⟨K,k,b,e,c,n,l⟩
 ·subst c;obtain⟨z,f,v,R,D⟩:=Qh I.hok e;refine call_meetsIn MO D.typeIs N8 (NZ _ _ _) (meets_dict_get_default (aS X.prog X.w) a (Qg i) f r) #[_,D.mapOf,h _ _ (I.tok _) ?_];rw[l];exact(R.val k).getD j
 ·subst c;cases (show u=Value.ref b from i);obtain⟨z,f,x,R,D⟩:=Qi I.hok e;refine call_meetsIn MO D.typeIs N8 (NZ _ _ _) (meetsH_dict_get_default (tupleKind$ aS X.prog X.w) a b f r) #[MF m,k,x,Kc I.hok n,D,h _ _ (I.tok _) ?_];rw[l];exact(R.val k).getD j
end
inductive oh(d c:TE)(e:St)(Q:VK)(x:V)(b:Hp):Prop
 |mk(a:_)(_:x= .ref a)(_:Gd b a)(_:d e b λy H2=>c e H2 λz H3=>∃o,eO H3 a y o/\Q (o.getD z) H3)
def Cu(t T b:TE):TE:=λa H Q=>t a H (oh T b a Q)
section
variable {X:Cx}{o e f:Expr}{apos cpos:Pos}{td ty tx:TE}
theorem Kn(j:X.A.units+1 < cLine)(k:PE X o td)(l:PE X e ty)(n:PE X f tx)(m:M2 X o "get" apos e f cpos):PE X (.Call (.Attribute o "get" apos) [e,f] [] cpos) (Cu td ty tx):=by
 intro p s b H Q I h;refine wpAny_Call_method m.base m.few m.line PySem.F.plainAttrs_dict MO PySem.F.type_dict_get$ aJ (k p s b H _ I h) λu S c=>?_;obtain⟨x,q,i,R,a,E,d,t⟩:=c;subst E;obtain rfl:u=Value.ref a:=R;obtain⟨T,v,_⟩:=AF i d;refine#[T,v,?_];rw[m.trees];refine MP Z (OF (Lc (aJ (l p S b q _ i t) λO w #[y,B,C,D,G]=>
  Lc (aJ (n p w b B _ C G) λP U #[z,J,K,L,V,g,M]=>Ly ?_))))
 exact As j K g D L λW Y N r=>#[_,J,N,r,M]
end
section
open PySem.W PySem.Calls Builtin Builtin.ObjectAttr
variable {prog:Program}{w:World}{A:Around}{E:Value->Shared->Prop}{s:Shared}{K:Frag}{x C:Addr}{ox:Obj}{od:Option Obj}{name:Str}
theorem px:builtinKind "BaseException.__getattribute__"=some .slot:=by decide+kernel
theorem ZQ:splitId "BaseException.__getattribute__"=some ("BaseException","__getattribute__"):=by decide+kernel
theorem Az{R:Result->Shared->Prop}(X:K.In s.heap)(I:InstAt s.heap x ox C od)(H:mroIn K C (.type "BaseException")=some true)
  (h:wpAny (model prog w) A.in1 (Builtin.«object.__getattribute__» #[[.ref x,.str name t],[]]) (λa S=>match a with | .done f=>R (.ok f) S | .again c=>c.quiet=true/\codeAny (model prog w) A c R S) (λe S=>R (.error e) S) s):
  codeAny (model prog w) A (.call (.builtin "BaseException.__getattribute__") #[[.ref x,.str name t],[]]) R s:=
 Pr PySem.F.excAttr_ValueError.ga.plain PySem.F.entry_bexc_ga
  (@check_slot (model prog w) _ _ s "BaseException.__getattribute__" "BaseException" "__getattribute__" (.ref x) [.str name t] [] _ px ZQ (I.type.andThen$ MU X H) (PySem.F.args_bexc_ga (.ref x)$ .str name t) h)
theorem Ai{fill:Bool}(X:K.In s.heap)(I:InstAt s.heap x ox C od)(H:findIn K (.ref C) "__getattribute__"=some (some$ .builtin "BaseException.__getattribute__"))(a:findIn K (.ref C) "__getattr__"=some none)
  (b:mroIn K C (.type "BaseException")=some true)
  (h:wpAny (model prog w) A.in1 (Builtin.«object.__getattribute__» #[[.ref x,.str name T],[]]) (λf S=>match f with | .done (.ret v)=>wpAny (model prog w) A (handedOut v) Q E S |_=>False) (λ_ _=>False) s):
  wpAny (model prog w) A (getAttrBy (.ref x) (.str name T) fill e) Q E s:=by
 obtain⟨i,g,d,t,os⟩:=s;have L:=I.type (M:=model prog w);have l:=looks_findIn (M:=model prog w) X H;have _L:=looks_findIn (M:=model prog w) X a;unfold getAttrBy;refine Hs$ GZ$ L.at$ GZ$ l.at ?_;show wpAny _ _ (getAttrByItsOwn _ _ _ _ _ _) _ _ _;unfold getAttrByItsOwn;refine GZ (show wpAny _ _ (typeLookup (.ref C) "__getattr__") _ _ _ from _L.at ?_);refine GZ$ Lr$ Hs ?_;have c:callGetattribute (.ref x) (.str name T) (.builtin "BaseException.__getattribute__") e=boundAndCalled (.builtin "BaseException.__getattribute__") (.ref x) (.str name T):=by cases e<;>rfl
 rw[c];unfold boundAndCalled;rw[PySem.F.excAttr_ValueError.ga.bind];refine GZ$ Hc$ Nc$ Az X I b$ Ik h (λf S z=>?_) λ_ _ z=>z.elim;rcases f with (_ |_ |_ |_) |_<;>first |exact z |exact z.elim
theorem ZR{Q:Option Value->Shared->Prop}(X:K.In s.heap)(I:InstAt s.heap x ox C od)(H:findIn K (.ref C) "__getattribute__"=some (some$ .builtin "BaseException.__getattribute__"))(a:findIn K (.ref C) "__getattr__"=some none)
  (b:mroIn K C (.type "BaseException")=some true) (c:findObj K C od "__class__"=some (.bind (.builtin "getset_descriptor.__get__")$ .builtin "object.__class__")) (e:mroIn K C (.type "object")=some true) (h:Q (some$ .ref C) { s with toks:=s.toks+1 }):
  wpAny (model prog w) A (getAttr? (.ref x) "__class__") Q E s:=by
 unfold getAttr? getAttrBy?;refine GZ$ wpAny_mkText$ GZ$ Lr$ Ai (s:={ s with toks:=s.toks+1 }) X I H a b ?_;obtain⟨f,g,d,t,os⟩:=s;have L:=I.type (M:=model prog w);have l:=looks_find (M:=model prog w) X I c;refine GZ$ Hc$ GZ$ Hc$ GZ$ L.at$ GZ$ l.at ?_;show wpAny _ _ (bindTo _ _ _ _) _ _ _;unfold bindTo;refine GZ$ Hs$ Nc$ class_get (ox:=ox) (od:=od) X I e ?_;refine Hc ?_;exact handed_on Z$ Hc h
theorem XL(h:(clsIn K C).isSome=true)(H:findIn K (.ref C) name=some (some a))(b:specialIn K a "__get__"=some (some g))(c:takesIn K a=some true):findObj K C od name=some (.bind g a):=by obtain⟨d,h⟩:=Option.isSome_iff_exists.mp h;unfold findObj;rw[h,OS,H,OS];simp [b,c]
structure gw(K:Frag)(C:Addr):Prop where
 ga:findIn K (.ref C) "__getattribute__"=some (some$ .builtin "BaseException.__getattribute__")
 gh:findIn K (.ref C) "__getattr__"=some none
 sa:findIn K (.ref C) "__setattr__"=some (some$ .builtin "object.__setattr__")
 cl:findIn K (.ref C) "__class__"=some (some$ .builtin "object.__class__")
 gt:specialIn K (.builtin "object.__class__") "__get__"=some (some$ .builtin "getset_descriptor.__get__")
 tk:takesIn K (.builtin "object.__class__")=some true
 mb:mroIn K C (.type "BaseException")=some true
 mo:mroIn K C (.type "object")=some true
 hd:hasDictIn K C=true
theorem Xo(c:gw K C):KitX K (.ref x) (.ref C) (λh=>∃ox od,InstAt h x ox C od) where
 ty:=λ_ _ _ #[_,_,I]=>I.type
 it:=λ_ _ X _=>by
  obtain⟨a,H,_⟩:=Sa c.hd;unfold clsIn at H;split at H
  ·rename_i g D b S d
   intro l Q m o k q;unfold isType loadHead;exact GZ$ ME (k _ _$ X _ _ d)$ Hc q
  ·cases H
 ne:=λh t p i n r X f=>by
  obtain⟨a,H,_⟩:=Sa c.hd;refine Bool.eq_false_iff.mpr λq=>?_;have e:C=t:=Value.ref.inj (beq_iff_eq.mp q);subst e;unfold clsIn at H;split at H
  ·rename_i g D b S d
   have z:=(X _ _ d).symm.trans f;cases z
  ·cases H
 ca:=λX #[_,_,I] k=>ZR X I c.ga c.gh c.mb (XL (by obtain⟨u,j,_⟩:=Sa c.hd;rw[j];rfl) c.cl c.gt c.tk) c.mo k
abbrev mv:List Value:=[.type "ValueError",.type "Exception",.type "BaseException",.type "object"]
end
section
open PySem.W PySem.Calls
variable {prog:Program}{w:World}{A:Around}{E:Value->Shared->Prop}{R:Result->Shared->Prop}{K:Frag}{h:Heap}{g:Array GenState}{d:Drawn}{t:Nat}{os:OsState}{C B:Addr}
theorem ZS(q:excIn K C mv "ValueError.__new__"=true):(∃p q N r f a s sub u c D k i j m o,K.lookup C=some (excClassObj p q C N r f a s sub u c D k i j m o "ValueError.__new__")/\tailIn K mv f=true/\nsOkIn K N=true/\nsIn K N "__init__"=some none):=by
 unfold excIn at q;split at q
 ·rename_i D z S F
  split at q
  ·rename_i O f k i j m n o x y
   simp only[IE,beq_iff_eq,Pb]at q;obtain⟨⟨⟨⟨⟨rfl,rfl⟩,H⟩,G⟩,b⟩,e⟩:=q;obtain⟨p,r,M,I,Q,J,s,sub,u,c,L⟩:=z;dsimp only at x H b e;subst x H;have v:S=(List.toArray [k,i,j,m,some$ .builtin "ValueError.__new__",o]):=by obtain⟨l⟩:=S;simp only at y;rw[y]
   subst v;exact#[p,Q,I,r,f,J,s,sub,u,c,D,k,i,j,m,o,F,G,b,e]
  ·cases q
 ·cases q
end
theorem aF.obj{P:Program}{a:Addr}(x:aF P w H h a o):∃u,h.get? a=some u:=by
 cases o with
 |lst X=>obtain⟨_,_,_,_,e⟩:=x;exact#[_,e]
 |tup X=>obtain⟨_,_,_,o,e,_⟩:=x;exact#[_,e]
 |dK k=>obtain⟨_,_,_,_,o,_,_,e,_⟩:=x;exact#[_,e]
 |dT k=>obtain⟨_,_,_,_,o,_,_,e,_⟩:=x;exact#[_,e]
 |set S n=>obtain⟨o,_,_,_,e,_⟩:=x;exact#[_,e]
 |ins C d F=>obtain⟨_,_,_,e,_⟩:=x;exact#[_,e]
 |own y=>obtain⟨_,e⟩:=x;exact#[_,e]
 |xd F=>obtain⟨_,⟨_,_,_,e,_⟩,_⟩:=x;exact#[_,e]
 |rng lo b=>obtain⟨_,_,_,e⟩:=x;exact#[_,e]
 |frz O u=>obtain⟨e,_⟩:=x;exact#[_,e]
 |tbl p=>exact#[_,(show h.get? a=some _ from x)]
 |met f y=>exact#[_,(show h.get? a=some _ from x)]
 |ext c=>obtain⟨_,⟨_,e⟩,_⟩:=x;exact#[_,e]
theorem ap.laidN{X:Cx}{h':Heap}{a:Addr}{o:HO}{t':Nat}(I:ap X p g H s)(k:∀b u,s.heap.get? b=some u->h'.get? b=some u)(d:s.heap.get? a=none)(N:aF X.prog X.w (af H a o) h' a o):
  H a=none/\ap X p g (af H a o) { s with heap:=h',toks:=t' }:=by
 have i:∀b u,s.heap.get? b=some u->b≠a:=λb u q z=>by rw[z,d]at q;cases q
 have h:H a=none:=by
  cases q:H a with
  |none=>rfl
  |some u=>obtain⟨U,e⟩:=(I.hok a u q).obj;rw[d]at e;cases e
 refine#[h,I.un ?_ ?_]
 ·exact { keep:=λb u q _ _ _=>k b u q,slot:=λb u q _ _ _=>#[u.slots,k b u q],free:=λb u q n _=>by rw[ji$ i b u q];exact n,there:=λb u q _=>#[u,k b u q],tups:=λb x q=>by rw[ji$ jl q h];exact q,frzs:=λb u x q=>by rw[ji$ jl q h];exact q,tbls:=λb P q=>#[(List.toArray []),by rw[ji$ jl q h,q];simp] }
 ·intro b u e;by_cases f:b=a
  ·subst f;rw[jc]at e;cases e;exact N
  ·rw[ji f]at e;exact(I.hok b u e).stay (λc v _ q=>k c v q) (λc q=>by rw[ji$ jl q h];exact q) λc x q=>by rw[ji$ jl q h];exact q
noncomputable def yj(C:Addr)(d:Option Addr)(x:Addr):HO:=.ext λh=>∃o,h.get? x=some o/\o.cls= .ref C/\notCls o=true/\o.dict=d/\∃v,o.data= .fields v/\v[1]?=some .none
theorem Aw{P:Program}{h:Heap}(e:h.get? x=some o)(a:o.cls= .ref C)(b:notCls o=true)(c:o.dict=d)(f:∃v,o.data= .fields v/\v[1]?=some .none):aF P w H h x (yj C d x):=
 #[#[o,e,a,b,c,f],#[o,e],λg i #[O,E,q] k=>#[O,k O E,q]]
def xZ(C:Addr):TE:=λa H Q=>∀x,H x=none->Q (.ref x) (af H x$ yj C none x)
section
variable {X:Cx}{CX:mY}{k:Nat}{f C:Addr}{fd:FuncData}{ps:List Str}{sp:Sp}{E:XK}{x m g:Str}{p pos pos':Pos}{e o value:Expr}{es:List Expr}{ta tv:TE}{t:TA}
theorem qo(M:excIn X.K C mv "ValueError.__new__"=true)(l:keepIn X.K (.ref C)=true)(n:Gl X x)(r:X.mg x=some (.ref C))(c:(x==("__debug__":Str))=false:=by decide):
  PE X (.Call (.Name x p) [] [] pos) (xZ C):=by
 intro P s D H Q I h;refine Iv$ kX I n r ?_ c;refine Oq I.kIn l ?_;obtain⟨G,q,N,J,L,j,S,sub,O,u,R,U,V,Y,k3,k5,v,w,b,i⟩:=ZS M;have y:=I.kIn _ _ v;obtain⟨hp,g,d,T,os⟩:=s;refine wpAny_call_exc_subT PySem.F.excBase_ValueError (PySem.W.tail_of_in I.kIn w) y (.of_isNs$ PySem.W.isNs_of_in I.kIn b) (PySem.W.nsMap_none_of_in I.kIn b i) (λh' e m=>?_)$ Ho _;obtain⟨t,z,_,_⟩:=m.there;obtain⟨A,B⟩:=I.laidN (a:=e) (h':=h') (o:=yj C none e) (t':=T) m.keeps m.new (Aw z Z Z Z #[_,Z,Z]);exact#[.ref e,_,B,Z,h e A]
end
theorem ap.turnedN{X:Cx}{p:List (Addr×Obj)}{d:St}{H:Hp}{s:Shared}{g:Heap}{t':Nat}{f:List Addr}(I:ap X p d H s)(a:∀b∈f,eP X p H b)(k:∀b o,b∉f->s.heap.get? b=some o->g.get? b=some o):
  ap X p d H { s with heap:=g,toks:=t' }:=by
 have N:∀b u,H b=some u->b∉f:=λb u e z=>by rw[(a b z).1]at e;cases e
 refine I.step (g':=s.gens) (d':=s.drawn) (ch:=f) (λb i=>?_) (λb o _ _ h e _=>k b o h e) (λb o _ _ h e _=>#[o.slots,k b o h e]) (λ_ _ _ _ n=>n)
  (λb o h e=>#[o,k b o h e]) (λ_ _ e=>e) (λ_ _ _ e=>e) (λb P e=>#[(List.toArray []),by rw[e];simp]) (λm j=>?_) (λb u e=>?_) I.bare
 ·obtain⟨A,F,B,l,t,w⟩:=a b i;exact#[l,F,t,w]
 ·obtain⟨o,E,x,y,r⟩:=j;exact#[o,E,x,k _ o (λz=>(a _ z).2.1 Z) y,r]
 ·refine(I.hok b u e).stay (λc v h q=>k c v ?_ q) (λ_ q=>q) λ_ _ q=>q;rcases h with z |z
  ·rw[z];exact N b u e
  ·exact N c _ z
section
variable {M:Model}{A:Around}{E:Value->Shared->Prop}{s:Shared}
structure cV(fl:Value)(im:List Addr)(x:Addr)(ox:Obj)(h h':Heap):Prop where
 ex:∃T oT ts,h.objs.size<=T/\h'.get? x=some (Obj.mapFields (·.setIfInBounds 1 (.ref T)) ox)/\h'.get? T=some oT/\oT.data= .fields ts/\ts[3]?=some fl
 keep:∀b o,b∉im->b≠x->h.get? b=some o->h'.get? b=some o
 slot:∀b o,b≠x->h.get? b=some o->∃sl,h'.get? b=some { o with slots:=sl }
theorem Qt{Q:Unit->Shared->Prop}
  (t:A.frames=some (d::O)) (F:s.heap.FunFrames G (d::O)) (N:d.frame=some L)
  (I:s.heap.get? x=some u) (v:u.data= .fields J) (w:1 < J.size)
  (h:∀K,cV (rawInt L) ((d::O).filterMap (·.frame)) x u s.heap K->Q () { s with heap:=K }):
  wpAny M A (do let a <- frameOf d;let p <- entryPlaceOf L q;let b <- EntryCells.newEntry f a .none (rawInt L) .none p;setField (.ref x) 1 b) Q E s:=by
 have y:x∉(d::O).filterMap (·.frame):=λP=>by obtain⟨_,o,r,z⟩:=F.mem P;rw[I]at r;injection r with r;subst r;exact z J v
 refine GZ$ wpAny_frameOf_fun t F N λH c=>?_;refine GZ$ wpAny_entryPlaceOf λp B=>?_;unfold EntryCells.newEntry newFields;refine GZ$ HY ?_$ B.sizeOk5 _ _ _ _ _;have g:H.get? x=some u:=(c.2.1 x y).trans I;have i:=Hd (h:=H) { cls:=.type "traceback",dict:=none,data:=.fields ([f,.ref L,.none,rawInt L,.none]++(if p.isEmpty then List.replicate 6 Value.none else p)).toArray } g;refine Ic i v w$ h _ ?_;have C:H.objs.size≠x:=Il (Hi g);have j:=HS v (·.setIfInBounds 1 (Value.ref H.objs.size));have l:=HW (Obj.mapFields (·.setIfInBounds 1 (Value.ref H.objs.size))) i (IA j);have k:∀b o,b≠x->H.get? b=some o->((H.push { cls:=.type "traceback",dict:=none,data:=.fields ([f,.ref L,.none,rawInt L,.none]++(if p.isEmpty then List.replicate 6 Value.none else p)).toArray }).update x$ Obj.mapFields (·.setIfInBounds 1 (Value.ref H.objs.size))).get? b=some o:=λb o D e=>by rw[Ht _ _$ HR D];exact Hd _ e
 have m:=(Ht (H.push { cls:=.type "traceback",dict:=none,data:=.fields ([f,.ref L,.none,rawInt L,.none]++(if p.isEmpty then List.replicate 6 Value.none else p)).toArray })
  (Obj.mapFields (·.setIfInBounds 1 (Value.ref H.objs.size))) (HR C)).trans (Hj H Z)
 refine#[#[H.objs.size,_,_,NA c.1.symm,l,m,Z,Si],λb o D n e=>k b o n ((c.2.1 b D).trans e),λb o n e=>?_];obtain⟨S,R⟩:=c.2.2 b o e;exact#[S,k b _ n R]
theorem Yj{Q:Unit->Shared->Prop}
  (H:A.frames=some (e::o)) (i:s.heap.FunFrames b (e::o)) (a:e.frame=some L)
  (c:s.heap.get? x=some O) (d:O.data= .fields v) (f:v[1]?=some .none)
  (h:∀g,cV (rawInt L) ((e::o).filterMap (·.frame)) x O s.heap g->Q () { s with heap:=g }):
  wpAny M A (noteFrame (.ref x) e) Q E s:=by
 unfold noteFrame;simp only[a];refine GZ$ HJ c d f ?_;rw[HG Se];exact Qt H i a c d (Array.getElem?_eq_some_iff.mp f).1 h
theorem vN{im:List Addr}{Q:Unit->Shared->Prop}(N:cV C im x O H s.heap)(j:H.get? x=some O)(v:O.data= .fields w)(k:1 < w.size)
  (h:∀p,cV .none im x O H p->Q () { s with heap:=p }):wpAny M A (setFlight (.ref x) none) Q E s:=by
 obtain⟨T,D,F,c,r,t,g,y⟩:=N.ex;have l:=HS v (·.setIfInBounds 1 (Value.ref T));have m:T≠x:=λz=>absurd (Hq (Hi j) (by rw[<- z];exact c)) (Ip _);unfold setFlight;refine GZ$ HJ r l (x:=.ref T) (by simp [k]) ?_;rw[HD (show(Value.ref T != Value.none)=true from by simp)];have i:=(Array.getElem?_eq_some_iff.mp y).1;refine Ic t g i$ h _ ?_;have a:=HS g (·.setIfInBounds 3 ((none:Option Addr).elim Value.none λf=>rawInt f));have n:=HW (Obj.mapFields (·.setIfInBounds 3 ((none:Option Addr).elim Value.none λf=>rawInt f))) t (IA a);have u:∀b o,H.get? b=some o->T≠b:=λb o e z=>absurd (Hq (Hi e) (by rw[<- z];exact c)) (Ip _);refine#[#[T,_,_,c,by rw[Ht _ _ m];exact r,n,a,by simp [i]],λb o B d e=>?_,λb o d e=>?_]
 ·rw[Ht _ _$ u b o e];exact N.keep b o B d e
 ·obtain⟨S,q⟩:=N.slot b o d e;exact#[S,by rw[Ht _ _$ u b o e];exact q]
theorem XN{base:Heap}{Q:Unit->Shared->Prop}
  (a:A.frames=some (e::o)) (f:s.heap.FunFrames base (e::o)) (g:e.frame=some L)
  (b:s.heap.get? x=some O) (c:O.data= .fields v) (d:v[1]?=some .none)
  (h:∀H,cV .none ((e::o).filterMap (·.frame)) x O s.heap H->Q () { s with heap:=H }):
  wpAny M A (leaving e$ .ref x) Q E s:=by
 unfold leaving;exact GZ$ Yj a f g b c d λH N=>vN (s:={ s with heap:=H }) N b c (Array.getElem?_eq_some_iff.mp d).1 h
end
section
variable {M:Model}{A:Around}{E:Value->Shared->Prop}{s:Shared}
noncomputable abbrev dy(T:Addr)(h:Heap):Heap:=h.update T (Obj.mapFields (·.setIfInBounds 3 Value.none))
theorem Jr{base:Heap}{Q:Unit->Shared->Prop}
  (f:A.frames=some (e::O)) (w:s.heap.FunFrames base (e::O)) (j:e.frame=some L)
  (k:s.heap.get? x=some l) (m:l.data= .fields v) (p:v[1]?=some (.ref T)) (g:T≠x) (i:s.heap.get? T=some y) (c:y.data= .fields t) (r:t[3]?=some .none)
  (h:∀u,cV (rawInt L) ((e::O).filterMap (·.frame)) x l (dy T s.heap) u->Q () { s with heap:=u }):
  wpAny M A (noteFrame (.ref x) e) Q E s:=by
 unfold noteFrame;simp only[j];refine GZ$ HJ k m p ?_;rw[HD (show(Value.ref T != Value.none)=true from by simp)];refine GZ$ HJ i c r ?_;rw[HG (show ¬((Value.none==rawInt L)=true) from by simp [rawInt])];refine GZ$ Ic i c (Array.getElem?_eq_some_iff.mp r).1 ?_;have a:∀b,b≠T->(dy T s.heap).get? b=s.heap.get? b:=λb H=>Ht _ _ (HR H);have n:∀b o,s.heap.get? b=some o->(∀v,o.data≠ .fields v)->b≠T:=λb o H d q=>by rw[q,i]at H;injection H with H;subst H;exact d t c
 exact Qt (s:={ s with heap:=dy T s.heap }) f (w.of_keeps λb o H d=>#[o,(a b$ n b o H d).trans H,Z]) j ((a x$ HR g).trans k) m (Array.getElem?_eq_some_iff.mp p).1 h
theorem Yk{base:Heap}{Q:Unit->Shared->Prop}
  (b:A.frames=some (e::o)) (i:s.heap.FunFrames base (e::o)) (j:e.frame=some L)
  (d:s.heap.get? x=some O) (f:O.data= .fields v) (g:v[1]?=some (.ref T)) (H:T≠x) (k:s.heap.get? T=some l) (c:l.data= .fields t) (m:t[3]?=some .none)
  (h:∀a,cV .none ((e::o).filterMap (·.frame)) x O (dy T s.heap) a->Q () { s with heap:=a }):
  wpAny M A (leaving e$ .ref x) Q E s:=by
 unfold leaving;exact GZ$ Jr b i j d f g H k c m λa N=>vN (s:={ s with heap:=a }) N ((Ht _ _ H).trans d) f (Array.getElem?_eq_some_iff.mp g).1 h
end
noncomputable def dW(C:Addr)(d:Option Addr)(T x:Addr):HO:=.ext λh=>∃o v,h.get? x=some o/\o.cls= .ref C/\notCls o=true/\o.dict=d/\o.data= .fields v/\v[1]?=some (.ref T)
noncomputable def dH(T:Addr):HO:=.ext λh=>∃o t,h.get? T=some o/\o.data= .fields t/\t[3]?=some .none
theorem CD{P:Program}{h:Heap}(e:h.get? x=some o)(c:o.cls= .ref C)(f:notCls o=true)(g:o.dict=d)(i:o.data= .fields a)(b:a[1]?=some (.ref T)):aF P w H h x (dW C d T x):=
 #[#[o,a,e,c,f,g,i,b],#[o,e],λb j #[O,v,E,q] k=>#[O,v,k O E,q]]
theorem uD{P:Program}{h:Heap}(e:h.get? T=some o)(b:o.data= .fields a)(c:a[3]?=some .none):aF P w H h T (dH T):=
 #[#[o,a,e,b,c],#[o,e],λd f #[O,t,E,q] k=>#[O,t,k O E,q]]
def dG(P:Program)(w:World):mY:=λo H s E e S=>∃x C d T h,e= .ref x/\S.os=s.os/\AllBare S.gens/\Un (im o) [] H h s.heap S.heap/\eh P w h S.heap/\
 h x=some (dW C d T x)/\h T=some (dH T)/\T≠x/\E (.ref C) d h
section
variable {X:Cx}{pins:List (Addr×Obj)}{σ:St}{H:Hp}{s:Shared}{x C:Addr}{d:Option Addr}
theorem cV.hok{fl:Value}(I:ap X pins σ H s)(g:H x=some (.ext M))(P:s.heap.get? x=some o)(B:o.cls= .ref C)(D:o.dict=d)(j:o.data= .fields E)(k:1 < E.size)(l:∀b∈G,H b=none)
  (N:cV .none G x o s.heap J):∃T,H T=none/\T≠x/\s.heap.objs.size<=T/\eh X.prog X.w (af (af H T$ dH T) x$ dW C d T x) J:=by
 obtain⟨T,Q,R,h,m,F,n,p⟩:=N.ex;have i:H T=none:=I.hok.fresh h;have r:T≠x:=HR (jl g i);have a:=HS j (·.setIfInBounds 1 (Value.ref T));refine#[T,i,r,h,λb u e=>?_];by_cases t:b=x
 ·subst t;rw[jc]at e;cases e;refine CD m ((Mb _ _).trans B) ?_ ?_ a (by simp [k])
  ·unfold notCls;rw[a]
  ·obtain⟨S,U,O,K⟩:=o;simp only at j;subst j;exact D
 ·rw[ji t]at e;by_cases f:b=T
  ·subst f;rw[jc]at e;cases e;exact uD F n p
  ·rw[ji f]at e;refine(I.hok b u e).stay (λc v A q=>?_) (λc q=>?_) λc V q=>?_
   ·have y:c≠x:=by
     rcases A with z |z
     ·rw[z];exact t
     ·exact jO z g (by intro q;cases q)
    refine N.keep c v (λL=>?_) y q;have:=l c L;rcases A with z |z
    ·rw[z,e]at this;cases this
    ·rw[z]at this;cases this
   ·rw[ji$ jO q g (by intro z;cases z),ji$ jl q i];exact q
   ·rw[ji$ jO q g (by intro z;cases z),ji$ jl q i];exact q
theorem cV.un{h':Heap}(I:ap X pins σ H s)(hex:X.ex=[])(j:H x=some (.ext k))(l:H T=none)(c:s.heap.objs.size<=T)(f:∀b∈p,b∈X.fs∨X.s₀.heap.objs.size<=b)
  (N:cV .none p x y s.heap h'):Un X.fs [] X.H₀ (af (af H T$ dH T) x$ dW C d T x) X.s₀.heap h':=by
 have g:∀b,H b=none->b≠x:=λb e z=>by rw[z,j]at e;cases e
 have r:∀b o,X.s₀.heap.get? b=some o->b≠T:=λb o e=>Hm (Hq (Hi e)$ Hr I.sz c);have a:∀b:Addr,b∉X.ex:=λb z=>by rw[hex]at z;cases z
 have t:∀b,H b=none->b≠T->af (af H T$ dH T) x (dW C d T x) b=none:=λb e z=>by rw[ji$ g b e,ji z];exact e
 have U:∀b u,H b=some u->(∀k,u≠ .ext k)->af (af H T$ dH T) x (dW C d T x) b=some u:=λb u e z=>by rw[ji (λq=>by rw[q,j]at e;cases e;exact z _ Z),ji$ jl e l];exact e
 refine#[λb o e n h _=>?_,λb o e n h _=>?_,λb o e n _=>?_,λb o e _=>?_,λb v e=>U b _ (I.base.tups b v e) (by intro _ q;cases q),λb o u e=>U b _ (I.base.frzs b o u e) (by intro _ q;cases q),λb P e=>?_]
 ·refine N.keep b o (λz=>?_) (g b$ I.base.free b o e n$ a b)$ I.base.keep b o e n h$ a b;rcases f b z with q |q
  ·exact h q
  ·exact absurd (Hq (Hi e) q)$ Ip _
 ·obtain⟨w,q⟩:=I.base.slot b o e n h (a b);obtain⟨S,Q⟩:=N.slot b _ (g b$ I.base.free b o e n$ a b) q;exact#[S,Q]
 ·exact t b (I.base.free b o e n$ a b)$ r b o e
 ·obtain⟨O,q⟩:=I.base.there b o e (a b);by_cases h:b=x
  ·obtain⟨A,_,_,_,i,_⟩:=N.ex;exact#[_,by rw[h];exact i]
  ·obtain⟨w,Q⟩:=N.slot b O h q;exact#[_,Q]
 ·obtain⟨m,q⟩:=I.base.tbls b P e;exact#[m,U b _ q (by intro _ q;cases q)]
end
section
variable {P:Program}{w:World}{K:Frag}{mg:Str->Option Value}{base:Heap}{N:List Str}{qual:Str}{scope:Scope}{f:Addr}{cd:Value}{A:Around}{outer:List Env}{s₀:Shared}{H₀:Hp}{E:XK}
variable {pins:List (Addr×Obj)}{σ:St}{H:Hp}{s:Shared}{x C:Addr}{d:Option Addr}
theorem uU(I:ap (eQ (dG P w) P w K mg base N qual scope f cd A outer s₀ H₀ E) pins σ H s)(c:H x=some (yj C d x))
  (h:∀T,H T=none->E (.ref C) d (af (af H T$ dH T) x$ dW C d T x)):(eQ (dG P w) P w K mg base N qual scope f cd A outer s₀ H₀ E).xe (.ref x) s:=by
 obtain⟨⟨O,l,q,t,r,v,m,n⟩,_⟩:=I.hok x _ c;have g:=(Array.getElem?_eq_some_iff.mp n).1;refine XN (base:=base) I.ok.frames I.stack Z l m n λy o=>?_;obtain⟨T,p,a,i,j⟩:=o.hok (C:=C) (d:=d) (fl:=.none) I c l q r m g λb k=>I.stkFree b k;have u:=o.un (C:=C) (d:=d) I Z c p i λb k=>by
  rcases List.mem_cons.mp (I.stkSub b k) with e |e
  ·exact .inr (by rw[e];exact I.ok.above)
  ·exact .inl e
 exact#[x,C,d,T,_,Z,I.os,I.bare,u,j,jc,by rw[ji a,jc],a,h T p]
theorem ap.cleared{X:Cx}(I:ap X pins σ H s)(c:H T=some (dH T))(i:s.heap.get? T=some O)(j:O.data= .fields t)(k:t[3]?=some .none):ap X pins σ H { s with heap:=dy T s.heap }:=by
 have h:=HS j (·.setIfInBounds 3 Value.none);have g:=HW (Obj.mapFields (·.setIfInBounds 3 Value.none)) i (IA h);have:=I.write (x:=T) (e:=T) (o:=dH T) (h':=dy T s.heap) (t':=s.toks) (by rw[c];exact True.intro) (.inl Z) (λb u a q=>(Ht _ _$ HR a).trans q) #[_,g] (uD g h (by simp [(Array.getElem?_eq_some_iff.mp k).1]));have l:af H T (dH T)=H:=by
  funext b;by_cases a:b=T
  ·rw[a,jc,c]
  ·rw[ji a]
 rw[l]at this;exact this
theorem yd(I:ap (eQ (dG P w) P w K mg base N qual scope f cd A outer s₀ H₀ E) pins σ H s)(g:H x=some (dW C d T x))(n:H T=some (dH T))(c:T≠x)
  (h:∀t,H t=none->E (.ref C) d (af (af H t$ dH t) x$ dW C d t x)):(eQ (dG P w) P w K mg base N qual scope f cd A outer s₀ H₀ E).xe (.ref x) s:=by
 obtain⟨⟨O,V,o,D,G,F,p,q⟩,_⟩:=I.hok x _ g;obtain⟨⟨J,L,r,u,v⟩,_⟩:=I.hok T _ n;have i:=(Array.getElem?_eq_some_iff.mp q).1;have y:=I.cleared n r u v;refine Yk (base:=base) I.ok.frames I.stack Z o p q c r u v λM z=>?_;have j:(dy T s.heap).get? x=some O:=(Ht _ _ c).trans o;obtain⟨t,B,a,k,l⟩:=cV.hok (C:=C) (d:=d) (fl:=.none) y g j D F p i (λb m=>I.stkFree b m) z;have U:=cV.un (C:=C) (d:=d) y Z g B k (λb m=>by
  rcases List.mem_cons.mp (I.stkSub b m) with e |e
  ·exact .inr (by rw[e];exact I.ok.above)
  ·exact .inl e) z
 exact#[x,C,d,t,_,Z,I.os,I.bare,U,l,jc,by rw[ji a,jc],a,h t B]
theorem wJ{j:XK}(m:∀x C d T t a,a x=some (dW C d T x)->a T=some (dH T)->a t=none->j (.ref C) d a->E (.ref C) d (af (af a t$ dH t) x$ dW C d t x)):
  dh (dG P w) (eQ (dG P w) P w K mg base N qual scope f cd A outer s₀ H₀ E) j:=by
 intro pins σ H s e S I h;obtain⟨x,C,d,T,a,rfl,os,B,u,c,k,l,i,n⟩:=h;obtain⟨p,g,D,q,o⟩:=S;obtain rfl:o=s.os:=os;have r:=I.call (h':=p) (g':=g) (d':=D) (t':=q) (ch:=[]) u c B (λb z=>absurd z Si);exact yd r k l i λt v=>m x C d T t a k l v n
end
section
open PySem.W
variable {prog:Program}{w:World}{A:Around}{E:Value->Shared->Prop}{K:Frag}{x C:Addr}{ox:Obj}{vs:Array Value}{env:Env}
theorem Yl{ev:Sem Value}(e:A.handled=none)
  (h:wpAny (model prog w) A ev (λv S=>∃x C ox vs,v= .ref x/\K.In S.heap/\gw K C/\typeIn K (.ref C)=some (.type "type")/\S.heap.get? x=some ox/\ox.cls= .ref C/\ox.data= .fields vs/\vs[1]?=some .none/\E (.ref x) S) E s):
  wpAny (model prog w) A (raiseStmt env (some ev) none) Q E s:=by
 unfold raiseStmt;refine GZ$ Ik h (λv S a=>?_) λ_ _ z=>z;obtain⟨x,C,ox,vs,rfl,X,f,i,b,j,c,m,n⟩:=a;obtain⟨H,g,d,T,os⟩:=S;have L:Looks (model prog w) H (typeOf$ .ref x) (.ref C):=j▸(Pu b).andThen .now;have l:Looks (model prog w) H (isType$ .ref x) false:=by intro y B D F k q;unfold isType loadHead;refine GZ$ ME (k _ _ b) ?_;rw[c];exact Hc q
 have _L:=MU (M:=model prog w) X f.mb;have o:=O2 (M:=model prog w) X i;have p:Looks (model prog w) H (isInstance (.ref x)$ .type "BaseException") true:=L.andThen _L;have r:Looks (model prog w) H (isExcClass$ .ref x) false:=by unfold isExcClass;exact l.andThen .now
 have t:Looks (model prog w) H (raisedInstance$ .ref x) (.ref x):=by unfold raisedInstance;exact L.andThen$ o.andThen (by rw[HD Se];exact .now)
 have u:Looks (model prog w) H (excFromValue (.ref x) "exceptions must derive from BaseException") (.ref x):=by unfold excFromValue;exact r.andThen (by rw[HG Se];exact p.andThen (by rw[HD Z];exact .now))
 refine GZ$ Hc ?_;refine GZ$ Hs$ u.at ?_;dsimp only;refine GZ$ l.at ?_;rw[HG Se];refine GZ$ t.at ?_;unfold setFlight;refine GZ$ GZ$ HJ b c m ?_;rw[HG Se];exact Hc$ wpAny_raiseNew_none e n
end
def yk(X:Cx)(W:Addr->Addr->Option Addr->Hp->Prop):Prop:=∀(p:List (Addr×Obj)) (a:St) (H:Hp) (s:Shared) (x C:Addr) (d:Option Addr),ap X p a H s->H x=some (yj C d x)->W x C d H->X.xe (.ref x) s
theorem qp{P:Program}{K:Frag}:
  yk (eQ (dG P w) P w K m b N q s f g A o a c E) (λx C d H=>∀T,H T=none->E (.ref C) d (af (af H T$ dH T) x$ dW C d T x)):=
 λ_ _ _ _ _ _ _ I e h=>uU I e h
inductive nG(K:Frag)(b:Addr->Addr->Option Addr->Hp->Prop)(v:V)(a:Hp):Prop
 |mk(x C d:_)(_:v= .ref x)(_:a x=some (yj C d x))(_:gw K C)(_:typeIn K (.ref C)=some (.type "type"))(_:b x C d a)
def BV(K:Frag)(t:TE)(W:Addr->Addr->Option Addr->Hp->Prop):TS:=λ_u0 a H=>t a H (nG K W)
theorem qV{X:Cx}{e:Expr}{t:TE}{P:Pos}{W:Addr->Addr->Option Addr->Hp->Prop}(f:X.calm=true)(F:yk X W)(g:PE X e t):PS X (.Raise (some e) none P) (BV X.K t W):=by intro p s b H D I h;rw[arm_exec_Raise];refine GZ$ LC ?_;refine Yl (K:=X.K) (ev:=do let v <- eval e X.env;standAt P;pure v) (I.ok.hd f)$ GZ$ aJ (g p s b H _ I h) λu S a=>GZ (LC$ Hc ?_);obtain⟨v,j,i,r,x,C,d,ev,c,k,l,q⟩:=a;subst ev;obtain rfl:u=Value.ref x:=r;obtain⟨⟨o,m,n,z,A,V,w,y⟩,_⟩:=i.hok x _ c;exact#[x,C,o,V,Z,i.kIn,k,l,m,n,w,y,F p b j S x C d i c q]
section
variable {X:Cx}{pins:List (Addr×Obj)}{σ:St}{H:Hp}{s:Shared}{x C:Addr}{d:Option Addr}
theorem ap.noted{t':Nat}(I:ap X pins σ H s)(a:H x=some (.ext l))(p:s.heap.get? x=some O)(r:O.cls= .ref C)(t:O.dict=d)(v:O.data= .fields w)(c:1 < w.size)
  (N:cV .none (im X.stack) x O s.heap y):∃T,H T=none/\T≠x/\ap X pins σ (af (af H T$ dH T) x$ dW C d T x) { s with heap:=y,toks:=t' }:=by
 obtain⟨T,m,f,g,i⟩:=cV.hok (C:=C) (d:=d) (fl:=.none) I a p r t v c (λb h=>I.stkFree b h) N;have j:∀b,H b=none->b≠x:=λb e z=>by rw[z,a]at e;cases e
 have U:∀b u,H b=some u->(∀l,u≠ .ext l)->af (af H T$ dH T) x (dW C d T x) b=some u:=λb u e z=>by rw[ji (λq=>by rw[q,a]at e;cases e;exact z _ Z),ji$ jl e m];exact e
 refine#[T,m,f,I.call (g':=s.gens) (d':=s.drawn) (ch:=[]) ?_ i I.bare (λb z=>absurd z Si)];refine#[λb o e n h _=>N.keep b o h (j b n) e,λb o e n _ _=>N.slot b o (j b n) e,λb o e n _=>?_,λb o e _=>?_,λb A e=>U b _ e (by intro _ q;cases q),λb o u e=>U b _ e (by intro _ q;cases q),λb P e=>#[(List.toArray []),by rw[U b _ e (by intro _ q;cases q)];simp]]
 ·rw[ji$ j b n,ji$ Hm$ Hq (Hi e) g];exact n
 ·by_cases h:b=x
  ·obtain⟨B,_,_,_,k,_⟩:=N.ex;exact#[_,by rw[h];exact k]
  ·obtain⟨S,q⟩:=N.slot b o h e;exact#[_,q]
theorem ZT{v:V}{Q:Unit->Shared->Prop}(I:ap X pins σ H s)(R:X.N.Nodup)(B:X.N[i]?=some n)(D:X.env.scope.names.lookup n=some .local)(T:σ[i]?=some (some v))
  (h:∀S,ap X pins (σ.set i none) H S->Q () S):wpAny M A (unbindBehindTheSuite X.env n U) Q E s:=by
 obtain⟨m,K,L⟩:=id I.loc;have g:(X.env.scope.kind== .class||(X.env.scope.kind== .module&&X.env.locals != X.env.globals))=false:=by rw[I.ok.kind];rfl
 obtain⟨u,ru,lk⟩:=L i n v B T (.inl D);have W:m n=some u:=by
  rcases lk with ⟨_,e⟩ | ⟨k,_⟩
  ·exact e
  ·have O:X.env.scope.names.lookup n=some .cell∨X.env.scope.names.lookup n=some .free:=k;rw[D]at O;rcases O with z |z<;>cases z
 have l:=I.cne;obtain⟨oL,_,_,Y,_⟩:=id K;unfold unbindBehindTheSuite;refine NC$ wpAny_unbindName_local D K W g λh' w' F a=>h _ ?_;refine#[I.ok,I.os,I.bare,#[λb o e n G r=>?_,λb o e n G r=>?_,I.base.free,λb o e r=>?_,I.base.tups,I.base.frzs,I.base.tbls],#[_,F,λj y v' f w e3=>?_],λy c e=>?_,I.free,I.freeC,λp hp=>?_,λb ob e=>?_,by simpa using I.len]
 ·exact(a.2 b$ Hm$ Hq (Hi e) I.ok.above).trans (I.base.keep b o e n G r)
 ·obtain⟨sl,f⟩:=I.base.slot b o e n G r;exact#[sl,(a.2 b$ Hm$ Hq (Hi e) I.ok.above).trans f]
 ·obtain⟨o',f⟩:=I.base.there b o e r;exact#[o',(a.2 b$ Hm$ Hq (Hi e) I.ok.above).trans f]
 ·have t:i < σ.length:=by rw[I.len];exact(List.getElem?_eq_some_iff.mp B).1
  by_cases J:j=i
  ·subst J;rw[K' t]at w;cases w
  ·rw[IY$ HR J]at w;obtain⟨u',r',q⟩:=L j y v' f w e3;refine#[u',r',?_];rcases q with ⟨k,e⟩ | ⟨k,c,e,z⟩
   ·refine .inl #[k,?_];have:y≠n:=λe=>J (Kj R f$ e▸B);simp [this,e]
   ·exact .inr #[k,c,e,z.sameBut a$ l y c e]
 ·obtain⟨w2,z⟩:=I.cell y c e;exact#[w2,z.sameBut a$ l y c e]
 ·obtain⟨e,n,P,nf,d⟩:=I.pin p hp;exact#[(a.2 p.1 P).trans e,n,P,nf,d]
 ·refine(I.hok b ob e).stay (λc w' hc q=>(a.2 c ?_).trans q) (λ_ q=>q) λ_ _ q=>q;rintro rfl;rcases hc with z |z
  ·rw[<- z,I.free]at e;cases e
  ·rw[I.free]at z;cases z
end
noncomputable abbrev Cx.mark(X:Cx)(e:Value)(xe:Value->Shared->Prop):Cx:={ X with A:=X.A.mark (some e),calm:=false,xe:=xe }
theorem ap.mark{X:Cx}(I:ap X p a H s)(e:Value)(x:Value->Shared->Prop):ap (X.mark e x) p a H s:=
 #[#[I.ok.mod,I.ok.kind,I.ok.glob,I.ok.blt,I.ok.above,I.ok.inj,I.ok.has,I.ok.cab,(λz=>nomatch (show false=true from z)),I.ok.frames,I.ok.stk,I.ok.exf,I.ok.bs,I.ok.bsz,I.ok.noex,I.ok.exfs,I.ok.funs,I.ok.frf],I.os,I.bare,I.base,I.loc,I.cell,I.free,I.freeC,I.pin,I.hok,I.len]
theorem ap.unmark{X:Cx}(o:X.Ok)(I:ap (X.mark e x) p a H s):ap X p a H s:=
 #[o,I.os,I.bare,I.base,I.loc,I.cell,I.free,I.freeC,I.pin,I.hok,I.len]
section
open PySem.W
theorem zI{K:Frag}(X:K.In h)(a:h.get? x=some o)(b:o.cls= .ref C)(H:clsIn K B≠none)(tB:typeIn K (.ref B)=some (.type "type"))(m:mroIn K B (.type "BaseException")=some true)(c:mroIn K C (.ref B)=some true):
  Looks M h (excMatches (.ref x)$ .ref B) true:=by
 have L:Looks M h (typeOf$ .ref x) (.ref C):=b▸(Pu a).andThen .now;have l:=O2 (M:=M) X tB;have _L:Looks M h (isInstance (.ref B)$ .type "tuple") false:=l.andThen (N9 tc_notTuple);have d:Looks M h (isType$ .ref B) true:=by
  unfold clsIn at H;split at H
  ·rename_i e
   intro A Q E s k q;unfold isType loadHead;exact GZ$ ME (k _ _$ X _ _ e)$ Hc q
  ·exact absurd Z H
 have f:Looks M h (isExcClass$ .ref B) true:=by unfold isExcClass;exact d.andThen (by rw[HD Z];exact MU X m)
 have g:=MU (M:=M) X c;intro A Q E s k q;unfold excMatches;refine GZ$ _L A _ E s k ?_;rw[HG Se];refine GZ$ Hc ?_;dsimp only;refine GZ ?_;rw[IZ];refine GZ$ GZ$ f A _ E s k ?_;simp only[LQ,Hn,IB];refine Hc ?_;dsimp only;rw[LF];refine Hc ?_;refine GZ$ L A _ E s k ?_;refine GZ ?_;rw[IZ];refine GZ$ GZ$ g A _ E s k ?_;simp only[Ms];refine Hc$ Hc ?_;exact Hc q
end
abbrev XR:=Addr->Addr->Option Addr->Addr->Hp->Prop
def XW(X:Cx)(p:List (Addr×Obj))(a:St)(R:XR)(e:Value)(s:Shared):Prop:=
 ∃x C d T H,e= .ref x/\ap X p a H s/\H x=some (dW C d T x)/\H T=some (dH T)/\T≠x/\R x C d T H
abbrev EY:=St->Hp->VK->XR->Prop
abbrev Dc:=aU->XR->St->Hp->Prop
def EX(X:Cx)(e:Expr)(t:EY):Prop:=
 ∀(p:List (Addr×Obj)) (s:Shared) (a:St) (H:Hp) (Q:VK) (R:XR),ap X p a H s->t a H Q R->wpAny (model X.prog X.w) X.A (eval e X.env) (EP X p a Q) (XW X p a R) s
def EF(X:Cx)(st:Stmt)(t:Dc):Prop:=
 ∀(p:List (Addr×Obj)) (s:Shared) (a:St) (H:Hp) (D:aU) (R:XR),ap X p a H s->t D R a H->wpAny (model X.prog X.w) X.A (exec st X.env) (SP X p D) (XW X p a R) s
def Gs(R:XR):XK:=λc d H=>∀x C T,c= .ref C->H x=some (dW C d T x)->H T=some (dH T)->T≠x->R x C d T H
def Cq(s:Sp)(d:List V)(t:TA):EY:=λa H Q R=>t a H λv h=>s (v++d) h Q (Gs R)
section
variable {X:Cx}{k:Nat}{f:Addr}{fd:FuncData}{ps:List Str}{sp:Sp}{dvs:List V}{ds:List Value}{x:Str}{p pos:Pos}{e:Expr}{es:List Expr}{t:TA}{te:EY}
theorem Xp(F:ah X.prog X.w X.K X.mg X.base (dG X.prog X.w) k f fd ps sp)(y:bn k X.A)(D:Gl X x)(E:X.mg x=some (.ref f))(G:keepIn X.K (.ref f)=true)(J:ay X.K fd ps ds)(L:au dvs ds)
  (M:PA X.nox (e::es) t) (g:(x==("__debug__":Str))=false:=by decide) (N:starEach (e::es) X.env=(false,eval e X.env)::starEach es X.env:=by rfl) (j:(backTo pos$ starEach es X.env).any (·.1)=false:=by rfl):
  EX X (.Call (.Name x p) (e::es) [] pos) (Cq sp dvs t):=by
 intro P s O H Q R I h;refine Iv$ kX I D E ?_ g;refine NG (h₀:=X.base) I.ok.mod.kin G (Ik (M pos P s O H _ (I.wish _) h) (λU S #[v,W,i,r,q]=>#[i.kIn,?_]) λ_ _ z=>z.elim) N j;have i:=i.unwish;have m:au (v++dvs) (U++ds):=r.append L;have Y:(U++ds).length=ps.length:=by rw[<- m.length];exact F.len _ _ _ _ q
 refine Nc$ LA (F.run X.A X.stack S W #[U,[]] (U++ds) (v++dvs) Q (Gs R) y i.env0 (J S U i.kIn Y) m q) λr s' a=>?_;cases r with
 |error e=>obtain⟨x,C,d,T,H',rfl,os,B,un,l,n,o,c,hw⟩:=a;exact#[x,C,d,T,H',Z,i.call' os un l B (λb z=>absurd z Si),n,o,c,hw x C T Z n o c]
 |ok fl=>
  cases fl with
  |ret u=>exact i.after a
  |next=>exact False.elim a
  |brk=>exact False.elim a
  |cont=>exact False.elim a
theorem wR{i:Nat}{y:Str}{P:Pos}(d:X.N.Nodup)(g:X.N[i]?=some y)(j:pj X.env.scope y)(l:EX X e te)(m:swapsWith e (some$ .Name y P) pos.line X.env=pure false:=by rfl)(n:X.fn y=true∨X.env.scope.names.lookup y=some .local:=by first |exact .inl Z |exact .inr Z |assumption):
  EF X (.Assign [.Name y P] e pos) (λD R b H=>te b H (λv c=>D.nx (b.set i$ some v) c) R):=by
 intro a s b H D R I h;refine Ra (aJ (l a s b H _ R I h) λv S z=>?_) m;obtain⟨y,c,o,r,q⟩:=z;exact kP o d g j r (λw u=>#[_,c,u,q]) n
theorem sC(c:EX X e te)(d:swapsWith e none pos.line X.env=pure false:=by rfl):EF X (.Expr e pos) (λD R a H=>te a H (λ_ b=>D.nx a b) R):=by intro P s a H D R I h;exact R3 (aJ (c P s a H _ R I h) λv S #[x,b,i,r,q]=>#[a,b,i,q]) I.quiet d
end
theorem qq{X:Cx}{Q:Unit->Shared->Prop}(I:ap X p d H s)(e:X.N.Nodup)(b:X.N[i]?=some n)(c:X.env.scope.names.lookup n=some .local)
  (h:∀S,ap X p (d.set i none) H S->Q () S):wpAny M A (do bindName X.env n .none;unbindBehindTheSuite X.env n g) Q E s:=by
 have a:i < d.length:=by rw[I.len];exact(List.getElem?_eq_some_iff.mp b).1
 refine GZ ?_;unfold bindName;refine GZ$ Hs$ wpAny_point$ GZ$ kP (v:=.non) I e b (.inl c) Z (λl j=>wpAny_point ?_)$ .inr c;refine ZT j e b c (v:=.non) (K' a) λk f=>h k ?_;rw[List.set_set]at f;exact f
noncomputable def pw(i:Nat)(D:aU):aU:={ nx:=λa H=>D.nx (a.set i none) H,rt:=D.rt,bk:=λa H=>D.bk (a.set i none) H,ct:=λa H=>D.ct (a.set i none) H }
def FT(K:Frag)(B:Addr)(i:Nat)(t:Dc)(b:TS):TS:=λD a H=>t D (λx C d _ h=>mroIn K C (.ref B)=some true/\∀T,h T=none->b (pw i D) (a.set i$ some$ .ref x) (af (af h T$ dH T) x$ dW C d T x)) a H
section
variable {X:Cx}{st b₀:Stmt}{suite:List Stmt}{tb:Dc}{ts:TS}{cn n:Str}{np hp pos:Pos}{B:Addr}{i:Nat}
theorem BG(a:X.stack=X.env::X.outer)(J:X.env.frame=some X.env.locals)(hb:EF X st tb)(hg:Gl X cn)(hm:X.mg cn=some (.ref B))(hB:clsIn X.K B≠none)(tB:typeIn X.K (.ref B)=some (.type "type"))(mB:mroIn X.K B (.type "BaseException")=some true)
  (m:X.N.Nodup) (o:X.N[i]?=some n) (l:X.env.scope.names.lookup n=some .local) (hs:∀e,iE (X.mark e λ_ _=>False) (b₀::suite) ts) (L:(cn==("__debug__":Str))=false:=by decide):
  PS X (.Try [st] [.ExceptHandler (some$ .Name cn np) (some n) (b₀::suite) hp] [] [] pos) (FT X.K B i tb ts):=by
 intro p s W H D I h;refine Rk$ M7$ Ik (hb p s W H D _ I h) (λf S q=>?_) λe S q=>?_
 ·cases f with
  |next=>exact Lq (Lq q)
  |ret v=>exact q
  |brk=>exact q
  |cont=>exact q
 obtain⟨x,C,d,T,Y,rfl,r,hx,hT,u,mC,q⟩:=q;obtain⟨⟨ox,vs,h1,h2,h3,h4,M,h6⟩,_⟩:=r.hok x _ hx;obtain⟨⟨oT,tz,t1,t2,t3⟩,_⟩:=r.hok T _ hT;have w:=(Array.getElem?_eq_some_iff.mp h6).1;have O:X.A.frames=some (X.env::X.outer):=by rw[<- a];exact r.ok.frames
 have P:S.heap.FunFrames X.base (X.env::X.outer):=by rw[<- a];exact r.stack
 refine Jr (base:=X.base) O P J h1 M h6 u t1 t2 t3 λg2 Nd=>?_;have E:(dy T S.heap).get? x=some ox:=(Ht _ _ u).trans h1;refine vN (s:={ S with heap:=g2 }) Nd E M w λg3 R=>?_;obtain⟨t,hn,F,b⟩:=(r.cleared hT t1 t2 t3).noted (C:=C) (d:=d) (t':=S.toks) hx E h2 h4 M w (by unfold im;rw[a];exact R);have b:ap X p W (af (af Y t$ dH t) x$ dW C d t x) { S with heap:=g3 }:=b;obtain⟨⟨o1,v0,k1,k2,k3,k4,k5,k6⟩,_⟩:=b.hok x _ jc;have G:af (af Y t$ dH t) x (dW C d t x) t=some (dH t):=by rw[ji F,jc]
 obtain⟨⟨o2,t0,u1,u2,u3⟩,_⟩:=b.hok t _ G;refine Mu (Mi ?_) (by intro z;cases z);refine kX (b.mark (.ref x) λ_ _=>False) hg hm ?_ L;refine zI b.kIn k1 k2 hB tB mB mC _ _ _ _ (λ_ _ e=>e) ?_;refine codeAny_handlers_suite_as ?_;unfold setFlight;refine GZ$ HJ k1 k5 k6 ?_;rw[HD (show(Value.ref t != Value.none)=true from by simp)];refine Ic u1 u2 (Array.getElem?_eq_some_iff.mp u3).1 ?_;have I4:=b.cleared G u1 u2 u3;refine kP (v:=.ref x) I4 m o (.inl l) Z (λs5 I5=>?_)$ .inr l;refine Ik (hs (.ref x) p s5 _ _ (pw i D) (I5.mark (.ref x) λ_ _=>False)$ q t hn) (λf s6 Q=>?_) λ_ _ z=>z.elim;cases f with
 |next=>obtain⟨c,U,g,j⟩:=Q;exact qq (g.unmark I.ok) m o l λV k=>#[_,_,k,j]
 |brk=>obtain⟨c,U,g,j⟩:=Q;exact qq (g.unmark I.ok) m o l λV k=>#[_,_,k,j]
 |cont=>obtain⟨c,U,g,j⟩:=Q;exact qq (g.unmark I.ok) m o l λV k=>#[_,_,k,j]
 |ret v=>obtain⟨y,c,U,g,rv,j⟩:=Q;exact qq (g.unmark I.ok) m o l λV k=>#[y,_,_,k,rv,j]
end
def lB(H:Hp)(a C:Addr)(f:List (Str×V)):Prop:=(f=[]/\∃T,H a=some (dW C none T a))∨∃d T,H a=some (dW C (some d) T a)/\H d=some (.xd f)
section
variable {X:Cx}{pins:List (Addr×Obj)}{σ:St}{H:Hp}{s:Shared}{a C:Addr}{fs:List (Str×V)}{f:Str}{v:V}{A:Around}{E:Value->Shared->Prop}
theorem Qu(I:ap X pins σ H s)(e:lB H a C fs):∃g O,PySem.W.InstAt s.heap a g C O/\∀f v,fs.lookup f=some v->∃o u,O=some o/\aw v u/\lookIn f o=some (some u):=by
 rcases e with ⟨rfl,T,e⟩ | ⟨D,T,e,i⟩
 ·obtain⟨⟨o,j,h,b,c,d,_⟩,_⟩:=I.hok a _ e;exact#[o,none,#[h,b,c,by rw[d];trivial],λf v q=>nomatch q]
 ·obtain⟨⟨o,j,h,b,c,d,_⟩,_⟩:=I.hok a _ e;obtain⟨m,n,r⟩:=(show aF X.prog X.w H s.heap D (.xd fs) from I.hok D _ i);obtain⟨O,k,l⟩:=Qm n;refine#[o,some O,#[h,b,c,by rw[d];exact k],λf v q=>?_];obtain⟨u,p,R⟩:=dw.some_of (v:=v) (o:=m f) (by rw[<- q];exact r f);exact#[O,u,Z,R,by rw[l,p]]
theorem Q7:b8 X (.builtin "isinstance") (λx H Q=>∃a C fs y c b,x=[.ref a,y]/\Am y=some c/\lB H a C fs/\gw X.K C/\kitOne X.K (.ref C) c=some b/\Q (.bl b) H):=by
 intro pins s σ H x U Q I r h;obtain⟨a,C,fs,y,c,b,rfl,d,g,i,e,q⟩:=h;obtain⟨u,w,rfl,j,R⟩:=uL r;have k:w=c:=by
  cases y with
  |ty n=>exact OX R (HV d)
  |ref a=>exact OX R (HV d)
  |_=>cases d
 subst k;cases (show u=Value.ref a from j);obtain⟨o,O,J,_⟩:=Qu I g;exact Mr (Xo i) I.kIn #[o,O,J] e (λz=>nomatch z) λt=>#[.bl b,H,I.tok t,Z,q]
end
theorem aK.ok1{P:Program}{K:Frag}{st:Stmt}{a:Sp}(F:aK K x q st f g)(S:ak N p (aa st))(len:∀v H Q E,a v H Q E->v.length=p.length)
  (h:∀(c:Value) (A:Around) (o:List Env) (s:Shared) (H:Hp) (v:List V) (Q:VK) (E:XK),bn k (A.deeper$ envOfC q (aa st) s.heap.objs.size f c)->a v H Q E->
   ∃t,iE (eQ (dG P w) P w K m b N q (aa st) f c A o s H E) (ba st) t/\t { nx:=λ_ i=>Q .non i,rt:=Q } (fQ N v) H):ah P w K m b (dG P w) (k+1) f g p a:=by
 obtain⟨l,n,kV,D,r,u,c,C,O,rfl,lk,d⟩:=F.ex;exact yz lk d S len λA o s H v Q E j e=>h c A o s H v Q E j e
end _L
namespace _L
open PySem PySem.Spec PyProof.Rows PySem.SeqAt
noncomputable def mw(x y:List V):Bool:=(List.range$ min x.length y.length).all (λj=>ma (x.getD j .non) (y.getD j .non))&&x.length==y.length
section
variable {X:Cx}
theorem ZU(r:au x i)(R:au y I)(f:x.all ci=true)(F:y.all ci=true)(j:Nat)(c:j < i.toArray.size)(d:j < I.toArray.size):EqAt A s i.toArray[j] I.toArray[j] (ma (x.getD j .non)$ y.getD j .non):=by
 have L:=r.length;have p:=R.length;have H:j < x.length:=by simp at c;omega
 have h:j < y.length:=by simp at d;omega
 have a:x[j]?=some x[j]:=G8 H;have b:y[j]?=some y[j]:=G8 h;obtain⟨u,q,g⟩:=r.get a;obtain⟨U,Q,k⟩:=R.get b;have l:=List.all_eq_true.mp f _ (LG H);have m:=List.all_eq_true.mp F _ (LG h);have E:i.toArray[j]=u:=by obtain⟨_,e⟩:=List.getElem?_eq_some_iff.mp q;simpa using e
 have n:I.toArray[j]=U:=by obtain⟨_,e⟩:=List.getElem?_eq_some_iff.mp Q;simpa using e
 have G:x.getD j .non=x[j]:=by rw[Io,a];rfl
 have o:y.getD j .non=y[j]:=by rw[Io,b];rfl
 rw[E,n,G,o];exact pP g k l m
theorem se(f:X.A.units < cLine):eG X (compareOp .Eq) (λx y H Q=>∃a b c Y,x= .ref a/\y= .ref b/\ax X.K H a c/\ax X.K H b Y/\c.all ci=true/\Y.all ci=true/\Q (.bl$ mw c Y) H):=by
 intro p s z H x y v u Q I g k h;obtain⟨a,b,c,Y,rfl,rfl,l,m,F,n,q⟩:=h;cases g;cases k;obtain⟨i,r,P,_⟩:=I.tuple l;obtain⟨d,R,o,_⟩:=I.tuple m;refine eq_tupleAt (e:=λj=>ma (c.getD j .non) (Y.getD j .non)) (show s.heap.IsTuple a i.toArray from P) (show s.heap.IsTuple b d.toArray from o) f (λj t w=>ZU r R F n j t w) ?_;have e:((List.range$ min i.toArray.size d.toArray.size).all (λj=>ma (c.getD j .non) (Y.getD j .non))&&i.toArray.size==d.toArray.size)=mw c Y:=by unfold mw;rw[Hh,Hh,<- r.length,<- R.length]
 rw[e];exact#[.bl _,H,I,Z,q]
end
end _L
namespace _L
open PySem PySem.Spec PyProof.Rows
section
variable {prog:Program}{w:World}{A:Around}{E:Value->Shared->Prop}{s:Shared}
theorem Ym{Q:Nat->Shared->Prop}(H:n≠0)(h:∀i d,i < n->Q i { s with drawn:=d }):wpAny (model prog w) A (choose a n) Q E s:=by intro Γ p _;show Sem.wp _ Γ (.choose a n .pure) _ _ p s;rw[Sem.wp_choose];exact#[H,h _ _$ Sc _$ Nat.pos_of_ne_zero H]
theorem XO{α:Type}:∀(n:Nat) (xs:List α) (s:Shared) {Q:List α->Shared->Prop},xs.length=n->(∀ys d,ys.Perm xs->Q ys { s with drawn:=d })->
  wpAny (model prog w) A (drawOrder n xs) Q E s:=by
 intro n;induction n with
 |zero=>
  intro xs s Q hl h;cases xs with
  |nil=>unfold drawOrder;exact Hc$ h [] s.drawn .rfl
  |cons _ _=>cases hl
 |succ n ih=>
  intro xs s Q hl h;cases xs with
  |nil=>cases hl
  |cons x r=>unfold drawOrder;refine GZ$ Ym Si λi d hi=>?_;have hg:(x::r)[i]?=some ((x::r)[i]'hi):=G8 hi;rw[hg];dsimp only;refine GZ$ ih _ _ (by rw[N0 hi,hl];rfl) λys d' hp=>Hc (h _ d' ?_);refine(List.Perm.cons _ hp).trans ?_;rw[NB];refine List.perm_middle.symm.trans ?_;rw[Ou,Mc]
end
noncomputable def lv:Value->Str
 | .str x _=>x
 |_=>#[(List.toArray [])]
theorem KU(t:SetTable)(n:Nat):(t.orStandIn n).led=t.led:=by
 unfold SetTable.orStandIn;split
 ·rfl
 ·rfl
theorem Yn(t:SetTable)(e:Array (Int×Value))(h:Int)(x:Value):(layNew t e h x).2.1.led=t.led:=by
 unfold layNew;split
 ·exact KU _ _
 ·rfl
theorem Q8(t:SetTable)(E:Array (Int×Value))(n:Nat):(relayAll t E n).2.1.led=t.led:=by
 unfold relayAll;split
 ·rename_i T o e
  unfold SetTable.relaid SetTable.laid at e;cases h:SetTable.layClean (SetTable.sizeAbove n - 1) (E.map (·.1)) with
  |none=>rw[h]at e;cases e
  |some O=>rw[h]at e;cases e;dsimp only;split<;>rfl
 ·rfl
theorem KH(t:SetTable)(E:Array (Int×Value))(n:Nat)(H:t.plain=false):(relayAll t E n).2.1.plain=false:=by
 unfold relayAll;split
 ·rename_i T o e
  unfold SetTable.relaid SetTable.laid at e;cases h:SetTable.layClean (SetTable.sizeAbove n - 1) (E.map (·.1)) with
  |none=>rw[h]at e;cases e
  |some O=>
   rw[h]at e;cases e;dsimp only;split
   ·exact H
   ·rfl
 ·rfl
def cg(p:Program)(w:World)(h:Heap)(a:Addr)(L:List Str):Prop:=
 ∃o E b t,h.get? a=some o/\o.ExactSet/\o.data= .set E b t/\ElemsOf (PySem.strKind p w) E.toList/\(E.toList.map λe=>lv e.2).Perm L/\L.Nodup
  /\E.size < scanBound/\t.fits E.size=true/\t.led=!(w.params.followText "set-order")/\(t.plain=false∨E.size=0)
theorem cg.at{H:Heap}{a:Addr}(x:cg p w h a L)(e:∀o,h.get? a=some o->H.get? a=some o):cg p w H a L:=
 let #[o,E,b,t,c,r]:=x;#[o,E,b,t,e o c,r]
section
variable {prog:Program}{w:World}{A:Around}{E:Value->Shared->Prop}{s:Shared}
theorem JD{a:Array (Int×Value)}(b:ElemsOf (PySem.strKind prog w) a.toList)(x:Str):
  (a.toList.findIdx? (λe=>(PySem.strKind prog w).is x e.2)=none↔¬x∈a.toList.map λe=>lv e.2):=by
 rw[List.findIdx?_eq_none_iff];constructor
 ·intro h m;obtain⟨e,H,f⟩:=List.mem_map.mp m;obtain⟨⟨k,g,_⟩,_⟩:=b e H;obtain⟨t,c⟩:=Mj g;have q:=h e H;rw[c]at f q;have d:k=x:=f;subst d;have Q:(PySem.strKind prog w).is k (.str k t)=true:=strKind_is prog w k t;rw[Q]at q;cases q
 ·intro h e H;cases q:(PySem.strKind prog w).is x e.2 with
  |false=>rfl
  |true=>obtain⟨t,c⟩:=Mj q;exact absurd (List.mem_map.mpr #[e,H,by rw[c];rfl]) h
theorem JE{b:Array (Int×Value)}{T:SetTable}(d:s.heap.get? a=some o)(f:o.ExactSet)(h:o.data= .set p c t)
  (g:ElemsOf (PySem.strKind prog w) b.toList) (i:(b.toList.map λe=>lv e.2).Perm L) (j:L.Nodup) (k:b.size < scanBound) (l:T.fits b.size=true)
  (m:T.led=!(w.params.followText "set-order")) (n:T.plain=false):
  (s.heap.update a$ Obj.putSet b T).get? a=some { o with data:=.set b (c+1) T }/\cg prog w (s.heap.update a$ Obj.putSet b T) a L:=by
 have H:(s.heap.update a$ Obj.putSet b T).get? a=some { o with data:=.set b (c+1) T }:=by have q:=HW (Obj.putSet b T) d (by rw[putSet_of b T h];rfl);rwa [putSet_of b T h]at q
 exact#[H,_,b,c+1,T,H,f,Z,g,i,j,k,l,m,.inl n]
theorem XQ{Q : Bool -> Shared -> Prop}(hS : cg prog w s.heap a L)(room : L.length + 1 < scanBound)
    (h : ∀ b R l, Heap.SameBut a s.heap R -> cg prog w R a (if x ∈ L then L else L ++ [x]) -> s.toks <= l -> Q b { s with heap := R, toks := l }) :
    wpAny (model prog w) A (setAdd a$ .str x f) Q E s := by
  obtain ⟨o, g, ep, t, n, U, u, H, v, B, hb, V, X, Y⟩ := hS;have d : (PySem.strKind prog w).is x (.str x f) = true := strKind_is prog w x f;have C : g.size = L.length := by rw [<- v.length_eq, He, HF]
  unfold setAdd;refine Hs$ GZ ((PySem.strKind prog w).pyHash (k := x) d ?_);unfold setAddHashed setAddHashedIn;refine Hs$ GZ$ I9 (s := { s with toks := s.toks + 1 }) n u V ?_;dsimp only;rw [byScan_of Z hb H];simp only [↓reduceIte];unfold setAddByScan;refine GZ$ GZ$ Lj$ GZ$ wpAny_setScan_of (knd := PySem.strKind prog w) d n u V H ?_;cases hr : List.findIdx? (λe => (PySem.strKind prog w).is x e.2) g.toList with
  | some j =>
    dsimp only;have D : x ∈ L := by refine Decidable.byContradiction λhn => ?_;have q := (JD (prog := prog) (w := w) H x).mpr λm => hn (v.mem_iff.mp m);rw [q] at hr; cases hr
    have q := h false s.heap (s.toks + 1) (Ob a s.heap) (by rw [HD D]; exact #[o, g, ep, t, n, U, u, H, v, B, hb, V, X, Y]) (IL _);exact Hc$ Hc q
  | none =>
    dsimp only;have D : ¬ x ∈ L :=λm => (JD (prog := prog) (w := w) H x).mp hr (v.mem_iff.mpr m);have W : ∀ (b : Bool) {S : Shared} {Q' : Unit -> Shared -> Prop}, Q' () S -> wpAny (model prog w) A (match b with | true => rule "set.scan.the-table-gave-way" | false => pure ()) Q' E S := by
      intro b S Q' hq;cases b
      · exact Hc hq
      · exact Lj hq
    have p := layNew_perm t g ((PySem.strKind prog w).hash x) (.str x f);have M := layNew_fits t g ((PySem.strKind prog w).hash x) (.str x f);have O := Yn t g ((PySem.strKind prog w).hash x) (.str x f);generalize layNew t g ((PySem.strKind prog w).hash x) (.str x f) = N at p M O ⊢;obtain ⟨c, t1, w0, g4⟩ := N;dsimp only at p M O ⊢;rw [OY] at p;have F : ElemsOf (PySem.strKind prog w) c.toList := (H.push d Z).perm p;have P : (c.toList.map λe => lv e.2).Perm (L ++ [x]) := by refine (p.map _).trans ?_;rw [Hz];exact v.append_right _
    have G : (L ++ [x]).Nodup := List.nodup_append.mpr #[B, by simp,λy hy z hz e => by rw [Nn] at hz; subst hz; subst e; exact D hy];have gK : c.size = g.size + 1 := by rw [<- HF, p.length_eq, Hf, HF]; rfl
    have b1 : c.size < scanBound := by rw [gK, C]; exact room
    refine GZ$ W _ ?_;have i : ∀ T : SetTable, T.fits c.size = true -> T.led = t.led -> T.plain = false ->
        wpAny (model prog w) A (do
          storeSet a c T
          if (!w0 && T.tooFull) = true then do
              (match (relayAll T c$ SetTable.grown c.size).2.2 with | true => rule "set.scan.the-table-gave-way" | false => pure ())
              storeSet a (relayAll T c$ SetTable.grown c.size).1 (relayAll T c$ SetTable.grown c.size).2.1
              pure (some true)
            else pure (some true)) (λr s' => r = some true /\ Q true s') E { s with toks := s.toks + 1 } := by
      intro T g1 g2 g3;refine GZ$ P8 (s := { s with toks := s.toks + 1 }) n u ?_$ MV b1;obtain ⟨o1, S1⟩ := JE (s := s) (prog := prog) (w := w) n U u F P G b1 g1 (g2.trans X) g3;have I := IX s.heap a (Obj.putSet c T);split
      · have J := relayAll_perm T c (SetTable.grown c.size)
        have f2 := relayAll_fits T c (SetTable.grown c.size);have l2 := Q8 T c (SetTable.grown c.size);have q2 := KH T c (SetTable.grown c.size) g3;generalize relayAll T c (SetTable.grown c.size) = Z at J f2 l2 q2 ⊢;obtain ⟨K, t3, g0⟩ := Z;dsimp only at J f2 l2 q2 ⊢;have bK : K.size = c.size := by rw [<- HF, J.length_eq, HF]
        have b2 : K.size < scanBound := by rw [bK]; exact b1
        refine GZ$ W _$ GZ$ P8 (s := { s with heap := s.heap.update a (Obj.putSet c T), toks := s.toks + 1 }) o1 Z ?_$ MV b2;obtain ⟨_, S2⟩ := JE (s := { s with heap := s.heap.update a (Obj.putSet c T) }) (prog := prog) (w := w) o1 U Z (F.perm J) ((J.map _).trans P) G b2 f2 (l2.trans$ g2.trans X) q2;exact Hc #[Z, h true _ _ (I.trans$ IX _ a _) (by rw [HG D]; exact S2) (IL _)]
      · exact Hc #[Z, h true _ _ I (by rw [HG D]; exact S1) (IL _)]
    split
    · rename_i tp
      refine GZ ?_;rw [hashByValue_scannable 8 (x := .str x f) Z];refine Hc ?_;have e0 : plainKind (.str x f) = false := rfl;rw [e0];simp only [Hn, ↓reduceIte];refine Ik (i { t1 with plain := false } (SetTable.fits_plain_off M) O Z) (λr s' q => ?_) λ_ _ z => z;obtain ⟨rfl, q⟩ := q;exact Hc q
    · rename_i tp
      refine GZ$ Hc ?_;simp only [↓reduceIte];refine Ik (i t1 M O (by simpa using tp)) (λr s' q => ?_) λ_ _ z => z;obtain ⟨rfl, q⟩ := q;exact Hc q
end
noncomputable def be(w:World):Obj:={ cls:=.type "set",dict:=none,data:=.set (List.toArray []) 0 (.fresh 0 0 (!(w.params.followText "set-order"))) }
section
variable {prog:Program}{w:World}{A:Around}{E:Value->Shared->Prop}{s:Shared}
theorem XS{h:Heap}(e:h.get? a=some (be w)):cg prog w h a []:=
 #[_,(List.toArray []),0,_,e,#[Z,Z,Z],Z,λ_ z=>by simp at z,Si,M',(by decide:(0:Nat) < scanBound),Z,Z,.inr Z]
theorem KW(a:Value){G:Value->Shared->Prop}(h:G (.ref s.heap.objs.size) { s with heap:=s.heap.push (be w) }):
  codeAny (model prog w) A (.call (.builtin "set.__new__") #[[.type "set",a],[]]) (wants G E) s:=by
 refine Om ?_;show wpAny _ A.in1 (do checkBuiltinCall "set.__new__" _;again (.builtin "set.__new__" _)) _ _ s;refine GZ$ MS (PySem.F.newCall_set_1 a)$ Hc #[Ls Og _,IJ PySem.F.entry_set_new ?_];rw[Ir Og];unfold Builtin.«set.__new__» Builtin.Frozenset.newClass;have o:=sub_set_self;obtain⟨H,g,d,t,os⟩:=s;dsimp only;wp_walk;refine LS$ Hc ?_;dsimp only;simp only[newObj];exact GZ$ wpAny_alloc$ Hc$ Hc h
end
theorem StrsAre.at':∀{V:List Value} {s:List Str},StrsAre V s->∀(i:Nat) (v:Value),V[i]?=some v->∃x t,s[i]?=some x/\v= .str x t
 |_,_,.nil,i,v,h=>by simp at h
 |_,_,.cons y t r,0,v,h=>by simp at h;exact#[y,t,Z,h.symm]
 |_,_,.cons y t r,i+1,v,h=>by simp only[List.getElem?_cons_succ]at h;obtain⟨x,T,e,E⟩:=StrsAre.at' r i v h;exact#[x,T,by simpa using e,E]
theorem StrsAre.len:∀{v:List Value} {s:List Str},StrsAre v s->s.length=v.length
 |_,_,.nil=>rfl
 |_,_,.cons _ _ r=>by simp [StrsAre.len r]
theorem j5:Slot "set_iterator" "__next__" "set_iterator.__next__":=by
 refine .of (owner:="set_iterator") (n:="__next__") ?_ Sj Sj Sj ?_ ?_
 ·rw[II,Ie];kernel_rfl
 ·first |exact .inl Sj |exact .inr Sj
 ·rw[I0];kernel_rfl
theorem zX:Slot "set_iterator" "__iter__" "set_iterator.__iter__":=by
 refine .of (owner:="set_iterator") (n:="__iter__") ?_ Sj Sj Sj ?_ ?_
 ·rw[II,Ie];kernel_rfl
 ·first |exact .inl Sj |exact .inr Sj
 ·rw[I0];kernel_rfl
theorem Jt:entryFor table "set_iterator.__next__"=some Builtin.«set_iterator.__next__»:=M8 (by kernel_rfl)
theorem Ju:entryFor table "set_iterator.__iter__"=some Builtin.«dict_keyiterator.__iter__»:=by refine Nr (id':="dict_keyiterator.__iter__") ?_ Z Sj ?_<;>kernel_rfl
theorem JK:entryFor table "set.__iter__"=some Builtin.«frozenset.__iter__»:=by refine Nr (id':="frozenset.__iter__") ?_ Z Sj ?_<;>kernel_rfl
theorem JL(a:Value):argsOk "set_iterator.__next__" #[[a],[]]:=by unfold argsOk;kernel_rfl
theorem JM(a:Value):argsOk "set_iterator.__iter__" #[[a],[]]:=by unfold argsOk;kernel_rfl
def bM(h:Heap)(I:Addr)(f:Value)(i:Nat)(S:Addr)(n e:Nat):Prop:=
 ∃o,h.get? I=some o/\o.cls= .type "set_iterator"/\o.data= .fields (List.toArray [f,.int i 0,.ref S,.int n 0,.int e 0])
theorem bM.at{H:Heap}{i:Nat}{S:Addr}(x:bM h I f i S n E)(e:∀o,h.get? I=some o->H.get? I=some o):bM H I f i S n E:=
 let #[o,a,r]:=x;#[o,e o a,r]
theorem bM.is{s:Shared}{S:Addr}(x:bM s.heap I f i S n e):s.TypeIs (.ref I) "set_iterator":=let #[o,h,H,_]:=x;#[o,h,H]
section
variable {prog:Program}{w:World}{A:Around}{E:Value->Shared->Prop}{s:Shared}
theorem JR{c:Type}{Q:c->Shared->Prop}(d:A.handled=none)
  (h:∀H e,(∀b o,s.heap.get? b=some o->H.get? b=some o)->Shared.TypeIs { s with heap:=H } e "StopIteration"->E e { s with heap:=H }):
  wpAny (model prog w) A (do raiseNew (<- newExc (.type "StopIteration") []):Sem c) Q E s:=by
 refine GZ ?_;simp only[newExc,newTuple];refine GZ$ HY ?_ (by size_fits);refine GZ (m:=firstArgMember _ _)$ MS (a:=Value.none) ?_ ?_
 ·first |rfl | (simp only[firstArgMember];rfl)
 refine HY ?_ (by size_fits);simp only[raiseNew];refine GZ$ wpAny_handled ?_;rw[d];refine GZ$ Hc$ wpAny_throw$ h _ _ (λb o e=>Hd _ (Hd _ e)) ?_;exact#[_,Hj _ Z,Z]
theorem JS{S:Addr}(H:bM s.heap I f i S n c)
  (h:wpAny (model prog w) A.in1 (Builtin.«set_iterator.__next__» #[[.ref I],[]]) (λF a=>∃v,F= .done (.ret v)/\Q (some v) a) (λe a=>a.TypeIs e "StopIteration"/\Q none a) s):
  wpAny (model prog w) A (pyNext$ .ref I) Q E s:=by
 unfold pyNext;refine GZ$ Lr$ HX (name:=Str.ofString "__next__") H.is j5$ HU j5 H.is Jt ?_$ JL _;refine Ik h (λF a q=>?_) λe a q=>?_
 ·obtain⟨v,e,q⟩:=q;exact#[v,e,Hc q]
 ·exact GZ$ Lu (T:="StopIteration") (b:=true) q.1 Nq$ Hc q.2
theorem Qv{I:Addr}{f:Value}{i:Nat}{S:Addr}{n a:Nat}{o:Obj}{v:Array Value}(H:s.heap.get? I=some o)(b:o.cls= .type "set_iterator")(h:o.data= .fields v)(k:Nat)(x:Value)
  (e:v.setIfInBounds k x=(List.toArray [f,.int i 0,.ref S,.int n 0,.int a 0])):bM (s.heap.update I$ Obj.mapFields (·.setIfInBounds k x)) I f i S n a:=
 #[_,HW _ H$ IA$ HS h _,(Mb ..).trans b,by rw[HS h,e]]
theorem Yo{I S P:Addr}{i:Nat}{O j:Obj}{e:Array (Int×Value)}{a:Nat}{t:SetTable}{k:Array Value}{c p:Nat}{hx:Int}{x:Value}{Q:Option Value->Shared->Prop}
  (h:bM s.heap I (.ref P) i S e.size a) (l:s.heap.get? S=some O) (H:O.data= .set e a t) (m:t.fits e.size=true) (n:s.heap.get? P=some j) (b:j.data= .seq k c)
  (q:k[i]?=some (.int p 0)) (r:e[p]?=some (hx,x)) (u:∀d,bM d I (.ref P) (i+1) S e.size a->Heap.SameBut I s.heap d->Q (some x) { s with heap:=d }):
  wpAny (model prog w) A (pyNext$ .ref I) Q E s:=by
 refine JS h ?_;obtain⟨o,f,v,g⟩:=h;show wpAny _ _ (fieldsOf (.ref I) >>= _) _ _ s;refine GZ$ No f g ?_;dsimp only;refine GZ$ LX l H m ?_;simp only[IK,Hn,↓reduceIte];refine GZ$ Iu n b ?_;simp only[Iq,q];unfold setNextDrawn;refine GZ$ GZ$ I9 l H m ?_;simp only[IK,Hn,↓reduceIte,r];refine Hc ?_;refine GZ$ Ic f g Si$ Hc #[x,Z,u _ ?_$ IX ..];exact Qv f v g _ _ (by simp [rawInt])
theorem KI(q:A.handled=none){I S P:Addr}{i:Nat}{O l:Obj}{d:Array (Int×Value)}{m:Nat}{t:SetTable}{p:Array Value}{c:Nat}{Q:Option Value->Shared->Prop}
  (h:bM s.heap I (.ref P) i S d.size m) (r:s.heap.get? S=some O) (f:O.data= .set d m t) (u:t.fits d.size=true) (v:s.heap.get? P=some l) (g:l.data= .seq p c)
  (x:p[i]?=none) (y:∀H,(∀b o,b≠I->s.heap.get? b=some o->H.get? b=some o)->Q none { s with heap:=H }):
  wpAny (model prog w) A (pyNext$ .ref I) Q E s:=by
 refine JS h ?_;obtain⟨o,j,B,a⟩:=h;show wpAny _ _ (fieldsOf (.ref I) >>= _) _ _ s;refine GZ$ No j a ?_;dsimp only;refine GZ$ LX r f u ?_;simp only[IK,Hn,↓reduceIte];refine GZ$ Iu v g ?_;simp only[Iq,x];refine GZ$ Ic j a Si ?_;refine GZ$ Ic (HW _ j$ IA$ HS a _) (HS a _) Si ?_;refine JR (s:={ s with heap:=_ }) (by simpa using q) λH e k T=>#[T,y H λb o n z=>k b o ?_];exact(Ht _ _$ HR n).trans ((Ht _ _$ HR n).trans z)
end
section
variable {prog:Program}{w:World}{A:Around}{E:Value->Shared->Prop}{s:Shared}
theorem Qw{I S:Addr}{i j nx:Nat}{O:Obj}{e:Array (Int×Value)}{a:Nat}{t:SetTable}{x:Value}{Q:Option Value->Shared->Prop}
  (h:bM s.heap I (.int j 0) i S e.size a) (f:s.heap.get? S=some O) (b:O.data= .set e a t) (k:t.fits e.size=true)
  (l:∀(q:Option (Value×Nat)->Shared->Prop) m,q (some (x,nx)) s->wpAny (model prog w) A.in1 (setNext S j i a) q m s)
  (n:∀c,bM c I (.int nx 0) (i+1) S e.size a->Heap.SameBut I s.heap c->Q (some x) { s with heap:=c }):
  wpAny (model prog w) A (pyNext$ .ref I) Q E s:=by
 refine JS h ?_;obtain⟨o,d,p,H⟩:=h;show wpAny _ _ (fieldsOf (.ref I) >>= _) _ _ s;refine GZ$ No d H ?_;dsimp only;refine GZ$ LX f b k ?_;simp only[IK,Hn,↓reduceIte];simp only[Iq];refine GZ$ l _ _ ?_;dsimp only;refine GZ$ Ic d H Si ?_;have g:=HW (Obj.mapFields (·.setIfInBounds 0 (rawInt nx))) d (IA$ HS H _);have D:=HS H (·.setIfInBounds 0 (rawInt nx));refine GZ$ Ic g D Si$ Hc #[x,Z,n _ ?_ ((IX ..).trans$ IX ..)];exact Qv (s:={ s with heap:=_ }) g ((Mb ..).trans p) D _ _ (by simp [rawInt])
theorem qx(l:A.handled=none){I S:Addr}{i j:Nat}{O:Obj}{a:Array (Int×Value)}{c:Nat}{t:SetTable}{Q:Option Value->Shared->Prop}
  (h:bM s.heap I (.int j 0) i S a.size c) (m:s.heap.get? S=some O) (d:O.data= .set a c t) (n:t.fits a.size=true)
  (p:∀(q:Option (Value×Nat)->Shared->Prop) r,q none s->wpAny (model prog w) A.in1 (setNext S j i c) q r s)
  (u:∀H,(∀b o,b≠I->s.heap.get? b=some o->H.get? b=some o)->Q none { s with heap:=H }):
  wpAny (model prog w) A (pyNext$ .ref I) Q E s:=by
 refine JS h ?_;obtain⟨o,f,y,g⟩:=h;show wpAny _ _ (fieldsOf (.ref I) >>= _) _ _ s;refine GZ$ No f g ?_;dsimp only;refine GZ$ LX m d n ?_;simp only[IK,Hn,↓reduceIte];simp only[Iq];refine GZ$ p _ _ ?_;dsimp only;refine GZ$ Ic f g Si ?_;refine JR (s:={ s with heap:=_ }) (by simpa using l) λH e k T=>#[T,u H λb o v x=>k b o ?_];exact(Ht _ _$ HR v).trans x
theorem Ja(a:w.params.followText "set-order"=true){S:Addr}(b:s.heap.get? S=some o)(H:o.data= .set c d t)
  (f:t.fits c.size=true) {Q:Option (Value×Nat)->Shared->Prop} (h:Q (((pickOrder (w.params.setOrder S d) c)[i]?).map λe=>(e.2,j)) s):
  wpAny (model prog w) A (setNext S j i d) Q E s:=by
 unfold setNext;refine GZ$ I9 b H f ?_;dsimp only;unfold setsByText;refine GZ$ GZ$ LS$ Hc ?_;dsimp only;rw[show(model prog w).w.params.followText "set-order"=_ from a];simp only[↓reduceIte,IK,Hn];unfold setWalk;refine GZ$ GZ$ I9 b H f ?_;dsimp only;unfold setsByText;refine GZ$ GZ$ LS$ Hc ?_;dsimp only;rw[show(model prog w).w.params.followText "set-order"=_ from a];simp only[↓reduceIte];exact GZ$ LS$ Hc$ Hc h
theorem JF(a:w.params.followText "set-order"=false){S:Addr}(b:s.heap.get? S=some o)(H:o.data= .set e c t)
  (d:t.fits e.size=true) (f:t.led=true) (l:e.size<=1) {Q:Option (Value×Nat)->Shared->Prop}
  (h:Q (match e[SetTable.below t.place j]?,t.place[SetTable.below t.place j]? with |some (_,x),some k=>some (x,k+1) |_,_=>none) s):
  wpAny (model prog w) A (setNext S j i c) Q E s:=by
 unfold setNext;refine GZ$ I9 b H d ?_;dsimp only;unfold setsByText;refine GZ$ GZ$ LS$ Hc ?_;dsimp only;rw[show(model prog w).w.params.followText "set-order"=_ from a];simp only[Hn,↓reduceIte];split
 ·rename_i z
  have g:(!t.plain&&decide (e.size > 1))=true:=z;simp only[IE,decide_eq_true_eq]at g;omega
 ·refine GZ ?_;show wpAny _ _ (if (!t.led&&!e.isEmpty)=true then _ else _) _ _ _;rw[f];simp only[LQ,PZ,Hn,↓reduceIte];exact Hc$ Hc h
end
theorem XT{a:Type}(f:Nat->Nat):∀(n k:Nat) (l:List a) (o:Array a),l.length=n->(pickOrder.go f n k l o).toList.Perm (o.toList++l):=by
 intro n;induction n with
 |zero=>intro k l o h;rw[List.length_eq_zero_iff.mp h];unfold pickOrder.go;simp
 |succ n i=>intro k l o h;unfold pickOrder.go;have H:f k % l.length < l.length:=Sc _ Sf;rw[G8 H];dsimp only;refine(i _ _ _ (by rw[N0 H,h];rfl)).trans ?_;rw[OY,Ln,List.singleton_append];refine List.Perm.append_left _ ?_;rw[NB];refine List.perm_middle.symm.trans ?_;rw[Ou,Mc]
theorem kc{a:Type}(f:Nat->Nat)(x:Array a):(pickOrder f x).toList.Perm x.toList:=by have h:=XT f x.size 0 x.toList (List.toArray []) (HF ..);simpa [pickOrder] using h
theorem qf{a:Type}(x:Array a)(d:a):(List.range x.size).map (λp=>(x[p]?).getD d)=x.toList:=by
 refine MJ Si λi b h=>?_;have H:i < x.size:=by simpa using h
 simp [H]
def mj(ord:List (Int×Value))(i:Nat)(v:Value):Prop:=∃e,ord[i]?=some e/\v=e.2
section
variable {prog:Program}{w:World}{A:Around}{E:Value->Shared->Prop}{s:Shared}
theorem qF{S:Addr}(H:bM s.heap I f i S n e){Q:Value->Shared->Prop}(h:Q (.ref I) s):wpAny (model prog w) A (pyIter$ .ref I) Q E s:=by refine NO H.is zX$ HU zX H.is Ju ?_$ JM _;show wpAny _ _ (ret$ .ref I) _ _ s;exact Hc #[_,Z,"set_iterator",_,H.is,j5.lookup,h]
theorem Yp(D:A.handled=none)(I S P:Addr)(l:S≠I)(m:P≠I){O oP:Obj}{y:List Nat}{c:Nat}(f:O.data= .set d G t)
  (u:t.fits d.size=true) (g:oP.data= .seq (y.map λ(i:Nat)=>rawInt i).toArray c) (n:y.Perm (List.range d.size)):
  WalksS prog w A I [I,S,P] [I] (λa b=>b=a) d.size (mj$ y.map λp=>(d[p]?).getD (0,.none))
   (λi s=>bM s.heap I (.ref P) i S d.size G/\s.heap.get? S=some O/\s.heap.get? P=some oP) where
 sub:=λb H=>by simp at H;simp [H]
 grefl:=λ_=>Z
 gtrans:=λ_ _ _ F J=>J.trans F
 frame:=λi s v T st _ k=>#[st.1.at λo e=>k I Si o e,k S Si _ st.2.1,k P Si _ st.2.2]
 item:=λi s Q E K st j=>by
  have B:y.length=d.size:=by rw[n.length_eq,Mx]
  have h:i < y.length:=by omega
  have C:y[i] < d.size:=List.mem_range.mp (n.mem_iff.mp$ LG h);refine Yo (p:=y[i]) (hx:=(d[y[i]]).1) (x:=(d[y[i]]).2) st.1 st.2.1 f u st.2.2 g (by simp [h,rawInt]) (by simp [C]) λv q r=>?_;refine j _ _ #[d[y[i]],by simp [h,C],Z] #[q,?_,?_] #[λb o H e=>?_,Z,Z,Z,Hg _]
  ·rw[r.2 S l];exact st.2.1
  ·rw[r.2 P m];exact st.2.2
  ·rw[r.2 b (λz=>H (by simp [z]))];exact e
 done:=λs Q E st j=>by
  have B:y.length=d.size:=by rw[n.length_eq,Mx]
  refine KI D st.1 st.2.1 f u st.2.2 g (by simp [B]) λv k=>j _ #[λb o H e=>k b o (λz=>H (by simp [z])) e,Z,Z,Z,Hg _]
 self:=λ_ _ _ _ st j=>qF st.1 j
theorem ZV(r:A.handled=none)(m:w.params.followText "set-order"=true)(I S:Addr)(l:S≠I){O:Obj}(h:O.data= .set c d t)
  (j:t.fits c.size=true):
  WalksS prog w A I [I,S] [I] (λa b=>b=a) c.size (mj (pickOrder (w.params.setOrder S d) c).toList)
   (λi s=>bM s.heap I (.int (0:Nat) 0) i S c.size d/\s.heap.get? S=some O) where
 sub:=λb H=>by simp at H;simp [H]
 grefl:=λ_=>Z
 gtrans:=λ_ _ _ u v=>v.trans u
 frame:=λi s n T st _ k=>#[st.1.at λo e=>k I Si o e,k S Si _ st.2]
 item:=λi s Q E D st f=>by
  have y:(pickOrder (w.params.setOrder S d) c).size=c.size:=by rw[<- HF,(kc _ _).length_eq,HF]
  have g:i < (pickOrder (w.params.setOrder S d) c).size:=by omega
  refine Qw (x:=(pickOrder (w.params.setOrder S d) c)[i].2) (nx:=0) st.1 st.2 h j (λB C q=>Ja m st.2 h j (by rw[Lh g];exact q)) λn q p=>?_;refine f _ _ #[(pickOrder (w.params.setOrder S d) c)[i],by rw[IR];exact Lh g,Z] #[q,?_] #[λb o H e=>?_,Z,Z,Z,Hg _]
  ·rw[p.2 S l];exact st.2
  ·rw[p.2 b (λz=>H (by simp [z]))];exact e
 done:=λs Q E st f=>by
  have y:(pickOrder (w.params.setOrder S d) c).size=c.size:=by rw[<- HF,(kc _ _).length_eq,HF]
  refine qx r st.1 st.2 h j (λB C q=>Ja m st.2 h j (by rw[MQ Sf];exact q)) λn k=>f _ #[λb o H e=>k b o (λz=>H (by simp [z])) e,Z,Z,Z,Hg _]
 self:=λ_ _ _ _ st f=>qF st.1 f
theorem Yq(p:Nat):SetTable.below (List.toArray [p]) 0=0:=by simp [SetTable.below,SetTable.below.go]
theorem Yr(p:Nat):SetTable.below (List.toArray [p]) (p+1)=1:=by simp [SetTable.below,SetTable.below.go]
theorem uN(G:A.handled=none)(u:w.params.followText "set-order"=false)(I S:Addr)(n:S≠I){O:Obj}(h:O.data= .set c L t)
  (g:t.fits c.size=true) (v:t.led=true) (y:c.size<=1):
  WalksS prog w A I [I,S] [I] (λa b=>b=a) c.size (mj c.toList)
   (λi s=>(∃j:Nat,bM s.heap I (.int j 0) i S c.size L/\(i=0->j=0)/\(i=1->∃p,t.place=(List.toArray [p])/\j=p+1))/\s.heap.get? S=some O) where
 sub:=λb d=>by simp at d;simp [d]
 grefl:=λ_=>Z
 gtrans:=λ_ _ _ K M=>M.trans K
 frame:=λi s B W st _ k=>#[let #[j,a,r]:=st.1;#[j,a.at λo e=>k I Si o e,r],k S Si _ st.2]
 item:=λi s Q E X st l=>by
  obtain⟨⟨j,H,J,C⟩,f⟩:=st;have N:i=0:=by omega
  subst N;cases J Z;have D:c.size=1:=by omega
  have P:t.place.size=1:=by simp only[SetTable.fits,IE,beq_iff_eq]at g;omega
  obtain⟨p,m⟩:=Array.size_eq_one_iff.mp P;refine Qw (x:=(c[0]'Sf).2) (nx:=p+1) H f h g (λR T q=>JF u f h g v y (by rw[m,Yq,Lh Sf];exact q)) λB q F=>?_;refine l _ _ #[c[0]'Sf,by rw[IR];exact Lh Sf,Z] #[#[_,q,λz=>by omega,λ_=>#[p,m,Z]],?_] #[λb o d e=>?_,Z,Z,Z,Hg _]
  ·rw[F.2 S n];exact f
  ·rw[F.2 b (λz=>d (by simp [z]))];exact e
 done:=λs Q E st l=>by
  obtain⟨⟨j,H,J,C⟩,f⟩:=st;refine qx G H f h g (λR T q=>JF u f h g v y ?_) λB k=>l _ #[λb o d e=>k b o (λz=>d (by simp [z])) e,Z,Z,Z,Hg _];by_cases z:c.size=0
  ·rw[MQ (show c.size<=_ by omega)];exact q
  ·have D:c.size=1:=by omega
   obtain⟨p,U,V⟩:=C D;subst V;rw[U,Yr,MQ (show c.size<=1 by omega)];exact q
 self:=λ_ _ _ _ st l=>let #[#[_,a,_],_]:=st;qF a l
end
theorem zU{prog:Program}{w:World}(h:ElemsOf (PySem.strKind prog w) E)(i:Nat)(v:Value)(b:mj E i v):∃x t,(E.map λe=>lv e.2)[i]?=some x/\v= .str x t:=by obtain⟨e,H,rfl⟩:=b;obtain⟨⟨k,c,_⟩,_⟩:=h e (Hu H);obtain⟨t,a⟩:=Mj c;exact#[k,t,by rw[HE,H];show some (lv e.2)=_;rw[a];rfl,a]
def Ab(p:Program)(w:World)(s c:Shared)(S I:Addr)(L:List Str):Prop:=
 ∃(f:List Addr) (d:List Str) (P:Nat->Value->Prop) (St:Nat->Shared->Prop),(∀b o,s.heap.get? b=some o->c.heap.get? b=some o)/\c.gens=s.gens/\c.os=s.os/\s.toks<=c.toks/\
  s.heap.objs.size<=I/\I < c.heap.objs.size/\c.TypeIs (.ref I) "set_iterator"/\(∀b∈f,b=S∨s.heap.objs.size<=b)/\(∀A:Around,A.handled=none->WalksS p w A I f [I] (λa b=>b=a) d.length P St)/\St 0 c/\
  (∀i v,P i v->∃x t,d[i]?=some x/\v= .str x t)/\d.Perm L
section
variable {prog:Program}{w:World}{A:Around}{E:Value->Shared->Prop}{s:Shared}
theorem Ys{S:Addr}(V:cg prog w s.heap S L){Q:Value->Shared->Prop}(h:∀f I,Ab prog w s f S I L->Q (.ref I) f):wpAny (model prog w) A (pyIter$ .ref S) Q E s:=by
 obtain⟨o,a,x,t,H,W,m,n,M,X,r,u,Y,N⟩:=V;have P:s.TypeIs (.ref S) "set":=#[o,H,W.1];have v:S < s.heap.objs.size:=Hi H;refine NO P Of$ HU Of P JK ?_$ PySem.F.args_set_iter_1 _;unfold Builtin.«frozenset.__iter__»;show wpAny _ _ (Builtin.Frozenset.sizeOf S >>= _) _ _ s;unfold Builtin.Frozenset.sizeOf;refine GZ$ GZ$ LX H m u$ Hc ?_;unfold setDrawn;refine GZ$ GZ$ I9 H m u ?_;dsimp only;unfold setsByText;refine GZ$ GZ$ LS$ Hc$ Hc ?_;split
 ·rename_i z
  have B:(!(w.params.followText "set-order")&&(!t.plain&&decide (a.size > 1)))=true:=z;simp only[IE,decide_eq_true_eq]at B;refine GZ$ XO a.size (List.range a.size) s Si λy d G=>?_;have C:y.length=a.size:=by rw[G.length_eq,Mx]
  have O:((y.map λ(i:Nat)=>rawInt i).length)<=sizeLine:=by rw[He,C];exact MV r
  refine GZ$ Mf (s:={ s with drawn:=d }) ?_ O;refine GZ ?_;unfold setEpoch;refine GZ$ I9 (Hd _ H) m u$ Hc ?_;refine GZ$ HY$ Hc #[_,Z,"set_iterator",_,#[_,Hj _ Z,Z],j5.lookup,h _ _ ?_];generalize J:s.heap.push { cls:=.type "tuple",data:=.seq (y.map λ(i:Nat)=>rawInt i).toArray }=g;have R:g.objs.size=s.heap.objs.size+1:=by rw[<- J,Ij]
  have gP:g.get? s.heap.objs.size=some { cls:=.type "tuple",data:=.seq (y.map λ(i:Nat)=>rawInt i).toArray }:=by rw[<- J];exact Hj _ Z
  have gS:g.get? S=some o:=by rw[<- J];exact Hd _ H
  refine#[[g.objs.size,S,s.heap.objs.size],(y.map λp=>(a[p]?).getD (0,.none)).map λe=>lv e.2,mj$ y.map λp=>(a[p]?).getD (0,.none),
   (λi f=>bM f.heap g.objs.size (.ref s.heap.objs.size) i S a.size x/\f.heap.get? S=some o/\f.heap.get? s.heap.objs.size=some { cls:=.type "tuple",data:=.seq (y.map λ(i:Nat)=>rawInt i).toArray }),λb o e=>?_,Z,Z,Hg _,?_,?_,#[_,Hj _ Z,Z],λb r=>?_,
   λT D=>?_,#[#[_,Hj _ Z,Z,Z],Hd _ gS,Hd _ gP],?_,?_]
  ·exact Hd _ (by rw[<- J];exact Hd _ e)
  ·show s.heap.objs.size<=g.objs.size;omega
  ·show g.objs.size < (g.push _).objs.size;rw[Ij];exact IF _
  ·simp only[IW,HK,Mp]at r;rcases r with e |e |e
   ·subst e;exact .inr Sf
   ·exact .inl e
   ·rw[e];exact .inr (Hg _)
  ·have q:=Yp (prog:=prog) (w:=w) D g.objs.size S s.heap.objs.size (Hm (by rw[R];exact Lo v)) (Hm (by rw[R];exact IF _)) m u (oP:={ cls:=.type "tuple",data:=.seq (y.map λ(i:Nat)=>rawInt i).toArray }) (c:=0) Z G;simpa [C] using q
  ·refine zU (prog:=prog) (w:=w)$ n.perm ?_;have q:=G.map λp=>(a[p]?).getD ((0:Int),Value.none);rwa [qf]at q
  ·have q:=G.map λp=>(a[p]?).getD ((0:Int),Value.none);rw[qf]at q;exact(q.map _).trans M
 ·rename_i z
  have B:¬(!(w.params.followText "set-order")&&(!t.plain&&decide (a.size > 1)))=true:=z;refine GZ$ Hc ?_;refine GZ ?_;unfold setEpoch;refine GZ$ I9 H m u$ Hc ?_;refine GZ$ HY$ Hc #[_,Z,"set_iterator",_,#[_,Hj _ Z,Z],j5.lookup,h _ _ ?_];have k:∀b∈[s.heap.objs.size,S],b=S∨s.heap.objs.size<=b:=λb r=>by
   simp only[IW,HK,Mp]at r;rcases r with e |e
   ·subst e;exact .inr (Hg _)
   ·exact .inl e
  have l:∀U:Obj,s.heap.objs.size < (s.heap.push U).objs.size:=λU=>by rw[Ij];exact IF _
  cases K:w.params.followText "set-order" with
  |true=>
   have pl:(pickOrder (w.params.setOrder S x) a).toList.length=a.size:=by rw[(kc _ _).length_eq,HF]
   refine#[[s.heap.objs.size,S],(pickOrder (w.params.setOrder S x) a).toList.map λe=>lv e.2,mj (pickOrder (w.params.setOrder S x) a).toList,
    (λi f=>bM f.heap s.heap.objs.size (.int (0:Nat) 0) i S a.size x/\f.heap.get? S=some o),λb o e=>Hd _ e,Z,Z,Hg _,Hg _,l _,#[_,Hj _ Z,Z],k,
    λT D=>?_,#[#[_,Hj _ Z,Z,Z],Hd _ H],?_,?_]
   ·have q:=ZV (prog:=prog) (w:=w) D K s.heap.objs.size S (Hm v) m u;rw[He,pl];exact q
   ·exact zU (prog:=prog) (w:=w)$ n.perm$ kc _ _
   ·exact((kc _ _).map _).trans M
  |false=>
   have hs:a.size<=1:=by
    rw[K]at B;rcases N with e |e
    ·rw[e]at B;simp at B;exact B
    ·omega
   refine#[[s.heap.objs.size,S],a.toList.map λe=>lv e.2,mj a.toList,
    (λi f=>(∃j:Nat,bM f.heap s.heap.objs.size (.int j 0) i S a.size x/\(i=0->j=0)/\(i=1->∃p,t.place=(List.toArray [p])/\j=p+1))/\f.heap.get? S=some o),λb o e=>Hd _ e,Z,Z,Hg _,Hg _,l _,#[_,Hj _ Z,Z],k,
    λT D=>?_,#[#[0,#[_,Hj _ Z,Z,Z],λ_=>Z,λz=>by cases z],Hd _ H],?_,?_]
   ·have q:=uN (prog:=prog) (w:=w) D K s.heap.objs.size S (Hm v) m u (by rw[Y,K];rfl) hs;rw[He,HF];exact q
   ·exact zU (prog:=prog) (w:=w) n
   ·exact M
theorem qy:∀(V:List Value) (S:List Str),V.length=S.length->(∀(i:Nat) (v:Value),V[i]?=some v->∃x t,S[i]?=some x/\v=Value.str x t)->StrsAre V S
 | [],[],_,_=>.nil
 | [],_::_,h,_=>by cases h
 |_::_,[],h,_=>by cases h
 |v::V,y::S,h,k=>by obtain⟨x,t,e,rfl⟩:=k 0 v Z;cases e;exact .cons y t$ qy V S (by simpa using h) λi u H=>k (i+1) u (by simpa using H)
theorem KY{S:Addr}(hh:A.handled=none)(y:cg prog w s.heap S L){Q:List Value->Shared->Prop}
  (h:∀a V g,s.heap.objs.size<=a.heap.objs.size->(∀b o,s.heap.get? b=some o->a.heap.get? b=some o)->a.gens=s.gens->a.os=s.os->s.toks<=a.toks->StrsAre V g->g.Perm L->Q V a):wpAny (model prog w) A (collect$ .ref S) Q E s:=by
 have n:L.length < scanBound:=by obtain⟨o,es,ep,t,j,M,hd,h0,u,h1,k,hf,hl,h2⟩:=y;rw[<- u.length_eq,He,HF];exact k
 unfold collect;refine GZ$ OA$ IJ NE ?_;rw[Ir ND];show wpAny _ A.in1 (newList [] >>= λl=>again (.builtin "list.__iadd__" #[[l,.ref S],[]])) _ _ s;refine GZ$ HY$ Hc #[Ls LO _,IJ NY ?_];rw[Ir LO];show wpAny _ A.in1 (Builtin.List.listExtendWith (.ref s.heap.objs.size) (.ref S)$ .ref s.heap.objs.size) _ _ _;unfold Builtin.List.listExtendWith;have p:S < s.heap.objs.size:=by obtain⟨o,_,_,_,j,_⟩:=y;exact Hi j
 generalize x:s.heap.push { cls:=.type "list",data:=.seq ([]:List Value).toArray }=H;have gl:H.get? s.heap.objs.size=some { cls:=.type "list",data:=.seq ([]:List Value).toArray }:=by rw[<- x];exact Hj _ Z
 have R:cg prog w H S L:=y.at λo e=>by rw[<- x];exact Hd _ e
 have gk:∀b o,s.heap.get? b=some o->H.get? b=some o:=λb o e=>by rw[<- x];exact Hd _ e
 have T:Shared.TypeIs { s with heap:=H } (.ref S) "set":=by obtain⟨o,_,_,_,j,M,_⟩:=R;exact#[o,j,M.1]
 refine GZ$ Le T ?_;have n1:Builtin.List.listSameRef (.ref s.heap.objs.size) (.ref S)=false:=by simp only[Builtin.List.listSameRef,beq_eq_false_iff_ne];exact Il p
 have n2:(Value.type "set"==Value.type "list")=false:=by decide
 have n3:(Value.type "set"==Value.type "tuple")=false:=by decide
 simp only[n1,n2,n3,Oi,Hn,IB];refine GZ$ Ys (s:={ s with heap:=H }) R λr I B=>?_;obtain⟨fp,g,P,St,K,kg,ko,kt,C,h3,h4,D,W,st,hv,u⟩:=B;have G:H.objs.size=s.heap.objs.size+1:=by rw[<- x,Ij]
 have f:r.TypeIs (.ref S) "set":=by obtain⟨o,j,hc⟩:=T;exact#[o,K _ _ j,hc]
 refine GZ$ Hs ?_;unfold Builtin.List.listLengthHint;refine GZ$ La f PySem.F.slot_set_len.lookup ?_
 wp_delta
 refine GZ$ Lu (b:=true) f sub_set_self ?_;show wpAny _ A.in1 (typeOf (Value.ref S) >>= _) _ _ _;refine GZ$ Le f$ Hc ?_;rw[HD Se];refine GZ$ Lj ?_;have U:=K _ _ gl;refine GZ ?_;show wpAny _ A.in1 (updateSeq s.heap.objs.size (·.push .none) >>= λ_=>updateSeq s.heap.objs.size (·.pop)) _ _ _;refine GZ$ Nh U Z ?_;have X:=HW (Obj.mapSeq (·.push Value.none)) U Z;refine Nh X Z ?_;have g3:=HW (Obj.mapSeq (·.pop)) X Z;have N:¬s.heap.objs.size∈fp:=λm=>by
  rcases D _ m with e |e
  ·exact absurd p (by rw[<- e];exact Ip _)
  ·have e':H.objs.size<=s.heap.objs.size:=e;omega
 have O:∀b o,b≠s.heap.objs.size->r.heap.get? b=some o->((r.heap.update s.heap.objs.size$ Obj.mapSeq (·.push Value.none)).update s.heap.objs.size$ Obj.mapSeq (·.pop)).get? b=some o:=
  λb o k e=>(Ht _ _$ HR k).trans ((Ht _ _$ HR k).trans e)
 have Y:=W A.in1 (by simpa using hh);have hn:g.length<=sizeLine:=by rw[u.length_eq];exact MV n
 refine Hc #[Ls NH _,Pq Y hn _ N _ g.length 0 _ _ _ Z (Ho _) (Y.frame 0 r _ r.toks st (Hg _) λb k o e=>O b o (λz=>N (z▸k)) e) g3 (PU P) λa J c m gS d=>?_];show wpAny _ A (load s.heap.objs.size >>= _) _ _ a;refine GZ$ P0 gS$ Hc$ h a J.toList g (Lp$ Hi gS) (λb o e=>?_) ?_ ?_ ?_ ?_ u
 ·have ne:b≠s.heap.objs.size:=Hm (Hi e);refine m.heap b o ?_$ O b o ne$ K b o$ gk b o e;simp only[IW,HK,Mp,not_or];refine#[ne,λz=>?_];have q:s.heap.objs.size+1<=I:=G▸C;have q2:=Hi e;rw[z]at q2;exact absurd (Hq (Lo q2) q)$ Ip _
 ·exact m.gens.trans kg
 ·exact m.os.trans ko
 ·exact Hr kt m.toks
 ·refine qy _ _ (by rw[HF,d.1]) λi v e=>hv i v (d.2 i v (by rwa [IR]at e))
end
section
variable {prog:Program}{w:World}{A:Around}{E:Value->Shared->Prop}{s:Shared}
theorem Q9{S:Addr}(z:A.handled=none)(B:cg prog w s.heap S L)(j:L.length < 64){Q:Value->Shared->Prop}
  (h:∀f a c v i,s.heap.objs.size<=a->(∀b o,s.heap.get? b=some o->f.heap.get? b=some o)->f.gens=s.gens->f.os=s.os->f.heap.get? a=some (seqObj "list" v c)->StrsAre v.toList i->i.Perm L->sortedS i=true->Q (.ref a) f):
  wpAny (model prog w) A (call (.builtin "sorted") [.ref S]) Q E s:=by
 refine LH Oc NP NQ (NR _) ?_;unfold Builtin.«sorted»;refine GZ (m:=checkCount "sorted" 1 1 _)$ Hc ?_;refine GZ$ KY (by simpa using z) B λd v i K k C D P H r=>?_;have F:v.length < 64:=by rw[<- _L.StrsAre.len H,r.length_eq];exact j
 refine GZ$ LZ ?_ (by have q:sizeLine=1000000000∨64<=sizeLine:=.inr Se;omega);have g:=Hj d.heap (o:=seqObj "list" v.toArray 0) Z;refine GZ$ Hs$ HU Np #[_,g,Z] Nj (list_sort_treeK strKind_oneLt g H.keysOf (λV t R e=>keyKind_strs (by rw[<- e];exact H)) F λl G I=>#[_,Z,?_]) (Nu _);obtain⟨n,u,J,M⟩:=sorted_out_str H G I;generalize (arrOf l).map (·.2)=out at u ⊢;obtain⟨c,N⟩:=sortedHeap_at (out:=out) g;have O:∀b o,s.heap.get? b=some o->(sortedHeap (d.heap.push$ seqObj "list" v.toArray 0) d.heap.objs.size v out).get? b=some o:=by
  intro b o e;have x:=k b o e;have y:b < d.heap.objs.size:=Hi x;have p:b < (d.heap.push$ seqObj "list" v.toArray 0).objs.size:=by rw[OD];exact Lo y
  rw[sortedHeap_old (Hm y) p];exact Hd _ x
 exact Hc #[_,Z,h { d with heap:=sortedHeap (d.heap.push$ seqObj "list" v.toArray 0) d.heap.objs.size v out } d.heap.objs.size c out n K O C D N u (J.trans r) M]
end
theorem Jb(h:StrsAre v s):au (s.map V.str) v:=by
 induction h with
 |nil=>exact .nil
 |cons y t _ i=>exact .cons #[t,Z] i
noncomputable def EJ(P:Program)(w:World)(a:Addr)(L:List Str):HO:=.ext λh=>cg P w h a L
section
variable {X:Cx}
theorem zV(i:X.calm=true):b8 X (.builtin "sorted") (λx H Q=>∃(p:Addr) (L:List Str),x=[.ref p]/\H p=some (EJ X.prog X.w p L)/\L.length < 64/\
  ∀l S,H l=none->S.Perm L->L.Nodup->sortedS S=true->Q (.ref l) (af H l$ .lst$ S.map V.str)):=by
 intro P s B H x U Q I r h;obtain⟨p,L,rfl,j,d,q⟩:=h;obtain⟨u,rfl,R⟩:=dU r;cases R;obtain⟨f,_,_⟩:=I.hok p _ j;have b:L.Nodup:=by obtain⟨_,_,_,_,_,_,_,_,_,b,_⟩:=f;exact b
 refine Q9 (I.ok.hd i) f d λm a c v S e k K o t y g A=>?_;have len:(S.map V.str).length<=sizeLine:=by rw[He,g.length_eq];exact Hr (Lp d) Se
 have n:aF X.prog X.w (af H a$ .lst$ S.map V.str) m.heap a (.lst$ S.map V.str):=#[len,v.toList,c,Jb y,t];refine#[.ref a,_,I.call' (ch:=[]) o (Un.laid k e$ I.hok.fresh e) (I.hok.laid k e n) (by rw[K];exact I.bare) (λ_ z=>nomatch z),Z,q _ _ (I.hok.fresh e) g b A]
theorem Xa:b8 X (.builtin "sorted") (λx H Q=>∃(p:Addr) (a:List Str),x=[.ref p]/\aB X.K H p (a.map V.str)/\a.length < 64/\
  ∀l S,H l=none->S.Perm a->sortedS S=true->Q (.ref l) (af H l$ .lst$ S.map V.str)):=by
 intro P s v H x U Q I r h;obtain⟨p,a,rfl,f,b,q⟩:=h;obtain⟨u,rfl,R⟩:=dU r;cases R;obtain⟨i,g,j,y⟩:=I.list f;have d:=zS g;have k:i.length=a.length:=(_L.StrsAre.len d).symm;refine sorted_strs j.isList d (by rw[k];exact b) λo S m A n=>?_;obtain⟨c,t⟩:=sortedAll_at s.heap i o;have len:(S.map V.str).length<=sizeLine:=by rw[He,A.length_eq];exact Hr (Lp b) Se
 refine#[.ref$ s.heap.objs.size+1,_,I.laid (t':=s.toks) (λ_ _ e=>sortedAll_old e) (IL _) (show aF X.prog X.w _ _ _ (.lst$ S.map V.str) from #[len,o.toList,c,Jb m,t]),Z,q _ _ (I.hok.fresh$ IL _) A n]
end
theorem Y6:mroOf (.type "reversed")=pure [.type "reversed",.type "object"]:=by rw[mroOf_type];kernel_rfl
theorem KJ:typeLookup (.type "reversed") "__new__"=pure (some$ .builtin "reversed.__new__"):=by rw[II,Ie];kernel_rfl
theorem KZ:Slot "reversed" "__init__" "object.__init__":=by
 refine .of (owner:="object") (n:="__init__") ?_ Sj Sj Sj ?_ ?_
 ·rw[II,Ie];kernel_rfl
 ·first |exact .inl Sj |exact .inr Sj
 ·rw[I0];kernel_rfl
theorem Yt:TypeCalled "reversed" "reversed.__new__" "object.__init__":=by refine#[Sj,Sj,#[_,_,Y6],madeBy_type Y6 KJ Sj,Sj,?_,KZ];rw[I0];kernel_rfl
theorem Xb(a:Value):checkTypeCall "reversed" #[[a],[]]=pure ():=by kernel_rfl
theorem XU(a:Value):checkBuiltinCall "reversed.__new__" #[[.type "reversed",a],[]]=pure ():=by kernel_rfl
theorem K0:entryFor table "reversed.__new__"=some Builtin.«reversed.__new__»:=M8 (by kernel_rfl)
theorem xX:isSubtype (.type "reversed") (.type "reversed")=pure true:=by rw[I0];kernel_rfl
theorem Xc:typeLookup (.type "tuple") "__reversed__"=pure none:=by rw[II,Ie];kernel_rfl
theorem KK:isSubtype (.type "tuple") (.type "dict")=pure false:=by rw[I0];kernel_rfl
noncomputable def revObj(t:Addr)(n:Int):Obj:={ cls:=.type "reversed",data:=.fields (List.toArray [.ref t,.int (n - 1) 0]) }
section
variable {prog:Program}{w:World}{A:Around}{E:Value->Shared->Prop}{s:Shared}
theorem pE{Q:Value->Shared->Prop}(H:IsTup s.heap t i)(c:(i.size:Int) < 2 ^ 63)
  (h:Q (.ref s.heap.objs.size) { s with heap:=s.heap.push (revObj t i.size),toks:=s.toks+1+1 }):wpAny (model prog w) A (call (.type "reversed") [.ref t]) Q E s:=by
 refine O6 (S:=λ_ R a=>a=s/\R (.ok$ .ret$ .ref s.heap.objs.size) { s with heap:=s.heap.push (revObj t i.size),toks:=s.toks+1+1 }) Yt Se (Xb _) (XU _) (λo=>Mm o _) K0
  (.of_wp λp W f R a d=>?_) #[Z,#[_,Hj _ Z,Z],h]
 obtain⟨rfl,e⟩:=d;unfold Builtin.«reversed.__new__» Builtin.SmallTypes.newClass;refine GZ ?_;dsimp only;refine GZ$ Hc ?_;simp only[LQ,Hn,IB];refine GZ$ MS xX ?_;simp only[LQ,Hn,IB];refine Hc ?_;refine GZ (m:=Builtin.SmallTypes.refuseKeywords _ _ _)$ Hc ?_;refine GZ (m:=checkCount "reversed" 1 1 _)$ Hc ?_;dsimp only;refine GZ$ La H.typeIs Xc ?_;dsimp only;refine GZ ?_;show wpAny _ _ (isInstance (.ref t) (.type "dict") >>= _) _ _ _;refine GZ$ Lu (b:=false) H.typeIs KK ?_;simp only[Hn,IB];refine GZ$ La H.typeIs PyProof.Rows.slot_tuple_getitem.lookup ?_;dsimp only;rw[HD Sj];refine Hc ?_;simp only[LQ,Hn,IB];refine GZ$ len_tuple H c ?_;refine GZ (m:=asInt? _)$ Hc ?_;dsimp only;show wpAny _ _ (newObj (.type "reversed") (.fields [Value.ref t,rawInt ((i.size:Int) - 1)].toArray) >>= _) _ _ _;exact GZ$ HY$ Hc #[_,Z,e]
end
theorem zJ:Slot "reversed" "__next__" "reversed.__next__":=by
 refine .of (owner:="reversed") (n:="__next__") ?_ Sj Sj Sj ?_ ?_
 ·rw[II,Ie];kernel_rfl
 ·first |exact .inl Sj |exact .inr Sj
 ·rw[I0];kernel_rfl
theorem qA:Slot "reversed" "__iter__" "reversed.__iter__":=by
 refine .of (owner:="reversed") (n:="__iter__") ?_ Sj Sj Sj ?_ ?_
 ·rw[II,Ie];kernel_rfl
 ·first |exact .inl Sj |exact .inr Sj
 ·rw[I0];kernel_rfl
theorem KL:entryFor table "reversed.__next__"=some Builtin.«reversed.__next__»:=M8 (by kernel_rfl)
theorem KM:entryFor table "reversed.__iter__"=some Builtin.«dict_keyiterator.__iter__»:=by refine Nr (id':="dict_keyiterator.__iter__") ?_ Z Sj ?_<;>kernel_rfl
theorem K6(a:Value):argsOk "reversed.__next__" #[[a],[]]:=by unfold argsOk;kernel_rfl
theorem K7(a:Value):argsOk "reversed.__iter__" #[[a],[]]:=by unfold argsOk;kernel_rfl
def dj(h:Heap)(I t:Addr)(k:Int):Prop:=∃o,h.get? I=some o/\o.cls= .type "reversed"/\o.data= .fields (List.toArray [.ref t,.int k 0])
theorem dj.at{H:Heap}(x:dj h I t k)(e:∀o,h.get? I=some o->H.get? I=some o):dj H I t k:=let #[o,a,r]:=x;#[o,e o a,r]
theorem dj.is{s:Shared}(x:dj s.heap I t k):s.TypeIs (.ref I) "reversed":=let #[o,h,H,_]:=x;#[o,h,H]
section
variable {prog:Program}{w:World}{A:Around}{E:Value->Shared->Prop}{s:Shared}
theorem Xq(H:dj s.heap I t k)
  (h:wpAny (model prog w) A.in1 (Builtin.«reversed.__next__» #[[.ref I],[]]) (λf S=>∃v,f= .done (.ret v)/\Q (some v) S) (λe S=>S.TypeIs e "StopIteration"/\Q none S) s):
  wpAny (model prog w) A (pyNext$ .ref I) Q E s:=by
 unfold pyNext;refine GZ$ Lr$ HX (name:=Str.ofString "__next__") H.is zJ$ HU zJ H.is KL ?_$ K6 _;refine Ik h (λf S q=>?_) λe S q=>?_
 ·obtain⟨v,e,q⟩:=q;exact#[v,e,Hc q]
 ·exact GZ$ Lu (T:="StopIteration") (b:=true) q.1 Nq$ Hc q.2
theorem DI{I t:Addr}{k:Nat}{items:Array Value}{x:Value}{Q:Option Value->Shared->Prop}(H:dj s.heap I t k)(c:IsTup s.heap t items)(d:items[k]?=some x)(e:(items.size:Int) < 2 ^ 63)
  (f:∀b,dj b I t ((k:Int) - 1)->Heap.SameBut I s.heap b->Q (some x) { s with heap:=b,toks:=s.toks+1 }):wpAny (model prog w) A (pyNext$ .ref I) Q E s:=by
 refine Xq H ?_;obtain⟨o,a,g,h⟩:=H;have i:k < items.size:=(Array.getElem?_eq_some_iff.mp d).1;show wpAny _ _ (field (.ref I) 0 >>= _) _ _ s;refine GZ$ HJ a h (x:=.ref t) Z$ GZ$ HJ a h (x:=.int k 0) Z ?_;dsimp only;rw[HG Sf];refine GZ$ La c.typeIs PyProof.Rows.slot_tuple_getitem.lookup ?_;simp only[OJ,Hn,IB];refine GZ$ wpAny_mkInt$ GZ$ Lr ?_;refine getItem_tuple (s:={ s with toks:=s.toks+1 }) c Sf Sf (j:=k) ?_ d ?_
 ·unfold seqIndex?;simp;omega
 refine GZ$ HJ (s:={ s with toks:=s.toks+1 }) a h (x:=.int k 0) Z ?_;dsimp only;refine GZ$ Ic a h Si$ Hc #[x,Z,f _ ?_$ IX ..];exact#[_,HW _ a$ IA$ HS h _,(Mb ..).trans g,by rw[HS h];simp [rawInt]]
theorem ZW(f:A.handled=none){Q:Option Value->Shared->Prop}(h:dj s.heap I t (-1))
  (g:∀a,(∀b o,b≠I->s.heap.get? b=some o->a.get? b=some o)->Q none { s with heap:=a }):wpAny (model prog w) A (pyNext$ .ref I) Q E s:=by
 refine Xq h ?_;obtain⟨o,c,j,H⟩:=h;show wpAny _ _ (field (.ref I) 0 >>= _) _ _ s;refine GZ$ HJ c H (x:=.ref t) Z$ GZ$ HJ c H (x:=.int (-1) 0) Z ?_;dsimp only;rw[HD Se];refine GZ$ Lj$ GZ ?_;show wpAny _ _ (setField (.ref I) 1 (rawInt (-1)) >>= λ_=>setField (.ref I) 0 .none) _ _ _;refine GZ$ Ic c H Si ?_;refine Ic (HW _ c$ IA$ HS H _) (HS H _) Si ?_;refine GZ ?_;refine JR (s:={ s with heap:=_ }) (by simpa using f) λa e k T=>#[T,g a λb o d i=>k b o ?_];exact(Ht _ _$ HR d).trans ((Ht _ _$ HR d).trans i)
theorem yD(H:dj s.heap I t k){Q:Value->Shared->Prop}(h:Q (.ref I) s):wpAny (model prog w) A (pyIter$ .ref I) Q E s:=by refine NO H.is qA$ HU qA H.is KM ?_$ K7 _;show wpAny _ _ (ret$ .ref I) _ _ s;exact Hc #[_,Z,"reversed",_,H.is,zJ.lookup,h]
end
theorem JG:entryFor table "dict.update.loop"=some Builtin.«dict.update.loop»:=M8 (by kernel_rfl)
theorem zE:plainId "dict.update.loop"=true:=by decide+kernel
section
variable {X:Cx}{o lo hi:Expr}{to tl th:TE}{pos p2:Pos}
inductive Dy(v:V)(h:St)(Q:St->Hp->Prop)(e a c:V)(d:Hp):Prop
 |mk(l b f g i j:_)(_:e= .ref l)(_:v= .ref b)(_:a= .int i)(_:c= .int j)(_:d l=some (.lst f))(_:d b=some (.lst g))(_:l≠b)(_:0<=i)(_:i<=j)(_:j<=(f.length:Int))(_:f.length+g.length<=sizeLine)(_:Q h (af d l (.lst (f.take i.toNat++g++f.drop j.toNat))))
def Gw(to tl th:TE):TG:=λv b H Q=>to b H λO h=>tl b h λa c=>th b c (Dy v b Q O a)
theorem sr(n:PE X o to)(t:PE X lo tl)(w:PE X hi th)
  (A:∀v,assign (.Subscript o (.Slice (some lo) (some hi) none p2) pos) X.env v=(do
   let O <- holding [v] (eval o X.env)
   let c <- holding [v,O] (eval (.Slice (some lo) (some hi) none p2) X.env)
   standAt pos
   holding [v,O,c] (setItem O c v)
   release [c,v,O] []):=by intro _;rfl):PG X (.Subscript o (.Slice (some lo) (some hi) none p2) pos) (Gw to tl th):=by
 intro p s a H v u Q I r h;rw[A];refine GZ$ Hs$ aJ (n p s a H _ I h) λO B d=>?_;obtain⟨x,C,D,R,E⟩:=d;refine GZ$ Hs ?_;refine wpAny_Slice$ aJ (t p B a C _ D E) λV F #[y,G,J,K,L]=>aJ (w p F a G _ J L) λm S f=>?_;obtain⟨z,M,N,P,l,b,xs,ys,i,j,T,U,W,Y,h1,h2,g,h0,k,hj,hz,q⟩:=f;subst T U W Y;cases (show O=Value.ref l from R);cases (show u=Value.ref b from r);refine Hc ?_;have I4:ap X p a M { S with heap:=S.heap.push { cls:=.type "slice",data:=.fields (List.toArray [V,m,.none]) } }:=N.kept (t':=S.toks) λb o e=>Hd _ e;refine GZ$ LC$ GZ$ Hs ?_;exact ZI I4 h1 h2 g (NM S.heap V m .none) K P h0 k hj hz λs5 I5=>wpAny_release #[a,_,I5,q]
end
end _L
namespace _L
open PySem PySem.Spec PyProof.Rows Builtin Builtin.Str
section
variable {prog:Program}{w:World}{A:Around}{E:Value->Shared->Prop}{s:Shared}
theorem Jd{lo:Option Int}{Q:Value->Shared->Prop}(H:IsTup s.heap t i)(d:s.heap.IsSliceOf e v j .none)(p:IsPart v lo)(P:IsPart j f)
  (g:HT.sIx i.size 0 lo=0/\HT.sIx i.size i.size f=i.size) (h:Q (.ref t) s):wpAny (model prog w) A (getItem (.ref t)$ .ref e) Q E s:=by
 obtain⟨os,a,b,k⟩:=id d;have c:s.TypeIs (.ref e) "slice":=#[os,a,b];unfold getItem;try with_reducible refine Hs ?_
 first |refine GZ (Hc ?_) |skip
 refine GZ$ NN H.typeIs Se ?_;refine GZ (HX (name:=Str.ofString "__getitem__") H.typeIs Lg
  (HU Lg H.typeIs RV ?_$ R0 _ _))
 show wpAny _ _ (Builtin.Tuple.tupleItemsOf (.ref t) >>= _) _ _ s;refine GZ$ RT H ?_;refine GZ$ Le c ?_;rw[HD Se];refine GZ$ HT.sliceApplied_gen d p P ?_;show wpAny _ _ (if (((HT.sIx i.size 0 lo:Nat):Int)==0&&(1:Int)==1&&(HT.sIx i.size i.size f - HT.sIx i.size 0 lo)==i.size)=true then _ else _) _ _ s;rw[g.1,g.2,HD Si];unfold Builtin.Tuple.tupleIsExact;refine GZ$ GZ$ Le H.typeIs$ Hc ?_;rw[HD Se];first
  |exact Lj (Hc #[_,Z,Hc h])
  |exact GZ (Lj (Hc #[_,Z,Hc h]))
  |exact GZ (Hc (Hc #[_,Z,Hc h]))
end
section
variable {X:Cx}
inductive sI(x y:V)(H:Hp)(Q:VK):Prop
 |mk(a b c d:_)(_:x= .ref a)(_:y= .ref b)(_:H a=some (.tup c))(_:H b=some (.tup d))(_:c.length+d.length<=sizeLine)(_:∀r H',H' r=some (.tup (c++d))->ae H H'->Q (.ref r) H')
theorem jU:eG X (binaryOp .Add) sI:=by
 intro P s G H x y v u Q I r R h;obtain⟨a,b,m,Y,rfl,rfl,d,f,J,q⟩:=h;have t:=ax.of (K:=X.K) d;have w:=ax.of (K:=X.K) f;by_cases z:m=[]
 ·subst z;cases r;cases R;obtain⟨l,L,M,_⟩:=I.tuple t;obtain⟨i,r2,N,_⟩:=I.tuple w;have O:l=[]:=L.nil_iff.mpr Z;subst O;obtain⟨⟨T,U,A,V⟩,B,C,n,E⟩:=id M;obtain⟨⟨F,D,data2,S⟩,g,j,W,k⟩:=id N;simp only at C E j k;subst C E j k;exact O4 #[_,B,Z] #[_,g,Z] N6 OM MG Mv (Mt _ _)
   (tuple_addW0 a b ([]:List Value).toArray i.toArray n W U D V S Z) #[B,g,.ref b,H,I,Z,q b H f$ ae.refl H]
 ·refine wG P s G H _ _ v u Q I r R #[a,b,m,Y,Z,Z,t,w,z,J,λe=>?_,λ_ p np=>?_]
  ·subst e;exact q a H (by rw[Ml];exact d)$ ae.refl H
  ·exact q p _ jc λc o e=>by rw[ji$ jl e np];exact e
inductive BK(x:V)(c b:Option Int)(H:Hp)(Q:VK):Prop
 |mk(a d:_)(_:x= .ref a)(_:H a=some (.tup d))(_:∀r H',H' r=some (.tup (aE d c b))->ae H H'->Q (.ref r) H')
theorem zC:EH X BK:=by
 intro P s u H x v V w lo j S Q I R k l m h;obtain⟨a,b,rfl,d,q⟩:=h;have n:=ax.of (K:=X.K) d;by_cases g:HT.sIx b.length 0 lo=0/\HT.sIx b.length b.length j=b.length
 ·cases R;obtain⟨i,r,t,y⟩:=I.tuple n;have f:i.toArray.size=b.length:=by rw[Hh];exact r.length.symm
  refine#["tuple",_,PyProof.Rows.slot_tuple_getitem.lookup,t.typeIs,?_];refine Jd t k l m (by rw[f];exact g) #[.ref a,H,I,Z,q a H ?_$ ae.refl H];rw[d];unfold aE;rw[g.1,g.2,PR,Ny,Im]
 ·exact Cj P s u H _ v V w lo j S Q I R k l m #[a,b,Z,n,g,λp N=>q p _ jc λc o e=>by rw[ji$ jl e N];exact e]
end
end _L
namespace _L
open PySem PySem.Spec PyProof.Rows
theorem yo{G:Bool->Hp->Prop}(y:G true H)(n:b=false->G b H):G b H:=by
 cases b
 ·exact n Z
 ·exact y
theorem aQ{A:Prop}(h:∀G:Prop,(A->G)->G):A:=h A λz=>z
section
variable {t u:TS}{D:aU}{σ:St}{H:Hp}
theorem eM(h:∀E:aU,(∀a b,u D a b->E.nx a b)->t E σ H):gf t u D σ H:=h { D with nx:=u D } λ_ _ h=>h
theorem aj(h:∀F:St->Hp->Prop,(∀a b,u D a b->F a b)->t { D with nx:=F } σ H):gf t u D σ H:=h _ λ_ _ h=>h
theorem ni{c:TT}(h:∀F:Bool->Hp->Prop,(∀b a,(if b=true then t D σ a else u D σ a)->F b a)->c σ H F):lg c t u D σ H:=h _ λ_ _ x=>x
theorem uX{c:TT}(h:∀F:Bool->Hp->Prop,(∀a,t D σ a->F true a)->(∀a,u D σ a->F false a)->c σ H F):lg c t u D σ H:=by
 refine h _ (λa x=>?_) λa x=>?_
 ·show if true=true then _ else _;rw[HD Z];exact x
 ·show if false=true then _ else _;rw[HG Se];exact x
theorem dm(R:St->Hp->Prop)(c:∀E:aU,E.rt=D.rt->(∀a b,R a b->E.nx a b)->t E σ H)(d:∀a b,R a b->D.nx a b):Et t D σ H:=#[R,c { D with nx:=R } Z λ_ _ h=>h,d]
theorem uP{c:TT}{T:TS}(W:Nat->St->Hp->Prop)(d:Nat)(e:W d σ H)
  (f:∀m σ H,∀E:aU,E.rt=D.rt->(∀M a b,M < m->W M a b->E.nx a b)->∀F:Bool->Hp->Prop,(∀b,T E σ b->F true b)->(∀b,D.nx σ b->F false b)->∀G:Prop,(c σ H F->G)->W m σ H->G):uC c T D σ H:=by
 refine#[W,#[d,e],λm σ H w=>?_];refine f m σ H { D with nx:=λa b=>∃M,M < m/\W M a b,ct:=λa b=>∃M,M < m/\W M a b,bk:=D.nx } Z (λM a b l g=>#[M,l,g]) _ (λb x=>?_) (λb x=>?_) _ (λz=>z) w
 ·show if true=true then _ else _;rw[HD Z];exact#[_,λ_ _ h=>h,x]
 ·show if false=true then _ else _;rw[HG Se];exact x
def on(J:It)(g:TG)(T:TS)(D:aU)(σ:St)(H:Hp):Prop:=∃W:Nat->Nat->St->Hp->Prop,(∃m,W 0 m σ H)/\∀i m σ H,W i m σ H->
 (J.stop i H/\D.nx σ H)∨(J.go i H/\∃N:St->Hp->Prop,(∀a h,N a h->∃M,M < m/\W (i+1) M a h)/\∀x h,J.yld i H x h->g x σ h λb c=>T { D with nx:=N,ct:=N,bk:=D.nx } b c)
theorem eI{w:TI}(h:∀F:It->Hp->Prop,(∀J a,on J g T D σ a->F J a)->w σ H F):Cy w g T D σ H:=h _ λ_ _ z=>z
theorem GN{g:TG}{Q:St->Hp->Prop}(h:∀F:St->Hp->Prop,(∀a b,Q a b->F a b)->g x σ H F):g x σ H Q:=h _ λ_ _ z=>z
theorem zB{lo:Int}{g:TG}{T:TS}{D:aU}{σ:St}{H:Hp}(Pv:Nat->St->Hp->Prop)(d:Pv 0 σ H)
  (e:∀E:aU,E.rt=D.rt->∀i σ H,i < n->(∀a c,Pv (i+1) a c->E.nx a c)->∀G:Prop,((g (.int$ lo+i) σ H λb f=>T E b f)->G)->Pv i σ H->G) (j:∀σ H,Pv n σ H->D.nx σ H):on (va lo n) g T D σ H:=
 Ql Pv d (λi σ H k p=>e { D with nx:=Pv (i+1),ct:=Pv (i+1),bk:=D.nx } Z i σ H k (λ_ _ h=>h) _ (λz=>z) p) j
theorem Js{K:Frag}{a:Addr}{xs:List V}{g:TG}{T:TS}{D:aU}{σ:St}{H:Hp}(Pv:Nat->St->Hp->Prop)(e:Pv 0 σ H)(f:∀i σ H,i<=xs.length->Pv i σ H->aB K H a xs)
  (j:∀E:aU,E.rt=D.rt->∀i x σ H,xs[i]?=some x->(∀b d,Pv (i+1) b d->E.nx b d)->∀G:Prop,((g x σ H λc k=>T E c k)->G)->Pv i σ H->G) (l:∀σ H,Pv xs.length σ H->D.nx σ H):on (uV K a) g T D σ H:=
 pV Pv e f (λi x σ H m p=>j { D with nx:=Pv (i+1),ct:=Pv (i+1),bk:=D.nx } Z i x σ H m (λ_ _ h=>h) _ (λz=>z) p) l
theorem Ko{K:Frag}{xs:List V}{g:TG}{T:TS}{D:aU}{σ:St}{H:Hp}(Pv:Nat->St->Hp->Prop)(e:Pv 0 σ H)(f:∀i σ H,i<=xs.length->Pv i σ H->ax K H a xs)
  (j:∀E:aU,E.rt=D.rt->∀i x σ H,xs[i]?=some x->(∀b d,Pv (i+1) b d->E.nx b d)->∀G:Prop,((g x σ H λc k=>T E c k)->G)->Pv i σ H->G) (l:∀σ H,Pv xs.length σ H->D.nx σ H):on (vb K a) g T D σ H:=
 vJ Pv e f (λi x σ H m p=>j { D with nx:=Pv (i+1),ct:=Pv (i+1),bk:=D.nx } Z i x σ H m (λ_ _ h=>h) _ (λz=>z) p) l
end
end _L
namespace _L
open PySem PySem.Spec PyProof.Rows PySem.SeqAt
section
variable {prog:Program}{w:World}{A:Around}{E:Value->Shared->Prop}{s:Shared}
theorem Yu{P:Fin->Shared->Prop}(H:s.heap.get? a=some (seqObj "list" [v].toArray n))
  (h:P (.done$ .ret .none) { s with heap:=sortedHeap s.heap a [v] (List.toArray [v]) }):wpAny (model prog w) A (Builtin.«list.sort» #[[.ref a],[]]) P E s:=by
 rw[Oj];refine GZ$ O3 H Z ?_;refine GZ$ Mq H Z ?_;obtain⟨e,b⟩:∃e,(s.heap.update a$ Obj.mapSeq λ_=>(List.toArray [])).get? a=some (seqObj "list" (List.toArray []) e):=#[_,Ol H (λ_=>(List.toArray []))];refine GZ$ MT b Z ?_;refine GZ$ Mf ?_;refine GZ$ LZ ?_;refine Hs ?_;have g:(((s.heap.update a$ Obj.mapSeq λ_=>(List.toArray [])).push$ seqObj "tuple" [v].toArray 0).push$ seqObj "list" (List.toArray []) 0).get? a=some (seqObj "list" (List.toArray []) e):=Hd _ (Hd _ b);show wpAny (model prog w) A _ P E { s with heap:=((s.heap.update a$ Obj.mapSeq λ_=>(List.toArray [])).push$ seqObj "tuple" [v].toArray 0).push (seqObj "list" (List.toArray []) 0) };dsimp only;have S:[v].toArray.size < 2:=by show 1 < 2;decide
 rw[HD S,HD S];refine GZ$ Hc ?_;rw[O7];refine GZ$ Hc ?_;dsimp only;refine GZ$ MT g Z ?_;have c:(arrOf$ SortSt.mk' general' ([v].toArray.zip [v].toArray) (List.toArray []) 7 none).map (·.2)=(List.toArray [v]):=by show([v].toArray.zip [v].toArray).map (·.2)=(List.toArray [v]);simp
 rw[c];refine GZ$ Mq g Z ?_ (hsz2:=by show 1<=sizeLine+1;omega);simp only[IK,Hn,IB];exact Hc h
theorem xO{Q:Value->Shared->Prop}(H:s.heap.IsList l [v].toArray)
  (h:Q (.ref$ s.heap.objs.size+1) { s with heap:=sortedAll s.heap [v] (List.toArray [v]) }):wpAny (model prog w) A (call (.builtin "sorted") [.ref l]) Q E s:=by
 refine LH Oc NP NQ (NR _) ?_;unfold Builtin.«sorted»;refine GZ (m:=checkCount "sorted" 1 1 _)$ Hc ?_;refine GZ$ O5 H ?_;refine GZ$ LZ ?_;have z:((s.heap.push$ seqObj "list" (List.toArray []) 0).update s.heap.objs.size$ Obj.mapSeq (·++[v].toArray)).objs.size=s.heap.objs.size+1:=by rw[NF,OD]
 have g:(((s.heap.push$ seqObj "list" (List.toArray []) 0).update s.heap.objs.size$ Obj.mapSeq (·++[v].toArray)).push$ seqObj "list" [v].toArray 0).get? (s.heap.objs.size+1)=some (seqObj "list" [v].toArray 0):=by rw[<- z];exact Hj _ Z
 show wpAny _ _ _ _ _ { s with heap:=((s.heap.push$ seqObj "list" (List.toArray []) 0).update s.heap.objs.size$ Obj.mapSeq (·++[v].toArray)).push (seqObj "list" [v].toArray 0) };rw[z];refine GZ$ Hs$ HU Np #[_,g,Z] Nj (Yu g #[_,Z,?_]) (Nu _);exact Hc #[_,Z,h]
end
inductive Tr where
 |lf (v:V) |tp (l:Tr) |nil |cons (h t:Tr)
noncomputable def Tr.dep:Tr->Nat
 | .lf _=>0
 | .tp l=>l.dep+1
 | .nil=>0
 | .cons h t=>max h.dep t.dep
noncomputable def Tr.isL:Tr->Bool
 | .nil=>true
 | .cons _ _=>true
 |_=>false
noncomputable def Fu:V->Bool
 | .byt _=>false
 | .flt _=>false
 |_=>true
def lE(K:Frag)(H:Hp):Tr->V->List V->Prop
 | .lf v,x,_=>x=v/\Fu v=true
 | .tp l,x,_=>l.isL=true/\∃a X,x= .ref a/\ax K H a X/\lE K H l .non X
 | .nil,_,X=>X=[]
 | .cons h t,_,X=>h.isL=false/\t.isL=true/\∃y Y,X=y::Y/\lE K H h y []/\lE K H t .non Y
theorem ZX(o:Fu v=true)(r:aw v u)(R:aw v U):EqAt A s u U true:=by
 cases v with
 |int a=>obtain⟨t,rfl⟩:=r;obtain⟨T,rfl⟩:=R;have:=Oz (A:=A) (s:=s) a t a T;rwa [I8]at this
 |str a=>obtain⟨t,rfl⟩:=r;obtain⟨T,rfl⟩:=R;have:=Oy (A:=A) (s:=s) a t a T;rwa [I8]at this
 |byt b=>cases o
 |flt b=>cases o
 |non=>cases r;cases R;exact Ng _
 |bl b=>cases r;cases R;exact Ng _
 |ref b=>cases r;cases R;exact Ng _
 |ty b=>cases r;cases R;exact Ng _
section
variable {X:Cx}
theorem Qx:(List.range n).all (λ_=>true)=true:=by simp
theorem wW(I:ap X p D H s){A:Around}(k:ax X.K H a d)(l:ax X.K H b Y)(m:d.length=Y.length)(n:A.units < cLine)
  (h:∀(j:Nat) (x y:V) (u v:Value),d[j]?=some x->Y[j]?=some y->aw x u->aw y v->EqAt A.in1 s u v true):RcAt A s (.ref a) (.ref b) true:=by
 obtain⟨i,r,P,_⟩:=I.tuple k;obtain⟨f,R,o,_⟩:=I.tuple l;have:=Rp (A:=A) (e:=λ_=>true) (show s.heap.IsTuple a i.toArray from P) (show s.heap.IsTuple b f.toArray from o) n (λj q F=>?_)
 ·rw[Qx,Hh,Hh,<- r.length,<- R.length,m,I8]at this;exact this
 ·have L:=r.length;have G:=R.length;have g:j < d.length:=by simp at q;omega
  have c:j < Y.length:=by omega
  obtain⟨U,Q,t⟩:=r.get (G8 g);obtain⟨w,z,B⟩:=R.get (G8 c);have E:i.toArray[j]=U:=by obtain⟨_,e⟩:=List.getElem?_eq_some_iff.mp Q;simpa using e
  have C:f.toArray[j]=w:=by obtain⟨_,e⟩:=List.getElem?_eq_some_iff.mp z;simpa using e
  rw[E,C];exact h j _ _ _ _ (G8 g) (G8 c) t B
theorem Ew(I:ap X p U H s):∀(t:Tr) {A:Around},A.units+t.dep < cLine->∀{x y:V} {c Y:List V},lE X.K H t x c->lE X.K H t y Y->
  (t.isL=false->∀u v,aw x u->aw y v->EqAt A s u v true)/\(t.isL=true->c.length=Y.length/\∀(j:Nat) (d f:V) (u v:Value),c[j]?=some d->Y[j]?=some f->aw d u->aw f v->EqAt A s u v true):=by
 intro t;induction t with
 |lf w=>rintro A g x y c Y ⟨rfl,O⟩ ⟨rfl,_⟩;exact#[λ_ u v r R=>ZX O r R,λh=>by cases h]
 |tp l q=>
  rintro A g x y c Y ⟨z,a,W,rfl,B,T⟩ ⟨_,b,bs,rfl,C,D⟩;refine#[λ_ u v r R=>?_,λh=>by cases h];cases r;cases R;have E:A.units+(l.dep+1) < cLine:=g;have i:=(q (A:=A.in1) (by show A.units+1+l.dep < cLine;omega) T D).2 z;by_cases e:a=b
  ·rw[e];exact Ng _
  ·exact Ri e$ wW I B C i.1 Sf i.2
 |nil=>rintro A g x y c Y rfl rfl;exact#[(λh=>by cases h),λ_=>#[Z,λj d f u v h=>by simp at h]]
 |cons h t k m=>
  rintro A g x y c Y ⟨F,G,x1,J,rfl,P,L⟩ ⟨_,_,y1,M,rfl,Q,N⟩;have E:A.units+max h.dep t.dep < cLine:=g;have S:=(k (A:=A) Sf P Q).1 F;have i:=(m (A:=A) Sf L N).2 G;refine#[(λh=>by cases h),λ_=>#[by rw[HM,HM,i.1],λj d f u v n o=>?_]];cases j with
  |zero=>cases n;cases o;exact S u v
  |succ j=>exact i.2 j d f u v (by simpa using n) (by simpa using o)
inductive yK(K:Frag)(d:Nat)(b:Bool)(x y:V)(H:Hp)(Q:VK):Prop
 |mk(l:Tr)(_:l.dep < d)(_:lE K H (.tp l) x [])(_:lE K H (.tp l) y [])(_:Q (.bl b) H)
theorem wX(I:ap X p D H s){A:Around}(k:ax X.K H a d)(l:ax X.K H b Y)(m:d.length=Y.length)(n:A.units < cLine)
  (h:∀(j:Nat) (x y:V) (u v:Value),d[j]?=some x->Y[j]?=some y->aw x u->aw y v->EqAt A.in1 s u v true):RcNeAt A s (.ref a) (.ref b) false:=by
 obtain⟨i,r,P,_⟩:=I.tuple k;obtain⟨f,R,o,_⟩:=I.tuple l;have:=RcNeAt.tuples (A:=A) (e:=λ_=>true) (show s.heap.IsTuple a i.toArray from P) (show s.heap.IsTuple b f.toArray from o) n (λj q F=>?_)
 ·rw[Qx,Hh,Hh,<- r.length,<- R.length,m,I8]at this;exact this
 ·have L:=r.length;have G:=R.length;have g:j < d.length:=by simp at q;omega
  have c:j < Y.length:=by omega
  obtain⟨U,Q,t⟩:=r.get (G8 g);obtain⟨w,z,B⟩:=R.get (G8 c);have E:i.toArray[j]=U:=by obtain⟨_,e⟩:=List.getElem?_eq_some_iff.mp Q;simpa using e
  have C:f.toArray[j]=w:=by obtain⟨_,e⟩:=List.getElem?_eq_some_iff.mp z;simpa using e
  rw[E,C];exact h j _ _ _ _ (G8 g) (G8 c) t B
theorem wH{d:Nat}(i:X.A.units+d < cLine):eG X (compareOp .NotEq) (yK X.K d false):=by intro p s j H x y v u Q I r R h;obtain⟨l,k,⟨e,a,m,rfl,f,t⟩,⟨_,b,B,rfl,g,T⟩,q⟩:=h;cases r;cases R;have c:=(Ew I l (A:=X.A.in1) (by show X.A.units+1+l.dep < cLine;omega) t T).2 e;exact wX I f g c.1 Sf c.2 X.prog X.w _ _ #[.bl false,H,I,Z,q]
end
end _L
namespace _L
open PySem PySem.Spec PyProof.Rows
noncomputable def ET(K:Frag)(a:Addr)(n:Nat):It:=
 #[λi H=>∃X x,ax K H a X/\X.length=n/\X.reverse[i]?=some x,λi H x h=>h=H/\∀X,ax K H a X->X.reverse[i]?=some x,λi H=>∃X,ax K H a X/\X.length=n/\i=n]
theorem uH{P:Program}{K:Frag}(a f:Addr)(n:Nat):ms P w K tg (ET K a n) [f] f (λi h=>dj h f a ((n:Int) - 1 - i)) where
 mem:=by simp
 obj:=λi h st b j=>by
  have e:b=f:=by simpa using j
  subst e;obtain⟨o,e,c,d⟩:=st;exact#[o,e,λv z=>by rw[d]at z;cases z]
 keep:=λi h q st k=>st.at λo e=>k f Si o e
 item:=by
  intro X y A B O i g s Q H E I t st C;subst y A B;obtain⟨l,x,D,T,m⟩:=C;obtain⟨r,R,p,hz⟩:=I.tuple D;have hl:=R.length;have U:=dM;have V:i < l.length:=by
   rcases MZ i l.length with z |z
   ·exact z
   ·rw[Ib (by simpa using z)]at m;cases m
  have F:l[l.length - 1 - i]?=some x:=by rw[Md V]at m;exact m
  obtain⟨u,W,Y⟩:=R.get F;obtain⟨G,J,f2,L,M,N⟩:=t f Si;have e:((n:Int) - 1 - i)=((l.length - 1 - i:Nat):Int):=by omega
  rw[e]at st;refine DI (items:=r.toArray) st (show IsTup s.heap a r.toArray from p) (x:=u) (by simpa using W) (by simp only[Hh];omega) λq S sb=>?_;have I1:ap X g Q H { s with heap:=q,toks:=s.toks+1 }:=I.turned (t':=s.toks+1) (λb o j e=>(sb.2 b j).trans e) G J L M N;obtain⟨o,e',c,d⟩:=id S;refine#[u,Z,YR (s:={ s with heap:=q,toks:=s.toks+1 }) e' c d Se #[x,H,I1,Y,#[Z,λys hy=>by rw[I.tuple_inj hy D];exact m],?_,λb j=>(t b j).1]];have e2:((n:Int) - 1 - ((i+1:Nat):Int))=((l.length - 1 - i:Nat):Int) - 1:=by omega
  show dj q f a ((n:Int) - 1 - ((i+1:Nat):Int));rw[e2];exact S
 done:=by
  intro X y A B O i g s Q H E I t st C;subst y A B;obtain⟨l,D,T,m⟩:=C;obtain⟨G,J,f2,L,M,N⟩:=t f Si;have e:((n:Int) - 1 - (i:Int))= -1:=by omega
  rw[e]at st;exact ZW (I.ok.hd O) st λq eb=>#[Z,I.turned (t':=s.toks) (λb o j e=>eb b o j e) G J L M N]
 self:=λ_ _ _ _ _ st h=>yD st h
section
variable {X:Cx}{tg:Expr}
inductive yB(K:Frag)(R:It->Hp->Prop)(x:V)(b:Hp):Prop
 |mk(a c:_)(_:x= .ref a)(_:ax K b a c)(_:R (ET K a c.length) b)
def Fo(K:Frag)(t:TE):TI:=λa H R=>t a H (yB K R)
theorem su{e:Expr}{t:TE}{c:Str}{p P:Pos}(j:Gl X c)(k:X.mg c=none)(l:bootBuiltins c=some (.type "reversed"))(y:PE X e t)(m:c≠"__name__":=by decide)(n:(c==("__debug__":Str))=false:=by decide)
  (r:starEach [e] X.env=(false,eval e X.env)::starEach [] X.env:=by rfl) (A:(backTo P$ starEach [] X.env).any (·.1)=false:=by rfl):PI X tg (.Call (.Name c p) [e] [] P) (Fo X.K t):=by
 intro d s B H R I h;refine Iv$ zF I j k l ?_ m n;refine Ig ?_ r A;rw[r];show wpAny _ _ (spliced ((false,eval e X.env)::backTo P (starEach [] X.env))) _ _ s;refine Lc$ aJ (y d s B H _ I h) λu S z=>?_;obtain⟨x,C,g,D,a,v,E,F,q⟩:=z;subst E;cases (show u=Value.ref a from D);obtain⟨i,G,J,N⟩:=g.tuple F;have f:=G.length;have L:=dM;refine Ly$ pE (show IsTup S.heap a i.toArray from J) (by simp only[Hh];omega) ?_;have w:dj (S.heap.push$ revObj a i.toArray.size) S.heap.objs.size a ((v.length:Int) - 1 - ((0:Nat):Int)):=#[_,Hj _ Z,Z,by rw[Hh,<- f];simp [revObj]];refine yD (s:={ S with heap:=S.heap.push (revObj a i.toArray.size),toks:=S.toks+1+1 }) w ?_;refine#[S.heap.objs.size,[S.heap.objs.size],_,_,C,Z,g.kept (t':=S.toks+1+1) λb o e=>Hd _ e,uH a _ v.length,w,λb M=>?_,q];have e:b=S.heap.objs.size:=by simpa using M
 subst e;exact g.fpOk (Hg _)$ g.hok.fresh$ Hg _
end
theorem Xr{K:Frag}{xs:List V}{g:TG}{t:TS}{D:aU}(Pv:Nat->St->Hp->Prop)(k:Pv 0 b H)(l:∀i b H,i<=xs.length->Pv i b H->ax K H a xs)
  (n:∀E:aU,E.rt=D.rt->∀i x b H,xs.reverse[i]?=some x->(∀c f,Pv (i+1) c f->E.nx c f)->∀G:Prop,((g x b H λj o=>t E j o)->G)->Pv i b H->G) (r:∀b H,Pv xs.length b H->D.nx b H):on (ET K a xs.length) g t D b H:=by
 refine#[λi m b H=>m=xs.length - i/\i<=xs.length/\Pv i b H,#[xs.length,Si,Ho _,k],?_];rintro i m b H ⟨rfl,s,p⟩;have q:=l i b H s p;by_cases d:i < xs.length
 ·refine .inr #[#[xs,_,q,Z,G8 (by simpa using d)],Pv$ i+1,λc f P=>#[xs.length - (i+1),Sf,Z,d,P],λx f y=>?_];obtain⟨e,y⟩:=y;subst e;exact n { D with nx:=Pv (i+1),ct:=Pv (i+1),bk:=D.nx } Z i x b _ (y xs q) (λ_ _ h=>h) _ (λz=>z) p
 ·have e:i=xs.length:=by omega
  subst e;exact .inl #[#[xs,q,Z,Z],r b H p]
theorem tW:Slot "list_reverseiterator" "__length_hint__" "list_reverseiterator.__length_hint__":=by refine Slot.of (owner:="list_reverseiterator") (n:="__length_hint__") (by rw[II,Ie];kernel_rfl) Sj Sj Sj ?_ (by rw[I0];kernel_rfl);first |exact .inl Sj |exact .inr Sj
theorem ZY:typeLookup (.type "list_reverseiterator") "__len__"=pure none:=by rw[II,Ie];kernel_rfl
theorem Cp:isSubtype (.type "list_reverseiterator") (.type "list_reverseiterator")=pure true:=by rw[I0];kernel_rfl
section
variable {prog:Program}{w:World}{A:Around}{E:Value->Shared->Prop}{s:Shared}
theorem AB(H:s.heap.IsRevIter I t k){Q:Bool->Shared->Prop}(h:Q false s):wpAny (model prog w) A (Builtin.List.listLengthHint$ .ref I) Q E s:=by
 unfold Builtin.List.listLengthHint;refine GZ$ La H.typeIs ZY ?_;show wpAny _ A (specialOf (Value.ref I) (Str.ofString "__length_hint__") >>= _) _ _ _;refine GZ$ La H.typeIs tW.lookup ?_;have e:splitId "list_reverseiterator.__length_hint__"=some ("list_reverseiterator","__length_hint__"):=by decide+kernel
 dsimp only;rw[e];dsimp only;refine GZ$ Lu (b:=true) H.typeIs Cp ?_;simp only[LQ,Hn,IB];rw[HD Sj,HG Sj];exact Hc h
theorem oq{a:Array Value}{Q:List Value->Shared->Prop}(z:A.handled=none)(f:s.heap.IsRevIter I t ((a.size:Int) - 1))(r:s.heap.IsList t a)(B:t≠I)(C:a.size<=sizeLine)
  (D:∀S,(∀b o,b≠I->s.heap.get? b=some o->S.heap.get? b=some o)->s.heap.objs.size<=S.heap.objs.size->S.gens=s.gens->S.os=s.os->Q a.toList.reverse S):wpAny (model prog w) A (collect$ .ref I) Q E s:=by
 have j:I < s.heap.objs.size:=by obtain⟨o,k,_⟩:=f;exact Hi k
 have n:t < s.heap.objs.size:=by obtain⟨o,k,_⟩:=r;exact Hi k
 have u:I≠s.heap.objs.size:=Hm j;have F:t≠s.heap.objs.size:=Hm n;unfold collect;refine GZ (OA (IJ NE (by
  rw[Ir ND _];show wpAny _ A.in1 (newList [] >>= λl=>again (.builtin "list.__iadd__" #[[l,.ref I],[]])) _ _ s;refine GZ$ HY$ Hc #[Ls LO _,IJ NY ?_];rw[Ir LO _];generalize v:s.heap.push { cls:=.type "list",data:=.seq ([]:List Value).toArray }=H;have J:H.get? s.heap.objs.size=some { cls:=.type "list",data:=.seq (List.toArray []) }:=by rw[<- v];exact Hj _ Z
  have G:∀b o,s.heap.get? b=some o->H.get? b=some o:=λb o e=>by rw[<- v];exact Hd _ e
  have h:H.IsRevIter I t ((a.size:Int) - 1):=f.at λo e=>G I o e;have p:H.IsList t a:=r.at λo e=>G t o e;show wpAny _ A.in1 (Builtin.List.listExtendWith (.ref s.heap.objs.size) (.ref I)$ .ref s.heap.objs.size) _ _ { s with heap:=H };unfold Builtin.List.listExtendWith;refine GZ$ Le (s:={ s with heap:=H }) h.typeIs ?_;have K:Builtin.List.listSameRef (.ref s.heap.objs.size) (.ref I)=false:=by simp only[Builtin.List.listSameRef,beq_eq_false_iff_ne];exact HR u
  have L:(Value.type "list_reverseiterator"==Value.type "list")=false:=by decide
  have M:(Value.type "list_reverseiterator"==Value.type "tuple")=false:=by decide
  simp only[K,L,M,Oi,Hn,IB];refine GZ$ wpAny_pyIter_revIter (s:={ s with heap:=H }) h$ GZ$ Hs$ AB (s:={ s with heap:=H }) h ?_;have N:¬s.heap.objs.size∈[I,t]:=by simp only[IW,HK,Mp,not_or];exact#[HR u,HR F]
  rw[HG Sj];refine Hc #[Ls NH _,?_];have W:=(Walks.listRev (prog:=prog) (w:=w) (A:=A.in1) (by simpa using z) I t B a).toS;refine Pq W C _ N _ a.size 0 _ (List.toArray []) _ Z (Ho _) #[Ho _,by simpa using h,p] J (PU _) λS d U m x c=>?_;have O:d=a.toList.reverse.toArray:=by
   apply Array.ext';refine List.ext_getElem? λi=>?_;by_cases y:i < a.size
   ·have g:i < d.size:=by rw[c.1];exact y
    have q:=c.2 i d[i] (by simp [g]);rw[IR,Lh g,<- q];show a[a.size - 1 - i]?=a.toList.reverse[i]?;rw[Md (by simpa using y)];simp
   ·rw[Ib (by rw[HF,c.1];omega),Ib (by simp;omega)]
  subst O;show wpAny _ A (load s.heap.objs.size >>= _) _ _ S;refine GZ$ P0 x$ Hc ?_;have P:a.toList.reverse.toArray.toList=a.toList.reverse:=by simp
  rw[P];refine D S (λb o R e=>?_) ?_ m.gens m.os
  ·have T:b≠s.heap.objs.size:=Hm (Hi e);exact m.heap b o (by simp only[IW,HK,Mp,not_or];exact#[T,R])$ G b o e
  ·exact Lp$ Hi x)))
end
section
variable {prog:Program}{w:World}{A:Around}{E:Value->Shared->Prop}{s:Shared}
theorem Xd{i:Array Value}{Q:Value->Shared->Prop}(f:A.handled=none)(H:s.heap.IsRevIter I t ((i.size:Int) - 1))(g:s.heap.IsList t i)(j:t≠I)(d:i.size<=sizeLine)
  (h:∀S:Shared,(∀b o,b≠I->s.heap.get? b=some o->S.heap.get? b=some o)->s.heap.objs.size<=S.heap.objs.size->S.gens=s.gens->S.os=s.os->
   Q (.ref S.heap.objs.size) { S with heap:=S.heap.push { cls:=.type "tuple",data:=.seq i.toList.reverse.toArray } }):
  codeAny (model prog w) A (.call (.builtin "tuple.__new__") #[[.type "tuple",.ref I],[]]) (wants Q E) s:=by
 refine Om (show wpAny _ A.in1 (do checkBuiltinCall "tuple.__new__" #[[.type "tuple",.ref I],[]];again (.builtin "tuple.__new__" #[[.type "tuple",.ref I],[]])) _ _ s from ?_);refine GZ (MS (PySem.F.newCall_tuple_1 _) (Hc #[Ls NW _,IJ PySem.F.entry_tuple_new (by
  rw[Ir NW _];have e:=sub_tuple_self;have a:=init_tuple_lookup;have l:=madeHere_tuple;have c:=H.typeIs;wp_walk using Le c,oq (by simpa using f) H g j d;intro S k z m n;show wpAny _ _ (Builtin.Tuple.tupleExact i.toList.reverse.toArray >>= λv=>ret v) _ _ _;unfold Builtin.Tuple.tupleExact;exact GZ$ HY (Hc$ h S k z m n) (by show i.toList.reverse.toArray.size<=sizeLine;simpa using d))]))
theorem Xe{items:Array Value}{Q:Value->Shared->Prop}(d:A.handled=none)(c:s.heap.IsRevIter I t ((items.size:Int) - 1))(e:s.heap.IsList t items)(f:t≠I)(g:items.size<=sizeLine)
  (h:∀a:Shared,(∀b o,b≠I->s.heap.get? b=some o->a.heap.get? b=some o)->s.heap.objs.size<=a.heap.objs.size->a.gens=s.gens->a.os=s.os->
   Q (.ref a.heap.objs.size) { a with heap:=a.heap.push { cls:=.type "tuple",data:=.seq items.toList.reverse.toArray } }):wpAny (model prog w) A (call (.type "tuple") [.ref I]) Q E s:=by
 refine R6 (Q₁:=λO S=>S.TypeIs O "tuple"/\Q O S) PySem.F.called_tuple (PySem.F.typeCall_tuple_1 _) PySem.F.entry_object_init (Xd (by simpa using d) c e f g λa k z i j=>#[#[_,Hj _ Z,Z],h a k z i j]) λO S H=>?_;exact#[H.1,Mm O _,object_init_meets PySem.F.called_tuple.init.lookup PySem.F.called_tuple.made Se prog w A.in1 _ S #[H.1,Z,H.2]]
end
section
variable {X:Cx}{e:Expr}{te:TE}{xl xr:Str}{p p2 pos pos2:Pos}
inductive lU(K:Frag)(Q:VK)(x:V)(b:Hp):Prop
 |mk(a c:_)(_:x= .ref a)(_:aB K b a c)(_:∀l,b l=none->Q (.ref l) (af b l (.tup c.reverse)))
def x6(K:Frag)(te:TE):TE:=λa H Q=>te a H (lU K Q)
theorem ZZ(M:X.calm=true)(g:Gl X xl)(j:X.mg xl=none)(l:bootBuiltins xl=some (.type "tuple"))(m:Gl X xr)(n:X.mg xr=none)(r:bootBuiltins xr=some (.type "reversed"))(O:PE X e te)
  (t:xl≠"__name__":=by decide) (v:(xl==("__debug__":Str))=false:=by decide) (y:xr≠"__name__":=by decide) (A:(xr==("__debug__":Str))=false:=by decide)
  (E:starEach [.Call (.Name xr p2) [e] [] pos2] X.env=(false,eval (.Call (.Name xr p2) [e] [] pos2) X.env)::starEach [] X.env:=by rfl) (T:(backTo pos$ starEach [] X.env).any (·.1)=false:=by rfl)
  (F:starEach [e] X.env=(false,eval e X.env)::starEach [] X.env:=by rfl) (U:(backTo pos2$ starEach [] X.env).any (·.1)=false:=by rfl):
  PE X (.Call (.Name xl p) [.Call (.Name xr p2) [e] [] pos2] [] pos) (x6 X.K te):=by
 intro P s V H Q I h;refine Iv$ zF I g j l ?_ t v;refine Ig ?_ E T;rw[E];show wpAny _ _ (spliced ((false,eval (.Call (.Name xr p2) [e] [] pos2) X.env)::backTo pos (starEach [] X.env))) _ _ s;refine Lc ?_;refine Iv$ zF I m n r ?_ y A;refine Ig ?_ F U;rw[F];show wpAny _ _ (spliced ((false,eval e X.env)::backTo pos2 (starEach [] X.env))) _ _ s;refine Lc$ aJ (O P s V H _ I h) λu d B=>?_;obtain⟨x,W,f,Y,a,G,ex,hq,q⟩:=B;subst ex;cases (show u=Value.ref a from Y);obtain⟨i,R,C,hz⟩:=f.list hq;have J:=R.length;refine Ly$ call_reversed_list C.isList$ Ly ?_;have D:a < d.heap.objs.size:=by obtain⟨o,ho,_⟩:=C.isList;exact Hi ho
 refine Xe (s:={ d with heap:=d.heap.push (PySem.revObj a ((i.toArray.size:Int) - 1)) }) (items:=i.toArray) (I.ok.hd M) #[_,Hj _ Z,Z,Z] (C.isList.at λo e=>Hd _ e) (Hm D)
  (by simp only[Hh];omega) λS k hl kg ko=>?_
 have c:d.heap.objs.size<=S.heap.objs.size:=Hr (by show _<=(d.heap.push _).objs.size;rw[Ij];exact IL _) hl;have L:∀b o,d.heap.get? b=some o->(S.heap.push { cls:=.type "tuple",data:=.seq i.toArray.toList.reverse.toArray }).get? b=some o:=λb o e=>Hd _ (k b o (Hm$ Hi e)$ Hd _ e);have hg:(S.heap.push { cls:=.type "tuple",data:=.seq i.toArray.toList.reverse.toArray }).get? S.heap.objs.size=some { cls:=.type "tuple",data:=.seq i.toArray.toList.reverse.toArray }:=Hj _ Z;have N:aF X.prog X.w (af W S.heap.objs.size$ .tup G.reverse) (S.heap.push { cls:=.type "tuple",data:=.seq i.toArray.toList.reverse.toArray }) S.heap.objs.size (.tup G.reverse):=by
  refine#[by rw[OQ];exact hz,i.reverse,au.reverse R,?_];have ee:i.toArray.toList.reverse.toArray=i.reverse.toArray:=by simp
  rw[<- ee];exact#[_,hg,Z,_,Z]
 exact#[.ref S.heap.objs.size,_,f.call' (ch:=[]) ko (Un.laid L c$ f.hok.fresh c) (f.hok.laid L c N) (by show AllBare S.gens;rw[kg];exact f.bare) (λ_ z=>nomatch z),Z,q _$ f.hok.fresh c]
end
section
variable {prog:Program}{w:World}{A:Around}{E:Value->Shared->Prop}{s:Shared}
theorem KC{x:Value}{Q:Value->Shared->Prop}(a:s.heap.IsTupleIter J T i)(e:s.heap.IsTuple T I)(f:I[i]?=some x)
  (q:∀b,b.IsTupleIter J T (i+1)->Heap.SameBut J s.heap b->Q x { s with heap:=b }):wpAny (model prog w) A (Builtin.SmallTypes.nextOf$ .ref J) Q E s:=by
 obtain⟨o,H,g,h⟩:=id a;obtain⟨O,c,_,n,d⟩:=e;unfold Builtin.SmallTypes.nextOf;refine GZ$ HX (name:=Str.ofString "__next__") a.typeIs Iz$ HU Iz a.typeIs LU (show wpAny _ _ (field (.ref J) 0 >>= _) _ _ s from ?_)$ LN _;refine GZ$ HJ H h (x:=.ref T) Z (show wpAny _ _ (if (Value.ref T==Value.none)=true then _ else _) _ _ s from ?_);rw[HG (show ¬((Value.ref T==Value.none)=true) from Hl)];refine(show wpAny _ _ (field (.ref J) 1 >>= _) _ _ s from GZ$ HJ H h (x:=.int i 0) Z (show wpAny _ _ (seqItems? (.ref T) >>= _) _ _ s from GZ$ Iu c d ?_));simp only[Iq,f];refine GZ$ Ic H h Si$ Hc #[x,Z,Hc$ q _ #[_,HW _ H$ IA$ HS h _,(Mb ..).trans g,by rw[HS h];simp [rawInt]] (IX ..)]
theorem Z0(g:A.handled=none)(H:s.heap.IsTupleIter J T i)(j:s.heap.IsTuple T I)(l:I[i]?=none)
  (q:∀h e,Heap.ExtBut J s.heap h->Shared.TypeIs { s with heap:=h } e "StopIteration"->E e { s with heap:=h }):wpAny (model prog w) A (Builtin.SmallTypes.nextOf$ .ref J) Q E s:=by
 obtain⟨o,a,p,c⟩:=id H;obtain⟨O,d,_,N,f⟩:=j;unfold Builtin.SmallTypes.nextOf;refine GZ$ HX (name:=Str.ofString "__next__") H.typeIs Iz$ HU Iz H.typeIs LU (show wpAny _ _ (field (.ref J) 0 >>= _) _ _ s from ?_)$ LN _;refine GZ$ HJ a c (x:=.ref T) Z (show wpAny _ _ (if (Value.ref T==Value.none)=true then _ else _) _ _ s from ?_);rw[HG (show ¬((Value.ref T==Value.none)=true) from Hl)];refine(show wpAny _ _ (field (.ref J) 1 >>= _) _ _ s from GZ$ HJ a c (x:=.int i 0) Z (show wpAny _ _ (seqItems? (.ref T) >>= _) _ _ s from GZ$ Iu d f ?_));simp only[Iq,l];refine GZ$ Lj$ GZ$ Ic a c Si ?_;refine JR (by simpa using g) λh e k t=>q h e (λb o m n=>k b o ?_) t;exact(Ht _ _$ HR m).trans n
end
def gm(b:Bool)(h:Heap)(i l:Addr)(k:Nat):Prop:=match b with
 |true=>h.IsListIter i l k
 |false=>h.IsTupleIter i l k
def il(b:Bool)(h:Heap)(l:Addr)(x:Array Value):Prop:=match b with
 |true=>h.IsList l x
 |false=>h.IsTuple l x
noncomputable def eS:Bool->String
 |true=>"list_iterator"
 |false=>"tuple_iterator"
theorem gm.kp{b:Bool}{H:Heap}(x:gm b h i l k)(e:∀o,h.get? i=some o->H.get? i=some o):gm b H i l k:=by
 cases b
 ·exact PX x e
 ·obtain⟨o,a,r⟩:=x;exact#[o,e o a,r]
theorem il.kp{b:Bool}{H:Heap}(x:il b h l a)(e:∀o,h.get? l=some o->H.get? l=some o):il b H l a:=by
 cases b
 ·obtain⟨o,c,r⟩:=x;exact#[o,e o c,r]
 ·exact Sd x e
theorem gm.ob(x:gm b h i l k):∃o,h.get? i=some o/\o.cls= .type (eS b)/\∀v,o.data≠ .cell v:=by
 cases b
 ·obtain⟨o,H,c,d⟩:=x;exact#[o,H,c,λv z=>by rw[d]at z;cases z]
 ·obtain⟨o,H,c,d⟩:=x;exact#[o,H,c,λv z=>by rw[d]at z;cases z]
section
variable {prog:Program}{w:World}{A:Around}{E:Value->Shared->Prop}{s:Shared}
theorem zT{Q:Value->Shared->Prop}(H:gm b s.heap J T i)(a:il b s.heap T I)(c:I[i]?=some x)
  (q:∀h,gm b h J T (i+1)->Heap.SameBut J s.heap h->Q x { s with heap:=h }):wpAny (model prog w) A (Builtin.SmallTypes.nextOf$ .ref J) Q E s:=by
 cases b
 ·exact KC H a c q
 ·exact wpAny_nextOf_list_item H a c q
theorem Qy(H:A.handled=none)(a:gm b s.heap J T i)(c:il b s.heap T I)(d:I[i]?=none)
  (q:∀h e,Heap.ExtBut J s.heap h->Shared.TypeIs { s with heap:=h } e "StopIteration"->E e { s with heap:=h }):wpAny (model prog w) A (Builtin.SmallTypes.nextOf$ .ref J) Q E s:=by
 cases b
 ·exact Z0 H a c d q
 ·exact wpAny_nextOf_list_end H a c d λh e k #[o,f,g]=>q h (.ref e) k #[o,f,g]
theorem yE{Q:Value->Shared->Prop}(h:il b s.heap T i)
  (q:Q (.ref s.heap.objs.size) { s with heap:=s.heap.push { cls:=.type (eS b),data:=.fields (List.toArray [.ref T,.int 0 0]) } }):wpAny (model prog w) A (pyIter$ .ref T) Q E s:=by
 cases b
 ·exact Ma h q
 ·exact Me h q
structure vk(z u v c d a b:Addr):Prop where
 uz:u≠z
 vz:v≠z
 cz:c≠z
 dz:d≠z
 uv:u≠v
 uc:u≠c
 ud:u≠d
 vc:v≠c
 vd:v≠d
 cd:c≠d
 az:a≠z
 av:a≠v
 ac:a≠c
 ad:a≠d
 bz:b≠z
 bv:b≠v
 bc:b≠c
 bd:b≠d
theorem yf{Q:Option Value->Shared->Prop}(D:vk z u v c d a b)
  (H:IsZip s.heap z u v .none) (hu:IsPair s.heap u (.ref c) (.ref d)) (hv:IsPair s.heap v p q) (h1:gm B s.heap c a k) (h2:gm C s.heap d b k) (g1:il B s.heap a xs) (g2:il C s.heap b ys) (hx:xs[k]?=some x) (hy:ys[k]?=some y)
  (hQ:∀h,IsZip h z u v (rawInt s.heap.objs.size)->IsPair h v x y->gm B h c a (k+1)->gm C h d b (k+1)->IsPair h s.heap.objs.size x y->h.objs.size=s.heap.objs.size+1->
   (∀e o,e≠z->e≠v->e≠c->e≠d->s.heap.get? e=some o->h.get? e=some o)->Q (some$ .ref s.heap.objs.size) { s with heap:=h }):wpAny (model prog w) A (pyNext$ .ref z) Q E s:=by
 have W:s.TypeIs (.ref z) "zip":=#[_,H,Z];unfold pyNext;refine GZ$ Lr$ HX (name:=Str.ofString "__next__") W IG$ HU IG W LY (show wpAny _ _ (field (.ref z) 2 >>= _) _ _ _ from ?_)$ LP _;refine GZ$ HJ H Z (x:=.bool false) Z (show wpAny _ _ (field (.ref z) 3 >>= _) _ _ _ from GZ$ HJ H Z (x:=.ref u) Z$ GZ$ Iu hu Z ?_);refine(show wpAny _ _ (Builtin.SmallTypes.ownedTupleIsFree (.ref z) >>= _) _ _ _ from GZ ?_);unfold Builtin.SmallTypes.ownedTupleIsFree;refine GZ$ HJ H Z (x:=.none) Z$ Hc ?_;simp only[Ms];refine GZ$ Lj$ GZ$ HJ H Z (x:=.ref v) Z$ GZ$ Lz H Si λX F S=>?_;replace F:IsZip X z u v .ellipsis:=F;refine GZ ?_;simp only[Ph,Pw,IZ,LF];refine GZ$ GZ$ NC (show wpAny _ _ (Builtin.SmallTypes.nextOf (.ref c) >>= _) _ _ _ from ?_);refine GZ$ zT (s:={ s with heap:=X }) (h1.kp λo e=>S.extBut _ _ D.cz e) (g1.kp λo e=>S.extBut _ _ D.az e) hx λG i2 l=>Hc ?_;have Y:IsPair G v p q:=l.extBut _ _ D.vc (S.extBut _ _ D.vz hv);refine GZ$ Iu (s:={ s with heap:=G }) Y Z$ GZ$ Pm (s:={ s with heap:=G }) Y λI J r=>?_;replace J:IsPair I v x q:=J;refine GZ$ Po$ Hc$ GZ$ GZ$ NC (show wpAny _ _ (Builtin.SmallTypes.nextOf (.ref d) >>= _) _ _ _ from ?_);have K:∀e o,e≠z->e≠c->e≠v->s.heap.get? e=some o->I.get? e=some o:=λe o N f g w=>r.extBut _ _ g (l.extBut _ _ f$ S.extBut _ _ N w);refine GZ$ zT (s:={ s with heap:=I }) (h2.kp λo e=>K _ _ D.dz D.cd.symm D.vd.symm e) (g2.kp λo e=>K _ _ D.bz D.bc D.bv e) hy λL i4 i=>Hc ?_;have v4:IsPair L v x q:=i.extBut _ _ D.vd J;refine GZ$ Iu (s:={ s with heap:=L }) v4 Z$ GZ$ Pm (s:={ s with heap:=L }) v4 λm V j=>?_;replace V:IsPair m v x y:=V;refine GZ$ Po$ Hc$ Hc$ GZ$ Iu (s:={ s with heap:=m }) V Z$ GZ$ Mf ?_;have e5:m.objs.size=s.heap.objs.size:=by rw[j.1,i.1,r.1,l.1,S.1]
 have k5:∀e o,e≠z->e≠v->e≠c->e≠d->s.heap.get? e=some o->m.get? e=some o:=λe o N f g O w=>j.extBut _ _ f (i.extBut _ _ O$ K e o N g f w);have z5:IsZip m z u v .ellipsis:=j.extBut _ _ D.vz.symm (i.extBut _ _ D.dz.symm$ r.extBut _ _ D.vz.symm$ l.extBut _ _ D.cz.symm F);have j1:gm B m c a (k+1):=i2.kp λo e=>j.extBut _ _ D.vc.symm (i.extBut _ _ D.cd$ r.extBut _ _ D.vc.symm e);have j2:gm C m d b (k+1):=i4.kp λo e=>j.extBut _ _ D.vd.symm e;have lz:z < m.objs.size:=Hi z5;refine(show wpAny _ _ (Builtin.SmallTypes.ownedTupleHandOut (.ref z) (.ref m.objs.size) >>= _) _ _ _ from GZ ?_);unfold Builtin.SmallTypes.ownedTupleHandOut;have z6:IsZip (m.push { cls:=.type "tuple",data:=.seq (List.toArray [x,y]) }) z u v .ellipsis:=Hd _ z5;refine GZ$ Lz z6 Si λm7 P R=>?_;replace P:IsZip m7 z u v (rawInt m.objs.size):=P;refine Lz P Si λM t T=>?_;replace t:IsZip M z u v (rawInt m.objs.size):=t;have U:∀e o,e≠z->m.get? e=some o->M.get? e=some o:=λe o n w=>T.extBut _ _ n (R.extBut _ _ n$ Hd _ w);have t8:IsPair M m.objs.size x y:=T.extBut _ _ (Il lz) (R.extBut _ _ (Il lz)$ Hj _ Z);have e8:M.objs.size=m.objs.size+1:=by rw[T.1,R.1,Ij]
 rw[e5]at t t8 e8;refine Hc #[_,Z,Hc ?_];show Q (some$ .ref m.objs.size) _;rw[e5];exact hQ M t (U _ _ D.vz V) (j1.kp λo e=>U _ o D.cz e) (j2.kp λo e=>U _ o D.dz e) t8 e8 λe o N f g O w=>U e o N (k5 e o N f g O w)
theorem CM{b2:Bool}{ys:Array Value}{p q:Value}{Q:Option Value->Shared->Prop}(C:A.handled=none)(D:vk z u v c d a b)
  (h:IsZip s.heap z u v .none) (F:IsPair s.heap u (.ref c) (.ref d)) (G:gm I s.heap c a k) (J:il I s.heap a L) (K:L[k]?=none)
  (O:∀H,(∀e o,e≠z->e≠v->e≠c->e≠d->s.heap.get? e=some o->H.get? e=some o)->Q none { s with heap:=H }):wpAny (model prog w) A (pyNext$ .ref z) Q E s:=by
 have g:s.TypeIs (.ref z) "zip":=#[_,h,Z];unfold pyNext;refine GZ$ Lr$ HX (name:=Str.ofString "__next__") g IG$ HU IG g LY (show wpAny _ _ (field (.ref z) 2 >>= _) _ _ _ from ?_)$ LP _;refine GZ$ HJ h Z (x:=.bool false) Z (show wpAny _ _ (field (.ref z) 3 >>= _) _ _ _ from GZ$ HJ h Z (x:=.ref u) Z$ GZ$ Iu F Z ?_);refine(show wpAny _ _ (Builtin.SmallTypes.ownedTupleIsFree (.ref z) >>= _) _ _ _ from GZ ?_);unfold Builtin.SmallTypes.ownedTupleIsFree;refine GZ$ HJ h Z (x:=.none) Z$ Hc ?_;simp only[Ms];refine GZ$ Lj$ GZ$ HJ h Z (x:=.ref v) Z$ GZ$ Lz h Si λm f S=>?_;replace f:IsZip m z u v .ellipsis:=f;refine GZ ?_;simp only[Ph,Pw,IZ,LF];refine GZ$ GZ$ NC (show wpAny _ _ (Builtin.SmallTypes.nextOf (.ref c) >>= _) _ _ _ from ?_);refine GZ$ Qy (s:={ s with heap:=m }) (by simpa using C) (G.kp λo e=>S.extBut _ _ D.cz e) (J.kp λo e=>S.extBut _ _ D.az e) K λM e i j=>?_;have l:IsZip M z u v .ellipsis:=i _ _ D.cz.symm f;refine Lz (s:={ s with heap:=M }) l Si λn U r=>?_;have t:Shared.TypeIs { s with heap:=n } e "StopIteration":=by
  cases e with
  |ref x=>
   obtain⟨o,y,B⟩:=j;have P:x≠z:=λw=>by subst w;have:=y.symm.trans l;cases this;injection B with w;exact absurd w Se
   exact#[o,r.extBut _ _ P y,B]
  |_=>exact j
 exact GZ$ Lu (T:="StopIteration") (b:=true) t Nq$ Hc$ O n λe o N V R W w=>r.extBut _ _ N (i _ _ R$ S.extBut _ _ N w)
theorem CN{b1 b2:Bool}{xs ys:Array Value}{Q:Value->Shared->Prop}(J:il b1 s.heap a xs)(L:il b2 s.heap b ys)
  (h:∀H,IsZip H (s.heap.objs.size+4) (s.heap.objs.size+2) (s.heap.objs.size+3) .none->IsPair H (s.heap.objs.size+2) (.ref s.heap.objs.size) (.ref$ s.heap.objs.size+1)->
   IsPair H (s.heap.objs.size+3) .none .none->gm b1 H s.heap.objs.size a 0->gm b2 H (s.heap.objs.size+1) b 0->(∀e o,s.heap.get? e=some o->H.get? e=some o)->Q (.ref$ s.heap.objs.size+4) { s with heap:=H }):
  wpAny (model prog w) A (call (.type "zip") [.ref a,.ref b]) Q E s:=by
 refine O6 (S:=λ_ R c=>c=s/\R (.ok$ .ret$ .ref$ s.heap.objs.size+4) { s with heap:=((((s.heap.push { cls:=.type (eS b1),data:=.fields (List.toArray [.ref a,.int 0 0]) }).push { cls:=.type (eS b2),data:=.fields (List.toArray [.ref b,.int 0 0]) }).push { cls:=.type "tuple",data:=.seq (List.toArray [.ref s.heap.objs.size,.ref$ s.heap.objs.size+1]) }).push { cls:=.type "tuple",data:=.seq (List.toArray [.none,.none]) }).push { cls:=.type "zip",data:=.fields (List.toArray [.none,.bool false,.bool false,.ref$ s.heap.objs.size+2,.ref$ s.heap.objs.size+3]) } })
  PySem.F.called_zip Se (PySem.F.typeCall_zip_2 _ _) (PySem.F.newCall_zip_2 _ _) (λO=>PySem.F.args_object_init_3 O _ _) PySem.F.entry_zip_new (.of_wp λp w' A' R c P=>?_) #[Z,?_]
 ·obtain⟨rfl,q⟩:=P;obtain⟨r,g,D,t,os⟩:=c;have u:=sub_zip;have T:il b1 (Shared.heap #[r,g,D,t,os]) a xs:=J;have _L:il b2 (Shared.heap #[r.push { cls:=.type (eS b1),data:=.fields (List.toArray [.ref a,.int 0 0]) },g,D,t,os]) b ys:=L.kp λo e=>Hd _ e;wp_walk using yE T,yE _L;refine#[_,Z,?_];simp only[Ij]at q ⊢;exact q
 ·have z (h:Heap) (o:Obj):(h.push o).objs.size=h.objs.size+1:=Ij ..;generalize d:s.heap.push { cls:=.type (eS b1),data:=.fields (List.toArray [.ref a,.int 0 0]) }=M;generalize f:M.push { cls:=.type (eS b2),data:=.fields (List.toArray [.ref b,.int 0 0]) }=i;generalize j:i.push { cls:=.type "tuple",data:=.seq (List.toArray [.ref s.heap.objs.size,.ref$ s.heap.objs.size+1]) }=k;generalize l:k.push { cls:=.type "tuple",data:=.seq (List.toArray [.none,.none]) }=n;generalize v:n.push { cls:=.type "zip",data:=.fields (List.toArray [.none,.bool false,.bool false,.ref$ s.heap.objs.size+2,.ref$ s.heap.objs.size+3]) }=m;have N:M.objs.size=s.heap.objs.size+1:=by rw[<- d,z]
  have x:i.objs.size=s.heap.objs.size+2:=by rw[<- f,z,N]
  have y:k.objs.size=s.heap.objs.size+3:=by rw[<- j,z,x]
  have U:n.objs.size=s.heap.objs.size+4:=by rw[<- l,z,y]
  have K:∀e o,n.get? e=some o->m.get? e=some o:=λe o w=>by rw[<- v];exact Hd _ w
  have B:∀e o,k.get? e=some o->m.get? e=some o:=λe o w=>K e o (by rw[<- l];exact Hd _ w);have C:∀e o,i.get? e=some o->m.get? e=some o:=λe o w=>B e o (by rw[<- j];exact Hd _ w);have G:∀e o,M.get? e=some o->m.get? e=some o:=λe o w=>C e o (by rw[<- f];exact Hd _ w);have V:∀e o,s.heap.get? e=some o->m.get? e=some o:=λe o w=>G e o (by rw[<- d];exact Hd _ w);have I:IsZip m (s.heap.objs.size+4) (s.heap.objs.size+2) (s.heap.objs.size+3) .none:=by rw[<- U,<- v];exact Hj _ Z
  have W:IsPair m (s.heap.objs.size+3) .none .none:=K _ _ (by rw[<- y,<- l];exact Hj _ Z);have X:IsPair m (s.heap.objs.size+2) (.ref s.heap.objs.size) (.ref$ s.heap.objs.size+1):=B _ _ (by rw[<- x,<- j];exact Hj _ Z);have Y:m.get? (s.heap.objs.size+1)=some { cls:=.type (eS b2),data:=.fields (List.toArray [.ref b,.int 0 0]) }:=C _ _ (by rw[<- N,<- f];exact Hj _ Z);have q1:m.get? s.heap.objs.size=some { cls:=.type (eS b1),data:=.fields (List.toArray [.ref a,.int 0 0]) }:=G _ _ (by rw[<- d];exact Hj _ Z);refine#[#[_,I,Z],h m I X W ?_ ?_ V]
  ·cases b1<;>exact#[_,q1,Z,Z]
  ·cases b2<;>exact#[_,Y,Z,Z]
end
theorem yg(n a b:Nat)(h:a < n)(H:b < n):vk (n+4) (n+2) (n+3) n (n+1) a b:=by refine#[?_,?_,?_,?_,?_,?_,?_,?_,?_,?_,?_,?_,?_,?_,?_,?_,?_,?_]<;>(show(_:Nat)≠_;omega)
section
variable {prog:Program}{w:World}{A:Around}{E:Value->Shared->Prop}
theorem yp(h:l≠J):∀(n i:Nat) (s:Shared) (Q:List Value->Shared->Prop),s.heap.IsListIter J l i->s.heap.IsList l I->i+n<=I.size->
  (∀a,a.IsListIter J l (i+n)->Heap.SameBut J s.heap a->Q ((I.toList.drop i).take n) { s with heap:=a })->wpAny (model prog w) A (draw (.ref J) n) Q E s
 |0,i,s,Q,b,_,_,q=>show wpAny _ _ (pure []) Q E s from Hc (by simpa using q s.heap b (Ob ..))
 |n+1,i,s,Q,b,c,d,q=>by
  have H:i < I.size:=by omega
  refine(show wpAny _ _ (pyNext (.ref J) >>= _) Q E s from GZ$ OZ b c (x:=I[i]) (by simp [H]) λm j S=>?_);refine GZ$ Hs$ yp h n (i+1) _ _ j (c.extBut S.extBut h) Sf λf g k=>Hc ?_;have e:=q f (by rw[show i+(n+1)=i+1+n by omega];exact g) (S.trans k);rwa [show I.toList.drop i=I[i]::I.toList.drop (i+1) by simp [List.drop_eq_getElem_cons,H],List.take_succ_cons]at e
theorem ya{s:Shared}{Q:List Value->Shared->Prop}(f:A.handled=none)(h:s.heap.IsList l i)(a:i.size=n)
  (q:∀c,Heap.ExtBut s.heap.objs.size s.heap c->Q i.toList { s with heap:=c }):wpAny (model prog w) A (unpackItems (.ref l) n none) Q E s:=by
 have H:l≠s.heap.objs.size:=by obtain⟨o,g,_⟩:=h;exact Hm$ Hi g
 unfold unpackItems;refine GZ ?_;unfold notIterableAtAll;refine GZ$ La h.typeIs slot_list_iter.lookup ?_;refine Hc ?_;simp only[Hn,IB];refine GZ$ Hs$ Me h ?_;have I:(s.heap.push { cls:=.type "list_iterator",data:=.fields (List.toArray [.ref l,.int 0 0]) }).IsListIter s.heap.objs.size l 0:=#[_,Hj _ Z,Z,Z];refine GZ$ Hs$ yp H n 0 _ _ I (h.push _) Sf λj J S=>?_;have k:(i.toList.drop 0).take n=i.toList:=by rw[PR,J' (by simp [a])]
 rw[k,HG (by simp [a])];have L:j.IsList l i:=(h.push _).extBut S.extBut H;refine GZ$ Hs$ Pe f J L (by simp [a]) λm p=>?_;simp only[Option.isSome_none,Hn,IB];exact Hc$ q m λb o d e=>p b o d (S.extBut b o d$ Hd _ e)
end
section
variable {X:Cx}{pos:Pos}
inductive Fm(K:Frag)(n:Nat)(t:vj)(v:V)(c:St)(H:Hp)(Q:St->Hp->Prop):Prop
 |mk(a b:_)(_:v= .ref a)(_:aB K H a b)(_:b.length=n)(_:t b c H Q)
theorem Y7{E:List Expr}{k n:Nat}{t:vj}(g:X.calm=true)(h:CS X E t)
  (i:(assignEach E X.env).length=n:=by rfl) (c:(assignEach E X.env).findIdx? (·.1)=none:=by rfl):PG X (.Tuple E k pos) (Fm X.K n t):=by
 intro P s f H v u Q I r d;obtain⟨a,x,j,l,m,d⟩:=d;subst j;cases r;obtain⟨q,R,p,A⟩:=I.list l;rw[assign_Tuple];refine GZ$ LC ?_;unfold unpack;rw[i,c];refine GZ$ Hs$ ya (I.ok.hd g) p.isList (by simp [<- m,R.length]) λw y=>?_;have z:ap X P f H { s with heap:=w }:=I.kept (t':=s.toks) λb o e=>y b o (Hm$ Hi e) e;exact h P _ f H x _ Q z (by simpa using R) d
inductive um(K:Frag)(i j k:Nat)(D:aU)(f:St)(x:V)(b:Hp):Prop
 |mk(a c d e:_)(_:x= .ref a)(_:ax K b a [c,d,e])(_:D.nx (((f.set k (some e)).set j (some d)).set i (some c)) b)
def yV(K:Frag)(t:TE)(i j k:Nat):TS:=λD a H=>t a H (um K i j k D a)
theorem wP{t e:Expr}{T:TE}{x y z:Str}{i j k:Nat}(n:X.calm=true)(c:X.N.Nodup)(w:X.N[i]?=some x)(A:X.N[j]?=some y)(B:X.N[k]?=some z)(L:pj X.env.scope x)(C:pj X.env.scope y)(E:pj X.env.scope z)(F:PE X e T)
  (G:X.fn x=true∨X.env.scope.names.lookup x=some .local:=by first |exact .inl Z |exact .inr Z) (J:X.fn y=true∨X.env.scope.names.lookup y=some .local:=by first |exact .inl Z |exact .inr Z) (M:X.fn z=true∨X.env.scope.names.lookup z=some .local:=by first |exact .inl Z |exact .inr Z)
  (O:swapsWithSole [t] e pos.line X.env=pure false:=by rfl) (P:swappedStores [t] e X.env=pure (some [x,y,z]):=by rfl):PS X (.Assign [t] e pos) (yV X.K T i j k):=by
 intro p s f H D I h;rw[exec_Assign_arm];refine GZ$ LC ?_;rw[O];refine GZ$ Hc ?_;rw[HG Se];refine GZ$ aJ (F p s f H _ I h) λv S d=>?_;obtain⟨xv,g,l,R,a,v1,v2,v3,Q,V,q⟩:=d;rw[P];refine GZ$ Hc ?_;subst Q;cases R;obtain⟨W,r,Y,hz⟩:=l.tuple V;cases r with
 |cons q1 r=>
  cases r with
  |cons q2 r=>
   cases r with
   |cons q3 r=>
    cases r
    rename_i u U m
    unfold assignStores;refine GZ$ Lj$ GZ$ wpAny_unpackItems_tuple (items:=(List.toArray [u,U,m])) (I.ok.hd n) Y λh' hx=>?_;have I2:ap X p f g { S with heap:=h' }:=l.kept (t':=S.toks) λb o e=>hx b o (Hm$ Hi e) e;refine GZ ?_;show wpAny _ _ (assignInOrder [λv=>bindName X.env z v,λv=>bindName X.env y v,λv=>bindName X.env x v] [m,U,u]) _ _ _;refine GZ$ Hs$ OC$ kP I2 c B E q3 (λs2 I3=>?_) M;refine GZ$ Hs$ OC$ kP I3 c A C q2 (λs3 I4=>?_) J;refine GZ$ Hs$ OC$ kP I4 c w L q1 (λs4 I5=>?_) G;exact Hc$ Hc #[_,g,I5,q]
end
theorem vH(l b:Addr)(I i:Array Value)(n N:Nat)(D:Option Addr)(S:Array (Option Value))(e:¬(!I.isEmpty&&Builtin.List.listTooLong (I.size+i.size))=true)(W:I.size<=sizeLine)(a:I.size+i.size<=sizeLine+1):
  Meets (Builtin.«list.extend» #[[.ref l,.ref b],[]]) (λ_ R s=>s.heap.get? l=some { cls:=.type "list",dict:=none,data:=.seq I n,slots:=(List.toArray []) }/\s.heap.get? b=some #[.type "tuple",D,.seq i N,S]/\R (.ok$ .ret Value.none) { s with heap:=s.heap.update l (Obj.mapSeq λx=>x++i),toks:=s.toks }):=by
 refine Rg λp w A R s h=>?_;obtain⟨f,g,d,t,os⟩:=s;obtain⟨H,c,h⟩:=h;have F:=AutoSeq1.idx_int;have j:=AutoSeq1.sub_tuple_tuple;have k:=AutoSeq1.sub_list_list;have m:=AutoSeq1.sub_tuple_list;have o:=AutoSeq1.sub_list_tuple;have hz:(I++i).size<=sizeLine+1:=by rw[Nv];exact a
 wp_walk using (Nh H Z (hz:=W) (_hz':=hz)),IS H,IS c;exact#[_,Z,h]
section
variable {X:Cx}
inductive gO(K:Frag)(x:V)(a:List V)(H:Hp)(Q:VK):Prop
 |mk(l b c d:_)(_:x= .ref l)(_:a=[.ref b])(_:H l=some (.lst c))(_:ax K H b d)(_:c.length+d.length<=sizeLine)(_:Q .non (af H l (.lst (c++d))))
theorem Yv:C3 X "list.extend" (gO X.K):=by
 intro p s A H x V v U Q I g j h;obtain⟨l,b,B,C,rfl,rfl,f,k,D,q⟩:=h;cases g;obtain⟨u,rfl,m⟩:=j.one;cases m;obtain⟨z,a,n,r,E,e⟩:=I.lstM f;obtain⟨i,R,P,F⟩:=I.tuple k;have o:=R.length;have d:a.toArray.size+i.toArray.size<=sizeLine:=by rw[Hh,Hh];omega
 have c:¬(!a.toArray.isEmpty&&Builtin.List.listTooLong (a.toArray.size+i.toArray.size))=true:=by rw[eW d,Nb];exact Hl
 obtain⟨⟨G,O,J,S⟩,t,w,N,y⟩:=P;cases w;cases y;refine Nf Pz #[_,e,Z] Pl (Pa _ _) (vH l b a.toArray i.toArray n N O S c (by rw[Hh];omega) Sf) #[e,t,?_];refine#[.non,_,I.lset (its':=a++i) f e Si (r.append R) (by rw[Hf];omega),Z,q]
end
section
variable {prog:Program}{w:World}{A:Around}{E:Value->Shared->Prop}{s:Shared}
theorem Je{R:Result->Shared->Prop}{P:Nat->Value->Prop}{St:Nat->Shared->Prop}
  (W:WalksS prog w A.in1 I N j G n P St) (S:Addr) (H:¬S∈N) (c:List Str) (O:c.length=n) (Q:∀i v,P i v->∃x t,c[i]?=some x/\v= .str x t) (d:∀L:List Str,L.Nodup->(∀x∈L,x∈c)->L.length+1 < scanBound):
  ∀(k i:Nat) (s:Shared) (L:List Str),n - i=k->i<=n->St i s->cg prog w s.heap S L->(∀x,x∈L↔x∈c.take i)->L.length<=i->
   (∀a l,Moved (S::j) G s a->cg prog w a.heap S l->(∀x,x∈l↔x∈c)->l.length<=n->R (.ok$ .ret .none) a)->
   codeAny (model prog w) A (.builtin "set.update.loop" #[[.ref S,.ref I],[]]) R s:=by
 have f:¬S∈j:=λz=>H (W.sub _ z);have sub:∀b∈j,b∈S::j:=λb z=>HQ _ z;intro k;induction k with
 |zero=>
  intro i s L T U st p q F r;have e:i=n:=by omega
  subst e;refine IJ My ?_;rw[Ir Lv];show wpAny _ A.in1 (pyNext (.ref I) >>= _) _ _ s;refine GZ$ W.done s _ _ st λa m=>?_;show wpAny _ A.in1 (ret Value.none) _ _ a;refine Hc$ r a L (m.mono sub) (p.at λo e=>m.heap S o f e) (λx=>?_) F;rw[q x,<- O,Im]
 |succ k V=>
  intro i s L T U st p q F r;have J:i < n:=by omega
  refine IJ My ?_;rw[Ir Lv];show wpAny _ A.in1 (pyNext (.ref I) >>= _) _ _ s;refine GZ$ W.item i s _ _ J st λv a X u m=>?_;obtain⟨x,t,B,rfl⟩:=Q i v X;show wpAny _ A.in1 (holding [Value.str x t] (setAdd S$ .str x t) >>= _) _ _ a;refine GZ$ Hs ?_;have h:L.Nodup:=by obtain⟨_,_,_,_,_,_,_,_,_,h,_⟩:=p;exact h
  refine XQ (p.at λo e=>m.heap S o f e) (d L h λx B=>Ii ((q x).mp B)) λb h' Y K S2 g=>?_;refine Hc #[Ls Lv _,V (i+1) _ _ Sf J (W.frame _ a _ _ u g λb d o e=>?_) S2 (λy=>?_) ?_ λC l M D q1 q2=>?_]
  ·rw[K.2 b (λz:b=S=>H (by rw[<- z];exact d))];exact e
  ·have tk:c.take (i+1)=c.take i++[x]:=by rw[LD,B];rfl
   rw[tk,LV,Nn,<- q y];split
   ·rename_i hm
    exact#[.inl,λz=>z.elim id λe=>e▸hm]
   ·rw[LV,Nn]
  ·split
   ·omega
   ·rw[Hf,Lx];omega
  ·refine r C l (Moved.trans W.gtrans ((m.mono sub).then_heap g λb o d e=>?_) M) D q1 q2;rw[K.2 b (λz:b=S=>d (by rw[z];exact HI))];exact e
end
section
variable {prog:Program}{w:World}{A:Around}{E:Value->Shared->Prop}{s:Shared}
set_option maxHeartbeats 3200000 in
theorem JN{Q:Value->Shared->Prop}
  (hh:A.handled=none) (hl:s.heap.IsList l I) (hi:StrsAre I.toList n) (C:∀L:List Str,L.Nodup->(∀x∈L,x∈n)->L.length+1 < scanBound)
  (h:∀(a:Heap) (t:Nat) L,cg prog w a s.heap.objs.size L->(∀x,x∈L↔x∈n)->L.length<=I.size->
   (∀b o,b < s.heap.objs.size->s.heap.get? b=some o->a.get? b=some o)->s.toks<=t->Q (.ref s.heap.objs.size) { s with heap:=a,toks:=t }):
  wpAny (model prog w) A (call (.type "set") [.ref l]) Q E s:=by
 obtain⟨c,tl,m1⟩:=PySem.F.called_set.mro;have m0:=PySem.F.called_set.made;have sb:=PySem.F.called_set.sub;refine Nc$ Om ?_;show wpAny _ _ (callAny (.type "set") _) _ _ _;refine Hc #[Code.quiet_builtin _ Sj,IJ PySem.F.entry_type_call ?_];rw[Around.under_plain (weight_type_call_type "set" [.ref l] []) Z];have n1:=PySem.F.called_set.notType;have n2:=PySem.F.called_set.canCreate;have ct:=PySem.F.typeCall_set_1 (.ref l);repeat (any_goals (first |assumption |wp_step))
 refine LA (KW (.ref l) (E:=E) (G:=λv S=>v= .ref s.heap.objs.size/\S={ s with heap:=s.heap.push (be w) }) #[Z,Z]) λr S D=>?_;cases r with
 |error e=>exact D
 |ok fl=>
  cases fl with
  |ret o2=>
   obtain⟨rfl,rfl⟩:=D;have J:(s.heap.push$ be w).get? s.heap.objs.size=some (be w):=Hj _ Z;have hT:Shared.TypeIs { s with heap:=s.heap.push (be w) } (.ref s.heap.objs.size) "set":=#[_,J,Z];have li:=PySem.F.called_set.init.lookup;have bi:=PySem.F.called_set.init.bind (.ref s.heap.objs.size);repeat (any_goals (first |assumption |wp_step))
   refine LA (Pr (R:=wants (λr d=>r= .none/\∃a t L,d={ s with heap:=a,toks:=t }/\cg prog w a s.heap.objs.size L/\(∀x,x∈L↔x∈n)/\L.length<=I.size/\
     (∀b o,b < s.heap.objs.size->s.heap.get? b=some o->a.get? b=some o)/\s.toks<=t) E) PySem.F.called_set.init.plain PySem.F.entry_set_init (check_set_init_1 hT ?_)) λp d H=>?_
   ·obtain⟨ol,q,u,nl,y⟩:=hl;obtain⟨o1,g,K,O⟩:=ol;simp only at u y;subst u;subst y;have f:(s.heap.push$ be w).get? l=some { cls:=.type "list",dict:=g,data:=.seq I nl,slots:=O }:=Hd _ q;have ns:=PySem.F.sub_list_set;have nf:=PySem.F.sub_list_frozenset;have ne:(Value.type "list"==Value.type "dict")=false:=by decide
    have j:(s.heap.push$ be w).IsList l I:=#[_,f,Z,nl,Z];unfold be at J hT f j ⊢;unfold Builtin.«set.__init__» noKeywords Builtin.Frozenset.updateFrom;generalize M:pyIter=PI;wp_walk;subst M;refine Me j ?_;refine GZ$ OA ?_;have z:l < s.heap.objs.size:=Hi q;have h3:A.in1.in1.in1.handled=none:=by simp [hh]
    have N:l≠(s.heap.push$ be w).objs.size:=by rw[Ij];exact Hm$ Lo z
    have P:¬s.heap.objs.size∈[(s.heap.push$ be w).objs.size,l]:=by rw[Ij];simp only[IW,HK,Mp,not_or];exact#[Hm$ IF _,Il z]
    have B:n.length=I.size:=by rw[_L.StrsAre.len hi,HF]
    refine Je ((Ro h3 _ l N I).toS) s.heap.objs.size P n B (λi v hv=>StrsAre.at' hi i v (by rw[IR];exact hv)) C (I.size - 0) 0 _ [] Sf (Ho _)
     #[#[_,Hj _ Z,Z,Z],j.push _] (XS$ Hd _ J) (λx=>by simp) (Hg _) λs' L m T U V=>?_
    obtain⟨a,g',d',W,X⟩:=s';have eg:g'=s.gens:=m.gens;have ed:d'=s.drawn:=m.drawn;have eo:X=s.os:=m.os;subst eg;subst ed;subst eo;show wpAny _ _ _ _ _ _;refine Hc ?_;show wpAny _ _ (ret Value.none) _ _ _;refine Hc #[Z,a,W,L,Z,T,U,V,λb o C e=>?_,m.toks];have b1:b≠s.heap.objs.size:=Hm C;have b2:b≠(s.heap.push$ be w).objs.size:=by rw[Ij];exact Hm$ Lo C
    exact m.heap b o (by simp only[IW,HK,Mp,not_or];exact#[b1,b2])$ Hd _$ Hd _ e
   ·cases p with
    |error e=>exact H
    |ok k=>
     cases k with
     |ret r=>
      obtain⟨rfl,a,t,L,rfl,T,U,V,Y,q3⟩:=H;repeat (any_goals (first |assumption |wp_step))
      exact h _ _ _ T U V Y q3
     |_=>exact H.elim
  |_=>exact D.elim
end
section
variable {X:Cx}
theorem qG(m:X.calm=true):b8 X (.type "set") (λg H Q=>∃(p:Addr) (S:List Str),g=[.ref p]/\aB X.K H p (S.map V.str)/\(∀L:List Str,L.Nodup->(∀x∈L,x∈S)->L.length+1 < scanBound)/\
  ∀l L,H l=none->L.Nodup->(∀x,x∈L↔x∈S)->Q (.ref l) (af H l$ EJ X.prog X.w l L)):=by
 intro P s B H g U Q I r h;obtain⟨p,S,rfl,n,t,q⟩:=h;obtain⟨u,rfl,R⟩:=dU r;cases R;obtain⟨i,v,y,C⟩:=I.list n;have j:=zS v;have D:i.length=S.length:=(_L.StrsAre.len j).symm;refine JN (I.ok.hd m) y.isList (by simpa using j) t λc T L d z E k _=>?_;have a:L.Nodup:=by obtain⟨_,_,_,_,_,_,_,_,_,a,_⟩:=d;exact a
 have A:∀b o,s.heap.get? b=some o->c.get? b=some o:=λb o e=>k b o (Hi e) e;obtain⟨o,f⟩:∃o,c.get? s.heap.objs.size=some o:=let #[o,_,_,_,f,_]:=d;#[o,f]
 exact#[.ref s.heap.objs.size,_,I.laid A (Hg _) (show aF X.prog X.w _ c _ (EJ X.prog X.w s.heap.objs.size L) from #[d,#[o,f],λF G x e=>cg.at x e]),Z,q _ _ (I.hok.fresh$ Hg _) a z]
end
section
variable {X:Cx}{CX:mY}{k:Nat}{f C:Addr}{fd:FuncData}{ps:List Str}{sp:Sp}{dvs:List V}{ds:List Value}{E:XK}{x m:Str}{p pos apos:Pos}{e:Expr}{es:List Expr}{t:TA}
structure y6(K:Frag)(C:Addr)(m:Str)(f:Addr):Prop where
 rd:PySem.W.readsIn K C (.type "type")=true
 ga:specialIn K (.ref C) "__getattribute__"=some (some$ .builtin "type.__getattribute__")
 at_:PySem.W.findCls K (.ref C) (.type "type") m=some (.val$ .ref f)
 kp:keepIn K (.ref f)=true
theorem wL{pl:Sem Bool}(j:Gl X x)(l:X.mg x=some (.ref C))(M:y6 X.K C m f)(F:ah X.prog X.w X.K X.mg X.base CX k f fd ps sp)(n:bn k X.A)(q:ay X.K fd ps ds)(u:au dvs ds)(v:dh CX X E)(y:PA X (e::es) t)
  (a:(x==("__debug__":Str))=false:=by decide)
  (c:starEach (e::es) X.env=(false,eval e X.env)::starEach es X.env:=by rfl) (d:(backTo pos$ starEach es X.env).any (·.1)=false:=by rfl)
  (z:eval (.Call (.Attribute (.Name x p) m apos) (e::es) [] pos) X.env=(do
   let O <- eval (.Name x p) X.env
   standAt apos.atName
   let (f,first) <- holding [O] (getMethod O m pl)
   callWith pos f first (backTo pos$ starEach (e::es) X.env) (backToKw pos$ keywordEach [] X.env)):=by rfl):
  PE X (.Call (.Attribute (.Name x p) m apos) (e::es) [] pos) (dC sp dvs E t):=by
 intro P s g H Q I h;refine ML (pl:=pl) (kX I j l ?_ a) z;refine PySem.W.method_cls I.kIn M.ga$ PySem.W.cls_value I.kIn M.rd M.at_ Z ?_;have B:ap X P g H { s with toks:=s.toks+1 }:=I.kept (h':=s.heap) λb o e=>e;refine NG (h₀:=X.base) I.ok.mod.kin M.kp (aJ (y pos P _ g H _ B h) λU S #[G,J,i,r,D]=>#[i.kIn,?_]) c d;exact QI F n q u v i r D
end
abbrev eF(h:Heap)(z u v T:Addr)(f:Bool):Prop:=
 h.get? z=some { cls:=.type "zip",dict:=none,data:=.fields (List.toArray [rawInt T,.bool f,.bool false,.ref u,.ref v]),slots:=(List.toArray []) }
section
variable {prog:Program}{w:World}{A:Around}{E:Value->Shared->Prop}{s:Shared}
theorem Z1{Q:Option Obj->Shared->Prop}(h:Q (s.heap.get? a) s):wpAny M A (loadIfAlive a) Q E s:=λ_ _ _=>h
theorem Dh{Q:Bool->Shared->Prop}(H:eF s.heap z u v T f)(a:∃o,s.heap.get? T=some o)
  (q:∀h,eF h z u v T true->Heap.ExtBut z s.heap h->h.objs.size=s.heap.objs.size->Q false { s with heap:=h }):wpAny (model prog w) A (Builtin.SmallTypes.ownedTupleIsFree$ .ref z) Q E s:=by
 unfold Builtin.SmallTypes.ownedTupleIsFree;refine GZ$ HJ H Z (x:=rawInt T) Z ?_;show wpAny _ _ (loadIfAlive ((T:Int).toNat) >>= _) _ _ s;refine GZ$ Z1 ?_;obtain⟨o,c⟩:=a;rw[Iq,c];simp only[OJ,Hn,IB];refine GZ$ HJ H Z (x:=.bool f) Z ?_;cases f with
 |true=>simp only[IK,Hn,IB];exact GZ$ Hc$ Hc$ q s.heap H (λb o _ e=>e) Z
 |false=>rw[HD Se];refine GZ$ Lz H Si λh d S=>Hc (q h d S.extBut S.1)
theorem ye{Q:Option Value->Shared->Prop}(D:vk z u v c d a b)
  (g:eF s.heap z u v T f) (p:∃o,s.heap.get? T=some o) (q:IsPair s.heap u (.ref c) (.ref d)) (r:gm B s.heap c a k) (t:gm l s.heap d b k) (G:il B s.heap a C) (F:il l s.heap b Y) (I:C[k]?=some x) (J:Y[k]?=some y)
  (L:∀h,eF h z u v T true->gm B h c a (k+1)->gm l h d b (k+1)->IsPair h s.heap.objs.size x y->h.objs.size=s.heap.objs.size+1->
   (∀e o,e≠z->e≠c->e≠d->s.heap.get? e=some o->h.get? e=some o)->Q (some$ .ref s.heap.objs.size) { s with heap:=h }):wpAny (model prog w) A (pyNext$ .ref z) Q E s:=by
 have H:s.TypeIs (.ref z) "zip":=#[_,g,Z];unfold pyNext;refine GZ$ Lr$ HX (name:=Str.ofString "__next__") H IG$ HU IG H LY (show wpAny _ _ (field (.ref z) 2 >>= _) _ _ _ from ?_)$ LP _;refine GZ$ HJ g Z (x:=.bool false) Z (show wpAny _ _ (field (.ref z) 3 >>= _) _ _ _ from GZ$ HJ g Z (x:=.ref u) Z$ GZ$ Iu q Z ?_);refine(show wpAny _ _ (Builtin.SmallTypes.ownedTupleIsFree (.ref z) >>= _) _ _ _ from GZ$ Dh g p λO P i n=>?_);simp only[Hn,IB];refine GZ ?_;simp only[OV,IZ,LF];refine GZ$ GZ$ Hs (show wpAny _ _ (Builtin.SmallTypes.nextOf (.ref c) >>= _) _ _ _ from ?_);refine GZ$ zT (s:={ s with heap:=O }) (r.kp λo e=>i _ _ D.cz e) (G.kp λo e=>i _ _ D.az e) I λM R j=>Hc (Hc ?_);refine GZ$ GZ$ Hs (show wpAny _ _ (Builtin.SmallTypes.nextOf (.ref d) >>= _) _ _ _ from ?_);have K:∀e o,e≠z->e≠c->s.heap.get? e=some o->M.get? e=some o:=λe o n U w=>j.extBut _ _ U (i _ _ n w);refine GZ$ zT (s:={ s with heap:=M }) (t.kp λo e=>K _ _ D.dz D.cd.symm e) (F.kp λo e=>K _ _ D.bz D.bc e) J λm V S=>Hc (Hc$ Hc ?_);show wpAny _ _ (newTuple [x,y] >>= _) _ _ _;refine GZ$ Mf$ Hc #[_,Z,Hc ?_];have N:m.objs.size=s.heap.objs.size:=by rw[S.1,j.1];exact n
 have W:eF m z u v T true:=S.extBut _ _ D.dz.symm (j.extBut _ _ D.cz.symm P);show Q (some$ .ref m.objs.size) _;rw[N];refine L _ (Hd _ W) (R.kp λo e=>Hd _ (S.extBut _ _ D.cd e)) (V.kp λo e=>Hd _ e) (by rw[<- N];exact Hj _ Z) (by rw[Ij,N]) λe o X a2 a3 w=>Hd _ (S.extBut _ _ a3$ K _ _ X a2 w)
theorem CJ{b2:Bool}{ys:Array Value}{Q:Option Value->Shared->Prop}(j:A.handled=none)(D:vk z u v c d a b)
  (H:eF s.heap z u v T f) (l:∃o,s.heap.get? T=some o) (m:IsPair s.heap u (.ref c) (.ref d)) (p:gm B s.heap c a k) (G:il B s.heap a q) (r:q[k]?=none)
  (t:∀i,(∀e o,e≠z->e≠c->e≠d->s.heap.get? e=some o->i.get? e=some o)->Q none { s with heap:=i }):wpAny (model prog w) A (pyNext$ .ref z) Q E s:=by
 have h:s.TypeIs (.ref z) "zip":=#[_,H,Z];unfold pyNext;refine GZ$ Lr$ HX (name:=Str.ofString "__next__") h IG$ HU IG h LY (show wpAny _ _ (field (.ref z) 2 >>= _) _ _ _ from ?_)$ LP _;refine GZ$ HJ H Z (x:=.bool false) Z (show wpAny _ _ (field (.ref z) 3 >>= _) _ _ _ from GZ$ HJ H Z (x:=.ref u) Z$ GZ$ Iu m Z ?_);refine(show wpAny _ _ (Builtin.SmallTypes.ownedTupleIsFree (.ref z) >>= _) _ _ _ from GZ$ Dh H l λM F g n=>?_);simp only[Hn,IB];refine GZ ?_;simp only[OV,IZ,LF];refine GZ$ GZ$ Hs (show wpAny _ _ (Builtin.SmallTypes.nextOf (.ref c) >>= _) _ _ _ from ?_);refine GZ$ Qy (s:={ s with heap:=M }) (by simpa using j) (p.kp λo e=>g _ _ D.cz e) (G.kp λo e=>g _ _ D.az e) r λy e S C=>?_;exact GZ$ Lu (T:="StopIteration") (b:=true) C Nq$ Hc$ t y λe o n N I w=>S _ _ N (g _ _ n w)
end
theorem Jv:typeLookup (.type "zip") "__getattr__"=pure none:=by rw[II,Ie];kernel_rfl
theorem XV:typeLookup (.type "zip") "keys"=pure none:=by rw[II,Ie];kernel_rfl
theorem Xf:entryFor table "zip.__getattribute__"=some Builtin.«object.__getattribute__»:=
 Nr (id':="object.__getattribute__") (by kernel_rfl) Sj Sj (by kernel_rfl)
theorem KN(a:Addr)(x:Array Value)(S:Array (Option Value))(u:Tok):
  Meets (Builtin.«object.__getattribute__» #[[.ref a,.str "keys" u],[]]) (λA R s=>s.heap.get? a=some { cls:=.type "zip",dict:=none,data:=.fields x,slots:=S }/\raisesAttr (.ref a) "keys" A R s):=
 Rg λp w A R s H=>by
  obtain⟨c,g,d,t,os⟩:=s;obtain⟨e,H⟩:=H;have f:(#[c,g,d,t,os]:Shared).TypeIs (.ref a) "zip":=#[_,e,Z];have b:=XV;have h:(["__module__","__name__","__qualname__","__doc__","__annotations__"]:List Str).contains "keys"=false:=by decide+kernel
  unfold Builtin.«object.__getattribute__»;repeat (any_goals (first |assumption |wp_step))
  try simp only[h,Hn,IB]
  repeat (any_goals (first |assumption |wp_step))
  exact wpAny_raiseAttrError H.1 H.2$ attrMsg_fits Sj (by size_fits)
section
variable {prog:Program}{w:World}{A:Around}{E:Value->Shared->Prop}{s:Shared}
theorem vZ{Q:Option Value->Shared->Prop}(f:s.heap.get? a=some { cls:=.type "zip",dict:=none,data:=.fields x,slots:=j })(k:A.handled=none)
  (h:∀c T,(∀b o,s.heap.get? b=some o->c.get? b=some o)->Q none { s with heap:=c,toks:=T }):wpAny (model prog w) A (getAttr? (.ref a) "keys") Q E s:=by
 obtain⟨l,g,d,T,os⟩:=s;have i:∀t,(#[l,g,d,t,os]:Shared).TypeIs (.ref a) "zip":=λ_=>#[_,f,Z];have m:=sub_AttributeError;have n:=PySem.F.slot_zip_getattribute.lookup;have p:=PySem.F.slot_zip_getattribute.bind (.ref a);have q:=Jv;unfold getAttr? getAttrBy? getAttrBy;repeat (any_goals (first |assumption |exact i _ | ((with_reducible show wpAny _ _ (call (Value.builtin "zip.__getattribute__") _ _) _ _ _);refine Nf PySem.F.slot_zip_getattribute (i _) Xf (PySem.F.args_zip_getattribute_2 _ _) (KN a x j _) #[f,by simpa using k,λc t e H=>?_]) |wp_step))
 obtain⟨r,u,v⟩:=H.there;show wpAny _ _ (getattributeRaised _ _ _ _ _ _ _) _ _ _;unfold getattributeRaised;repeat (any_goals (first |assumption |wp_step))
 exact h _ _ H.keeps
def Ae(h:Heap)(z u v c d a b Dd:Addr)(x y:Array Value)(i:Nat):Prop:=
 ((IsZip h z u v .none/\∃p q,IsPair h v p q)∨∃T f o,eF h z u v T f/\h.get? T=some o/\T≠z/\T≠c/\T≠d/\T≠Dd)/\IsPair h u (.ref c) (.ref d)/\gm false h c a i/\gm false h d b i/\il false h a x/\il false h b y
theorem yh{Dd:Addr}{Q:Option Value->Shared->Prop}(D:vk z u v c d a b)(l:Dd < s.heap.objs.size)(S:Ae s.heap z u v c d a b Dd J Y k)(L:J[k]?=some x)(M:Y[k]?=some y)
  (N:∀h,Ae h z u v c d a b Dd J Y (k+1)->IsPair h s.heap.objs.size x y->h.objs.size=s.heap.objs.size+1->(∀e o,e≠z->e≠v->e≠c->e≠d->s.heap.get? e=some o->h.get? e=some o)->Q (some$ .ref s.heap.objs.size) { s with heap:=h }):wpAny (model prog w) A (pyNext$ .ref z) Q E s:=by
 obtain⟨H,g,j,m,G,i⟩:=S;obtain⟨oc,n,_⟩:=j.ob;obtain⟨od,r,_⟩:=m.ob;rcases H with ⟨H,p,q,U⟩ | ⟨T,f,o,H,O,t,P,R,V⟩
 ·refine yf D H g U j m G i L M λh B v1 I C t F K=>N h #[.inr #[s.heap.objs.size,false,_,B,t,Il$ Hi H,Il$ Hi n,Il$ Hi r,Il l],K _ _ D.uz D.uv D.uc D.ud g,I,C,G.kp λo e=>K _ _ D.az D.av D.ac D.ad e,i.kp λo e=>K _ _ D.bz D.bv D.bc D.bd e] t F K
 ·refine ye D H #[o,O] g j m G i L M λh B I C W F K=>N h #[.inr #[T,true,o,B,K _ _ t P R O,t,P,R,V],K _ _ D.uz D.uc D.ud g,I,C,G.kp λo e=>K _ _ D.az D.ac D.ad e,i.kp λo e=>K _ _ D.bz D.bc D.bd e] W F λe o X n2 n3 n4 w=>K e o X n3 n4 w
theorem CO{Dd:Addr}{Q:Option Value->Shared->Prop}(g:A.handled=none)(D:vk z u v c d a b)(n:Ae s.heap z u v c d a b Dd x ys k)(i:x[k]?=none)
  (j:∀H,(∀e o,e≠z->e≠v->e≠c->e≠d->s.heap.get? e=some o->H.get? e=some o)->Q none { s with heap:=H }):wpAny (model prog w) A (pyNext$ .ref z) Q E s:=by
 obtain⟨h,l,m,B,G,C⟩:=n;rcases h with ⟨h,p,q,F⟩ | ⟨T,f,o,h,r,I,J,L,M⟩
 ·exact CM (b2:=false) (p:=p) (q:=q) (ys:=ys) g D h l m G i j
 ·exact CJ (b2:=false) (ys:=ys) g D h #[o,r] l m G i λH K=>j H λe o N O t y w=>K e o N t y w
structure ES(D z u v c d a b:Addr):Prop where
 z:D≠z
 u:D≠u
 v:D≠v
 c:D≠c
 d:D≠d
 a:D≠a
 b:D≠b
theorem Ae.keep{h j:Heap}{Dd:Addr}(F:ES Dd z u v c d a b)(k:∀e o,e≠Dd->h.get? e=some o->j.get? e=some o)(st:Ae h z u v c d a b Dd x y i):Ae j z u v c d a b Dd x y i:=by
 obtain⟨H,l,m,n,G,r⟩:=st;refine#[?_,k _ _ F.u.symm l,m.kp λo e=>k _ _ F.c.symm e,n.kp λo e=>k _ _ F.d.symm e,G.kp λo e=>k _ _ F.a.symm e,r.kp λo e=>k _ _ F.b.symm e];rcases H with ⟨H,p,q,B⟩ | ⟨T,f,o,H,g,C,D,I,t⟩
 ·exact .inl #[k _ _ F.z.symm H,p,q,k _ _ F.v.symm B]
 ·exact .inr #[T,f,o,k _ _ F.z.symm H,k _ _ t g,C,D,I,t]
theorem KO{K:Type}[DecidableEq K]{knd:KeyKind prog w K}{R:Result->Shared->Prop}{Dd:Addr}{x:Array Value}(X:A.handled=none)(D:vk z u v c d a b)(F:ES Dd z u v c d a b)(m:List (K×Value))(Y:m.length=x.size)(h0:x.size<=sizeLine)
  (hP:∀(i:Nat),i < x.size->∃f V k,x[i]?=some f/\ys[i]?=some V/\knd.is k f=true/\m[i]?=some (k,V)):
  ∀(j i:Nat) (s:Shared) (n:Int),x.size - i=j->i<=x.size->Ae s.heap z u v c d a b Dd x ys i->s.heap.DictOf knd Dd (merged []$ m.take i)->
   (∀h T,(∀e o,e≠Dd->e≠z->e≠v->e≠c->e≠d->s.heap.get? e=some o->h.get? e=some o)->h.DictOf knd Dd (merged [] m)->R (.ok$ .ret .none) { s with heap:=h,toks:=T })->
   codeAny (model prog w) A (.builtin "dict.update.loop" #[[.ref Dd,.ref z,.int n 0,.none],[]]) R s:=by
 intro j;induction j with
 |zero=>
  intro i s n hj hi st q C;have e:i=x.size:=by omega
  subst e;refine IJ JG ?_;rw[Ir zE];show wpAny _ A.in1 (pyNext (.ref z) >>= _) _ _ s;refine GZ$ CO (by simpa using X) D st Si λh g=>?_;show wpAny _ A.in1 (Builtin.Dict.addKeywords Dd [] >>= λ_=>ret Value.none) _ _ { s with heap:=h };refine GZ ?_;unfold Builtin.Dict.addKeywords;refine Hc$ Hc$ C h s.toks (λe o _ N t y B w=>g e o N t y B w) ?_;rw[<- Y,Im]at q;obtain⟨o,es,ep,ho,r⟩:=q;exact#[o,es,ep,g _ _ F.z F.v F.c F.d ho,r]
 |succ j ih=>
  intro i s n hj hi st q C;have M:i < x.size:=by omega
  obtain⟨f,V,k,hx,hy,O,hm⟩:=hP i M;refine IJ JG ?_;rw[Ir zE];show wpAny _ A.in1 (pyNext (.ref z) >>= _) _ _ s;obtain⟨oD,G,I,H,rD⟩:=id q;have L:Dd < s.heap.objs.size:=Hi H;refine GZ$ yh D L st hx hy λl S P N g=>?_;have hb:Shared.TypeIs { s with heap:=l } (.ref s.heap.objs.size) "tuple":=#[_,P,Z];have J:l.DictOf knd Dd (merged []$ m.take i):=#[oD,G,I,g _ _ F.z F.v F.c F.d H,rD];dsimp only;refine GZ$ Hs ?_;refine GZ$ wpAny_tryCatch ?_;unfold Builtin.Dict.pairItems;refine GZ$ Le hb ?_;rw[HD Se];refine GZ$ Iu P Z$ Hc ?_;show wpAny _ A.in1 (holding [f,V]$ dictSet Dd f V) _ _ { s with heap:=l };unfold dictSet;refine Hs$ Hs$ GZ$ knd.pyHash O ?_;have Q:(merged ([]:List (K×Value))$ m.take i).length<=i:=by have:=Rl ([]:List (K×Value)) (m.take i);rw[HL]at this;simp only[NK]at this;omega
  refine wpAny_dictSetHashed_pairs (s:={ s with heap:=l,toks:=s.toks+1 }) O J (λh p sb=>?_) Sf;rw[<- merged_take_succ [] m i (k,V) hm]at p;have U:∀e o,e≠Dd->l.get? e=some o->h.get? e=some o:=λe o ne w=>(sb.2 e ne).trans w;refine Hc #[Ls zE _,ih (i+1) _ (n+1) Sf M (S.keep F U) p λh2 T k2 d2=>C h2 T (λe o W N t y B w=>k2 e o W N t y B (U _ _ W$ g e o N t y B w)) d2]
theorem K8{K:Type}[DecidableEq K]{knd:KeyKind prog w K}{more:List (K×Value)}{Q:Value->Shared->Prop}(N:A.handled=none)(D:vk z u v c d a b)
  (j:IsZip s.heap z u v .none) (P:IsPair s.heap u (.ref c) (.ref d)) (m:∃p q,IsPair s.heap v p q) (U:gm false s.heap c a 0) (V:gm false s.heap d b 0) (W:il false s.heap a x) (X:il false s.heap b ys)
  (hn:more.length=x.size) (n:x.size<=sizeLine) (hP:∀(i:Nat),i < x.size->∃Y vu k,x[i]?=some Y/\ys[i]?=some vu/\knd.is k Y=true/\more[i]?=some (k,vu))
  (h:∀l t,l.DictOf knd s.heap.objs.size (merged [] more)->(∀e o,e≠z->e≠v->e≠c->e≠d->s.heap.get? e=some o->l.get? e=some o)->Q (.ref s.heap.objs.size) { s with heap:=l,toks:=t }):
  wpAny (model prog w) A (call (.type "dict") [.ref z]) Q E s:=by
 refine R6 (Q₁:=λO S=>O= .ref s.heap.objs.size/\S={ s with heap:=s.heap.push { cls:=.type "dict",data:=.dict (List.toArray []) } }) PySem.F.kt_called_dict (PySem.F.kt_typeCall_dict_1 _) PySem.F.entry_dict_init (kt_code_dict_new _ #[Z,Z]) ?_;rintro O S ⟨rfl,rfl⟩;have f:(s.heap.push { cls:=.type "dict",data:=.dict (List.toArray []) }).DictOf knd s.heap.objs.size []:=Ox s.heap;refine#[f.typeIs,PySem.F.args_dict_init_2 _ _,?_];unfold Builtin.«dict.__init__»;refine GZ ?_;unfold Builtin.Dict.selfAndRest;refine GZ$ wpAny_notOrdered_dict f.typeIs ?_;show wpAny _ _ (pure (s.heap.objs.size,[Value.ref z])) _ _ _;refine Hc ?_;show wpAny _ _ (Builtin.Dict.updateFrom "dict.__init__" s.heap.objs.size (.ref z) [] .none) _ _ _;unfold Builtin.Dict.updateFrom;generalize hH:s.heap.push { cls:=.type "dict",data:=.dict (List.toArray []) }=H at f ⊢;have G:∀b o,s.heap.get? b=some o->H.get? b=some o:=λb o e=>by rw[<- hH];exact Hd _ e
 refine GZ$ Le #[_,G _ _ j,Z] ?_;rw[HD Se];refine GZ$ vZ (s:={ s with heap:=H }) (G _ _ j) (by simpa using N) λM t k1=>?_;simp only[OK,Ms];refine GZ$ Lj ?_;have g:∀b o,s.heap.get? b=some o->M.get? b=some o:=λb o e=>k1 _ _ (G _ _ e);refine GZ$ wpAny_pyIter_zip (s:={ s with heap:=M,toks:=t }) (g _ _ j) ?_;obtain⟨oD,eD,y,B,rD⟩:=f;obtain⟨p,q,m⟩:=m;obtain⟨oc,C,_⟩:=U.ob;obtain⟨od,I,_⟩:=V.ob;obtain⟨oa,J,_⟩:=id W;obtain⟨ob,L,_⟩:=id X;have F:ES s.heap.objs.size z u v c d a b:=#[Il$ Hi j,Il$ Hi P,Il$ Hi m,Il$ Hi C,Il$ Hi I,Il$ Hi J,Il$ Hi L];refine Hc #[Ls zE _,LA (KO (knd:=knd) (A:=A.in1) (R:=λr s'=>r= .ok (.ret .none)/\Q (.ref s.heap.objs.size) s') (by simpa using N) D F more hn n hP x.size 0 { s with heap:=M,toks:=t } 0 Z (Ho _)
  #[.inl #[g _ _ j,p,q,g _ _ m],g _ _ P,U.kp λo e=>g _ _ e,V.kp λo e=>g _ _ e,W.kp λo e=>g _ _ e,X.kp λo e=>g _ _ e] #[oD,eD,y,k1 _ _ B,rD] λl T k2 d2=>#[Z,?_]) λr s' q=>?_]
 ·exact h l T d2 λe o n1 n2 n3 n4 w=>k2 e o (Hm$ Hi w) n1 n2 n3 n4 (g _ _ w)
 ·obtain⟨rfl,q⟩:=q;exact#[Z,q]
end
section
variable {X:Cx}{e1 e2:Expr}{ta:TA}{p p2 pos pos2:Pos}
inductive Er(K:Frag)(Q:VK)(e:List V)(c:Hp):Prop
 |mk(a b:Addr)(d:List bj)(f:List V)(_:e=[.ref a,.ref b])(_:ax K c a (d.map kV))(_:ax K c b f)(_:d.length=f.length)(_:∀l,c l=none->Q (.ref l) (af c l (.dK (cX [] (d.zip f)))))
def GH(K:Frag)(ta:TA):TE:=λa H Q=>ta a H (Er K Q)
theorem Y8{P:Program}{w:World}:∀{K:List bj} {U:List Value},au (K.map kV) U->∀(i:Nat) (k:bj),K[i]?=some k->∃u,U[i]?=some u/\(aS P w).is k u=true
 | [],_,_,i,k,h=>by simp at h
 |k0::K,_,.cons (b:=u) h t,0,k,e=>by
  have E:k0=k:=by simpa using e
  subst E;exact#[u,Z,Qg h]
 |k0::K,_,.cons h t,i+1,k,e=>by simpa using Y8 (P:=P) (w:=w) t i k (by simpa using e)
theorem rj:∀{K:List bj} {y:List V} {u:List Value},au y u->KV (K.zip y) (K.zip u)
 | [],_,_,_=>by simp only[List.zip_nil_left];exact .nil
 |_::_,_,_,.nil=>by simp only[List.zip_nil_right];exact .nil
 |k::K,_,_,.cons h t=>.cons #[Z,h] (rj t)
theorem Y9(m:Gl X "dict")(n:X.mg "dict"=none)(t:Gl X "zip")(v:X.mg "zip"=none)(N:X.calm=true)(O:PA X [e1,e2] ta)
  (T:starEach [e1,e2] X.env=(false,eval e1 X.env)::starEach [e2] X.env:=by rfl) (U:(backTo pos2$ starEach [e2] X.env).any (·.1)=false:=by rfl)
  (f:starEach [Expr.Call (.Name "zip" p2) [e1,e2] [] pos2] X.env=(false,eval (.Call (.Name "zip" p2) [e1,e2] [] pos2) X.env)::starEach [] X.env:=by rfl) (x:(backTo pos$ starEach [] X.env).any (·.1)=false:=by rfl):
  PE X (.Call (.Name "dict" p) [.Call (.Name "zip" p2) [e1,e2] [] pos2] [] pos) (GH X.K ta):=by
 intro P s V H Q I h;refine Iv$ zF I m n RZ ?_;refine Ig ?_ f x;rw[f];show wpAny _ _ (spliced ((false,eval _ X.env)::backTo pos (starEach [] X.env))) _ _ s;refine Lc ?_;refine Iv$ zF I t v RX ?_;refine Ig (aJ (O pos2 P s V H _ I h) λus S z=>?_) T U;obtain⟨vs,H1,d,W,Y⟩:=z;obtain⟨a,b,c,ys,e,gx,gy,hl,q⟩:=Y;subst e;cases W with
 |cons r rr=>
  cases rr with
  |cons r' y=>
   cases y;cases r;cases r';obtain⟨A,F,G,z1⟩:=d.tuple gx;obtain⟨j,R,C,z2⟩:=d.tuple gy;have l1:=F.length;have l2:=R.length;rw[He]at l1 z1;have la:a < S.heap.objs.size:=by obtain⟨o,D,_⟩:=G;exact Hi D
   have lb:b < S.heap.objs.size:=by obtain⟨o,D,_⟩:=C;exact Hi D
   refine CN (b1:=false) (b2:=false) (xs:=A.toArray) (ys:=j.toArray) G C λE J u' v' i1 i2 k=>?_;refine Ly ?_;have Dz:=yg S.heap.objs.size a b la lb;refine K8 (s:={ S with heap:=E }) (knd:=aS X.prog X.w) (more:=c.zip j) (d.ok.hd N) Dz J u' #[_,_,v'] i1 i2 (il.kp (b:=false) G λo e=>k _ _ e) (il.kp (b:=false) C λo e=>k _ _ e) (by rw[NJ,Hh];omega) (by rw[Hh];omega) (λi hi=>?_) λh2 tk dd k2=>?_
   ·rw[Hh]at hi;have L:i < c.length:=by omega
    have M:i < j.length:=by omega
    obtain⟨u,hu,ku⟩:=Y8 F i _ (G8 L);refine#[u,j[i],c[i],by simpa using hu,by simp [M],ku,?_];rw[Oa];exact#[G8 L,G8 M]
   ·have g:KV (cX []$ c.zip ys) (merged []$ c.zip j):=KV.merge (rj R) .nil;have zl:(cX []$ c.zip ys).length<=sizeLine:=by rw[g.length];have:=Rl ([]:List (bj×Value)) (c.zip j);rw[NJ]at this;simp only[NK]at this;omega
    have k3:∀e o,S.heap.get? e=some o->h2.get? e=some o:=λe o w=>by have l:=Hi w;exact k2 e o (Hm$ Hq l$ LM _ _) (Hm$ Hq l$ LM _ _) (Hm l) (Hm$ Hq l$ LM _ _)$ k _ _ w
    have B:S.heap.objs.size<=E.objs.size:=Lp (IV (LM _ 4)$ Hi J);exact#[.ref E.objs.size,_,d.laid k3 B$ pO zl (beq_eq_false_iff_ne.mpr$ HR$ Hm$ Hq d.big B) g dd,Z,q _$ d.hok.fresh B]
end
section
variable {X:Cx}{st:Stmt}{ss:List Stmt}{e:Expr}{es:List Expr}
def GG:TS:=λ_ _ _=>False
theorem sy:iE X ss GG:=λ_ _ _ _ _ _ h=>False.elim h
end
end _L
namespace _L
open PySem PySem.Spec PyProof.Rows PySem.SeqAt
inductive DZ(K:Frag)(x y:V)(H:Hp)(Q:VK):Prop
 |mk(a b d e:_)(_:x= .ref a)(_:y= .ref b)(_:ax K H a d)(_:ax K H b e)(_:(d.all ci=true/\e.all ci=true/\Q (.bl (mw d e)) H)∨∃(w:Str) (c:Addr) (zs:List V) (u:Str) (i:Int),d=[.str w,.ref c]/\ax K H c zs/\e=[.str u,.int i]/\Q (.bl false) H)
theorem Bu{X:Cx}(d:X.A.units+1 < cLine):eG X (compareOp .Eq) (DZ X.K):=by
 intro p s m H x y v U Q I f g h;obtain⟨a,b,n,Y,rfl,rfl,k,l,h | ⟨w,c,M,u,i,rfl,o,rfl,q⟩⟩:=h
 ·exact se (Nz d) p s m H _ _ v U Q I f g #[a,b,n,Y,Z,Z,k,l,h]
 cases f;cases g;obtain⟨N,r,P,_⟩:=I.tuple k;obtain⟨O,R,t,_⟩:=I.tuple l;obtain⟨S,V,z,_⟩:=I.tuple o;cases r with
 |cons B r=>
  cases r with
  |cons C r=>
   cases r;cases R with
   |cons D R=>
    cases R with
    |cons E R=>
     cases R;obtain⟨T,rfl⟩:=B;cases C;obtain⟨F,rfl⟩:=D;obtain⟨G,rfl⟩:=E;refine eq_tupleAt (e:=λj=>if j=0 then w==u else false) (show s.heap.IsTuple a _ from P) (show s.heap.IsTuple b _ from t) (Nz d) (λj J L=>?_) ?_
     ·match j,J,L with
      |0,_,_=>exact Oy w T u F
      |1,_,_=>exact PY i G (show s.heap.IsTuple c _ from z) (by simpa [Around.in1,Around.units] using d)
     ·have e:((List.range$ min 2 2).all (λj=>if j=0 then w==u else false)&&(2:Nat)==2)=false:=by show((if 0=0 then w==u else false)&&((if 1=0 then w==u else false)&&true)&&true)=false;simp
      exact#[.bl false,H,I,IC Value.bool e,q]
end _L
namespace _L
open PySem PySem.Spec PyProof.Rows
theorem Xt:∀{C:List Addr} {u:List Value},au (C.map V.ref) u->u=C.map Value.ref
 | [],_,h=>by rw[Ot]at h;cases h;rfl
 |c::r,_,h=>by
  rw[Ix]at h;cases h with
  |cons H a=>rw[show _=Value.ref c from H,Xt a];rfl
theorem K9{X:Cx}:b8 X (.builtin "isinstance") (λx H Q=>∃(a C:Addr) (f:List (Str×V)) (t:Addr) (c:List Addr) (b:Bool),x=[.ref a,.ref t]/\H t=some (.tup$ c.map V.ref)/\lB H a C f/\gw X.K C/\kitAny X.K (.ref C) (c.map Value.ref)=some b/\Q (.bl b) H):=by intro p s B H x U Q I r h;obtain⟨a,C,f,t,c,b,rfl,d,E,g,e,q⟩:=h;obtain⟨u,w,rfl,R,j⟩:=uL r;cases (show u=Value.ref a from R);cases (show w=Value.ref t from j);obtain⟨_,k,l,i⟩:=I.hok t _ d;rw[Xt l]at i;obtain⟨o,O,J,_⟩:=Qu I E;obtain⟨⟨m,F,D,S⟩,v,y,n,A⟩:=i;cases (show m=_ from y);cases (show D=_ from A);exact PySem.W.kia_tup (Xo g) I.kIn #[o,O,J] v e (λz=>nomatch z) λT=>#[.bl b,H,I.tok T,Z,q]
section
open PySem.W
theorem Z2{K:Frag}(X:K.In h)(a:h.get? x=some o)(b:o.cls= .ref C)(H:clsIn K B≠none)(tB:typeIn K (.ref B)=some (.type "type"))(m:mroIn K B (.type "BaseException")=some true)(c:mroIn K C (.ref B)=some false):
  Looks M h (excMatches (.ref x)$ .ref B) false:=by
 have L:Looks M h (typeOf$ .ref x) (.ref C):=b▸(Pu a).andThen .now;have l:=O2 (M:=M) X tB;have _L:Looks M h (isInstance (.ref B)$ .type "tuple") false:=l.andThen (N9 tc_notTuple);have d:Looks M h (isType$ .ref B) true:=by
  unfold clsIn at H;split at H
  ·rename_i e
   intro A Q E s k q;unfold isType loadHead;exact GZ$ ME (k _ _$ X _ _ e)$ Hc q
  ·exact absurd Z H
 have f:Looks M h (isExcClass$ .ref B) true:=by unfold isExcClass;exact d.andThen (by rw[HD Z];exact MU X m)
 have g:=MU (M:=M) X c;intro A Q E s k q;unfold excMatches;refine GZ$ _L A _ E s k ?_;rw[HG Se];refine GZ$ Hc ?_;dsimp only;refine GZ ?_;rw[IZ];refine GZ$ GZ$ f A _ E s k ?_;simp only[LQ,Hn,IB];refine Hc ?_;dsimp only;rw[LF];refine Hc ?_;refine GZ$ L A _ E s k ?_;refine GZ ?_;rw[IZ];refine GZ$ GZ$ g A _ E s k ?_;simp only[Hn,IB];refine Hc ?_;dsimp only;rw[LF];refine Hc ?_;exact Hc q
end
def yY(K:Frag)(A B:Addr)(t:Dc)(b c:TS):TS:=λD a H=>t D (λx C d _ h=>(mroIn K C (.ref A)=some true/\∀T,h T=none->b D a (af (af h T$ dH T) x$ dW C d T x))∨(mroIn K C (.ref A)=some false/\mroIn K C (.ref B)=some true/\∀T,h T=none->c D a (af (af h T$ dH T) x$ dW C d T x))) a H
section
variable {X:Cx}{st a₀ b₀:Stmt}{as bs:List Stmt}{tb:Dc}{ta tc:TS}{ca cb:Str}{np np' hp hp' pos:Pos}{A B:Addr}
theorem wQ(b:X.stack=X.env::X.outer)(M:X.env.frame=some X.env.locals)(hb:EF X st tb)(hg:Gl X ca)(hm:X.mg ca=some (.ref A))(hA:clsIn X.K A≠none)(tA:typeIn X.K (.ref A)=some (.type "type"))(mA:mroIn X.K A (.type "BaseException")=some true)
  (N:Gl X cb) (O:X.mg cb=some (.ref B)) (hB:clsIn X.K B≠none) (tB:typeIn X.K (.ref B)=some (.type "type")) (mB:mroIn X.K B (.type "BaseException")=some true)
  (hs:∀e,iE (X.mark e λ_ _=>False) (a₀::as) ta) (P:∀e,iE (X.mark e λ_ _=>False) (b₀::bs) tc) (l:(ca==("__debug__":Str))=false:=by decide) (R:(cb==("__debug__":Str))=false:=by decide):
  PS X (.Try [st] [.ExceptHandler (some$ .Name ca np) none (a₀::as) hp,.ExceptHandler (some$ .Name cb np') none (b₀::bs) hp'] [] [] pos) (yY X.K A B tb ta tc):=by
 intro p s U H D I h;refine Rk$ M7$ Ik (hb p s U H D _ I h) (λf g q=>?_) λe g q=>?_
 ·cases f with
  |next=>exact Lq (Lq q)
  |ret v=>exact q
  |brk=>exact q
  |cont=>exact q
 obtain⟨x,C,d,T,V,rfl,m,hx,hT,o,q⟩:=q;obtain⟨⟨ox,vs,h1,h2,h3,h4,W,h6⟩,_⟩:=m.hok x _ hx;obtain⟨⟨oT,J,t1,t2,t3⟩,_⟩:=m.hok T _ hT;have u:=(Array.getElem?_eq_some_iff.mp h6).1;have Y:X.A.frames=some (X.env::X.outer):=by rw[<- b];exact m.ok.frames
 have f0:g.heap.FunFrames X.base (X.env::X.outer):=by rw[<- b];exact m.stack
 refine Jr (base:=X.base) Y f0 M h1 W h6 o t1 t2 t3 λg2 Nd=>?_;have E:(dy T g.heap).get? x=some ox:=(Ht _ _ o).trans h1;refine vN (s:={ g with heap:=g2 }) Nd E W u λg3 N1=>?_;obtain⟨t,hn,F,i⟩:=(m.cleared hT t1 t2 t3).noted (C:=C) (d:=d) (t':=g.toks) hx E h2 h4 W u (by unfold im;rw[b];exact N1);have i:ap X p U (af (af V t$ dH t) x$ dW C d t x) { g with heap:=g3 }:=i;obtain⟨⟨o1,v0,L,k2,k3,k4,k5,k6⟩,_⟩:=i.hok x _ jc;have G:af (af V t$ dH t) x (dW C d t x) t=some (dH t):=by rw[ji F,jc]
 obtain⟨⟨o2,t0,u1,u2,u3⟩,_⟩:=i.hok t _ G;have S:∀{E':Value->Shared->Prop} {c:Stmt} {cs:List Stmt} {J:TS} {hp:Pos},(∀e,iE (X.mark e λ_ _=>False) (c::cs) J)->J D U (af (af V t$ dH t) x$ dW C d t x)->codeAny (model X.prog X.w) (X.A.mark$ some$ .ref x) (Code.handlers (.ref x) [.ExceptHandler none none (c::cs) hp] X.env) (λr a=>match r with | .ok f=>SP X p D f a | .error y=>cameBackBy (model X.prog X.w) X.A X.env E' y a) { g with heap:=g3 }:=by
  intro E' c cs J hp hz qz;refine codeAny_handlers_suite ?_;unfold setFlight;refine GZ$ HJ L k5 k6 ?_;rw[HD (show(Value.ref t != Value.none)=true from by simp)];refine Ic u1 u2 (Array.getElem?_eq_some_iff.mp u3).1 ?_;have I4:=i.cleared G u1 u2 u3;refine Ik (hz (.ref x) p _ _ _ D (I4.mark (.ref x) λ_ _=>False) qz) (λf s6 Q=>?_) λ_ _ z=>z.elim;cases f with
  |next=>obtain⟨j,H6,k,n⟩:=Q;exact#[_,_,k.unmark I.ok,n]
  |brk=>obtain⟨j,H6,k,n⟩:=Q;exact#[_,_,k.unmark I.ok,n]
  |cont=>obtain⟨j,H6,k,n⟩:=Q;exact#[_,_,k.unmark I.ok,n]
  |ret v=>obtain⟨y,j,H6,k,rv,n⟩:=Q;exact#[y,_,_,k.unmark I.ok,rv,n]
 rcases q with ⟨mC,q⟩ | ⟨mC,m0,q⟩
 ·refine Mu (Mi ?_) (by intro z;cases z);refine kX (i.mark (.ref x) λ_ _=>False) hg hm ?_ l;refine zI i.kIn L k2 hA tA mA mC _ _ _ _ (λ_ _ e=>e) ?_;exact S hs$ q t hn
 ·refine Mu (Mi ?_) (by intro z;cases z);refine kX (i.mark (.ref x) λ_ _=>False) hg hm ?_ l;refine Z2 i.kIn L k2 hA tA mA mC _ _ _ _ (λ_ _ e=>e) ?_;refine Mu (Mi ?_) (by intro z;cases z);refine kX (i.mark (.ref x) λ_ _=>False) N O ?_ R;refine zI i.kIn L k2 hB tB mB m0 _ _ _ _ (λ_ _ e=>e) ?_;exact S P$ q t hn
end
theorem XX(l:Addr)(i:Array Value)(n:Nat)(D:Option Addr)(S:Array (Option Value)):
  Meets (Builtin.«enumerate.__new__» #[[.type "enumerate",.ref l],[]]) (λ_ R s=>s.heap.get? l=some { cls:=.type "tuple",dict:=D,data:=.seq i n,slots:=S }/\
   R (.ok$ .ret$ .ref (s.heap.push { cls:=.type "tuple_iterator",data:=.fields (List.toArray [.ref l,.int 0 0]) }).objs.size)
    { s with heap:=(s.heap.push { cls:=.type "tuple_iterator",data:=.fields (List.toArray [.ref l,.int 0 0]) }).push { cls:=.type "enumerate",data:=.fields (List.toArray [.none,.bool false,.ref s.heap.objs.size,rawInt 0,.none,.none]) } }):=
 .of_wp λp w A R s h=>by
  obtain⟨e,g,d,t,os⟩:=s;obtain⟨H,h⟩:=h;have b:=sub_enumerate;have a:Heap.IsTuple (Shared.heap #[e,g,d,t,os]) l i:=#[_,H,Z,n,Z];wp_walk using IS H;refine wpAny_stack_any λst=>Hc ?_;split
  ·rename_i c _ _ _ _ _
   cases (c==Value.type "enumerate")
   ·wp_walk using IS H,Ma a;exact#[_,Z,h]
   ·wp_walk using IS H,Ma a;exact#[_,Z,h]
  ·wp_walk using IS H,Ma a;exact#[_,Z,h]
section
variable {prog:Program}{w:World}{A:Around}{E:Value->Shared->Prop}{s:Shared}
theorem Yw{Q:Value->Shared->Prop}(j:s.heap.IsTuple l i)
  (h:∀H,IsEnum H (s.heap.objs.size+1) s.heap.objs.size 0 .none->H.IsTupleIter s.heap.objs.size l 0->(∀b o,s.heap.get? b=some o->H.get? b=some o)->Q (.ref$ s.heap.objs.size+1) { s with heap:=H }):
  wpAny (model prog w) A (call (.type "enumerate") [.ref l]) Q E s:=by
 obtain⟨⟨c,d,D,S⟩,k,a,n,e⟩:=j;replace a:c= .type "tuple":=a;replace e:D= .seq i n:=e;subst a e;refine O6 PySem.F.called_enumerate Se (PySem.F.typeCall_enumerate_1 _) (PySem.F.newCall_enumerate_1 _) (λO=>Mm O _) PySem.F.entry_enumerate_new (XX l i n d S) #[k,?_];have f:(s.heap.push { cls:=.type "tuple_iterator",data:=.fields (List.toArray [.ref l,.int 0 0]) }).objs.size=s.heap.objs.size+1:=Ij ..;show _/\_;rw[f];have g:IsEnum ((s.heap.push { cls:=.type "tuple_iterator",data:=.fields (List.toArray [.ref l,.int 0 0]) }).push { cls:=.type "enumerate",data:=.fields (List.toArray [.none,.bool false,.ref s.heap.objs.size,rawInt 0,.none,.none]) }) (s.heap.objs.size+1) s.heap.objs.size 0 .none:=by have:=Hj (s.heap.push { cls:=.type "tuple_iterator",data:=.fields (List.toArray [.ref l,.int 0 0]) }) (o:={ cls:=.type "enumerate",data:=.fields (List.toArray [.none,.bool false,.ref s.heap.objs.size,rawInt 0,.none,.none]) }) Z;rw[f]at this;exact this
 exact#[#[_,g,Z],h _ g #[_,Hd _$ Hj _ Z,Z,Z] λb o x=>Hd _ (Hd _ x)]
theorem uR{c:Type}{Q:c->Shared->Prop}(d:A.handled=none)
  (h:∀H (e:Addr),(∀b o,s.heap.get? b=some o->H.get? b=some o)->Shared.TypeIs { s with heap:=H } (.ref e) "StopIteration"->E (.ref e) { s with heap:=H }):
  wpAny (model prog w) A (do raiseNew (<- newExc (.type "StopIteration") []):Sem c) Q E s:=by
 refine GZ ?_;simp only[newExc,newTuple];refine GZ$ HY ?_ (by size_fits);refine GZ (m:=firstArgMember _ _)$ MS (a:=Value.none) ?_ ?_
 ·first |rfl | (simp only[firstArgMember];rfl)
 refine HY ?_ (by size_fits);simp only[raiseNew];refine GZ$ wpAny_handled ?_;rw[d];refine GZ$ Hc$ wpAny_throw$ h _ _ (λb o e=>Hd _ (Hd _ e)) ?_;exact#[_,Hj _ Z,Z]
theorem KD{J T:Addr}{i:Nat}{I:Array Value}{Q:Value->Shared->Prop}(g:A.handled=none)(H:s.heap.IsTupleIter J T i)(j:s.heap.IsTuple T I)(l:I[i]?=none)
  (q:∀h (e:Addr),Heap.ExtBut J s.heap h->Shared.TypeIs { s with heap:=h } (.ref e) "StopIteration"->E (.ref e) { s with heap:=h }):wpAny (model prog w) A (Builtin.SmallTypes.nextOf$ .ref J) Q E s:=by
 obtain⟨o,a,p,c⟩:=id H;obtain⟨O,d,_,N,f⟩:=j;unfold Builtin.SmallTypes.nextOf;refine GZ$ HX (name:=Str.ofString "__next__") H.typeIs Iz$ HU Iz H.typeIs LU (show wpAny _ _ (field (.ref J) 0 >>= _) _ _ s from ?_)$ LN _;refine GZ$ HJ a c (x:=.ref T) Z (show wpAny _ _ (if (Value.ref T==Value.none)=true then _ else _) _ _ s from ?_);rw[HG (show ¬((Value.ref T==Value.none)=true) from Hl)];refine(show wpAny _ _ (field (.ref J) 1 >>= _) _ _ s from GZ$ HJ a c (x:=.int i 0) Z (show wpAny _ _ (seqItems? (.ref T) >>= _) _ _ s from GZ$ Iu d f ?_));simp only[Iq,l];refine GZ$ Lj$ GZ$ Ic a c Si ?_;refine uR (by simpa using g) λh e k t=>q h e (λb o m n=>k b o ?_) t;exact(Ht _ _$ HR m).trans n
theorem Z3(m:A.handled=none)(a l:Addr)(d:l≠a)(I:Array Value):
  Draws prog w A a [a,l] I.size (λi v=>I[i]?=some v) (λi h=>h.IsTupleIter a l i/\h.IsTuple l I) where
 live:=λ_ _ st=>let #[o,H,_]:=st.1;#[o,H]
 frame:=λ_ _ _ st g=>#[st.1.at λo e=>g a Si o e,let #[o,H,r]:=st.2;#[o,g l Si o H,r]]
 item:=λi s Q E j st n=>KC st.1 st.2 (x:=I[i]) (by simp [j]) λf b c=>n _ f s.toks (by simp [j]) #[b,let #[o,H,r]:=st.2;#[o,c.extBut l o d H,r]] c
 done:=λs Q E st p=>KD m st.1 st.2 Si λf e k t=>p f e k t
theorem Yx(c:A.handled=none)(a l:Addr)(I:Array Value)(i:Nat)(d:I[i]?=none):
  Draws prog w A a [a,l] i (λ_ _=>True) (λj h=>j=i/\h.IsTupleIter a l i/\h.IsTuple l I) where
 live:=λ_ _ st=>let #[o,H,_]:=st.2.1;#[o,H]
 frame:=λ_ _ _ st b=>#[st.1,st.2.1.at λo e=>b a Si o e,let #[o,H,r]:=st.2.2;#[o,b l Si o H,r]]
 item:=λj s Q E f st n=>absurd st.1 (Hm f)
 done:=λs Q E st g=>KD c st.2.1 st.2.2 d λm e k t=>g m e k t
end
noncomputable def y8(K:Frag)(a:Addr):It:=
 #[λi H=>∃X x,ax K H a X/\X[i]?=some x,λi H x h=>∃p v,x= .ref p/\H p=none/\h=af H p (.tup [.int i,v])/\∀X,ax K H a X->X[i]?=some v,λi H=>∃X,ax K H a X/\X.length<=i]
theorem Yy{P:Program}{K:Frag}(a e g:Addr)(r:e≠g):ms P w K (.Tuple e0 kx tp) (y8 K a) [e,g] e (λi h=>(∃O,IsEnum h e g i O)/\h.IsTupleIter g a i) where
 mem:=by simp
 obj:=λi h st b hb=>by
  obtain⟨⟨O,j⟩,⟨o,ei,c,d⟩⟩:=st;rcases List.mem_cons.mp hb with rfl |hb
  ·exact#[_,j,λv z=>by cases (show Data.fields _=Data.cell v from z)]
  ·have q:b=g:=by simpa using hb
   subst q;exact#[o,ei,λv z=>by rw[d]at z;cases z]
 keep:=λi h A st k=>#[let #[O,j]:=st.1;#[O,k e Si _ j],st.2.at λo q=>k g Si o q]
 item:=by
  intro X Q S T U i f s J H E I L st W;subst Q S T;obtain⟨⟨O,j⟩,l⟩:=st;obtain⟨xs,x,M,N⟩:=W;obtain⟨m,R,p,hz⟩:=I.tuple M;obtain⟨u,hu,ru⟩:=R.get N;have Y:e < s.heap.objs.size:=Hi j;have l0:g < s.heap.objs.size:=by obtain⟨_,q,_⟩:=l;exact Hi q
  have h0:a≠g:=λz=>by rw[z]at p;obtain⟨o1,e1,c1,_⟩:=l;obtain⟨o2,B,c2,_⟩:=p;rw[e1]at B;cases B;exact absurd (c1.symm.trans c2) Se
  have h1:e∉[g,a]:=λz=>by
   rcases List.mem_cons.mp z with z |z
   ·exact r z
   ·rw[List.mem_singleton.mp z]at j;obtain⟨o2,B,c2,_⟩:=p;unfold IsEnum at j;rw[j]at B;cases B;exact absurd (show Value.type "enumerate"=Value.type "tuple" from c2) Se
  refine wpAny_pyNext_enum_itemD (Z3 (by simpa using I.ok.hd U) g a h0 m.toArray) j #[l,p] (by have:=R.length;have:=(List.getElem?_eq_some_iff.mp N).1;simp;omega) r h1 λx' A t C ho y hT h4 hk=>#[_,Z,?_];have D:=y.1;have ex:u=x':=by
   have h2:m.toArray[i]?=some u:=by simpa using hu
   rw[h2]at C;exact HV C
  subst ex;have hn:H s.heap.objs.size=none:=I.hok.fresh (Hg _);have I1:ap X f J H { s with heap:=A,toks:=t+1 }:=I.turnedN L λb o hb q=>hk b o (λz=>hb (by simp [z])) (λz=>hb (by simp [z])) q;have r2:au [V.int i,x] [Value.int i t,u]:=.cons #[_,Z] (.cons ru .nil);have I2:ap X f J (af H s.heap.objs.size$ .tup [.int i,x]) { s with heap:=A,toks:=t+1 }:=
   I1.track (I.fpOk (Hg _) hn) I.sz #[by show 2<=sizeLine;decide,_,r2,_,hT,Z,_,Z]
  have F:∀b∈[e,g],eP X f (af H s.heap.objs.size$ .tup [.int i,x]) b:=λb hb=>by
   obtain⟨f0,f1⟩:=L b hb;refine#[?_,f1];rw[ji]
   ·exact f0
   ·rcases List.mem_cons.mp hb with rfl |hb
    ·exact Hm Y
    ·have q:b=g:=by simpa using hb
     subst q;exact Hm l0
  refine wpAny_letOwnedTupleGo_enum (s:={ s with heap:=A,toks:=t+1 }) ho λG h3 n=>?_;replace n:Heap.SameBut e A G:=n;have I3:ap X f J (af H s.heap.objs.size$ .tup [.int i,x]) { s with heap:=G,toks:=t+1 }:=I2.turnedN F λb o hb q=>(n.2 b λz=>hb (by simp [z])).trans q;refine#[.ref s.heap.objs.size,_,I3,Z,#[_,x,Z,hn,Z,λys hy=>by rw[I.tuple_inj hy M];exact N],#[#[u,by simpa using h3],D.at λo q=>(n.2 g r.symm).trans q],λb hb=>(F b hb).1]
 done:=by intro X Q S T U i f s J H E I L st W;subst Q S T;obtain⟨⟨O,j⟩,l⟩:=st;obtain⟨xs,M,N⟩:=W;obtain⟨m,R,p,hz⟩:=I.tuple M;have hl:=R.length;refine wpAny_pyNext_enum_endD (Yx (by simpa using I.ok.hd U) g a m.toArray i (by simp;omega)) j #[Z,l,p] λA eb=>#[Z,?_];exact I.turnedN (t':=s.toks) L λb o hb q=>eb b o (λz=>hb (by simp [z])) q
 self:=λ_ _ _ _ _ st h=>by obtain⟨⟨O,j⟩,_⟩:=st;exact P9 j h
section
variable {X:Cx}{elts:List Expr}{kx:Nat}{tp:Pos}
inductive nh(K:Frag)(R:It->Hp->Prop)(c:List V)(b:Hp):Prop
 |mk(a:_)(_:c=[.ref a])(_:∃xs,ax K b a xs)(_:R (y8 K a) b)
def AC(K:Frag)(t:TA):TI:=λa H R=>t a H (nh K R)
theorem Xu(g:Gl X "enumerate")(j:X.mg "enumerate"=none)(k:PA X [a] t)(m:starEach [a] X.env=[(false,eval a X.env)]:=by rfl):PI X (.Tuple elts kx tp) (.Call (.Name "enumerate" p) [a] [] c) (AC X.K t):=by
 intro P s n H R I h;refine Call_$ zF I g j RY$ Ig (aJ (k c P s n H _ I h) λU S z=>?_) m Z;obtain⟨V,o,i,u,Q⟩:=z;obtain⟨l,e,⟨A,v⟩,q⟩:=Q;subst e;cases u with
 |cons r w=>
  cases w;cases r;obtain⟨x,B,p,C⟩:=i.tuple v;refine Yw p λD f d y=>?_;refine P9 f ?_;refine#[S.heap.objs.size+1,[S.heap.objs.size+1,S.heap.objs.size],_,_,o,Z,i.kept (t':=S.toks) y,Yy l _ _$ Il$ IF _,#[#[_,f],d],λb hb=>?_,q];rcases List.mem_cons.mp hb with rfl |hb
  ·exact i.fpOk (IL _)$ i.hok.fresh$ IL _
  ·have e:b=S.heap.objs.size:=by simpa using hb
   subst e;exact i.fpOk (Hg _)$ i.hok.fresh$ Hg _
end
theorem KE{K:Frag}{xs:List V}{g:TG}{t:TS}{D:aU}(Pv:Nat->St->Hp->Prop)(j:Pv 0 b H)(k:∀i b H,i<=xs.length->Pv i b H->ax K H a xs)
  (l:∀E:aU,E.rt=D.rt->∀i x p b H,xs[i]?=some x->H p=none->(∀c e,Pv (i+1) c e->E.nx c e)->∀G:Prop,((g (.ref p) b (af H p$ .tup [.int i,x]) λf n=>t E f n)->G)->Pv i b H->G) (o:∀b H,Pv xs.length b H->D.nx b H):on (y8 K a) g t D b H:=by
 refine#[λi m b H=>m=xs.length - i/\i<=xs.length/\Pv i b H,#[xs.length,Si,Ho _,j],?_];rintro i m b H ⟨rfl,s,p⟩;have q:=k i b H s p;by_cases d:i < xs.length
 ·refine .inr #[#[xs,xs[i],q,G8 d],Pv$ i+1,λc e P=>#[xs.length - (i+1),Sf,Z,d,P],λx e y=>?_];obtain⟨r,v,rfl,u,rfl,w⟩:=y;exact l { D with nx:=Pv (i+1),ct:=Pv (i+1),bk:=D.nx } Z i v r b H (w xs q) u (λ_ _ h=>h) _ (λz=>z) p
 ·exact .inl #[#[xs,q,Sf],o _ _ (by rw[show xs.length=i by omega];exact p)]
abbrev Gv(K:Frag)(i j:Nat):TG:=ot K 2 (de (bf i)$ de (bf j) pY)
theorem DF{t:St}(h:t.length=2):∃a b,t=[a,b]:=by
 cases t with
 |nil=>cases h
 |cons a r=>
  cases r with
  |nil=>cases h
  |cons b R=>
   cases R with
   |nil=>exact#[a,b,Z]
   |cons _ _=>cases h
theorem JH{K:Frag}{X:List V}{t:TE}{n:List V->Hp->Prop}(f:Nat->V)(u:X.length<=sizeLine)(b:aB K H a X)
  (p:∀(i:Nat) (x:V),X[i]?=some x->∃q y z,x= .ref q/\ax K H q [y,z]/\∀Q:VK,Q (f i) H->t (some y::some z::c) H Q) (r:n ((List.range X.length).map f) H):
  dI (uV K a) 2 c (Gv K 0 1) j' t n H:=by
 refine#[λi m o d=>m=X.length - i/\i<=X.length/\o=(List.range i).map f/\d=H,#[X.length,Si,Ho _,Si,Z],?_];rintro i m o d ⟨rfl,w,rfl,rfl⟩;by_cases h:i < X.length
 ·refine .inr #[#[X,X[i],b,G8 h],?_,λY g=>Y=(List.range$ i+1).map f/\g=d,λY g #[P,s]=>#[X.length - (i+1),Sf,Z,h,P,s],λv g T j y=>?_]
  ·rw[He,Mx];omega
  obtain⟨e,y⟩:=y;subst e;obtain⟨q,A,B,rfl,k,l⟩:=p i v (y X b);obtain⟨C,D,rfl⟩:=DF j;refine#[q,_,Z,k,Z,_,_,Z,_,_,Z,Z,#[[some _,some _],Z,Z],l _ #[?_,Z]];rw[List.range_succ,Hz];rfl
 ·have e:i=X.length:=by omega
  subst e;exact .inl #[#[X,b,Hg _],r]
end _L
namespace _L
open PySem PySem.Spec PyProof.Rows PySem.SeqAt PySem.W
noncomputable def iG:List Int->List Int->Bool
 | [],[]=>false
 | [],_::_=>true
 |_::_,[]=>false
 |a::p,b::q=>if a=b then iG p q else decide (a < b)
theorem Xv:∀{p q:List Int},iG p q=true->iG q p=false
 | [],[],h=>by cases h
 | [],_::_,_=>rfl
 |_::_,[],h=>by cases h
 |a::p,b::q,h=>by
  have h:(if a=b then iG p q else decide (a < b))=true:=h;show(if b=a then iG q p else decide (b < a))=false;by_cases e:a=b
  ·rw[HD e]at h;rw[HD e.symm];exact Xv h
  ·rw[HG e]at h;rw[HG$ HR e];have:=ID h;exact Hk Sf
section
variable {prog:Program}{w:World}{A:Around}{E:Value->Shared->Prop}{s:Shared}{Q:Bool->Shared->Prop}
theorem Z4(f:Bool)(h:Q (decide$ a < b) s):wpAny (model prog w) A (oneLt' f (.int a t)$ .int b u) Q E s:=by
 cases f with
 |true=>exact oneLt_int h
 |false=>exact kat_one _ _ (lt_int h)
theorem Xw:∀{p q:List Int} {U v:List Value},au (p.map V.int) U->au (q.map V.int) v->∀i,f=decide (p.length < q.length)->Q (iG p q) s->KatLex prog w A b f Q (U.zip v) i s
 | [],[],_,_,.nil,.nil,_,e,h=>by subst e;exact h
 | [],_::_,_,_,.nil,.cons _ _,_,e,h=>by subst e;exact h
 |_::_,[],_,_,.cons _ _,.nil,_,e,h=>by subst e;exact h
 |x::p,y::q,_,_,.cons #[t,c] r,.cons #[u,d] R,i,e,h=>by
  subst c;subst d;have h:Q (if x=y then iG p q else decide (x < y)) s:=h;refine kat_cons$ Oz x t y u prog w _ _ ?_;by_cases H:x=y
  ·rw[HD H]at h;rw[beq_iff_eq.mpr H];refine kat_yes$ Xw r R (i+1) ?_ h;rw[e];show decide (p.length+1 < q.length+1)=_;by_cases a:p.length < q.length
   ·rw[Hw a,Hw Sf]
   ·rw[Hk a,Hk Sf]
  ·rw[HG H]at h;rw[beq_eq_false_iff_ne.mpr H];exact kat_no$ Z4 _ h
def yn(h:Heap)(v:Value)(p:List Int):Prop:=∃a o u n,v= .ref a/\h.get? a=some o/\o.cls= .type "tuple"/\o.data= .seq u n/\au (p.map V.int) u.toList
theorem Ex(c:yn s.heap x p)(d:yn s.heap y q)(h:Q (iG p q) s):wpAny (model prog w) A (keyLt' (tuples' b) x y) Q E s:=by obtain⟨a,o,U,n,rfl,e,_,f,H⟩:=c;obtain⟨i,O,u,N,rfl,K,_,g,k⟩:=d;refine kat_lt e f K g$ Xw H k 0 ?_ h;have l:=H.length;have L:=k.length;rw[He]at l L;rw[<- HF,<- HF,<- l,<- L]
def dE(l:Nat->Nat->Bool)(n:Nat){b:Type}(R:b->Prop):KasT b->Prop
 | .ret a=>R a
 | .ask i j k=>i < n/\j < n/\dE l n R (k (l i j))
theorem dE.bind{b c:Type}{R:b->Prop}{S:c->Prop}{f:b->KasT c}(H:∀a,R a->dE l n S (f a)):∀{t:KasT b},dE l n R t->dE l n S (t.bind f)
 | .ret _,h=>H _ h
 | .ask _ _ _,z=>by obtain⟨d,e,g⟩:=z;exact #[d,e,dE.bind H g]
theorem dE.wp{l:Nat->Nat->Bool}{n:Nat}{b:Type}{R:b->Prop}{c:Nat->Nat->(Bool->Shared->Prop)->Shared->Prop}(H:∀i j (C:Bool->Shared->Prop),i < n->j < n->C (l i j) s->c i j C s){G:b->Shared->Prop}(d:∀a,R a->G a s):∀{t:KasT b},dE l n R t->t.kasWp c G s
 | .ret _,h=>d _ h
 | .ask i j _,z=>by obtain⟨e,f,g⟩:=z;exact H i j _ e f (dE.wp H d g)
theorem Za:∀{vs:List Value} {ps:List (List Int)},vs.length=ps.length->(∀(i:Nat) (v:Value) (p:List Int),vs[i]?=some v->ps[i]?=some p->yn h v p/\p≠[])->∃F:List Value,F.length=vs.length/\(∀f∈F,∃i t,f= .int i t)/\KatTups h vs F
 | [],[],_,_=>#[[],Z,λ_ z=>(nomatch z),trivial]
 | [],_::_,e,_=>by cases e
 |_::_,[],e,_=>by cases e
 |v::vs,p::ps,e,k=>by
  obtain⟨F,g,j,l⟩:=Za (vs:=vs) (ps:=ps) (by simpa using e) λi v p b c=>k (i+1) v p (by simpa using b) (by simpa using c);obtain⟨⟨a,o,U,n,rfl,b,c,m,H⟩,q⟩:=k 0 v p Z Z;cases p with
  |nil=>exact absurd Z q
  |cons i p=>
   cases d:U.toList with
   |nil=>rw[d]at H;cases H
   |cons u r=>
    rw[d]at H;cases H with
    |cons R y=>
     obtain⟨t,rfl⟩:=(show ∃t,u=Value.int i t from R);have x:U[0]?=some (Value.int i t):=by rw[<- IR,d];rfl
     exact#[Value.int i t::F,by simp [g],λf hf=>by
      rcases List.mem_cons.mp hf with rfl |hf
      ·exact#[_,_,Z]
      ·exact j f hf,KatTups.cons b c m x l]
theorem Yz{V:List Value}{d:List (List Int)}{P:Fin->Shared->Prop}(u:s.heap.get? a=some (seqObj "list" V.toArray n))(I:V.length=d.length)(N:2<=V.length)(y:V.length < 64)
  (O:∀(i:Nat) (v:Value) (p:List Int),V[i]?=some v->d[i]?=some p->yn s.heap v p/\p≠[]/\v≠ .ref a) {R:Array Nat->Prop} (U:dE (λi j=>iG (d.getD i []) (d.getD j [])) d.length R (kas_sort d.length))
  (h:∀p,R p->P (.done$ .ret .none) { s with heap:=sortedHeap s.heap a V (p.toList.map λi=>V.getD i Value.none).toArray }):
  wpAny (model prog w) A (Builtin.«list.sort» #[[.ref a],[]]) P E s:=by
 rw[Oj];have la:a < s.heap.objs.size:=Hi u;refine GZ$ O3 u Z ?_;refine GZ$ Mq u Z ?_;obtain⟨g,J⟩:∃g,(s.heap.update a$ Obj.mapSeq λ_=>(List.toArray [])).get? a=some (seqObj "list" (List.toArray []) g):=#[_,Ol u (λ_=>(List.toArray []))];refine GZ$ MT J Z ?_;refine GZ$ Mf ?_ (by show V.length<=_;rw[Lw];omega);refine GZ$ LZ ?_;refine Hs ?_;have K:(((s.heap.update a$ Obj.mapSeq λ_=>(List.toArray [])).push$ seqObj "tuple" V.toArray 0).push$ seqObj "list" (List.toArray []) 0).get? a=some (seqObj "list" (List.toArray []) g):=Hd _ (Hd _ J);have k:∀c v,c≠a->s.heap.get? c=some v->(((s.heap.update a$ Obj.mapSeq λ_=>(List.toArray [])).push$ seqObj "tuple" V.toArray 0).push$ seqObj "list" (List.toArray []) 0).get? c=some v:=λc v W e=>
  Hd _ (Hd _ (by rw[OR _ _ _ _ W];exact e))
 show wpAny (model prog w) A _ P E { s with heap:=((s.heap.update a$ Obj.mapSeq λ_=>(List.toArray [])).push$ seqObj "tuple" V.toArray 0).push (seqObj "list" (List.toArray []) 0) };dsimp only;have H:∀(i:Nat) (v:Value) (p:List Int),V[i]?=some v->d[i]?=some p->yn (((s.heap.update a$ Obj.mapSeq λ_=>(List.toArray [])).push$ seqObj "tuple" V.toArray 0).push$ seqObj "list" (List.toArray []) 0) v p/\p≠[]:=λi v p B x=>by obtain⟨⟨b,o,X,m,rfl,Y,b2,b3,b4⟩,l,D⟩:=O i v p B x;exact#[#[b,o,X,m,Z,k _ _ (λz=>D (by rw[z])) Y,b2,b3,b4],l]
 obtain⟨fs,f1,f2,f3⟩:=Za I H;have q:¬V.toArray.size < 2:=by rw[Hh];omega
 rw[HG q,HG q];refine GZ$ kat_kind (T:=.type "int") f3 Sf (λf hf=>?_) Se ?_
 ·obtain⟨i,t,rfl⟩:=f2 f hf;exact N9 Z
 refine GZ (Ik (kat_run (Q:=λS r=>r={ s with heap:=((s.heap.update a$ Obj.mapSeq λ_=>(List.toArray [])).push$ seqObj "tuple" V.toArray 0).push (seqObj "list" (List.toArray []) 0) }/\∃p,R p/\(arrOf S).map (·.2)=(p.toList.map λi=>V.getD i Value.none).toArray/\failedOf S=none/\(arrOf S).size=V.length)
  (G:=λp r=>r={ s with heap:=((s.heap.update a$ Obj.mapSeq λ_=>(List.toArray [])).push$ seqObj "tuple" V.toArray 0).push (seqObj "list" (List.toArray []) 0) }/\R p) Z N y (λp S r B x a3 L=>#[L.1,p,L.2,?_,a3,?_]) (dE.wp (n:=d.length) (R:=R) (λi j C F hj hC=>?_) (λp l=>#[Z,l]) (by rw[I];exact U))) ?_ λ_ _ e=>e)
 ·rw[kat_snds Z x]
 ·rw[x,PH,B]
 ·have M:∀i,i < d.length->yn (((s.heap.update a$ Obj.mapSeq λ_=>(List.toArray [])).push$ seqObj "tuple" V.toArray 0).push$ seqObj "list" (List.toArray []) 0) (V.getD i Value.none) (d.getD i []):=λi F=>by
   have g:V[i]?=some (V.getD i Value.none):=by rw[Io,G8 (by omega:i < V.length)];rfl
   have e2:d[i]?=some (d.getD i []):=by rw[Io,G8 F];rfl
   exact(H i _ _ g e2).1
  exact Ex (M i F) (M j hj) hC
 rintro ⟨⟨⟩,S⟩ r ⟨rfl,p,l,q1,q2,q3⟩;dsimp only;refine GZ$ MT K Z ?_;refine GZ$ Mq K Z ?_ (hsz2:=by rw[PH,q3,Lw];omega);rw[q2];simp only[IK,Hn,IB];refine Hc ?_;rw[q1];exact h p l
theorem Zb{l:Nat->Nat->Bool}{p:Array Nat}(H:∀i,i < n->p.getD i 0=i)(h:∀i,i+1 < n->l (i+1) i=false):∀f m,1<=m->m+f=n->dE l n (λr=>r=n) (kas_asc p f m)
 |0,m,_,e=>by show m=n;omega
 |f+1,m,d,e=>by have a:=H m Sf;have b:=H (m - 1) Sf;have c:=h (m - 1) Sf;rw[show m - 1+1=m by omega]at c;refine#[by rw[a];omega,by rw[b];omega,?_];rw[a,b,c];exact Zb H h f (m+1) Sf Sf
theorem tX{l:Nat->Nat->Bool}(b:2<=n)(h:∀i,i+1 < n->l (i+1) i=false):dE l n (λp=>p=List.toArray (List.range n)) (kas_sort n):=by
 refine dE.bind (R:=λr=>r=(n,List.toArray$ List.range n)) (λr H=>?_)$ dE.bind (R:=λr=>r=n) (λr H=>?_)$ Zb (p:=List.toArray (List.range n)) (λi a=>by simp [Array.getD,a]) h (n - 1) 1 (Hg 1) Sf
 ·subst H;show dE l n _ (if n < n then _ else _);rw[HG$ Ip n];rfl
 ·subst H;show dE l r _ (if (r==r)=true then _ else _);rw[HD$ I8 r];rfl
end
section
variable {prog:Program}{w:World}{A:Around}{E:Value->Shared->Prop}{s:Shared}
theorem YA{P:Fin->Shared->Prop}(H:s.heap.get? a=some (seqObj "list" ([]:List Value).toArray n))
  (h:P (.done$ .ret .none) { s with heap:=sortedHeap s.heap a ([]:List Value) (List.toArray []) }):wpAny (model prog w) A (Builtin.«list.sort» #[[.ref a],[]]) P E s:=by
 rw[Oj];refine GZ$ O3 H Z ?_;refine GZ$ Mq H Z ?_;obtain⟨e,b⟩:∃e,(s.heap.update a$ Obj.mapSeq λ_=>(List.toArray [])).get? a=some (seqObj "list" (List.toArray []) e):=#[_,Ol H (λ_=>(List.toArray []))];refine GZ$ MT b Z ?_;refine GZ$ Mf ?_;refine GZ$ LZ ?_;refine Hs ?_;have g:(((s.heap.update a$ Obj.mapSeq λ_=>(List.toArray [])).push$ seqObj "tuple" ([]:List Value).toArray 0).push$ seqObj "list" (List.toArray []) 0).get? a=some (seqObj "list" (List.toArray []) e):=Hd _ (Hd _ b);show wpAny (model prog w) A _ P E { s with heap:=((s.heap.update a$ Obj.mapSeq λ_=>(List.toArray [])).push$ seqObj "tuple" ([]:List Value).toArray 0).push (seqObj "list" (List.toArray []) 0) };dsimp only;have S:([]:List Value).toArray.size < 2:=by show 0 < 2;decide
 rw[HD S,HD S];refine GZ$ Hc ?_;rw[O7];refine GZ$ Hc ?_;dsimp only;refine GZ$ MT g Z ?_;have c:(arrOf$ SortSt.mk' general' (([]:List Value).toArray.zip ([]:List Value).toArray) (List.toArray []) 7 none).map (·.2)=(List.toArray []):=by show(([]:List Value).toArray.zip ([]:List Value).toArray).map (·.2)=(List.toArray []);simp
 rw[c];refine GZ$ Mq g Z ?_ (hsz2:=by show 0<=sizeLine+1;omega);simp only[IK,Hn,IB];exact Hc h
theorem xP{vs:List Value}{ps:List (List Int)}{Q:Value->Shared->Prop}(q:s.heap.IsList l vs.toArray)(H:vs.length=ps.length)(r:2<=vs.length)(b:vs.length < 64)
  (t:∀(i:Nat) (v:Value) (p:List Int),vs[i]?=some v->ps[i]?=some p->yn s.heap v p/\p≠[]) {R:Array Nat->Prop} (u:dE (λi j=>iG (ps.getD i []) (ps.getD j [])) ps.length R (kas_sort ps.length))
  (h:∀p,R p->Q (.ref$ s.heap.objs.size+1) { s with heap:=sortedAll s.heap vs (p.toList.map λi=>vs.getD i Value.none).toArray }):wpAny (model prog w) A (call (.builtin "sorted") [.ref l]) Q E s:=by
 refine LH Oc NP NQ (NR _) ?_;unfold Builtin.«sorted»;refine GZ (m:=checkCount "sorted" 1 1 _)$ Hc ?_;refine GZ$ O5 q ?_ (by rw[Lw];omega);refine GZ$ LZ ?_ (by rw[Lw];omega);have f:((s.heap.push$ seqObj "list" (List.toArray []) 0).update s.heap.objs.size$ Obj.mapSeq (·++vs.toArray)).objs.size=s.heap.objs.size+1:=by rw[NF,OD]
 have g:(((s.heap.push$ seqObj "list" (List.toArray []) 0).update s.heap.objs.size$ Obj.mapSeq (·++vs.toArray)).push$ seqObj "list" vs.toArray 0).get? (s.heap.objs.size+1)=some (seqObj "list" vs.toArray 0):=by rw[<- f];exact Hj _ Z
 have k:∀c v,s.heap.get? c=some v->(((s.heap.push$ seqObj "list" (List.toArray []) 0).update s.heap.objs.size$ Obj.mapSeq (·++vs.toArray)).push$ seqObj "list" vs.toArray 0).get? c=some v:=λc v e=>
  Hd _ (by rw[OR _ _ _ _$ Hm$ Hi e];exact Hd _ e)
 show wpAny _ _ _ _ _ { s with heap:=((s.heap.push$ seqObj "list" (List.toArray []) 0).update s.heap.objs.size$ Obj.mapSeq (·++vs.toArray)).push (seqObj "list" vs.toArray 0) };rw[f];refine GZ$ Hs$ HU Np #[_,g,Z] Nj (Yz g H r b (λi v p x y=>?_) u λp d=>#[_,Z,?_]) (Nu _)
 ·obtain⟨⟨a,o,U,n,rfl,B,C,D,F⟩,d⟩:=t i v p x y;exact#[#[a,o,U,n,Z,k _ _ B,C,D,F],d,λz=>by injection z with z;exact absurd z$ Hm$ Lo$ Hi B]
 ·exact Hc #[_,Z,h p d]
theorem xM{Q:Value->Shared->Prop}(H:s.heap.IsList l ([]:List Value).toArray)
  (h:Q (.ref$ s.heap.objs.size+1) { s with heap:=sortedAll s.heap [] (List.toArray []) }):wpAny (model prog w) A (call (.builtin "sorted") [.ref l]) Q E s:=by
 refine LH Oc NP NQ (NR _) ?_;unfold Builtin.«sorted»;refine GZ (m:=checkCount "sorted" 1 1 _)$ Hc ?_;refine GZ$ O5 H ?_;refine GZ$ LZ ?_;have z:((s.heap.push$ seqObj "list" (List.toArray []) 0).update s.heap.objs.size$ Obj.mapSeq (·++([]:List Value).toArray)).objs.size=s.heap.objs.size+1:=by rw[NF,OD]
 have g:(((s.heap.push$ seqObj "list" (List.toArray []) 0).update s.heap.objs.size$ Obj.mapSeq (·++([]:List Value).toArray)).push$ seqObj "list" ([]:List Value).toArray 0).get? (s.heap.objs.size+1)=some (seqObj "list" ([]:List Value).toArray 0):=by rw[<- z];exact Hj _ Z
 show wpAny _ _ _ _ _ { s with heap:=((s.heap.push$ seqObj "list" (List.toArray []) 0).update s.heap.objs.size$ Obj.mapSeq (·++([]:List Value).toArray)).push (seqObj "list" ([]:List Value).toArray 0) };rw[z];refine GZ$ Hs$ HU Np #[_,g,Z] Nj (YA g #[_,Z,?_]) (Nu _);exact Hc #[_,Z,h]
end
section
variable {X:Cx}
theorem CC(I:ap X b f H s){p:List Int}(h:H a=some (.tup$ p.map V.int)):yn s.heap (.ref a) p:=by obtain⟨i,r,P,_⟩:=I.tuple (ax.of (K:=X.K) h);obtain⟨o,c,d,n,e⟩:=P;exact#[a,o,i.toArray,n,Z,c,d,e,r]
inductive sL(K:Frag)(d:List V)(H:Hp)(Q:VK):Prop
 |mk(l:Addr)(c:List V)(b:List (List Int))(_:d=[.ref l])(_:aB K H l c)(_:c.length=b.length)(_:c.length < 64)(_:∀(i:Nat) (v:V) (p:List Int),c[i]?=some v->b[i]?=some p->(∃a,v= .ref a/\H a=some (.tup (p.map V.int)))/\p≠[])(_:∀(i:Nat) (p q:List Int),b[i]?=some p->b[i+1]?=some q->iG p q=true)(_:∀r,H r=none->Q (.ref r) (af H r (.lst c)))
theorem Xg:b8 X (.builtin "sorted") (sL X.K):=by
 intro g s x H T U Q I r h;obtain⟨l,vs,ps,rfl,y,n,z,B,C,k⟩:=h;obtain⟨u,rfl,D⟩:=dU r;cases D;obtain⟨b,d,P,_⟩:=I.list y;have L:=d.length;have f:∀(o:Array Value),o=b.toArray->EP X g x Q (.ref$ s.heap.objs.size+1) { s with heap:=sortedAll s.heap b o }:=λo E=>by subst E;obtain⟨c,F⟩:=sortedAll_at s.heap b b.toArray;exact#[.ref$ s.heap.objs.size+1,_,I.laid (t':=s.toks) (λ_ _ e=>sortedAll_old e) (IL _) (show aF X.prog X.w _ _ _ (.lst vs) from #[by rw[Lw];omega,b,c,d,F]),Z,k _$ I.hok.fresh$ IL _]
 match b,d,P,L,f with
 | [],d,P,L,f=>exact xM (by simpa using P.isList) (f _ Z)
 | [v],d,P,L,f=>exact xO (by simpa using P.isList) (f _ Z)
 |v1::V::R,d,P,L,f=>
  have W:(v1::V::R).length=R.length+2:=rfl;refine xP (vs:=v1::V::R) (ps:=ps) P.isList Sf Sf Sf (λi v p A G=>?_) (tX Sf λi j=>?_) λp m=>f _ ?_
  ·have j:i < vs.length:=by have:=(List.getElem?_eq_some_iff.mp A).1;omega
   obtain⟨⟨a,J,M⟩,m⟩:=B i _ p (G8 j) G;obtain⟨Y,q,t⟩:=d.get (G8 j);rw[A]at q;cases q;rw[J]at t;cases t;exact#[CC I M,m]
  ·have N:ps[i]?=some (ps.getD i []):=by rw[Io,G8 (by omega:i < ps.length)];rfl
   have O:ps[i+1]?=some (ps.getD (i+1) []):=by rw[Io,G8 j];rfl
   exact Xv$ C i _ _ N O
  ·subst m;congr 1;refine MJ (by simp;omega) λi h1 S=>?_;simp [G8 S]
end
end _L
namespace _L
open PySem PySem.Spec PyProof.Rows
theorem bn.m(r:bn k A)(h:j<=k:=by omega):bn j A:=r.mono h
theorem bu{N P:List Str}{s:Scope}(a:s.kind=.function:=by rfl)(b:s.isCoroutine=false:=by rfl)(c:s.isGenerator=false:=by rfl)(d:N.Nodup:=by decide +kernel)(e:N.take P.length=P:=by rfl)(f:∀x∈P,s.names.lookup x=some .local ∨ s.names.lookup x=some .cell:=by decide +kernel)(g:∀y∈s.names,y.2≠.free:=by decide +kernel):ak N P s:=#[a,b,c,d,e,f,g]
theorem l8{N:List Str}{s t:Scope}{M:List Str}{i:List Nat}(a:∀y∈t.names,y.2≠.cell:=by decide +kernel)(b:t.kind=.function:=by rfl)(c:∀y∈t.names,y.2=.local->t.names.lookup y.1=some .local:=by decide +kernel)(d:∀y∈t.names,y.2=.free->s.names.lookup y.1=some .cell:=by decide +kernel)(e:M.drop n=i.map (λi=>N.getD i Str.empty):=by decide +kernel)(f:M.length=n+i.length:=by rfl)(g:∀j∈i,t.names.lookup (N.getD j Str.empty)=some .free:=by decide +kernel):aT N s t M n i:=#[a,b,c,d,e,f,g]
end _L
local macro_rules|`(tactic|obtain $p:rcasesPat:=$t)=>`(tactic|(refine _L.aQ λG k=>?_;rcases $t:term with $p:rcasesPat<;>(refine k ?_;clear k)))
namespace _K
open PySem PySem.Spec PyProof.Rows _L
abbrev z0z:List Str:=["_law_box_here","_law_wide"]
abbrev z1z:List Str:=["_law_box_here"]
abbrev z2z:List Str:=["term"]
abbrev z3z:List Str:=["statement","behind"]
abbrev z4z:List Str:=["statement"]
abbrev z5z:List Str:=["_law_box_here","_law_names_here","_law_heads","_law_spare","_law_deep"]
abbrev z6z:List Str:=["self","statement","behind"]
abbrev z7z:List Str:=["_law_box_here","_law_names_here","_law_deep","_law_spare"]
abbrev z8z:List Str:=["_law_box_here","_law_names_here","_law_deep"]
abbrev z9z:List Str:=["term","held"]
abbrev z10z:List Str:=["chain","path"]
abbrev z11z:List Str:=["self","body","behind"]
abbrev z12z:List Str:=["part","n","held"]
abbrev z13z:List Str:=["self","part","args","deep"]
abbrev z14z:List Str:=["body","behind"]
abbrev z15z:List Str:=["_law_box_here","_law_a","_law_b"]
abbrev z16z:List Str:=["_law_chain_here","_law_ahead"]
abbrev z17z:List Str:=["name","params","body"]
abbrev z18z:List Str:=["_law_box_here","_law_f","_law_inner_here","_law_w"]
abbrev z19z:List Str:=["self","deed","deep"]
abbrev z20z:List Str:=["_law_box_here","_law_total"]
abbrev z21z:List Str:=["self","statement","place","behind"]
abbrev z22z:List Str:=["sign","left","right"]
abbrev z23z:List Str:=["self","cells","most"]
abbrev z24z:List Str:=["self","parts","cells","most"]
abbrev z25z:List Str:=["_law_box_here","_law_names_here"]
abbrev z26z:List Str:=["parts","f","args","cells","most"]
abbrev z27z:List Str:=["_law_box_here","_law_total","_law_letters","_law_wide","_law_spot_here","_law_signs","_law_first","_law_form","_law_found","_law_k","_law_one","_law_word","_law_some","_law_odd"]
abbrev z28z:List Str:=["_law_k","_law_box_here","_law_letters"]
abbrev z29z:List Str:=["_law_j","_law_box_here","_law_letters"]
abbrev z30z:List Str:=["num","var","op","go","ask","back","chain","sets","iff","ends","calls","reads","gives"]
abbrev z31z:List Str:=["_law_one","_law_box_here","_law_names_here"]
abbrev z32z:List Str:=["_law_box_here","_law_total","_law_room"]
abbrev z33z:List Str:=["_law_box_here","_law_f","_law_g","_law_w"]
abbrev z34z:List Str:=["_law_box_here","_law_names_here","_law_deep","_law_spare","_law_k","_law_args","_law_steps","_law_f","_law_held"]
abbrev z35z:List Str:=["_law_script","_law_chain_here","_law_rows_here","_law_due","_law_found","_law_path","_law_step"]
abbrev z36z:List Str:=["_law_box_here","_law_names_here","_law_heads","_law_spare","_law_deep","_law_kind","_law_x","_law_f","_law_params","_law_body_here"]
abbrev z37z:List Str:=["_law_box_here","_law_f","_law_inner_here","_law_w","_law_n","_law_i","_law_s","_law_x","_law_y","_law_body_here","_law_spot_here","_law_start","_law_loop"]
abbrev z38z:List Str:=["_law_box_here","_law_f","_law_inner_here","_law_w","_law_n","_law_i","_law_s","_law_x","_law_y","_law_spot_here","_law_body_here","_law_kept","_law_some","_law_start","_law_loop"]
abbrev z39z:List Str:=["_law_box_here","_law_program","_law_total","_law_f","_law_params","_law_body_here"]
abbrev z40z:List Str:=["_law_chain_here","_law_rows_here","_law_total","_law_bad_here","_law_path","_law_step","_law_further"]
variable {P:Program}{w:World}{K:Frag}{mg:Str->Option Value}{base:Heap}
noncomputable def bE(i:Nat):Stmt:=PySem.Challenge.pw_againbook_k25_paths_and_steps.main.body.getD i (.Pass #[0,0,0,0])
noncomputable abbrev BQ:Stmt:=bE 55
noncomputable abbrev tq:Stmt:=bE 56
noncomputable abbrev gV:Stmt:=bE 58
def ar(p:Addr)(H h:Hp):Prop:=∀b o,b≠p->H b=some o->h b=some o
theorem ar.refl:ar p H H:=λ_ _ _ h=>h
theorem ar.trans(a:ar p H d)(b:ar p d e):ar p H e:=λc o n h=>b c o n (a c o n h)
theorem ar.of_eq{H a:Hp}(h:∀b,b≠p->a b=H b):ar p H a:=λb o n e=>by rw[h b n];exact e
theorem ar.upd_new{o:HO}(a:ar p H h)(n:h r=none):ar p H (af h r o):=λb u N e=>by have q:=a b u N e;rw[ji$ jl q n];exact q
theorem ar.upd_own(a:ar p H h)(n:H r=none):ar p H (af h r o):=λb u N e=>by rw[ji$ jl e n];exact a b u N e
structure ao(H:Hp)(p:Addr):Prop where
 ob:∃a b:Int,0<=a/\1<=b/\b<=2147483646/\H p=some (.lst [.int a,.int b])
theorem ao.eq{c:Hp}(B:ao H p)(e:c p=H p):ao c p:=by obtain⟨a,b,d,f,g,h⟩:=B.ob;exact#[a,b,d,f,g,by rw[e];exact h]
theorem ao.upd_new{o:HO}(B:ao H p)(n:H r=none):ao (af H r o) p:=by obtain⟨a,b,c,d,e,h⟩:=B.ob;exact B.eq (by rw[ji$ jl h n])
theorem ao.ne(B:ao H p)(n:H r=none):r≠p:=by obtain⟨a,b,c,d,e,h⟩:=B.ob;exact HR$ jl h n
inductive aL(c:List V)(H:Hp)(Q:VK)(a:XK):Prop
 |mk(p:Addr)(w:Int)(_:c=[.ref p,.int w])(_:ao H p)(_:0 < w)(_:w<=1000000000000000000)(_:∀(d:Int) (H':Hp),0<=d->d < w->ao H' p->(∀b,b≠p->H' b=H b)->Q (.int d) H')
inductive nU(K:Frag)(e:List V)(H:Hp)(Q:VK)(c:XK):Prop
 |mk(a:Addr)(d:List Int)(k:Int)(_:e=[.ref a,.int k])(_:aB K H a (d.map V.int))(_:0<=k)(_:k < 1000)(_:∀(r:Addr) (H':Hp),H r=none->ao H' r->(∀b,b≠r->H' b=H b)->Q (.ref r) H')
theorem uE:(10:Int) ^ (18:Int).toNat=1000000000000000000:=by decide
theorem rg{ns:List Int}{k:Int}(H:0<=k)(a:k < (ns.length:Int)):∃v:Int,dq (ns.map V.int) k=some (.int v):=by
 have h:k.toNat < ns.length:=by omega
 have e:k=((k.toNat:Nat):Int):=by omega
 have q:dq (ns.map V.int) ((k.toNat:Nat):Int)=some (.int ns[k.toNat]):=jM (by rw[HE,G8 h];rfl);rw[<- e]at q;exact#[_,q]
structure Cl(P:Program)(w:World)(K:Frag)(mg:Str->Option Value)(base:Heap)(L:Nat)(f:Addr)(fd:FuncData)(ps:List Str)(sp:Sp)(py:Str):Prop where
 g:ah P w K mg base aA L f fd ps sp
 b:ay K fd ps []
 k:keepIn K (.ref f)=true
 m:mg py=some (.ref f)
theorem Cl.e{X:Cx}{e:Expr}(c:Cl X.prog X.w X.K X.mg X.base L f o q s a)(i:bn L X.A)(j:PA X (e::E) t)(l:Gl X a:=by rfl)(h:(a==("__debug__":Str))=false:=by decide)(n:starEach (e::E) X.env=(false,eval e X.env)::starEach E X.env:=by rfl)(H:(backTo d$ starEach E X.env).any (·.1)=false:=by rfl):PE X (.Call (.Name a p) (e::E) [] d) (dC s [] E0 t):=kf c.g i l c.m c.k c.b .nil bp j h n H
theorem jz{X:Cx}(h:PE X a t):PE X (.Subscript a (.Constant (.int i) j p) b) (dD (eY X.K) t$ tC$ .int i):=jr jS h jf λ_ _=>Z
theorem jx{X:Cx}{p:Pos}(i:Nat)(h:X.N.Nodup)(H:PE X e t)(b:X.N[i]?=some x:=by rfl)(c:pj X.env.scope x:=by exact Or.inl Z)(d:swapsWith e (some$ .Name x a) p.line X.env=pure false:=by rfl)(f:X.fn x=true∨X.env.scope.names.lookup x=some .local:=by first |exact .inl Z |exact .inr Z |assumption):PS X (.Assign [.Name x a] e p) (dS t$ bf i):=kI h b c H d f
theorem jv{K:Frag}{H:Hp}{Q:VK}(h:H p=some (.tup x))(a:dq x n=some v)(q:Q v H)(e:b[i]?=some (some$ .ref p):=by rfl):dD (eY K) (aV i) (tC$ .int n) b H Q:=#[_,e,p,x,n,v,Z,Z,ax.of h,a,q]
theorem ke{X:Cx}(h:PE X a t):PT X (.Compare a [.Eq] [.Constant (.str x) j p] b) (ik$ dD DY t$ tC$ .str x):=jA Jx h jk Z
theorem kE{X:Cx}(h:PE X a t):PT X (.Compare a [.Eq] [.Constant (.int x) j p] b) (ik$ dD DY t$ tC$ .int x):=jA Jx h jf Z
theorem gY:ak ["_law_box_here","_law_wide","_law_digit","_law_one","_law_mixed"] z0z (aa tq):=bu
theorem wB(F:aK K "_law_take" "_law_take" tq f x):ah P w K mg base aA 1 f x z0z aL:=by
 refine F.ok gY ?_ λC A O s H V Q E z h=>?_
 ·rintro _ _ _ _ ⟨p,w,rfl,_⟩;rfl
 obtain⟨p,W,rfl,B,d,g,q⟩:=h;obtain⟨a,b,l,i,j,e⟩:=B.ob;refine#[_,jd (jw (jA qI (jr jq (pv 0) jf (λ_ _=>Z)) jf$ aC _)
   (jd (jx 2 gY.nd$ ju kU (jr jq (pv 0) jf (λ_ _=>Z))$ pv 1)
   (jd (kQ (ju Kk (jr jq (pv 0) jf (λ_ _=>Z))$ pv 1)$ z9 (pv 0) jf zd)
   (jg$ jm$ pv 2))) jp)
  (jd (jx 3 gY.nd$ ju kU (ju zn (jr jq (pv 0) jf (λ_ _=>Z)) jf) jf)
  (jd (kQ (ju jY (ju kU (ju jY (ju zn (pv 3) jf) jf) jf) jf)$ z9 (pv 0) jf zd)
  (jd (jx 4 gY.nd$ ju Kk (ju jY (ju zn (pv 3) jf)$ jr jq (pv 0) jf (λ_ _=>Z)) jf)
  (jd (jw (jA qI (pv 1) (ju Ka jf jf)$ aC _) (jg$ jx 4 gY.nd$ ju zn (pv 4)$ pv 4) jp)
  (jg$ jm$ ju kU (pv 4)$ pv 1))))),?_]
 refine#[_,Z,p,_,_,_,Z,Z,aB.of e,Z,_,_,Z,Z,_,Z,?_];refine bG (λc=>?_) (λc=>?_)
 ·have D:(0:Int) < a:=ID c;refine#[_,Z,p,_,_,_,Z,Z,aB.of e,Z,_,Z,_,_,Z,Z,d,?_];refine#[_,Z,p,_,_,_,Z,Z,aB.of e,Z,_,Z,_,_,Z,Z,#[d,g],_,Z,p,_,_,0,Z,Z,e,Z,_,Z,?_];refine q (a % W) _ (Iw _ Sf) (Ia _ d) #[a / W,b,PV l Sf,i,j,jc] λb n=>ji n
 ·have I:0<=b*69621 % 2147483647:=Iw _ Se;have J:b*69621 % 2147483647 < 2147483647:=Ia _ Se;refine#[_,Z,p,_,_,_,Z,Z,aB.of e,Z,_,_,Z,Z,.inr #[Se,Se],_,_,Z,Z,(by show(0:Int) < 2147483647;decide),?_];refine#[_,Z,_,_,Z,Z,.inr #[Se,Se],_,_,Z,Z,_,_,Z,Z,(by show(0:Int) < 2147483646;decide),_,_,Z,Z,_,Z,p,_,_,1,Z,Z,e,Z,?_];generalize m:b*69621 % 2147483647=o at*;have N:0<=(o*48271+30103) % 2147483646:=Iw _ Se;have L:(o*48271+30103) % 2147483646 < 2147483646:=Ia _ Se;generalize r:(o*48271+30103) % 2147483646=t at*;refine#[_,Z,_,_,Z,Z,.inr #[Se,Se],_,Z,p,_,_,_,Z,Z,aB.of jc,Z,_,_,Z,Z,_,_,Z,Z,#[Se,Se],?_];have X:0<=(o*2147483647+(t+1)) / 8191:=by omega
  have R:(o*2147483647+(t+1)) / 8191 < 18446744073709551616:=by omega
  generalize u:(o*2147483647+(t+1)) / 8191=M at*;refine#[_,Z,_,_,Z,Z,#[Se,Se,Se],_,_,Z,Z,_,Z,?_];have v:ao (af H p$ .lst [.int a,.int$ t+1]) p:=#[a,t+1,l,Sf,Sf,jc];refine bG (λy=>?_) (λy=>?_)
  ·refine#[_,Z,_,Z,_,_,Z,Z,.inl #[Sf,Sf],?_];refine#[_,Z,_,Z,_,_,Z,Z,d,?_];exact q _ _ (Iw _ Sf) (Ia _ d) v λb n=>ji n
  ·refine#[_,Z,_,Z,_,_,Z,Z,d,?_];exact q _ _ (Iw _ Sf) (Ia _ d) v λb n=>ji n
theorem lJ:ak ["_law_script","_law_k","_law_cell","_law_seed"] ["_law_script","_law_k"] (aa BQ):=bu
theorem A7(F:aK K "_law_box" "_law_box" BQ f I)(m:mg "len"=none)(M:mg "int"=none):ah P w K mg base aA 1 f I ["_law_script","_law_k"] (nU K):=by
 refine F.ok lJ ?_ λJ A o s H W Q E X h=>?_
 ·rintro _ _ _ _ ⟨a,ns,k,rfl,_⟩;rfl
 obtain⟨a,ns,k,rfl,d,i,L,q⟩:=h;refine#[_,jd (jx 2 lJ.nd$ ju jY (ju zn jf$ pv 1) jf)
  (jd (jw (jA qH (pv 1) (jH jE Z m Ih$ ja (pv 0) jb)$ aC _)
   (jg$ jx 2 lJ.nd$ jr jq (pv 0) (pv 1) (λ_ _=>Z))
   (jg (jw (jA qI (jH jE Z m Ih$ ja (pv 0) jb) jf$ aC _)
    (jg$ jx 2 lJ.nd$ ju jY (pv 2)$ ju zn (ju kU (jr jq (pv 0) (ju kU (pv 1)$ jH jE Z m Ih$ ja (pv 0) jb) (λ_ _=>Z)) jf) jf) jp)))
  (jd (jx 3 lJ.nd$ ju jY (ju kU (ju jY (ju zn (ju kU (pv 2) jf) jf)$ ju zn jf$ pv 1) jf) jf)
  (jg$ jm$ jD$ ja (ju zn (pv 2)$ jF Jo Z M R9$ ja (JO sf (pv 2) (ju Ka jf jf)$ aC _) jb)$ ja (pv 3) jb))),?_]
 have e:(ns.map V.int).length=ns.length:=He _;have T:∀c:Int,∃v:V,∃x:Int,v= .int x/\1<=x/\x<=2147483646/\v= .int ((c % 2147483629*48271+40692*k) % 2147483646+1):=λc=>by have N:0<=(c % 2147483629*48271+40692*k) % 2147483646:=Iw _ Se;have O:(c % 2147483629*48271+40692*k) % 2147483646 < 2147483646:=Ia _ Se;exact#[_,_,Z,Sf,Sf,Z]
 have j:∀(c:Int) (r:Addr),H r=none->Q (.ref r) (af H r$ .lst [.int$ c*(if decide ((10:Int) ^ (18:Int).toNat<=c)=true then 1 else 0),.int ((c % 2147483629*48271+40692*k) % 2147483646+1)]):=λc r R=>by
  refine q r _ R #[_,_,?_,?_,?_,jc] λb n=>ji n
  ·rw[uE];by_cases h:(1000000000000000000:Int)<=c
   ·rw[Hw h,HD Z];omega
   ·rw[Hk h,HG Hl];omega
  ·have N:0<=(c % 2147483629*48271+40692*k) % 2147483646:=Iw _ Se;omega
  ·have O:(c % 2147483629*48271+40692*k) % 2147483646 < 2147483646:=Ia _ Se;omega
 have B:∀c:Int,uZ c (if decide ((10:Int) ^ (18:Int).toNat<=c)=true then 1 else 0):=λc=>.inr (by split<;>decide);refine aj λF0 u=>#[_,Z,_,_,Z,Z,.inl #[Se,Se],_,_,Z,Z,u _ _ ?_];clear u;refine aj λS y=>?_;have l:∀c:Int,S [some$ .ref a,some$ .int k,some$ .int c,none] H:=λc=>y _ _ (aj λF2 U=>#[_,Z,_,_,Z,Z,(by show(0:Int) < 2147483629;decide),_,_,Z,Z,.inr #[Se,Se],_,Z,_,_,Z,Z,.inl #[Se,Se],_,_,Z,Z,_,_,Z,Z,(by show(0:Int) < 2147483646;decide),_,_,Z,Z,U _ _ (#[_,Z,_,Z,_,_,Z,Z,#[Se,Se,Se],_,_,Z,Z,.inr #[_,Z,_,_,Z,Z,B c,_,Z,bK,j c]])]);clear y;refine ni λG g=>#[_,Z,_,Z,a,_,Z,.inl d,_,_,Z,Z,_,Z,g _ _ ?_];clear g;refine bG (λc=>?_) (λc=>?_)
 ·have C:k < (((ns.map V.int).length:Nat):Int):=ID c;rw[e]at C;obtain⟨v,p⟩:=rg (ns:=ns) i C;exact#[_,Z,_,Z,a,_,_,_,Z,Z,d,p,l v]
 ·have C:¬k < (((ns.map V.int).length:Nat):Int):=M4 (Bool.eq_false_iff.mpr c);rw[e]at C;refine ni λG g=>#[_,Z,a,_,Z,.inl d,_,_,Z,Z,_,Z,g _ _ ?_];clear g;refine bG (λz=>?_) (λz=>?_)
  ·have D:(0:Int) < (((ns.map V.int).length:Nat):Int):=ID z;obtain⟨v,p⟩:=rg (ns:=ns) (k:=k % (((ns.map V.int).length:Nat):Int)) (Iw _ Sf) (by have:=Ia k D;rw[e]at this;rw[e];exact this);exact#[_,Z,_,Z,_,Z,_,Z,a,_,Z,.inl d,_,_,Z,Z,D,a,_,_,_,Z,Z,d,p,_,_,Z,Z,(by show(0:Int) < 2147483629;decide),_,_,Z,Z,.inr #[Se,Se],_,_,Z,Z,l _]
  ·exact l _
theorem mQ(i j:Str):(i++j).length=i.length+j.length:=by show(i.cps++j.cps).size=i.cps.size+j.cps.size;exact Nv
theorem zr:1000000<=sizeLine:=by rw[Lw];decide
theorem am{H:Hp}{o:HO}(h:H b=some u)(n:H r=none):af H r o b=some u:=by rw[ji$ jl h n];exact h
theorem ui{z:Str}{k:Int}(H:0<=k)(a:k < (z.length:Int)):∃c:Nat,dq z.cps.toList k=some c:=by
 have b:z.cps.toList.length=z.length:=HF;have h:k.toNat < z.cps.toList.length:=by omega
 have e:k=((k.toNat:Nat):Int):=by omega
 have q:dq z.cps.toList ((k.toNat:Nat):Int)=some z.cps.toList[k.toNat]:=jM (G8 h);rw[<- e]at q;exact#[_,q]
theorem Jg{ys:List Str}{k:Int}(H:0<=k)(a:k < (ys.length:Int)):∃y∈ys,dq (ys.map V.str) k=some (.str y):=by
 have h:k.toNat < ys.length:=by omega
 have e:k=((k.toNat:Nat):Int):=by omega
 have q:dq (ys.map V.str) ((k.toNat:Nat):Int)=some (.str ys[k.toNat]):=jM (by rw[HE,G8 h];rfl);rw[<- e]at q;exact#[_,LG h,q]
noncomputable def a9(s:List Str)(lo h:Option Int):List Str:=(s.drop$ HT.sIx s.length 0 lo).take (HT.sIx s.length s.length h - HT.sIx s.length 0 lo)
theorem zu(s:List Str)(lo h:Option Int):aE (s.map V.str) lo h=(a9 s lo h).map V.str:=by unfold aE a9;rw[He,Mh,P7]
theorem zK{lo:Option Int}(h:y∈a9 s lo H):y∈s:=Na (Ii h)
theorem qg(s:List Str)(lo h:Option Int):(a9 s lo h).length<=s.length:=by unfold a9;rw[HL,Lb];omega
theorem qO:∀{ys:List Str},(∀y∈ys,y.length<=1)->(ys.map (·.length)).sum<=ys.length
 | [],_=>Hg _
 |y::r,h=>by have a:=h y HI;have b:=qO (ys:=r) λz H=>h z (HQ _ H);rw[Ix,List.sum_cons,HM];omega
theorem qP{z:Str}{ys:List Str}(H:z.length=0)(h:∀y∈ys,y.length<=1):(Txt.join z ys).length<=ys.length:=by show(Builtin.Str.glued z ys).length<=_;rw[size_glued,H,Nat.mul_zero,Nat.add_zero];exact qO h
noncomputable def df:Str:="abcdefghijklmnopqrstuvwxyz"
theorem JI:df.length=26:=by decide+kernel
noncomputable def oA(d:Int)(k:Nat):Nat:=97+((d+5*(0+(k:Int))) % 26).toNat
theorem vO(H:i < 20)(a:j < 20)(h:oA d i=oA d j):i=j:=by unfold oA at h;omega
theorem AO(H:0<=k)(a:k < 26)(h:dq df.cps.toList k=some c):c=97+k.toNat:=by
 have q:∀m:Fin 26,dq df.cps.toList (m.val:Int)=some (97+m.val):=by decide+kernel
 have e:=q #[k.toNat,Sf];have E:((k.toNat:Nat):Int)=k:=by omega
 dsimp only at e;rw[E,h]at e;injection e
def Sh(A S:Str)(d:Int)(c:Nat)(w:Str):Prop:=if d=2 then ∃R:Str,w=R++#[(List.toArray [c])] else w=A++#[(List.toArray [c])]++S∨w=A++#[(List.toArray [c])]++S++"z"∨w="qqqqqqq"++#[(List.toArray [c])]
theorem kB(a b:Str):(a++b).cps.toList=a.cps.toList++b.cps.toList:=by show(a.cps++b.cps).toList=_;exact Array.toList_append
theorem Xx{R:Str}(h:R++(#[(List.toArray [c])]:Str)=r++#[(List.toArray [C])]):c=C:=by have e:=IC (Array.toList ∘ Str.cps) h;have e:(R++(#[(List.toArray [c])]:Str)).cps.toList=(r++(#[(List.toArray [C])]:Str)).cps.toList:=e;rw[kB,kB]at e;have:=List.append_inj_right' e Z;injection this
theorem vU{S:Str}(h:A++(#[(List.toArray [c])]:Str)++S=A++#[(List.toArray [C])]++S):c=C:=by have e:=IC (Array.toList ∘ Str.cps) h;have e:(A++(#[(List.toArray [c])]:Str)++S).cps.toList=(A++(#[(List.toArray [C])]:Str)++S).cps.toList:=e;rw[kB,kB,kB,kB]at e;have:=Op (Mz e);injection this
theorem Ef{A S : Str}{d : Int}{c C : Nat}{w : Str}(i : A.length + S.length <= 5)(h : Sh A S d c w)(H : Sh A S d C w) : c = C := by
  unfold Sh at h H;have l : ∀ c : Nat, (#[(List.toArray [c])] : Str).length = 1 :=λ_ => Z;have L : (Str.ofString "z").length = 1 := by decide +kernel
  have f : (Str.ofString "qqqqqqq").length = 7 := by decide +kernel
  split at h
  · rename_i a
    rw [HD a] at H;obtain ⟨R, rfl⟩ := h;obtain ⟨r, e⟩ := H;exact Xx e
  · rename_i a
    rw [HG a] at H;rcases h with rfl | rfl | rfl <;> rcases H with e | e | e
    · exact vU e
    all_goals first
      | exact Xx e
      | (have g := IC Str.length e
         simp only [mQ, l, L, f] at g;omega)
      | skip
    have E := IC (Array.toList ∘ Str.cps) e;have E : (A ++ (#[(List.toArray [c])] : Str) ++ S ++ ("z" : Str)).cps.toList = (A ++ (#[(List.toArray [C])] : Str) ++ S ++ ("z" : Str)).cps.toList := E;rw [kB, kB (A ++ _ ++ S)] at E;have b := Mz E;rw [kB, kB, kB, kB] at b;have := Op (Mz b);injection this
theorem Xy{y:List Str}:y.Nodup↔∀i j:Nat,i < j->j < y.length->y[i]?≠y[j]?:=by
 unfold List.Nodup;rw[List.pairwise_iff_getElem];refine#[λh i j H a e=>?_,λh i j b a H e=>h i j H a ?_]
 ·rw[G8 (by omega:i < y.length),G8 a]at e;injection e with e;exact h i j Sf a H e
 ·rw[G8 b,G8 a,e]
theorem tV{A S:Str}{d D:Int}{Y:List Str}(b:A.length+S.length<=5)(g:Y.length<=20)(h:∀j y,Y[j]?=some y->Sh A S D (oA d j) y):Y.Nodup:=by rw[Xy];intro i j c H e;have a:=h i _ (G8 (by omega:i < Y.length));have f:=h j _ (G8 H);rw[G8 (by omega:i < Y.length),G8 H]at e;injection e with e;rw[e]at a;have:=vO Sf Sf (Ef b a f);omega
theorem Z5{y:List Str}(h:y.Nodup)(b:a∉y):(y.set n a).Nodup:=by
 rw[Xy]at h ⊢;intro i j H c e;rw[M1]at c;by_cases d:n=i
 ·rw[d,K' Sf,IY Sf]at e;exact b$ Hu e.symm
 ·by_cases f:n=j
  ·rw[f,K' Sf,IY Sf]at e;exact b$ Hu e
  ·rw[IY d,IY f]at e;exact h i j H c e
theorem wc{y:List Str}(h:nj (.str a) (y.map V.str)=false):a∉y:=λm=>by unfold nj at h;rw[O8]at h;exact h (.str a) (List.mem_map.mpr #[a,m,Z]) (by simp [ma])
theorem vC{ss:List Str}{d1 d2:Int}(h:ss.length=(1+d1).toNat)(a:0<=d2)(b:d2 < 1+d1):(a9 ss none$ some d2).length+(a9 ss (some$ d2+1) none).length<=d1.toNat:=by
 obtain⟨k,rfl⟩:∃k:Nat,d2=k:=#[d2.toNat,(Nl a).symm];obtain⟨n,rfl⟩:∃n:Nat,d1=n:=#[d1.toNat,(Nl Sf).symm];have H:k<=n:=by omega
 have h:ss.length=n+1:=by rw[h];omega
 clear a b;unfold a9;rw[show((k:Int)+1)=((k+1:Nat):Int) from Z,HT.sIx_nat,HT.sIx_nat,HL,HL,Lb,h,Ll$ IU H,Ll$ Nat.le_succ_of_le H];refine Hr (Nat.add_le_add (NT _ _)$ NT _ _) ?_;show k - 0+(n+1 - (k+1))<=n;rw[Ny,Nat.add_sub_add_right,OT H];exact Hg _
theorem FJ{S:Str}:Sh A S d c ("qqqqqqq"++#[(List.toArray [c])]):=by
 unfold Sh;split
 ·exact#[_,Z]
 ·exact .inr$ .inr Z
theorem FK{A S:Str}{d:Int}{c:Nat}{w:Str}(h:if d=2 then ∃R:Str,w=R++#[(List.toArray [c])] else w=A++#[(List.toArray [c])]++S∨w=A++#[(List.toArray [c])]++S++"z"):Sh A S d c w:=by
 unfold Sh;split at h
 ·rename_i e;rw[HD e];exact h
 ·rename_i e;rw[HG e];exact h.elim .inl λz=>.inr (.inl z)
noncomputable def pre(s:List Str)(d:Int):Str:=Txt.join "" (a9 s none$ some d)
noncomputable def eN(s:List Str)(d:Int):Str:=Txt.join "" (a9 s (some$ d+1) none)
inductive dY(b:List V)(H:Hp)(Q:VK)(a:XK):Prop
 |mk(p:Addr)(n:Int)(_:b=[.ref p,.int n])(_:ao H p)(_:1<=n)(_:n<=20)(_:∀(r:Addr) (ys:List Str) (H':Hp),H r=none->H' r=some (.lst (ys.map V.str))->(ys.length:Int)=n->(∀y∈ys,y.length<=20)/\ys.Nodup->ao H' p->ar p H H'->Q (.ref r) H')
theorem aW:ak z27z z20z (aa gV):=bu
noncomputable def Qa:Scope:=#[.function,[(".0",.local),("_law_k",.local),("_law_take",.globalImplicit),("_law_box_here",.free),("_law_letters",.free)],false,false,[]]
theorem YB:(z28z:List Str).Nodup:=by decide+kernel
theorem YC:aT z27z (aa gV) Qa z28z 1 [0,2]:=l8
noncomputable def Qb:Scope:=#[.function,[(".0",.local),("_law_j",.local),("_law_take",.globalImplicit),("_law_box_here",.free),("_law_letters",.free)],false,false,[]]
theorem YD:(z29z:List Str).Nodup:=by decide+kernel
theorem YE:aT z27z (aa gV) Qb z29z 1 [0,2]:=l8
theorem Jc{p:Addr}{Q:List V->Hp->Prop}(o:n<=20)(B:ao f p)
  (q:∀(S:List Str) (H:Hp),S.length=n->(∀s∈S,s.length<=1)->ao H p->(∀b,b≠p->H b=f b)->Q (S.map V.str) H):
  dI (va 0 n) 1 [some$ .ref p,some$ .str df] (bf 0) j' (dD wU (aV 2)$ dC aL [] E0$ al (aV 1)$ al (tC$ .int 26) aM) Q f:=by
 refine qj (λi y H=>∃S:List Str,y=S.map V.str/\S.length=i/\(∀s∈S,s.length<=1)/\ao H p/\∀b,b≠p->H b=f b)
  #[[],Z,Z,(λ_ h=>nomatch h),B,λ_ _=>Z] (Hr o Se) (λi y H #[S,e,l,_]=>by rw[e,He,l];exact Hg _) ?_ ?_
 ·intro i y H x a;obtain⟨S,rfl,g,j,m,E⟩:=a;refine#[_,Z,_,Z,p,26,Z,m,Se,Se,λd A D r t u=>?_];obtain⟨c,v⟩:=ui (z:=df) D (by rw[JI];exact r);refine#[_,_,c,Z,Z,Se,v,S++[#[(List.toArray [c])]],by rw[Hz];rfl,by rw[Hf,g];rfl,λs hs=>?_,t,λb N=>(u b N).trans (E b N)];rcases List.mem_append.mp hs with hs |hs
  ·exact j s hs
  ·rw[List.mem_singleton.mp hs];exact Hg 1
 ·intro y H a;obtain⟨S,rfl,g,j,m,E⟩:=a;exact q S H g j m E
def Rw(p g r:Addr)(n d D b e:Int)(i c:Nat)(s y:List Str)(H:Hp)(L:Nat)(Z:Str->Prop):_L.St->Hp->Prop:=λa h=>∃W:Str,(W.length<=L/\Z W)/\
 a=[some$ .ref p,some$ .int n,some$ .str df,some$ .int (1+d),some$ .int D,some$ .ref g,some$ .int b,some$ .int e,some$ .ref r,some$ .int (0+(i:Int)),some$ .str #[(List.toArray [c])],some$ .str W,none,none]/\
 h g=some (.lst$ s.map V.str)/\h r=some (.lst$ y.map V.str)/\ao h p/\ar p H h
def Rf(p r:Addr)(n:Int)(H:Hp):_L.St->Hp->Prop:=λa h=>a[8]?=some (some$ .ref r)/\∃Y:List Str,h r=some (.lst$ Y.map V.str)/\(Y.length:Int)=n/\((∀y∈Y,y.length<=20)/\Y.Nodup)/\ao h p/\ar p H h
theorem Qz(Y:List Str):(Y.map V.str).all ci=true:=by rw[MK];intro v h;obtain⟨y,_,rfl⟩:=List.mem_map.mp h;rfl
theorem tS(Y:List Str)(j:Nat)(y:Str):(Y.map V.str).set j (V.str y)=(Y.set j y).map V.str:=(Rh ..).symm
inductive NI(p g r:Addr)(n b c d e:Int)(v:List Str)(H:Hp)(i:Nat)(x:_L.St)(a:Hp):Prop
 |mk(s t u:Option V)(w:List Str)(f:x=[some (.ref p),some (.int n),some (.str df),some (.int (1+b)),some (.int c),some (.ref g),some (.int d),some (.int e),some (.ref r),s,t,u,none,none])(h:a g=some (.lst (v.map V.str)))(k:a r=some (.lst (w.map V.str)))(l:w.length=i)(m:(∀y∈w,y.length<=20)/\∀j y,w[j]?=some y->Sh (pre v c) (eN v c) e (oA d j) y)(o:ao a p)(q:ar p H a)
theorem rV(F:aK K "_law_names" "_law_names" gV f fd)(GT:ah P w K mg base aA 1 fT f4 z0z aL)(x:ay K f4 z0z [])(C:keepIn K (.ref fT)=true)
  (M:mg "_law_take"=some (.ref fT)) (mr:mg "range"=none):ah P w K mg base aA 2 f fd z20z dY:=by
 refine F.ok aW ?_ λc1 A o1 s H vs Q E D h=>?_
 ·rintro _ _ _ _ ⟨p,n,rfl,_⟩;rfl
 obtain⟨p,n,rfl,B,a2,a3,q⟩:=h;refine#[_,(@jd _ _ _ _ _ (@kI _ _ (2) _ _ _ _ aW.nd Z (Or.inr Z) (@jk _ _ _ _) Sl$ .inl Z)$ @jd _ _ _ _ _ (@kI _ _ (3) _ _ _ _ aW.nd Z (Or.inl Z) (@ju _ _ _ _ _ _ _ _ jY (@jf _ _ _ _)$ @kf _ _ _ _ _ _ _ _ _ _ _ _ _ _ _ _ GT D Z M C x .nil bp (@ja _ _ _ _ _ (@pv _ 0 _ _ Sl (.inr$ .inl Z) Se Se) (@ja _ _ _ _ _ (@jf _ _ _ _) (@jb _) Sl) Sl) Se Sl Sl) Sl$ .inl Z)$ @jd _ _ _ _ _ (@kI _ _ (4) _ _ _ _ aW.nd Z (Or.inl Z) (@kf _ _ _ _ _ _ _ _ _ _ _ _ _ _ _ _ GT D Z M C x .nil bp (@ja _ _ _ _ _ (@pv _ 0 _ _ Sl (.inr$ .inl Z) Se Se) (@ja _ _ _ _ _ (@pv _ 3 _ _ Sl (.inl Z) Se Se) (@jb _) Sl) Sl) Se Sl Sl) Sl$ .inl Z)$ @jd _ _ _ _ _ (@QW _ _ _ _ _ _ _ _ _ _ (5) (z28z) (1) ([0,2]) _ _ _ _ aW.nd Z (Or.inl Z) Z (@j6 _ _ _ _ _ _ Z mr (@ja _ _ _ _ _ (@pv _ 3 _ _ Sl (by first |exact Or.inl Z |exact Or.inr (Or.inl Z) |exact Or.inr$ Or.inr Z) Se Se) (@jb _) Sl) Sl) YC (λ_ _ _ _ _=>(@js _ _ (0) _ YB Z (Or.inl Z) (by first |exact .inl Z |exact .inr Z))) (λ_ _ _ _ _=>(@kM _)) (λ_ _ _ _ _=>(@jr _ _ _ _ _ _ _ Kb (@pv _ 2 _ _ Sl (by first |exact Or.inl Z |exact Or.inr (Or.inl Z) |exact Or.inr$ Or.inr Z) Se Se) (@kf _ _ _ _ _ _ _ _ _ _ _ _ _ _ _ _ GT D Z M C x .nil bp (@ja _ _ _ _ _ (@pv _ 1 _ _ Sl (by first |exact Or.inl Z |exact Or.inr (Or.inl Z) |exact Or.inr$ Or.inr Z) Se Se) (@ja _ _ _ _ _ (@jf _ _ _ _) (@jb _) Sl) Sl) Se Sl Sl) (λ_ _=>Z))) Sl (by first |exact .inl Z |exact .inr Z) (by intro _;rfl))$ @jd _ _ _ _ _ (@kI _ _ (6) _ _ _ _ aW.nd Z (Or.inl Z) (@kf _ _ _ _ _ _ _ _ _ _ _ _ _ _ _ _ GT D Z M C x .nil bp (@ja _ _ _ _ _ (@pv _ 0 _ _ Sl (.inr$ .inl Z) Se Se) (@ja _ _ _ _ _ (@jf _ _ _ _) (@jb _) Sl) Sl) Se Sl Sl) Sl$ .inl Z)$ @jd _ _ _ _ _ (@kI _ _ (7) _ _ _ _ aW.nd Z (Or.inl Z) (@kf _ _ _ _ _ _ _ _ _ _ _ _ _ _ _ _ GT D Z M C x .nil bp (@ja _ _ _ _ _ (@pv _ 0 _ _ Sl (.inr$ .inl Z) Se Se) (@ja _ _ _ _ _ (@jf _ _ _ _) (@jb _) Sl) Sl) Se Sl Sl) Sl$ .inl Z)$ @jd _ _ _ _ _ (@kI _ _ (8) _ _ _ _ aW.nd Z (Or.inl Z) (@jD _ _ _ _$ @jb _) Sl$ .inl Z)$ @jd _ _ _ _ _ (@km _ _ _ _ _ _ _ _ HZ Z (@j6 _ _ _ _ _ _ Z mr (@ja _ _ _ _ _ (@pv _ 1 _ _ Sl (.inl Z) Se Se) (@jb _) Sl) Sl) (@js _ _ (9) _ aW.nd Z (Or.inl Z)$ .inl Z) (@jd _ _ _ _ _ (@kI _ _ (10) _ _ _ _ aW.nd Z (Or.inl Z) (@jr _ _ _ _ _ _ _ Kb (@pv _ 2 _ _ Sl (.inr$ .inl Z) Se Se) (@ju _ _ _ _ _ _ _ _ kU (@ju _ _ _ _ _ _ _ _ jY (@pv _ 6 _ _ Sl (.inl Z) Se Se)$ @ju _ _ _ _ _ _ _ _ zn (@jf _ _ _ _)$ @pv _ 9 _ _ Sl (.inl Z) Se Se)$ @jf _ _ _ _) (λ_ _=>Z)) Sl$ .inl Z)$ @jd _ _ _ _ _ (@jZ _ _ _$ @kI _ _ (11) _ _ _ _ aW.nd Z (Or.inl Z) (@ju _ _ _ _ _ _ _ _ zA (@ju _ _ _ _ _ _ _ _ zA (@kr _ _ _ _ _ _ _ _ _ _ _ _ MH MN MM QX (@jk _ _ _ _) (@ja _ _ _ _ _ (@jK _ _ _ _ _ _ _ _ _ _ kh (@pv _ 5 _ _ Sl (.inl Z) Se Se) (@j8 _)$ @jI _ _ _$ @pv _ 4 _ _ Sl (.inl Z) Se Se) (@jb _) Sl) Sl Sl Sl Sl Sl)$ @pv _ 10 _ _ Sl (.inl Z) Se Se)$ @kr _ _ _ _ _ _ _ _ _ _ _ _ MH MN MM QX (@jk _ _ _ _) (@ja _ _ _ _ _ (@jK _ _ _ _ _ _ _ _ _ _ kh (@pv _ 5 _ _ Sl (.inl Z) Se Se) (@jI _ _ _$ @ju _ _ _ _ _ _ _ _ jY (@pv _ 4 _ _ Sl (.inl Z) Se Se)$ @jf _ _ _ _)$ @j8 _) (@jb _) Sl) Sl Sl Sl Sl Sl) Sl$ .inl Z)$ @jd _ _ _ _ _ (@jZ _ _ _$ @jw _ _ _ _ _ _ _ _ (@PW.pt _ _ _$ @J9 _ _ _ _ _ _ _ (kE$ @pv _ 7 _ _ Sl (.inl Z) Se Se)$ @qM _ _ _ _$ kE$ @ju _ _ _ _ _ _ _ _ kU (@pv _ 9 _ _ Sl (.inl Z) Se Se)$ @jf _ _ _ _) (@jg _ _ _$ @kI _ _ (11) _ _ _ _ aW.nd Z (Or.inl Z) (@ju _ _ _ _ _ _ _ _ zA (@pv _ 11 _ _ Sl (.inl Z) Se Se)$ @jk _ _ _ _) Sl$ .inl Z)$ @jp _)$ @jd _ _ _ _ _ (@jZ _ _ _$ @jw _ _ _ _ _ _ _ _ (kE$ @pv _ 7 _ _ Sl (.inl Z) Se Se) (@jg _ _ _$ @kI _ _ (11) _ _ _ _ aW.nd Z (Or.inl Z) (@ju _ _ _ _ _ _ _ _ zA (@kr _ _ _ _ _ _ _ _ _ _ _ _ MH MN MM QX (@jk _ _ _ _) (@ja _ _ _ _ _ (@ki _ _ _ _ _ _ _ (z29z) (1) ([0,2]) _ _ _ _ Z (@j6 _ _ _ _ _ _ Z mr (@ja _ _ _ _ _ (@kf _ _ _ _ _ _ _ _ _ _ _ _ _ _ _ _ GT D Z M C x .nil bp (@ja _ _ _ _ _ (@pv _ 0 _ _ Sl (by first |exact Or.inl Z |exact Or.inr (Or.inl Z) |exact Or.inr$ Or.inr Z) Se Se) (@ja _ _ _ _ _ (@jf _ _ _ _) (@jb _) Sl) Sl) Se Sl Sl) (@jb _) Sl) Sl) YE (λ_ _ _ _ _=>(@js _ _ (0) _ YD Z (Or.inl Z) (by first |exact .inl Z |exact .inr Z))) (λ_ _ _ _ _=>(@kM _)) (λ_ _ _ _ _=>(@jr _ _ _ _ _ _ _ Kb (@pv _ 2 _ _ Sl (by first |exact Or.inl Z |exact Or.inr (Or.inl Z) |exact Or.inr$ Or.inr Z) Se Se) (@kf _ _ _ _ _ _ _ _ _ _ _ _ _ _ _ _ GT D Z M C x .nil bp (@ja _ _ _ _ _ (@pv _ 1 _ _ Sl (by first |exact Or.inl Z |exact Or.inr (Or.inl Z) |exact Or.inr$ Or.inr Z) Se Se) (@ja _ _ _ _ _ (@jf _ _ _ _) (@jb _) Sl) Sl) Se Sl Sl) (λ_ _=>Z))) (by intro _;rfl)) (@jb _) Sl) Sl Sl Sl Sl Sl)$ @pv _ 10 _ _ Sl (.inl Z) Se Se) Sl$ .inl Z)$ @jp _)$ @jd _ _ _ _ _ (@jZ _ _ _$ @jw _ _ _ _ _ _ _ _ (@jA _ _ _ _ _ _ _ _ zi (@pv _ 11 _ _ Sl (.inl Z) Se Se) (@jh _ _ _ _ _$ @QY _ _ Sl) Z) (@jg _ _ _$ @kI _ _ (11) _ _ _ _ aW.nd Z (Or.inl Z) (@ju _ _ _ _ _ _ _ _ zA (@jk _ _ _ _)$ @pv _ 10 _ _ Sl (.inl Z) Se Se) Sl$ .inl Z)$ @jp _)$ @jg _ _ _$ @jN _ _ _ _ (@kr _ _ _ _ _ _ _ _ _ _ _ _ Hv HP HN jP (@pv _ 8 _ _ Sl (.inl Z) Se Se) (@ja _ _ _ _ _ (@pv _ 11 _ _ Sl (.inl Z) Se Se) (@jb _) Sl) Sl Sl Sl Sl Sl) Sl) (by intro _;rfl))$ @jd _ _ _ _ _ (@jZ _ _ _$ @jw _ _ _ _ _ _ _ _ (@jA _ _ _ _ _ _ _ _ Jx (@kf _ _ _ _ _ _ _ _ _ _ _ _ _ _ _ _ GT D Z M C x .nil bp (@ja _ _ _ _ _ (@pv _ 0 _ _ Sl (.inr$ .inl Z) Se Se) (@ja _ _ _ _ _ (@jf _ _ _ _) (@jb _) Sl) Sl) Se Sl Sl) (@jf _ _ _ _)$ aC _) (@jd _ _ _ _ _ (@kI _ _ (12) _ _ _ _ aW.nd Z (Or.inl Z) (@jD _ _ _ _$ @QY _ _ Sl) Sl$ .inl Z)$ @jd _ _ _ _ _ (@kI _ _ (13) _ _ _ _ aW.nd Z (Or.inl Z) (@jr _ _ _ _ _ _ _ jq (@pv _ 12 _ _ Sl (.inl Z) Se Se) (@kf _ _ _ _ _ _ _ _ _ _ _ _ _ _ _ _ GT D Z M C x .nil bp (@ja _ _ _ _ _ (@pv _ 0 _ _ Sl (.inr$ .inl Z) Se Se) (@ja _ _ _ _ _ (@jf _ _ _ _) (@jb _) Sl) Sl) Se Sl Sl) (λ_ _=>Z)) Sl$ .inl Z)$ @jg _ _ _$ @jw _ _ _ _ _ _ _ _ (@jA _ _ _ _ _ _ _ _ qX (@pv _ 13 _ _ Sl (.inl Z) Se Se) (@pv _ 8 _ _ Sl (.inl Z) Se Se) Z) (@jg _ _ _$ @kQ _ _ _ _ _ _ (@pv _ 13 _ _ Sl (.inl Z) Se Se) (@z9 _ _ _ _ _ _ _ (@pv _ 8 _ _ Sl (.inl Z) Se Se) (@kf _ _ _ _ _ _ _ _ _ _ _ _ _ _ _ _ GT D Z M C x .nil bp (@ja _ _ _ _ _ (@pv _ 0 _ _ Sl (.inr$ .inl Z) Se Se) (@ja _ _ _ _ _ (@pv _ 1 _ _ Sl (.inl Z) Se Se) (@jb _) Sl) Sl) Se Sl Sl) zd (by intro _;rfl)) Sl Sl Sl)$ @jp _)$ @jp _)$ @jg _ _ _$ @jm _ _ _ _$ @pv _ 8 _ _ Sl (.inl Z) Se Se),?_];refine eM λE0 f0=>f0 _ _ ?_;refine eM λG a=>#[_,Z,p,6,Z,B,Se,Se,λd1 H1 a4 a5 U e1=>#[_,_,Z,Z,a _ _ ?_]];refine eM λE2 f2=>#[_,Z,_,Z,p,_,Z,U,Sf,Sf,λd2 H2 a6 a8 B2 e2=>f2 _ _ ?_];clear f0 a f2;refine eM λG a=>#[_,Z,_,Z,Sf,Sf,?_];refine Jc (p:=p) Sf B2 λss H3 a1 e B3 e3 g hg=>a _ _ ?_;clear a;have k3:ar p H H3:=(ar.of_eq e1).trans ((ar.of_eq e2).trans$ ar.of_eq e3);have v:g≠p:=B3.ne hg;refine eM λG a=>#[_,Z,p,26,Z,B3.upd_new hg,Se,Se,λW H4 a' b0 B4 e4=>a _ _ ?_];refine eM λE2 f2=>#[_,Z,p,3,Z,B4,Se,Se,λI H5 b1 b2 B5 e5=>f2 _ _ ?_];clear a f2;have h2:H5 g=some (.lst$ ss.map V.str):=by rw[e5 g v,e4 g v];exact jc
 have k5:ar p H H5:=(k3.upd_new hg).trans ((ar.of_eq e4).trans$ ar.of_eq e5);refine eM λG a=>#[Se,λr u=>a _ _ ?_];clear a;have m:r≠p:=B5.ne u;have h4:g≠r:=jl h2 u;have n3:H g=none:=by
  cases z:H g with
  |none=>rfl
  |some o=>have:=k3 g o v z;rw[hg]at this;cases this
 have X:H r=none:=by
  cases z:H r with
  |none=>rfl
  |some o=>have:=k5 r o m z;rw[u]at this;cases this
 have b3:=zr;refine eM λG a=>eI λJ j=>#[_,Z,_,Z,Sf,Sf,j _ _ ?_];clear j;refine zB (lo:=0) (NI p g r n d1 d2 W I ss H) #[none,none,none,[],Z,am h2 u,jc,Z,#[(λ_ h=>nomatch h),(λ_ _ h=>nomatch h)],B5.upd_new u,k5.upd_new u] ?_ ?_
 ·intro E0 _ i σ H' hi fE Gq T b;obtain⟨ok,oo,ow,ys,rfl,L,Y,h0,d,B',k'⟩:=b;clear a;obtain⟨c,hc⟩:=ui (z:=df) (k:=(W+5*(0+(i:Int))) % 26) (Iw _ Se) (by rw[JI];exact Ia _ Se);refine T ?_;clear T;show gf (dS _ _) _ E0 _ _;refine eM λG a=>#[_,Z,_,Z,_,Z,_,_,Z,Z,.inl #[Se,Se],_,_,Z,Z,_,_,Z,Z,(by show(0:Int) < 26;decide),_,_,c,Z,Z,Se,hc,a _ _ ?_];clear a;have b4:(#[(List.toArray [c])]:Str).length=1:=rfl;have h5:c=oA W i:=AO (Iw _ Se) (Ia _ Se) hc;refine eM λG a=>dm (Rw p g r n d1 d2 W I i c ss ys H 13 (·=pre ss d2++#[(List.toArray [c])]++eN ss d2)) (λE2 _ t=>?_) λO H1 b=>?_
  ·clear a fE;refine#[Z,_,Z,_,Z,_,Z,g,_,Z,aB.of L,λs1 n1=>?_];have z1:=qO (ys:=a9 ss none (some d2)) λy d=>e y (zK d);have z2:=qg ss none (some d2);refine#[_,s1,a9 ss none$ some d2,Z,Z,aB.of (by rw[jc,zu]),Se,Sf,?_];have j1:=qP (z:="") (ys:=a9 ss none (some d2)) Sj λy d=>e y (zK d);refine#[_,Z,_,_,Z,Z,Sf,?_];refine#[Z,_,Z,_,Z,_,_,Z,Z,_,Z,g,_,Z,aB.of$ am L n1,λs2 n2=>?_];have z3:=qO (ys:=a9 ss (some$ d2+1) none) λy d=>e y (zK d);have z4:=qg ss (some$ d2+1) none;refine#[_,s2,a9 ss (some$ d2+1) none,Z,Z,aB.of (by rw[jc,zu]),Se,Sf,?_];have j2:=qP (z:="") (ys:=a9 ss (some$ d2+1) none) Sj λy d=>e y (zK d);refine#[_,_,Z,Z,by rw[mQ];omega,?_];exact t _ _ #[_,#[by show(Txt.join ("":Str) (a9 ss none$ some d2)++(#[(List.toArray [c])]:Str)++Txt.join ("":Str) (a9 ss (some$ d2+1) none)).length<=13;rw[mQ,mQ];omega,Z],Z,am (am L n1) n2,am (am Y n1) n2,(B'.upd_new n1).upd_new n2,(k'.upd_new n1).upd_new n2]
  obtain⟨w1,⟨b5,z1⟩,rfl,g1,r1,U,k1⟩:=b;refine a _ _ ?_;clear a;refine eM λG a=>dm (Rw p g r n d1 d2 W I i c ss ys H 14 (λw=>w=pre ss d2++#[(List.toArray [c])]++eN ss d2∨w=pre ss d2++#[(List.toArray [c])]++eN ss d2++"z")) (λE2 _ t=>?_) λO H2 b=>?_
  ·clear a fE;refine#[_,Z,Z,_,Z,?_];refine bG (λS=>?_) (λS=>?_)
   ·refine#[_,Z,_,_,Z,Z,(by show(0:Int) < 2;decide),Z,_,Z,?_];refine bG (λcb=>?_) (λcb=>?_)
    ·have hz:(Str.ofString "z").length=1:=by decide+kernel
     refine#[_,Z,_,_,Z,Z,by rw[hz];omega,?_];exact t _ _ #[_,#[by rw[mQ,hz];omega,.inr (by rw[z1])],Z,g1,r1,U,k1]
    ·exact t _ _ #[w1,#[Sf,.inl z1],Z,g1,r1,U,k1]
   ·exact ou$ t _ _ #[w1,#[Sf,.inl z1],Z,g1,r1,U,k1]
  obtain⟨w2,⟨b7,z2⟩,rfl,g2,r2,B2,k2⟩:=b;refine a _ _ ?_;clear a;refine eM λG a=>dm (Rw p g r n d1 d2 W I i c ss ys H 14 (λw=>if I=2 then ∃R:Str,w=R++#[(List.toArray [c])] else w=pre ss d2++#[(List.toArray [c])]++eN ss d2∨w=pre ss d2++#[(List.toArray [c])]++eN ss d2++"z")) (λE2 _ t=>?_) λO H3 b=>?_
  ·clear a fE;refine#[_,Z,Z,_,Z,?_];refine bG (λS=>?_) (λS=>?_)
   ·refine#[Z,_,Z,p,8,Z,B2,Se,Se,λd6 H6 d0 d3 B6 e6=>?_];refine#[_,Z,Sf,Sf,?_];refine Jc (p:=p) Sf B6 λtt H7 b9 h3 B7 e7 g7 n7=>?_;have jt:=qP (z:="") (ys:=tt) Sj h3;have zt:=qO h3;refine#[_,g7,tt,Z,Z,aB.of jc,Se,Sf,?_];refine#[_,Z,_,_,Z,Z,Sf,?_];have g8:H7 g=some (.lst$ ss.map V.str):=by rw[e7 g v,e6 g v];exact g2
    have r8:H7 r=some (.lst$ ys.map V.str):=by rw[e7 r m,e6 r m];exact r2
    have e5:I=2:=by injection ID S
    exact t _ _ #[_,#[by rw[mQ];omega,(HD e5).mpr #[_,Z]],Z,am g8 n7,am r8 n7,B7.upd_new n7,(k2.trans ((ar.of_eq e6).trans$ ar.of_eq e7)).upd_new n7]
   ·have e5:I≠2:=λz=>S (by rw[z];exact Hw Z);exact t _ _ #[w2,#[Sf,(HG e5).mpr z2],Z,g2,r2,B2,k2]
  obtain⟨w3,⟨b',z3⟩,rfl,g3,r3,B3,k3⟩:=b;refine a _ _ ?_;clear a;refine eM λG a=>dm (Rw p g r n d1 d2 W I i c ss ys H 14$ Sh (pre ss d2) (eN ss d2) I c) (λE2 _ t=>?_) λO H4 b=>?_
  ·clear a fE;refine#[_,Z,Se,λt0 N=>?_];refine#[t0,_,Z,.inr$ ax.of jc,Z,ZN Sl,_,Z,?_];refine bG (λS=>?_) (λS=>?_)
   ·have hq:(Str.ofString "qqqqqqq").length=7:=by decide+kernel
    refine#[_,Z,_,_,Z,Z,by rw[hq];omega,?_];exact t _ _ #[_,#[by rw[mQ,hq];omega,FJ],Z,am g3 N,am r3 N,B3.upd_new N,k3.upd_new N]
   ·exact t _ _ #[w3,#[Sf,FK z3],Z,am g3 N,am r3 N,B3.upd_new N,k3.upd_new N]
  obtain⟨w4,⟨c2,z4⟩,rfl,g4,r4,B4,k4⟩:=b;refine a _ _ ?_;clear a;refine#[_,Z,.inl #[Z,_,aB.of r4],_,Z,r,_,_,Z,Z,r4,by rw[He];omega,?_];refine fE _ _ #[_,_,_,ys++[w4],Z,by rw[ji h4];exact g4,by rw[jc,Hz];rfl,by rw[Hf,h0];rfl,#[λy hm=>?_,λj y hj=>?_],B4.eq$ ji$ HR m,k4.upd_own X]
  ·rcases List.mem_append.mp hm with hm |hm
   ·exact d.1 y hm
   ·rw[List.mem_singleton.mp hm];omega
  ·by_cases h6:j < ys.length
   ·rw[Li h6]at hj;exact d.2 j y hj
   ·have lj:=(List.getElem?_eq_some_iff.mp hj).1;rw[Hf,Lx]at lj;have ej:j=ys.length:=by omega
    rw[ej,Ld$ Hg _,MY]at hj;injection hj with hj;rw[<- hj,ej,h0,<- h5];exact z4
 ·intro σ H' b;obtain⟨ok,oo,ow,ys,rfl,L,Y,h0,d,B',k'⟩:=b;have h1:(ys.length:Int)=n:=by omega
  have f5:=vC (ss:=ss) (d1:=d1) (d2:=d2) Sf Sf Sf;have j1:(pre ss d2).length<=_:=qP (z:="") (ys:=a9 ss none (some d2)) Sj λy d=>e y (zK d);have j2:(eN ss d2).length<=_:=qP (z:="") (ys:=a9 ss (some$ d2+1) none) Sj λy d=>e y (zK d);have nd:=tV Sf Sf d.2;have d:=d.1;refine a _ _ ?_;clear a;refine aj λF1 a=>dm (Rf p r n H) (λE2 _ t=>?_) λO H1 b=>?_
  ·clear a;refine ni λG' g'=>#[_,Z,p,6,Z,B',Se,Se,λd6 H6 d0 d3 B6 e6=>#[Z,_,Z,g' _ _ ?_]];clear g';have r6:H6 r=some (.lst$ ys.map V.str):=by rw[e6 r m];exact Y
   have k6:ar p H H6:=k'.trans (ar.of_eq e6);refine bG (λS=>?_) (λS=>?_)
   ·refine eM λE3 f3=>#[Se,λt0 N=>f3 _ _ ?_];clear f3;have t1:t0≠p:=B6.ne N;refine eM λE4 f3=>#[_,Z,_,Z,p,13,Z,B6.upd_new N,Se,Se,λd7 H7 d9 d' B7 e7=>?_];have t7:H7 t0=some (.lst ((z30z:List Str).map V.str)):=((e7 t0 t1).trans jc).trans (IC (λl=>some (HO.lst l)) Sj);have r7:H7 r=some (.lst$ ys.map V.str):=by rw[e7 r m];exact am r6 N
    have k7:ar p H H7:=(k6.upd_new N).trans (ar.of_eq e7);obtain⟨od,h7,h8⟩:=Jg (ys:=(z30z:List Str)) d9 (by simpa using d');refine#[t0,_,_,_,Z,Z,aB.of t7,h8,f3 _ _ ?_];clear f3;have h9:od.length<=20:=by
     have:∀y∈(z30z:List Str),y.length<=20:=by decide+kernel
     exact this od h7
    refine ni λG' g'=>#[_,Z,_,Z,r,_,Z,.inl$ aB.of r7,Z,Qz _,_,Z,g' _ _ ?_];clear g';refine bG (λcb=>?_) (λcb=>?_)
    ·refine#[_,Z,_,Z,_,Z,_,Z,p,n,Z,B7,Sf,Sf,λd8 H8 a0 c3 B8 e8=>?_];have r8:H8 r=some (.lst$ ys.map V.str):=by rw[e8 r m];exact r7
     have k8:ar p H H8:=k7.trans (ar.of_eq e8);refine#[r,_,d8,d8.toNat,Z,Z,r8,?_,?_]
     ·unfold my;rw[HD a0,He,HD Sf]
     refine t _ _ #[Z,ys.set d8.toNat od,by rw[jc,tS],by rw[M1];exact h1,#[λy hm=>?_,Z5 nd$ wc (by have c0:(!nj (.str od) (ys.map V.str))=true:=cb;rw[Pb]at c0;exact c0)],B8.eq$ ji$ HR m,k8.upd_own X];rcases List.mem_or_eq_of_mem_set hm with hm |hm
     ·exact d y hm
     ·rw[hm];exact h9
    ·exact t _ _ #[Z,ys,r7,h1,#[d,nd],B7,k7]
   ·exact t _ _ #[Z,ys,r6,h1,#[d,nd],B6,k6]
  obtain⟨h',y0,r1,l1,y1,U,k1⟩:=b;refine a _ _ ?_;exact#[_,h',q r y0 H1 X r1 l1 y1 U k1]
def ai(H h:Hp):Prop:=∀b x,H b=some (.tup x)->h b=some (.tup x)
theorem ae.tm(a:ae H c):ai H c:=λb x h=>a b _ h
theorem je{H:Hp}{o:HO}(n:H p=none):ae H (af H p o):=λb u e=>am e n
theorem bQ{b:Bool}{A B:Prop}(h:b=true)(x:A):if b=true then A else B:=by rw[HD h];exact x
theorem aO{b:Bool}{A B:Prop}(h:b=false)(x:B):if b=true then A else B:=by rw[h,HG Hl];exact x
theorem aD:sizeLine=16777216:=by rw[Lw]
theorem ao.same(B:ao H p)(s:ae H c):ao c p:=by obtain⟨a,b,d,e,f,h⟩:=B.ob;exact#[a,b,d,e,f,s _ _ h]
theorem ar.of_same(s:ae H h):ar p H h:=λb o _ e=>s _ _ e
theorem ar.tm(k:ar p H h)(B:ao H p):ai H h:=λb x e=>by obtain⟨a,c,_,_,_,f⟩:=B.ob;exact k b _ (jO e f (by intro w;cases w)) e
theorem ar.none(k:ar p H h)(B:ao h p)(n:h r=none):H r=none:=by
 cases z:H r with
 |none=>rfl
 |some o=>have:=k _ _ (B.ne n) z;rw[n]at this;cases this
theorem QA{K:Frag}{a:Addr}{xs:List V}{t:TE}{Q:List V->Hp->Prop}(u:xs.length<=sizeLine)(Pv:Nat->List V->Hp->Prop)(l:Pv 0 [] H)
  (n:∀i Y h,Pv i Y h->aB K h a xs/\Y.length<=i) (o:∀i x Y h,xs[i]?=some x->Pv i Y h->t (some x::d) h λy c=>Pv (i+1) (Y++[y]) c) (q:∀Y h,Pv xs.length Y h->Q Y h):
  dI (uV K a) 1 d (bf 0) j' t Q H:=by
 refine#[λi m Y h=>m=xs.length - i/\i<=xs.length/\Pv i Y h,#[xs.length,Si,Ho _,l],?_];intro i m Y h f;obtain⟨rfl,z,p⟩:=f;obtain⟨g,A⟩:=n i Y h p;by_cases b:i < xs.length
 ·refine .inr #[#[xs,xs[i],g,G8 b],Sf,Pv$ i+1,λr c s=>#[xs.length - (i+1),Sf,Z,b,s],λv c T j y=>?_];obtain⟨e,y⟩:=y;subst e;obtain⟨w,rfl⟩:=rB j;exact#[#[[some _],Z,Z],o i v Y c (y xs g) p]
 ·have e:i=xs.length:=by omega
  subst e;exact .inl #[#[xs,g,Hg _],q Y h p]
theorem qr{K:Frag}{xs:List V}{t:TE}{Q:List V->Hp->Prop}(u:xs.length<=sizeLine)(Pv:Nat->List V->Hp->Prop)(l:Pv 0 [] H)
  (n:∀i Y h,Pv i Y h->ax K h a xs/\Y.length<=i) (o:∀i x Y h,xs[i]?=some x->Pv i Y h->t (some x::d) h λy c=>Pv (i+1) (Y++[y]) c) (q:∀Y h,Pv xs.length Y h->Q Y h):
  dI (vb K a) 1 d (bf 0) j' t Q H:=by
 refine#[λi m Y h=>m=xs.length - i/\i<=xs.length/\Pv i Y h,#[xs.length,Si,Ho _,l],?_];intro i m Y h f;obtain⟨rfl,z,p⟩:=f;obtain⟨g,A⟩:=n i Y h p;by_cases b:i < xs.length
 ·refine .inr #[#[xs,xs[i],g,G8 b],Sf,Pv$ i+1,λr c s=>#[xs.length - (i+1),Sf,Z,b,s],λv c T j y=>?_];obtain⟨e,y⟩:=y;subst e;obtain⟨w,rfl⟩:=rB j;exact#[#[[some _],Z,Z],o i v Y c (y xs g) p]
 ·have e:i=xs.length:=by omega
  subst e;exact .inl #[#[xs,g,Hg _],q Y h p]
noncomputable abbrev iS:Stmt:=bE 57
noncomputable abbrev nJ:Stmt:=bE 59
inductive Tm where
 |num (n:Int) |var (x:Str) |op (i:Nat) (a b:Tm)
noncomputable def Tm.depth:Tm->Nat
 | .num _=>0
 | .var _=>0
 | .op _ a b=>max a.depth b.depth+1
noncomputable def iX:Str:="+-*/<="
theorem tU:iX.length=6:=by decide+kernel
noncomputable def FH(i:Nat):Str:=#[(List.toArray [iX.cps.toList.getD i 0])]
theorem Ci(H:0<=d)(a:d < 6):dq iX.cps.toList d=some (iX.cps.toList.getD d.toNat 0):=by
 have b:iX.cps.toList.length=6:=by decide+kernel
 have h:d.toNat < iX.cps.toList.length:=by omega
 have e:d=((d.toNat:Nat):Int):=by omega
 have q:dq iX.cps.toList ((d.toNat:Nat):Int)=some (iX.cps.toList.getD d.toNat 0):=jM (by rw[Io,G8 h];rfl);rw[<- e]at q;exact q
def Tm.Good(y:List Str):Tm->Prop
 | .num n=>0<=n/\n < 1000000000000000000
 | .var x=>x∈y
 | .op i a b=>i < 6/\a.Good y/\b.Good y
def a7(H:Hp):Tm->Addr->Prop
 | .num n,p=>H p=some (.tup [.str "num",.int n])
 | .var x,p=>H p=some (.tup [.str "var",.str x])
 | .op i a b,p=>∃q r,H p=some (.tup [.str "op",.str (FH i),.ref q,.ref r])/\a7 H a q/\a7 H b r
theorem a7.mono{H a:Hp}(h:∀b x,H b=some (.tup x)->a b=some (.tup x)):∀{t:Tm} {p:Addr},a7 H t p->a7 a t p
 | .num _,_,e=>h _ _ e
 | .var _,_,e=>h _ _ e
 | .op _ _ _,_,z=>by obtain⟨q,r,e,E,c⟩:=z;exact #[q,r,h _ _ e,a7.mono h E,a7.mono h c]
theorem a7.same(h:ae H a)(e:a7 H t p):a7 a t p:=e.mono λb x z=>h b _ z
theorem a7.but(B:ao H p)(k:ar p H h)(e:a7 H t a):a7 h t a:=e.mono λb X z=>by obtain⟨x,y,_,_,_,d⟩:=B.ob;exact k b _ (jO z d (by intro q;cases q)) z
theorem a7.new{H:Hp}{o:HO}(n:H r=none)(e:a7 H t a):a7 (af H r o) t a:=e.mono λb x z=>am z n
inductive eB(c:List V)(H:Hp)(Q:VK)(a:XK):Prop
 |mk(p:Addr)(_:c=[.ref p])(_:ao H p)(_:∀(d:Int) (H':Hp),0<=d->d < 1000000000000000000->ao H' p->(∀b,b≠p->H' b=H b)->Q (.int d) H')
inductive cr(n:Nat)(b:List V)(H:Hp)(Q:VK)(a:XK):Prop
 |mk(p g:Addr)(d:Int)(c:List Str)(_:b=[.ref p,.ref g,.int d])(_:ao H p)(_:H g=some (.lst (c.map V.str)))(_:1<=c.length)(_:c.length<=20)(_:0<=d)(_:d < (n:Int))(_:∀(r:Addr) (T:Tm) (H':Hp),a7 H' T r->(T.depth:Int)<=d->T.Good c->ao H' p->ar p H H'->Q (.ref r) H')
theorem zp{Y:List Str}(B:ao H p)(h:H g=some (.lst$ Y.map V.str)):g≠p:=by
 obtain⟨x,y,_,_,_,b⟩:=B.ob;refine jO h b λz=>?_;injection z with z
 match Y,z with
 |a::r,z=>injection z with c _;cases c
theorem tK:ak z1z z1z (aa iS):=bu
theorem Z6(F:aK K "_law_number" "_law_number" iS f t)(C:Cl P w K mg base 1 I u z0z aL "_law_take"):ah P w K mg base aA 2 f t z1z eB:=by
 refine F.ok tK (λv H Q E h=>?_) (λx A o s H v Q E a h=>?_)
 ·obtain⟨p,rfl,_⟩:=h;rfl
 obtain⟨p,rfl,B,q⟩:=h;refine#[_,(jd (jw (kE$ C.e a$ ja (pv 0)$ ja jf jb) (jg$ jm$ C.e a$ ja (pv 0)$ ja (ju Ka jf jf) jb) jp)$ jg$ jm$ C.e a$ ja (pv 0)$ ja jf jb),?_];refine#[_,Z,p,4,Z,B,Se,Se,λL M y G m r=>#[Z,_,Z,?_]];refine bG (λc=>?_) (λc=>?_)
 ·refine#[_,Z,_,_,Z,Z,#[Se,Se,Se],p,_,Z,m,Se,Se,λD g d i j k=>?_];have z:=uE;exact q D g d Sf j λb n=>(k b n).trans (r b n)
 ·refine#[_,Z,p,9,Z,m,Se,Se,λD g d i j k=>?_];exact q D g d Sf j λb n=>(k b n).trans (r b n)
theorem mO:ak ["_law_box_here","_law_names_here","_law_deep","_law_kind","_law_one"] z8z (aa nJ):=bu
theorem wC(F:aK K "_law_term" "_law_term" nJ f fd)(cF:Cl P w K mg base (n+2) f fd z8z (cr n) "_law_term")(S:Cl P w K mg base 1 fT f0 z0z aL "_law_take")(cN:Cl P w K mg base 2 fN f2 z1z eB "_law_number")(ml:mg "len"=none):ah P w K mg base aA (n+3) f fd z8z (cr$ n+1):=by
 refine F.ok mO ?_ λc0 A T s H vs Q E u h=>?_
 ·rintro _ _ _ _ ⟨p,g,d,ys,rfl,_⟩;rfl
 obtain⟨p,g,d,ys,rfl,B,hg,v,x,h1,h2,q⟩:=h;refine#[_,(jd (jx 3 mO.nd$ S.e u.m$ ja (pv 0)$ ja jf jb)$ jd (jZ$ jw (PW.pt$ Jw (jA qH (pv 3) jf$ aC _)$ qB$ PW.pt$ J9 (jA qI (pv 3) jf$ aC _)$ qM$ kE$ pv 2) (jg$ jm$ jh$ ja jk$ ja (cN.e u.m$ ja (pv 0) jb) jb) jp)$ jd (jw (jA qH (pv 3) jf$ aC _) (jg$ jm$ jh$ ja jk$ ja (jr jq (pv 1) (S.e u.m$ ja (pv 0)$ ja (jH jE Z ml Ih$ ja (pv 1) jb) jb) (λ_ _=>Z)) jb) jp)$ jd (jx 4 mO.nd$ cF.e u$ ja (pv 0)$ ja (pv 1)$ ja (ju kJ (pv 2) jf) jb)$ jg$ jm$ jh$ ja jk$ ja (jr Kb jk (S.e u.m$ ja (pv 0)$ ja jf jb) (λ_ _=>Z))$ ja (pv 4)$ ja (cF.e u$ ja (pv 0)$ ja (pv 1)$ ja (ju kJ (pv 2) jf) jb) jb),?_];have b0:=zr;have j:g≠p:=zp B hg;refine aj λF1 l=>#[_,Z,p,6,Z,B,Se,Se,λM O k0 k1 R e1=>l _ _ ?_];clear l;have k:O g=some (.lst$ ys.map V.str):=by rw[e1 g j];exact hg
 have U:ar p H O:=ar.of_eq e1;have num:∀(D:Int) (a:Hp) (r:Addr),0<=D->D < 1000000000000000000->ao a p->(∀b,b≠p->a b=O b)->a r=none->Q (.ref r) (af a r$ .tup [.str "num",.int D]):=λD a r C I i o N=>
  q r (.num D) _ jc (by show((0:Nat):Int)<=d;omega) #[C,I] (i.upd_new N) ((U.trans$ ar.of_eq o).upd_new N)
 refine aj λF1 l=>dm (λJ H'=>J=[some$ .ref p,some$ .ref g,some$ .int d,some$ .int M,none]/\H'=O/\(M<=3∨d≠0)) (λE2 eR fm=>?_) λJ H' W=>?_
 ·clear l;refine ni λG' G=>#[_,Z,_,_,Z,Z,_,Z,?_];refine bG (λc=>?_) (λc=>?_)
  ·refine G _ _$ oy ?_;show iy _ E2 _ _;unfold iy;rw[eR];exact#[_,Z,p,Z,R,λD a C I i o=>#[bK,λr N=>num D a r C I i o N]]
  refine#[_,Z,_,_,Z,Z,_,Z,?_];refine bG (λc2=>?_) (λc2=>?_)
  ·refine#[_,Z,Z,_,Z,G _ _ ?_];refine bG (λc3=>?_) (λc3=>?_)
   ·show iy _ E2 _ _;unfold iy;rw[eR];exact#[_,Z,p,Z,R,λD a C I i o=>#[bK,λr N=>num D a r C I i o N]]
   ·exact fm _ _ #[Z,Z,.inr λz=>c3 (by rw[z];rfl)]
  ·have c1:¬(3:Int) < M:=M4 (Bool.eq_false_iff.mpr c2);exact G _ _$ ou$ fm _ _ #[Z,Z,.inl Sf]
 obtain⟨rfl,eH,hk⟩:=W;rw[eH];refine l _ _ ?_;clear l;refine aj λF1 l=>ni λG' G=>#[_,Z,_,_,Z,Z,_,Z,G _ _ ?_];clear G;refine bG (λc=>?_) (λc=>l _ _ ?_)
 ·-- a variable
  refine#[_,Z,_,Z,_,Z,g,_,Z,.inl$ aB.of k,p,_,Z,R,by rw[He];omega,by rw[He];omega,λD a X L i o=>?_];rw[He]at L;obtain⟨y,hy,Y⟩:=Jg (ys:=ys) X L;have t:a g=some (.lst$ ys.map V.str):=by rw[o g j];exact k
  refine#[g,_,_,_,Z,Z,aB.of t,Y,bK,λr N=>?_];exact q r (.var y) _ jc (by show((0:Nat):Int)<=d;omega) hy (i.upd_new N) ((U.trans$ ar.of_eq o).upd_new N)
 ·have c':¬M < (4:Int):=M4 (Bool.eq_false_iff.mpr c);have hd:d≠0:=hk.resolve_left Sf;refine#[_,Z,_,Z,_,Z,_,_,Z,Z,p,g,d - 1,ys,Z,R,k,v,x,Sf,Sf,λr1 T1 a t1 d3 g0 i k2=>?_];have t:a g=some (.lst$ ys.map V.str):=k2 g _ j k;refine#[_,Z,p,6,Z,i,Se,Se,λs3 H3 s0 s1 B3 e3=>?_];have h0:H3 g=some (.lst$ ys.map V.str):=by rw[e3 g j];exact t
  have k3:ar p a H3:=ar.of_eq e3;refine#[iX,_,_,Z,Z,(by rw[tU];omega),Ci s0 s1,?_];refine#[_,Z,_,Z,_,Z,_,Z,_,_,Z,Z,p,g,d - 1,ys,Z,B3,h0,v,x,Sf,Sf,λr2 T2 H4 t2 d4 g1 B4 k4=>?_];refine#[oe,λr N=>?_];have t0:a7 H4 T1 r1:=(t1.but i k3).but B3 k4;refine q r (.op s3.toNat T1 T2) _ #[r1,r2,jc,t0.new N,t2.new N] ?_ #[Sf,g0,g1] (B4.upd_new N) (((U.trans k2).trans$ k3.trans k4).upd_new N);show((max T1.depth T2.depth+1:Nat):Int)<=d;omega
theorem wb:ah P w K mg base aA 2 f e z8z (cr 0):=by
 have n:∀v H Q E,¬cr 0 v H Q E:=λv H Q E h=>by obtain⟨p,g,d,y,_,_,_,_,_,i,b,_⟩:=h;have c:d < ((0:Nat):Int):=b;omega
 exact#[λv H Q E h=>absurd h (n v H Q E),λA o s H a u v Q E _ _ _ _ h=>absurd h (n v H Q E)]
theorem yZ(F:aK K "_law_term" "_law_term" nJ f a)(b:ay K a z8z [])(m:mg "_law_term"=some (.ref f))(c:Cl P w K mg base 1 g d z0z aL "_law_take")(C:Cl P w K mg base 2 h e z1z eB "_law_number")(M:mg "len"=none):
  ∀n:Nat,ah P w K mg base aA (n+2) f a z8z (cr n)
 |0=>wb
 |n+1=>wC F #[(yZ F b m c C M n),b,F.kp,m] c C M
end _K
namespace _K
open PySem PySem.Spec PyProof.Rows _L
variable {P:Program}{w:World}{K:Frag}{mg:Str->Option Value}{base:Heap}
noncomputable def Tm.vars:Tm->List Str
 | .num _=>[]
 | .var x=>[x]
 | .op _ a b=>a.vars++b.vars
theorem kj:∀{t:Tm},t.Good y->∀x∈t.vars,x∈y
 | .num _,_,_,h=>nomatch h
 | .var _,g,_,h=>by rw[List.mem_singleton.mp h];exact g
 | .op _ _ _,g,_,h=>(List.mem_append.mp h).elim (kj g.2.1 _) (kj g.2.2 _)
theorem j7:∀{l m:List Str},l.Nodup->(∀x∈l,x∈m)->l.length<=m.length
 | [],_,_,_=>Ho _
 |x::l,m,n,h=>by rw[Px]at n;have H:=h x HI;have q:=j7 (l:=l) (m:=m.erase x) n.2 λy a=>(List.mem_erase_of_ne (λe=>n.1 (by rw[<- e];exact a))).mpr (h y$ HQ _ a);rw[List.length_erase_of_mem H]at q;have:0 < m.length:=List.length_pos_of_mem H;rw[HM];omega
theorem KF:∀{l m:List Str},l.Nodup->m.Nodup->(∀x,x∈l↔x∈m)->l.Perm m
 | [],[],_,_,_=>.nil
 | [],y::m,_,_,h=>absurd ((h y).mpr HI) Si
 |x::l,m,n,N,h=>by
  rw[Px]at n;have a:x∈m:=(h x).mp HI;refine(List.Perm.cons x$ KF n.2 (N.erase x) λy=>?_).trans (List.perm_cons_erase a).symm;rw[N.mem_erase_iff];constructor
  ·intro H;exact#[λe=>n.1 (by rw[<- e];exact H),(h y).mp$ HQ _ H]
  ·rintro ⟨b,H⟩;exact(List.mem_cons.mp ((h y).mpr H)).resolve_left b
theorem QB:∀{p:Str} {l:List Str},risingS p l=true->(p::l).Pairwise λa b=>a.cps.toList<=b.cps.toList
 |p,[],_=>by simp
 |p,x::r,h=>by
  have H:(!ltCps x.cps.toList p.cps.toList&&risingS x r)=true:=h;rw[IE]at H;have i:=QB H.2;have c:p.cps.toList<=x.cps.toList:=by have z:=H.1;rw[ltCps_eq]at z;simpa using z
  rw[List.pairwise_cons]at i ⊢;refine#[λy hy=>?_,List.pairwise_cons.mpr i];rcases List.mem_cons.mp hy with rfl |hy
  ·exact c
  ·exact List.le_trans c$ i.1 y hy
theorem QC(h:sortedS l=true):l.Pairwise λa b=>a.cps.toList<=b.cps.toList:=by
 cases l with
 |nil=>exact .nil
 |cons x r=>exact QB h
theorem XY{l:List Str}(p:l.Perm m)(h:sortedS l=true)(H:sortedS m=true):l=m:=by refine List.Perm.eq_of_pairwise (λa b _ _ x y=>?_) (QC h) (QC H) p;have e:=List.le_antisymm x y;cases a;cases b;exact IC Str.mk$ Array.toList_inj.mp e
inductive Lf where
 |rd (x:Str) (t:Addr) (T:Tm)
 |st (x:Str) (t:Addr) (T:Tm)
 |wr (t u:Addr) (T U:Tm)
 |cl (x f:Str) (q:Addr) (ts:List (Addr×Tm))
 |gv (t:Addr) (T:Tm)
def ve(H:Hp):Lf->List V->Prop
 | .rd x t T,v=>v=[.str "read",.str x,.ref t]/\a7 H T t
 | .st x t T,v=>v=[.str "set",.str x,.ref t]/\a7 H T t
 | .wr t u T U,v=>v=[.str "write",.ref t,.ref u]/\a7 H T t/\a7 H U u
 | .cl x f q a,v=>v=[.str "call",.str x,.str f,.ref q]/\H q=some (.tup (a.map λc=>V.ref c.1))/\∀c∈a,a7 H c.2 c.1
 | .gv t T,v=>v=[.str "give",.ref t]/\a7 H T t
theorem ve.mono(k:ai H a)(h:ve H l v):ve a l v:=by
 cases l with
 |rd x t T |st x t T |gv t T=>exact#[h.1,h.2.mono k]
 |wr t u T U=>exact#[h.1,h.2.1.mono k,h.2.2.mono k]
 |cl x f q d=>exact#[h.1,k _ _ h.2.1,λc b=>(h.2.2 c b).mono k]
inductive Bd where
 |nil
 |lf (p:Addr) (l:Lf) (r:Bd)
 |ite (p t:Addr) (T:Tm) (a b r:Bd)
 |loop (p t:Addr) (T:Tm) (a r:Bd)
noncomputable def Bd.app:Bd->Bd->Bd
 | .nil,s=>s
 | .lf p l r,s=>.lf p l (r.app s)
 | .ite p t T a b r,s=>.ite p t T a b (r.app s)
 | .loop p t T a r,s=>.loop p t T a (r.app s)
noncomputable def Bd.size:Bd->Nat
 | .nil=>0
 | .lf _ _ r=>r.size+1
 | .ite _ _ _ a b r=>a.size+b.size+r.size+1
 | .loop _ _ _ a r=>a.size+r.size+1
noncomputable def Bd.dep:Bd->Nat
 | .nil=>0
 | .lf _ _ r=>r.dep
 | .ite _ _ _ a b r=>max (max a.dep b.dep+1) r.dep
 | .loop _ _ _ a r=>max (a.dep+1) r.dep
def db(y:List Str)(T:Tm):Prop:=T.Good y/\T.depth < 6
def Lf.Ok(y:List Str):Lf->Prop
 | .rd x _ T=>x∈y/\db y T
 | .st x _ T=>x∈y/\db y T
 | .wr _ _ T U=>db y T/\db y U
 | .cl x _ _ t=>x∈y/\t.length<=6/\∀c∈t,db y c.2
 | .gv _ T=>db y T
def Bd.Ok(y:List Str):Bd->Prop
 | .nil=>True
 | .lf _ l r=>l.Ok y/\r.Ok y
 | .ite _ _ T a b r=>db y T/\a.Ok y/\b.Ok y/\r.Ok y
 | .loop _ _ T a r=>db y T/\a.Ok y/\r.Ok y
abbrev gN:=List (Str×Nat)
def Lf.Cs(F:gN):Lf->Prop
 | .cl _ f _ t=>(f,t.length)∈F
 |_=>True
def Bd.Cs(F:gN):Bd->Prop
 | .nil=>True
 | .lf _ l r=>l.Cs F/\r.Cs F
 | .ite _ _ _ a b r=>a.Cs F/\b.Cs F/\r.Cs F
 | .loop _ _ _ a r=>a.Cs F/\r.Cs F
theorem Kd{F:gN}:∀{a b:Bd},a.Cs F->b.Cs F->(a.app b).Cs F
 | .nil,_,_,h=>h
 | .lf _ _ _,_,h,k=>#[h.1,Kd h.2 k]
 | .ite _ _ _ _ _ _,_,h,k=>#[h.1,h.2.1,Kd h.2.2 k]
 | .loop _ _ _ _ _,_,h,k=>#[h.1,Kd h.2 k]
theorem kl{F:gN}(k:∀f∈F,f∈G):∀{a:Bd},a.Cs F->a.Cs G
 | .nil,_=>trivial
 | .lf _ l _,h=>#[by cases l<;>first |exact k _ h.1 |trivial,kl k h.2]
 | .ite _ _ _ _ _ _,h=>#[kl k h.1,kl k h.2.1,kl k h.2.2]
 | .loop _ _ _ _ _,h=>#[kl k h.1,kl k h.2]
noncomputable def Lf.calls:Lf->gN
 | .cl _ f _ t=>[(f,t.length)]
 |_=>[]
noncomputable def Bd.calls:Bd->gN
 | .nil=>[]
 | .lf _ l r=>l.calls++r.calls
 | .ite _ _ _ a b r=>a.calls++(b.calls++r.calls)
 | .loop _ _ _ a r=>a.calls++r.calls
theorem zw:∀b:Bd,b.Cs b.calls
 | .nil=>trivial
 | .lf _ l r=>#[by cases l<;>first |exact List.mem_append_left _ List.mem_cons_self |trivial,kl (λ_ h=>List.mem_append_right _ h) (zw r)]
 | .ite _ _ _ a b r=>#[kl (λ_ h=>List.mem_append_left _ h) (zw a),kl (λ_ h=>List.mem_append_right _ (List.mem_append_left _ h)) (zw b),kl (λ_ h=>List.mem_append_right _ (List.mem_append_right _ h)) (zw r)]
 | .loop _ _ _ a r=>#[kl (λ_ h=>List.mem_append_left _ h) (zw a),kl (λ_ h=>List.mem_append_right _ h) (zw r)]
theorem zz{F:gN}:∀{b:Bd},b.Cs F->∀f∈b.calls,f∈F
 | .nil,_,_,h=>nomatch h
 | .lf _ l r,k,f,h=>(List.mem_append.mp h).elim (λh=>by cases l<;>first | (rw[List.mem_singleton.mp h];exact k.1) |exact nomatch h) (zz k.2 f)
 | .ite _ _ _ a b r,k,f,h=>(List.mem_append.mp h).elim (zz k.1 f) λh=>(List.mem_append.mp h).elim (zz k.2.1 f) (zz k.2.2 f)
 | .loop _ _ _ a r,k,f,h=>(List.mem_append.mp h).elim (zz k.1 f) (zz k.2 f)
theorem jV:∀(a b:Bd),(a.app b).size=a.size+b.size
 | .nil,b=>by show b.size=0+b.size;omega
 | .lf _ _ r,b=>by have:=jV r b;show(r.app b).size+1=r.size+1+b.size;omega
 | .ite _ _ _ x y r,b=>by have:=jV r b;show x.size+y.size+(r.app b).size+1=x.size+y.size+r.size+1+b.size;omega
 | .loop _ _ _ x r,b=>by have:=jV r b;show x.size+(r.app b).size+1=x.size+r.size+1+b.size;omega
theorem zf:∀(a b:Bd),(a.app b).dep=max a.dep b.dep
 | .nil,b=>(Nat.zero_max b.dep).symm
 | .lf _ _ r,b=>zf r b
 | .ite _ _ _ x y r,b=>by show max _ (r.app b).dep=max (max _ r.dep) b.dep;rw[zf r b,Rc]
 | .loop _ _ _ x r,b=>by show max _ (r.app b).dep=max (max _ r.dep) b.dep;rw[zf r b,Rc]
theorem Ke:∀{a b:Bd},a.Ok y->b.Ok y->(a.app b).Ok y
 | .nil,_,_,h=>h
 | .lf _ _ _,_,g,h=>#[g.1,Ke g.2 h]
 | .ite _ _ _ _ _ _,_,g,h=>#[g.1,g.2.1,g.2.2.1,Ke g.2.2.2 h]
 | .loop _ _ _ _ _,_,g,h=>#[g.1,g.2.1,Ke g.2.2 h]
def di(H:Hp):Bd->List V->Prop
 | .nil,x=>x=[]
 | .lf p l r,x=>∃v y,x= .ref p::y/\H p=some (.tup v)/\ve H l v/\di H r y
 | .ite p t T a b r,x=>∃q Q A B y,x= .ref p::y/\H p=some (.tup [.str "if",.ref t,.ref q,.ref Q])/\a7 H T t/\H q=some (.tup A)/\H Q=some (.tup B)/\di H a A/\di H b B/\di H r y
 | .loop p t T a r,x=>∃q A y,x= .ref p::y/\H p=some (.tup [.str "while",.ref t,.ref q])/\a7 H T t/\H q=some (.tup A)/\di H a A/\di H r y
theorem di.mono(k:ai H m):∀{x:List V},di H a x->di m a x:=by
 induction a with
 |nil=>exactλh=>h
 |lf p l r n=>rintro x ⟨v,y,e,c,d,f⟩;exact#[v,y,e,k _ _ c,d.mono k,n f]
 |ite p t T a b r i o I=>rintro x ⟨q,Q,A,B,y,e,c,g,d,f,j,s,u⟩;exact#[q,Q,A,B,y,e,k _ _ c,g.mono k,k _ _ d,k _ _ f,i j,o s,I u]
 |loop p t T a r i I=>rintro x ⟨q,A,y,e,c,g,d,f,j⟩;exact#[q,A,y,e,k _ _ c,g.mono k,k _ _ d,i f,I j]
theorem di.app(k:di H b y):∀{x:List V},di H a x->di H (a.app b) (x++y):=by
 induction a with
 |nil=>intro x h;have e:x=[]:=h;rw[e];exact k
 |lf p l r I=>rintro x ⟨v,z,e,c,d,f⟩;exact#[v,z++y,by rw[e];rfl,c,d,I f]
 |ite p t T a b r _ _ i=>rintro x ⟨q,Q,A,B,z,e,c,g,d,f,j,m,n⟩;exact#[q,Q,A,B,z++y,by rw[e];rfl,c,g,d,f,j,m,i n]
 |loop p t T a r _ i=>rintro x ⟨q,A,z,e,c,g,d,f,j⟩;exact#[q,A,z++y,by rw[e];rfl,c,g,d,f,i j]
theorem di.len:∀{x:List V},di H a x->x.length<=a.size:=by
 induction a with
 |nil=>intro x h;have e:x=[]:=h;rw[e];exact Hg 0
 |lf p l r I=>rintro x ⟨v,y,e,d,f,c⟩;rw[e];exact IU (I c)
 |ite p t T a b r _ _ i=>rintro x ⟨q,Q,A,B,y,e,d,j,f,c,g,m,k⟩;rw[e];exact IU (Hr (i k) (PM _ _))
 |loop p t T a r _ i=>rintro x ⟨q,A,y,e,d,j,f,c,g⟩;rw[e];exact IU (Hr (i g) (PM _ _))
inductive gE(H:Hp):V->Bd->Prop
 |lf (p:Addr) (l:Lf) (vs:List V) (h1:H p=some (.tup vs)) (h2:ve H l vs):gE H (.ref p) (.lf p l .nil)
 |ite (p t:Addr) (T:Tm) (a b:Bd) (qa qb:Addr) (as bs:List V) (h1:H p=some (.tup [.str "if",.ref t,.ref qa,.ref qb])) (h0:a7 H T t) (h2:H qa=some (.tup as)) (h3:H qb=some (.tup bs)) (h4:di H a as) (h5:di H b bs):gE H (.ref p) (.ite p t T a b .nil)
 |loop (p t:Addr) (T:Tm) (a:Bd) (qa:Addr) (as:List V) (h1:H p=some (.tup [.str "while",.ref t,.ref qa])) (h0:a7 H T t) (h2:H qa=some (.tup as)) (h3:di H a as):gE H (.ref p) (.loop p t T a .nil)
theorem gE.bd(h:gE H v s):di H s [v]:=by
 cases h with
 |lf p l V c d=>exact#[V,[],Z,c,d,Z]
 |ite p t T a b q Q A B c e d f g i=>exact#[q,Q,A,B,[],Z,c,e,d,f,g,i,Z]
 |loop p t T a q A c e d f=>exact#[q,A,[],Z,c,e,d,f,Z]
theorem gE.mono(k:ai H g)(h:gE H v s):gE g v s:=by
 cases h with
 |lf p l V c d=>exact .lf p l V (k _ _ c) (d.mono k)
 |ite p t T a b q Q A B c e d f i j=>exact .ite p t T a b q Q A B (k _ _ c) (e.mono k) (k _ _ d) (k _ _ f) (i.mono k) (j.mono k)
 |loop p t T a q A c e d f=>exact .loop p t T a q A (k _ _ c) (e.mono k) (k _ _ d) (f.mono k)
theorem di.last:∀{x:List V},di H a x->x=[]/\a= .nil∨∃z v b s,x=z++[v]/\a=b.app s/\di H b z/\gE H v s:=by
 induction a with
 |nil=>exactλh=>.inl #[h,Z]
 |lf p l r i=>
  rintro x ⟨u,y,e,f,g,n⟩;rcases i n with ⟨E,d⟩ | ⟨z,v,b,s,E,d,j,k⟩
  ·exact .inr #[[],.ref p,.nil,.lf p l .nil,by rw[e,E];rfl,by rw[d];rfl,Z,.lf p l u f g]
  ·exact .inr #[.ref p::z,v,.lf p l b,s,by rw[e,E];rfl,by rw[d];rfl,#[u,z,Z,f,g,j],k]
 |ite p t T a b r _ _ i=>
  rintro x ⟨q,Q,A,B,y,e,f,m,g,n,G,C,o⟩;rcases i o with ⟨E,d⟩ | ⟨z,v,c,s,E,d,j,k⟩
  ·exact .inr #[[],.ref p,.nil,.ite p t T a b .nil,by rw[e,E];rfl,by rw[d];rfl,Z,.ite p t T a b q Q A B f m g n G C]
  ·exact .inr #[.ref p::z,v,.ite p t T a b c,s,by rw[e,E];rfl,by rw[d];rfl,#[q,Q,A,B,z,Z,f,m,g,n,G,C,j],k]
 |loop p t T a r _ i=>
  rintro x ⟨q,A,y,e,f,m,g,G,o⟩;rcases i o with ⟨E,d⟩ | ⟨z,v,c,s,E,d,j,k⟩
  ·exact .inr #[[],.ref p,.nil,.loop p t T a .nil,by rw[e,E];rfl,by rw[d];rfl,Z,.loop p t T a q A f m g G]
  ·exact .inr #[.ref p::z,v,.loop p t T a c,s,by rw[e,E];rfl,by rw[d];rfl,#[q,A,z,Z,f,m,g,G,j],k]
theorem zG:∀{a b:Bd},(a.app b).Ok y->a.Ok y/\b.Ok y
 | .nil,_,h=>#[trivial,h]
 | .lf _ _ _,_,h=>#[#[h.1,(zG h.2).1],(zG h.2).2]
 | .ite _ _ _ _ _ _,_,h=>#[#[h.1,h.2.1,h.2.2.1,(zG h.2.2.2).1],(zG h.2.2.2).2]
 | .loop _ _ _ _ _,_,h=>#[#[h.1,h.2.1,(zG h.2.2).1],(zG h.2.2).2]
structure Nm(ss:List Str)(M:Str->Prop):Prop where
 nd:ss.Nodup
 so:sortedS ss=true
 mem:∀x,x∈ss↔M x
theorem Nm.uniq(h:Nm a M)(g:Nm s M):a=s:=XY (KF h.nd g.nd λx=>(h.mem x).trans (g.mem x).symm) h.so g.so
open Classical in
noncomputable def canon(M:Str->Prop):List Str:=if h:∃s,Nm s M then Classical.choose h else []
theorem Nm.canon(h:Nm s M):s=canon M:=by have e:∃s,Nm s M:=#[s,h];unfold _K.canon;rw[dif_pos e];exact h.uniq$ Classical.choose_spec e
theorem Nm.len{s y:List Str}{M:Str->Prop}(h:Nm s M)(H:∀x,M x->x∈y):s.length<=y.length:=j7 h.nd λx a=>H x ((h.mem x).mp a)
def Lf.use(M:Str->Prop):Lf->Str->Prop
 | .rd x _ T,y=>(M y/\y≠x)∨y∈T.vars
 | .st x _ T,y=>(M y/\y≠x)∨y∈T.vars
 | .wr _ _ T U,y=>M y∨y∈T.vars∨y∈U.vars
 | .cl x _ _ t,y=>(M y/\y≠x)∨∃c∈t,y∈c.2.vars
 | .gv _ T,y=>y∈T.vars
def Bd.use:Bd->(Str->Prop)->Str->Prop
 | .nil,M=>M
 | .lf _ l r,M=>l.use (r.use M)
 | .ite _ _ T a b r,M=>λy=>(a.use (r.use M) y∨b.use (r.use M) y)∨y∈T.vars
 | .loop _ _ T a r,M=>λy=>(a.use (λ_=>False) y∨r.use M y)∨y∈T.vars
theorem JT:∀(a b:Bd) (M:Str->Prop),(a.app b).use M=a.use (b.use M)
 | .nil,_,_=>rfl
 | .lf _ l r,b,M=>by show l.use ((r.app b).use M)=l.use (r.use (b.use M));rw[JT r b M]
 | .ite _ _ T x y r,b,M=>by show(λz=>(x.use ((r.app b).use M) z∨y.use ((r.app b).use M) z)∨z∈T.vars)=λz=>(x.use (r.use (b.use M)) z∨y.use (r.use (b.use M)) z)∨z∈T.vars;rw[JT r b M]
 | .loop _ _ T x r,b,M=>by show(λz=>(x.use (λ_=>False) z∨(r.app b).use M z)∨z∈T.vars)=λz=>(x.use (λ_=>False) z∨r.use (b.use M) z)∨z∈T.vars;rw[JT r b M]
theorem Lf.use_in{M:Str->Prop}{l:Lf}(h:l.Ok Y)(a:∀x,M x->x∈Y):∀y,l.use M y->y∈Y:=by
 intro y H;cases l with
 |rd x t T |st x t T=>exact H.elim (λz=>a y z.1) (kj h.2.1 y)
 |wr t u T U=>exact H.elim (a y) λz=>z.elim (kj h.1.1 y) (kj h.2.1 y)
 |cl x f q d=>exact H.elim (λz=>a y z.1) λ#[c,b,z]=>kj (h.2.2 c b).1 y z
 |gv t T=>exact kj h.1 y H
theorem Bd.use_in:∀{b:Bd} {M:Str->Prop},b.Ok Y->(∀x,M x->x∈Y)->∀y,b.use M y->y∈Y
 | .nil,_,_,H,y,c=>H y c
 | .lf _ l r,_,h,H,y,c=>Lf.use_in h.1 (Bd.use_in h.2 H) y c
 | .ite _ _ T a b r,_,h,H,y,c=>c.elim (λz=>z.elim (Bd.use_in h.2.1 (Bd.use_in h.2.2.2 H) y) (Bd.use_in h.2.2.1 (Bd.use_in h.2.2.2 H) y)) (kj h.1.1 y)
 | .loop _ _ T a r,_,h,H,y,c=>c.elim (λz=>z.elim (Bd.use_in h.2.1 (λ_ w=>w.elim) y) (Bd.use_in h.2.2 H y)) (kj h.1.1 y)
end _K
namespace _K
open PySem PySem.Spec PyProof.Rows _L
variable {P:Program}{w:World}{K:Frag}{mg:Str->Option Value}{base:Heap}
noncomputable abbrev dP:Stmt:=bE 18
noncomputable abbrev BU:Stmt:=bE 20
noncomputable abbrev tw:Stmt:=bE 21
noncomputable abbrev xw:Stmt:=bE 22
noncomputable abbrev xu:Stmt:=bE 23
inductive c8(n:Nat)(c:List V)(H:Hp)(Q:VK)(b:XK):Prop
 |mk(a:Addr)(T:Tm)(d:List Str)(_:c=[.ref a])(_:a7 H T a)(_:T.depth < n)(_:T.Good d)(_:d.length<=21)(_:∀(r:Addr) (ss:List Str) (H':Hp),H r=none->H' r=some (.lst (ss.map V.str))->ss.Nodup->(∀x,x∈ss↔x∈T.vars)->sortedS ss=true->ae H H'->Q (.ref r) H')
theorem tJ:ak z2z z2z (aa dP):=bu
theorem wo{f:Addr}{o:FuncData}(F:aK K "names_in" "names_in" dP f o){n:Nat}(C:Cl P w K mg base (n+1) f o z2z (c8 n) "names_in")(M:mg "set"=none)(p:mg "sorted"=none):ah P w K mg base aA (n+2) f o z2z (c8$ n+1):=by
 refine F.ok tJ (λvs H Q E h=>?_) (λc0 A O s H vs Q E v h=>?_)
 ·obtain⟨a,T,Y,rfl,_⟩:=h;rfl
 obtain⟨a,T,Y,rfl,t,dp,g,j,q⟩:=h;refine#[_,(jd (jw (ke$ jz$ pv 0) (jg$ jm$ jD jb) jp)$ jd (jw (ke$ jz$ pv 0) (jg$ jm$ jD$ ja (jz$ pv 0) jb) jp)$ jg$ jm$ jH (zV Z) Z p Nt$ ja (jF (qG Z) Z M R8$ ja (ju zO (C.e v$ ja (jz$ pv 0) jb)$ C.e v$ ja (jz$ pv 0) jb) jb) jb),?_];cases T with
 |num m=>have b:H a=some (.tup [.str "num",.int m]):=t;refine(jv b Z #[Z,_,Z,bQ Sj ?_]);exact#[Se,λr N=>q r [] _ N jc M' (λx=>N5) Z (je N)]
 |var x=>have b:H a=some (.tup [.str "var",.str x]):=t;refine(jv b Z #[Z,_,Z,aO Sj ?_]);refine(jv b Z #[Z,_,Z,bQ Sj ?_]);exact(jv b Z #[gK,λr N=>q r [x] _ N jc Si (λy=>N5) Z (je N)])
 |op i B D=>obtain⟨p1,p2,b,h1,h2⟩:=t;have d0:max B.depth D.depth+1 < n+1:=dp;refine(jv b Z #[Z,_,Z,aO Sj ?_]);refine(jv b Z #[Z,_,Z,aO Sj ?_]);refine(jv b Z #[p1,B,Y,Z,h1,Sf,g.2.1,j,λr1 S H1 n1 e1 d1 G o1 u=>?_]);refine(jv (u _ _ b) Z #[p2,D,Y,Z,h2.same u,Sf,g.2.2,j,λr2 k H2 n2 e2 d2 I o2 J=>?_]);have l1:S.length<=21:=Hr (j7 d1 λx d=>kj g.2.1 x ((G x).mp d)) j;have l2:k.length<=21:=Hr (j7 d2 λx d=>kj g.2.2 x ((I x).mp d)) j;have b0:=zr;refine#[r1,r2,_,_,Z,Z,J _ _ e1,e2,(by rw[He,He];omega),λc nc=>?_];refine#[c,S++k,Z,aB.of (by rw[jc,Hz]),(λL nd hs=>IV (IU$ j7 nd hs) (by rw[Hf];show S.length+k.length+1 < 4096;omega)),λl L nl dL R=>?_];have lL:=j7 dL λx d=>(R x).mp d;rw[Hf]at lL;refine#[l,L,Z,jc,Sf,λz ss U W dz oz=>?_];have X:ae H (af (af H2 c$ .lst$ S.map V.str++k.map V.str) l$ EJ P w l L):=(u.trans J).trans ((je nc).trans$ je nl);refine q z ss _ (X.free U) jc (W.nodup_iff.mpr dz) (λx=>?_) oz$ X.trans$ je U;rw[W.mem_iff,R x,LV,G x,I x];exact List.mem_append.symm
theorem v6:ah P w K mg base aA 1 f d z2z (c8 0):=by
 have n:∀v H Q E,¬c8 0 v H Q E:=λv H Q E h=>by obtain⟨a,T,y,_,_,c,_⟩:=h;exact absurd c$ Mn _
 exact#[λv H Q E h=>absurd h (n v H Q E),λA o s H b u v Q E _ _ _ _ h=>absurd h (n v H Q E)]
theorem yH(F:aK K "names_in" "names_in" dP f a)(b:ay K a z2z [])(c:mg "names_in"=some (.ref f))(m:mg "set"=none)(M:mg "sorted"=none):
  ∀n:Nat,ah P w K mg base aA (n+1) f a z2z (c8 n)
 |0=>v6
 |n+1=>wo F #[(yH F b c m M n),b,F.kp,c] m M
noncomputable def Lf.own:Lf->List (Addr×Tm)
 | .rd _ t T=>[(t,T)]
 | .st _ t T=>[(t,T)]
 | .wr t u T U=>[(t,T),(u,U)]
 | .cl _ _ _ a=>a
 | .gv t T=>[(t,T)]
noncomputable def Bd.own:Bd->List (Addr×Tm)
 | .nil=>[]
 | .lf _ l _=>l.own
 | .ite _ t T _ _ _=>[(t,T)]
 | .loop _ t T _ _=>[(t,T)]
noncomputable def rT(c:Addr×Tm):V:=.ref c.1
inductive lQ(b:List V)(H:Hp)(Q:VK)(a:XK):Prop
 |mk(v:V)(s:Bd)(_:b=[v])(_:gE H v s)(_:∀(r:Addr) (H':Hp),H' r=some (.tup (s.own.map rT))->ae H H'->Q (.ref r) H')
theorem Zc:aE (a::b::r) (some 1) (some 2)=[b]:=by
 unfold aE;have e:(1:Int)=((1:Nat):Int):=rfl;have E:(2:Int)=((2:Nat):Int):=rfl;rw[E,e,HT.sIx_nat,HT.sIx_nat,HM,HM];have c:min 1 (r.length+1+1)=1:=by omega
 have d:min 2 (r.length+1+1) - 1=1:=by omega
 rw[c,d];rfl
theorem yP:ak ["statement","word"] z4z (aa BU):=bu
theorem Bi{f:Addr}{j:FuncData}(F:aK K "own_terms" "own_terms" BU f j):ah P w K mg base aA 1 f j z4z lQ:=by
 refine F.ok yP ?_ λC A o s H V Q E d h=>?_
 ·rintro _ _ _ _ ⟨v,s,rfl,_⟩;rfl
 obtain⟨v,st,rfl,m,q⟩:=h;refine#[_,(jd (jx 1 yP.nd$ jz$ pv 0)$ jd (jw (jA zi (pv 1) (jh$ ja jk$ ja jk jb) Z) (jg$ jm$ jK zC (pv 0) (jI jf) j8) jp)$ jd (jw (ke$ pv 1) (jg$ jm$ jK zC (pv 0) (jI jf) j8) jp)$ jd (jw (ke$ pv 1) (jg$ jm$ jz$ pv 0) jp)$ jg$ jm$ jK zC (pv 0) (jI jf)$ jI jf),?_];cases m with
 |lf p l V c g=>
  cases l with
  |rd x t T |st x t T=>obtain⟨rfl,i⟩:=g;refine(jv c Z #[_,Z,bK,λl n=>#[l,_,Z,.inr$ ax.of jc,Z,Z,_,Z,bQ Sj ?_]]);exact#[_,Z,_,Z,p,_,Z,am c n,λr e d s=>q r e d ((je n).trans s)]
  |wr t u T U=>obtain⟨rfl,i,L⟩:=g;refine(jv c Z #[_,Z,bK,λl n=>#[l,_,Z,.inr$ ax.of jc,Z,Z,_,Z,aO Sj ?_]]);refine#[_,Z,Z,_,Z,bQ Sj ?_];exact#[_,Z,_,Z,p,_,Z,am c n,λr e d s=>q r e d ((je n).trans s)]
  |cl x M y N=>obtain⟨rfl,z,i⟩:=g;refine(jv c Z #[_,Z,bK,λl n=>#[l,_,Z,.inr$ ax.of jc,Z,Z,_,Z,aO Sj ?_]]);refine#[_,Z,Z,_,Z,aO Sj ?_];refine#[_,Z,Z,_,Z,bQ Sj ?_];exact(jv (am c n) Z$ q y _ (am z n)$ je n)
  |gv t T=>obtain⟨rfl,i⟩:=g;refine(jv c Z #[_,Z,bK,λl n=>#[l,_,Z,.inr$ ax.of jc,Z,Z,_,Z,aO Sj ?_]]);refine#[_,Z,Z,_,Z,aO Sj ?_];refine#[_,Z,Z,_,Z,aO Sj ?_];exact#[_,Z,_,Z,_,Z,p,_,Z,am c n,λr e d s=>q r e (by rw[Zc]at d;exact d) ((je n).trans s)]
 |ite p t T a b B O D R c G g I S W |loop p t T a B D c G g I=>refine(jv c Z #[_,Z,bK,λl n=>#[l,_,Z,.inr$ ax.of jc,Z,Z,_,Z,aO Sj ?_]]);refine#[_,Z,Z,_,Z,aO Sj ?_];refine#[_,Z,Z,_,Z,aO Sj ?_];exact#[_,Z,_,Z,_,Z,p,_,Z,am c n,λr e d s=>q r e (by rw[Zc]at d;exact d) ((je n).trans s)]
theorem KG{K:Frag}{a:Addr}{Y:List Str}{t:TT}{T:TE}{q:List V->Hp->Prop}{b:_L.St}{H:Hp}(f:Str->Bool)(L:Y.length<=1000)(A:H a=some (.lst$ Y.map V.str))
  (B:∀y g (Q:Bool->Hp->Prop),y∈Y->ae H g->(∀j,ae g j->Q (f y) j)->t (some (.str y)::b) g Q)
  (C:∀y g (Q:VK),y∈Y->Q (.str y) g->T (some (.str y)::b) g Q) (D:∀c,ae H c->q ((Y.filter f).map V.str) c):dI (uV K a) 1 b (bf 0) t T q H:=by
 have F:=zr;refine#[λi m n c=>m=Y.length - i/\i<=Y.length/\n=((Y.take i).filter f).map V.str/\ae H c,#[Y.length,Si,Ho _,Si,ae.refl H],?_];rintro i m n c ⟨rfl,M,rfl,k⟩;have d:aB K c a (Y.map V.str):=aB.of (k _ _ A);by_cases h:i < Y.length
 ·have o:(Y.map V.str)[i]?=some (.str Y[i]):=by rw[HE,G8 h];rfl
  refine .inr #[#[_,_,d,o],?_,λz j=>z=((Y.take$ i+1).filter f).map V.str/\ae H j,λz j #[G,I]=>#[Y.length - (i+1),Sf,Z,h,G,I],λv j N l y=>?_]
  ·rw[He];have:=M6 f (Y.take i);rw[HL]at this;omega
  obtain⟨e,y⟩:=y;subst e;have p:=y _ d;rw[o]at p;cases p;obtain⟨w,rfl⟩:=rB l;have r:Y[i]∈Y:=LG h;have s:Y.take (i+1)=Y.take i++[Y[i]]:=by rw[IN,G8 h];rfl
  refine#[#[[some _],Z,Z],B Y[i] _ _ r k λJ u=>?_];cases x:f Y[i] with
  |true=>
   refine bQ Z$ C Y[i] J _ r #[?_,k.trans u];rw[s,OW,Hz];have E:[Y[i]].filter f=[Y[i]]:=by simp [x]
   rw[E];rfl
  |false=>
   refine aO Z #[?_,k.trans u];rw[s,OW,Hz];have E:[Y[i]].filter f=[]:=by simp [x]
   rw[E];simp
 ·have e:i=Y.length:=by omega
  subst e;refine .inl #[#[_,d,Si],?_];rw[J'$ Hg _];exact D c k
def Lf.bt(M:Str->Prop):Lf->Str->Prop
 | .rd x _ _,y=>M y/\y≠x
 | .st x _ _,y=>M y/\y≠x
 | .wr _ _ _ _,y=>M y
 | .cl x _ _ _,y=>M y/\y≠x
 | .gv _ _,_=>False
def Bd.bt(M:Str->Prop):Bd->Str->Prop
 | .nil,y=>M y
 | .lf _ l _,y=>l.bt M y
 | .ite _ _ _ a b _,y=>a.use M y∨b.use M y
 | .loop _ _ _ a _,y=>a.use (λ_=>False) y∨M y
theorem uK(h:gE H v s)(M:Str->Prop)(y:Str):s.use M y↔s.bt M y∨∃c∈s.own,y∈c.2.vars:=by
 cases h with
 |lf p l V _ _=>
  cases l with
  |rd x t T |st x t T=>exact#[λz=>z.elim .inl λw=>.inr #[_,List.mem_singleton.mpr Z,w],λz=>z.elim .inl λ#[c,hc,w]=>.inr (by rw[List.mem_singleton.mp hc]at w;exact w)]
  |wr t u T U=>
   refine#[λz=>z.elim .inl λw=>.inr (w.elim (λw=>#[_,HI ..,w]) λw=>#[_,HQ _$ List.mem_singleton.mpr Z,w]),λz=>z.elim .inl λ#[c,hc,w]=>.inr ?_];rcases List.mem_cons.mp hc with e |hc
   ·rw[e]at w;exact .inl w
   ·rw[List.mem_singleton.mp hc]at w;exact .inr w
  |cl x f q d=>exact N5
  |gv t T=>exact#[λw=>.inr #[_,List.mem_singleton.mpr Z,w],λz=>z.elim False.elim λ#[c,hc,w]=>by rw[List.mem_singleton.mp hc]at w;exact w]
 |ite p t T a b Q g A B _ _ _ _ _ _ |loop p t T a Q A _ _ _ _=>exact#[λz=>z.elim .inl λw=>.inr #[_,List.mem_singleton.mpr Z,w],λz=>z.elim .inl λ#[c,hc,w]=>.inr (by rw[List.mem_singleton.mp hc]at w;exact w)]
structure NL(H:Hp)(g:Addr)(ss:List Str)(M:Str->Prop)(ys:List Str):Prop where
 at':H g=some (.lst$ ss.map V.str)
 nm:Nm ss M
 sub:∀x,M x->x∈ys
 y20:ys.length<=21
theorem NL.len{H:Hp}{g:Addr}{s:List Str}{M:Str->Prop}{y:List Str}(h:NL H g s M y):s.length<=21:=Hr (h.nm.len h.sub) h.y20
theorem NL.same(h:NL H g a M y)(s:ae H b):NL b g a M y:=#[s _ _ h.at',h.nm,h.sub,h.y20]
structure NU(H:Hp)(g:Addr)(ss:List Str)(M:Str->Prop)(ys:List Str):Prop where
 at':H g=some (.lst$ ss.map V.str)
 nd:ss.Nodup
 mem:∀x,x∈ss↔M x
 sub:∀x,M x->x∈ys
 y20:ys.length<=21
theorem NL.nu(h:NL H g s M y):NU H g s M y:=#[h.at',h.nm.nd,h.nm.mem,h.sub,h.y20]
inductive ua(n:Nat)(c:List V)(H:Hp)(Q:VK)(a:XK):Prop
 |mk(v:V)(g:Addr)(s:Bd)(b:List Str)(M:Str->Prop)(d:List Str)(_:c=[v,.ref g])(_:gE H v s)(_:NL H g b M d)(_:s.Ok d)(_:s.dep < n+1)(_:s.size<=10000000)(_:∀(r:Addr) (zs:List Str) (H':Hp),H' r=some (.lst (zs.map V.str))->(∀y,y∈zs↔s.bt M y)->zs.length<=50->ae H H'->Q (.ref r) H')
inductive fq(n:Nat)(c:List V)(H:Hp)(Q:VK)(a:XK):Prop
 |mk(v:V)(g:Addr)(s:Bd)(b:List Str)(M:Str->Prop)(d:List Str)(_:c=[v,.ref g])(_:gE H v s)(_:NL H g b M d)(_:s.Ok d)(_:s.dep < n+1)(_:s.size<=10000000)(_:∀(r:Addr) (zs:List Str) (H':Hp),H r=none->NL H' r zs (s.use M) d->ae H H'->Q (.ref r) H')
inductive ij(n:Nat)(e:List V)(H:Hp)(Q:VK)(c:XK):Prop
 |mk(a g:Addr)(b:Bd)(f:List V)(d:List Str)(M:Str->Prop)(h:List Str)(_:e=[.ref a,.ref g])(_:H a=some (.tup f))(_:di H b f)(_:NU H g d M h)(_:b.Ok h)(_:b.dep < n)(_:b.size<=10000000)(_:∀(r:Addr) (zs:List Str) (H':Hp),H r=none->NL H' r zs (b.use M) h->ae H H'->Q (.ref r) H')
theorem Nm.empty:Nm [] (λ_=>False):=#[M',Z,λx=>#[λh=>absurd h HK,False.elim]]
theorem yS:ak ["statement","behind","word"] z3z (aa tw):=bu
noncomputable def tR:Scope:=#[.function,[(".0",.local),("name",.local),("statement",.free)],false,false,[]]
theorem DH:(["name","statement"]:List Str).Nodup:=by decide+kernel
theorem Dj:aT ["statement","behind","word"] (aa tw) tR ["name","statement"] 1 [0]:=l8
theorem rY{L n:Nat}(F:aK K "used_behind_terms" "used_behind_terms" tw f fd)(J:Cl P w K mg base L fA f0 z14z (ij n) "used_ahead"):ah P w K mg base aA (L+1) f fd z3z (ua n):=by
 refine F.ok yS ?_ λc0 A O s H vs Q E R h=>?_
 ·rintro _ _ _ _ ⟨v,g,s,G,M,Y,rfl,_⟩;rfl
 obtain⟨v,g,st,G,M,Y,rfl,hs,c,W,hd,hz,q⟩:=h;refine#[_,(jd (jx 2 yS.nd$ jz$ pv 0)$ jd (jw (jA zi (pv 2) (jh$ ja jk$ ja jk$ ja jk jb) Z) (jg$ jm$ @ki _ _ _ _ _ _ _ (["name","statement"]) (1) ([0]) _ _ _ _ Z (za$ pv 1) Dj (λ_ _ _ _ _=>(js (i:=0) DH Z$ Or.inl Z)) (λ_ _ _ _ _=>(@sq _ _ _$ jA sg (pv 0) (jr (r:=eY K) jS (pv 1) jf (λ_ _=>Z))$ aC _)) (λ_ _ _ _ _=>(pv 0)) (by intro _;rfl)) jp)$ jd (jw (ke$ pv 2) (jg$ jm$ ju zO (J.e R.m$ ja (jz$ pv 0)$ ja (pv 1) jb)$ J.e R.m$ ja (jz$ pv 0)$ ja (pv 1) jb) jp)$ jd (jw (ke$ pv 2) (jg$ jm$ ju zO (J.e R.m$ ja (jz$ pv 0)$ ja (jD jb) jb)$ pv 1) jp)$ jd (jw (ke$ pv 2) (jg$ jm$ jD jb) jp)$ jg$ jm$ pv 1),?_];have g0:=c.len;cases hs with
 |lf p l vs d B=>
  cases l with
  |rd x t T |st x t T=>
   obtain⟨rfl,X⟩:=B;refine(jv d Z #[_,Z,dZ,λl N=>#[l,_,Z,.inr$ ax.of jc,Z,Z,_,Z,bQ Sj ?_]]);have S:ae H (af H l$ .tup [.str "set",.str "read",.str "call"]):=je N;refine#[_,Z,g,Z,#[_,aB.of$ S _ _ c.at'],KG (λy=>!decide (V.str y=V.str x)) Sf (S _ _ c.at') (λy I Q' hy k C=>?_) (λy I Q' hy C=>#[_,Z,C]) λH' k r j=>?_]
   ·exact#[_,Z,jv (k _ _$ S _ _ d) Z #[Z,_,Z,C _$ ae.refl _]]
   ·refine q r _ _ jc (λy=>?_) (Hr (M6 ..) Sf) ((S.trans k).trans$ je j);rw[Py,c.nm.mem y];exact and_congr_right λ_=>by simp
  |wr t u T U=>obtain⟨rfl,X,hU⟩:=B;refine(jv d Z #[_,Z,dZ,λl N=>#[l,_,Z,.inr$ ax.of jc,Z,Z,_,Z,aO Sj ?_]]);refine#[_,Z,Z,_,Z,aO Sj ?_];refine#[_,Z,Z,_,Z,aO Sj ?_];refine#[_,Z,Z,_,Z,aO Sj ?_];exact#[_,Z,q g G _ (am c.at' N) c.nm.mem Sf$ je N]
  |cl x f' q' ts=>
   obtain⟨rfl,h8,X⟩:=B;refine(jv d Z #[_,Z,dZ,λl N=>#[l,_,Z,.inr$ ax.of jc,Z,Z,_,Z,bQ Sj ?_]]);have S:ae H (af H l$ .tup [.str "set",.str "read",.str "call"]):=je N;refine#[_,Z,g,Z,#[_,aB.of$ S _ _ c.at'],KG (λy=>!decide (V.str y=V.str x)) Sf (S _ _ c.at') (λy I Q' hy k C=>?_) (λy I Q' hy C=>#[_,Z,C]) λH' k r j=>?_]
   ·exact#[_,Z,jv (k _ _$ S _ _ d) Z #[Z,_,Z,C _$ ae.refl _]]
   ·refine q r _ _ jc (λy=>?_) (Hr (M6 ..) Sf) ((S.trans k).trans$ je j);rw[Py,c.nm.mem y];exact and_congr_right λ_=>by simp
  |gv t T=>obtain⟨rfl,X⟩:=B;refine(jv d Z #[_,Z,dZ,λl N=>#[l,_,Z,.inr$ ax.of jc,Z,Z,_,Z,aO Sj ?_]]);refine#[_,Z,Z,_,Z,aO Sj ?_];refine#[_,Z,Z,_,Z,aO Sj ?_];refine#[_,Z,Z,_,Z,bQ Sj ?_];exact#[iw,λr j=>q r [] _ jc (λy=>#[λh=>absurd h HK,λh=>(show False from h).elim]) (Ho _) ((je N).trans$ je j)]
 |ite p t T a b qa qb as bs d h0 B h3 h4 h5=>refine(jv d Z #[_,Z,dZ,λl N=>#[l,_,Z,.inr$ ax.of jc,Z,Z,_,Z,aO Sj ?_]]);refine#[_,Z,Z,_,Z,bQ Sj ?_];have S:ae H (af H l$ .tup [.str "set",.str "read",.str "call"]):=je N;have h6:max (max a.dep b.dep+1) 0 < n+1:=hd;have h7:a.size+b.size+0+1<=10000000:=hz;refine(jv (S _ _ d) Z #[_,Z,qa,g,a,as,G,M,Y,Z,S _ _ B,h4.mono$ ae.tm S,(c.same S).nu,W.2.1,Sf,Sf,λr1 z1 I _ D k1=>?_]);have z:=S.trans k1;refine(jv (z _ _ d) Z #[_,Z,qb,g,b,bs,G,M,Y,Z,z _ _ h3,h5.mono$ ae.tm z,(c.same z).nu,W.2.2.1,Sf,Sf,λr2 z2 H2 _ n2 k2=>?_]);have l1:=D.len;have l2:=n2.len;have b0:=zr;refine#[r1,r2,_,_,Z,Z,k2 _ _ D.at',n2.at',by rw[He,He];omega,λr j=>q r (z1++z2) _ (by rw[jc,Hz]) (λy=>?_) (by rw[Hf];omega) ((z.trans k2).trans$ je j)];rw[LV,D.nm.mem y,n2.nm.mem y];exact N5
 |loop p t T a qa as d h0 B h3=>refine(jv d Z #[_,Z,dZ,λl N=>#[l,_,Z,.inr$ ax.of jc,Z,Z,_,Z,aO Sj ?_]]);refine#[_,Z,Z,_,Z,aO Sj ?_];refine#[_,Z,Z,_,Z,bQ Sj ?_];have S:ae H (af H l$ .tup [.str "set",.str "read",.str "call"]):=je N;have h6:max (a.dep+1) 0 < n+1:=hd;have h7:a.size+0+1<=10000000:=hz;refine(jv (S _ _ d) Z #[iw,λe ne=>?_]);have z:=S.trans (je (o:=.lst []) ne);refine#[qa,e,a,as,[],λ_=>False,Y,Z,z _ _ B,h3.mono$ ae.tm z,(NL.nu #[jc,Nm.empty,λ_ w=>w.elim,c.y20]),W.2.1,Sf,Sf,λr1 z1 I _ D k1=>?_];have l1:=D.len;have s3:=z.trans k1;have b0:=zr;refine#[_,Z,r1,g,_,_,Z,Z,D.at',s3 _ _ c.at',by rw[He,He];omega,λr j=>q r (z1++G) _ (by rw[jc,Hz]) (λy=>?_) (by rw[Hf];omega) (s3.trans$ je j)];rw[LV,D.nm.mem y,c.nm.mem y];exact N5
theorem Bv(h:gE H v s):∀c∈s.own,a7 H c.2 c.1:=by
 cases h with
 |lf p l V _ d=>
  cases l with
  |rd x t T |st x t T |gv t T=>intro c hc;rw[List.mem_singleton.mp hc];exact d.2
  |wr t u T U=>
   intro c hc;rcases List.mem_cons.mp hc with e |hc
   ·rw[e];exact d.2.1
   ·rw[List.mem_singleton.mp hc];exact d.2.2
  |cl x f q i=>exact d.2.2
 |ite p t T a b Q j A B _ g _ _ _ _ |loop p t T a Q A _ g _ _=>intro c hc;rw[List.mem_singleton.mp hc];exact g
theorem Bw(h:gE H v s)(o:s.Ok y):s.own.length<=100/\∀c∈s.own,db y c.2:=by
 have O:∀(t:Addr) (T:Tm),db y T->[(t,T)].length<=100/\∀c∈[(t,T)],db y c.2:=λt T h=>#[by show 1<=100;omega,λc hc=>by rw[List.mem_singleton.mp hc];exact h];cases h with
 |lf p l V _ g=>
  cases l with
  |rd x t T |st x t T=>exact O t T o.1.2
  |wr t u T U=>
   refine#[by show 2<=100;omega,λc hc=>?_];rcases List.mem_cons.mp hc with e |hc
   ·rw[e];exact o.1.1
   ·rw[List.mem_singleton.mp hc];exact o.1.2
  |cl x f q i=>exact#[Hr o.1.2.1 Se,o.1.2.2]
  |gv t T=>exact O t T o.1
 |ite p t T a b Q j A B _ d _ _ _ _ |loop p t T a Q A _ d _ _=>exact O t T o.1
theorem zN:∀(a b c:Bd),(a.app b).app c=a.app (b.app c)
 | .nil,_,_=>rfl
 | .lf p l r,b,c=>by show Bd.lf p l ((r.app b).app c)=_;rw[zN r b c];rfl
 | .ite p t T x y r,b,c=>by show Bd.ite p t T x y ((r.app b).app c)=_;rw[zN r b c];rfl
 | .loop p t T x r,b,c=>by show Bd.loop p t T x ((r.app b).app c)=_;rw[zN r b c];rfl
theorem qQ:∀(a:Bd),a.app .nil=a
 | .nil=>rfl
 | .lf p l r=>by show Bd.lf p l (r.app .nil)=_;rw[qQ r]
 | .ite p t T x y r=>by show Bd.ite p t T x y (r.app .nil)=_;rw[qQ r]
 | .loop p t T x r=>by show Bd.loop p t T x (r.app .nil)=_;rw[qQ r]
inductive OI(v:V)(g r k:Addr)(s:Bd)(M:Str->Prop)(b:Hp)(i:Nat)(n:_L.St)(a:Hp):Prop
 |mk(l:Option V)(m:List Str)(d:n=[some v,some (.ref g),some (.ref k),l])(e:a k=some (.lst (m.map V.str)))(f:∀y,y∈m↔s.bt M y∨∃c∈s.own.take i,y∈c.2.vars)(h:m.length<=50+21*i)(j:ar k b a)
theorem tO:ak ["statement","behind","names","term"] z3z (aa xw):=bu
theorem rZ{L:Nat}(F:aK K "used_ahead_of" "used_ahead_of" xw f fd)(cB:Cl P w K mg base (L+9) fB f0 z3z (ua n) "used_behind_terms")(cO:Cl P w K mg base 1 fO f2 z4z lQ "own_terms")(cN:Cl P w K mg base 7 fN f3 z2z (c8 6) "names_in")(m0:mg "list"=none)(m2:mg "set"=none)(m3:mg "sorted"=none):ah P w K mg base aA (L+10) f fd z3z (fq n):=by
 refine F.ok tO ?_ λc0 A o1 s H vs Q E t h=>?_
 ·rintro _ _ _ _ ⟨v,g,s,ss,M,Y,rfl,_⟩;rfl
 obtain⟨v,g,st,ss,M,Y,rfl,j,u,U,hd,hz,q⟩:=h;refine#[_,(jd (jx 2 tO.nd$ jF qY Z m0 Rm$ ja (cB.e t.m$ ja (pv 0)$ ja (pv 1) jb) jb)$ jd (km HZ Z (qc$ cO.e t.m$ ja (pv 0) jb) (js (i:=3) tO.nd Z$ Or.inl Z)$ jg$ jN$ kr Hv LK LJ Jq (pv 2)$ ja (cN.e t.m$ ja (pv 3) jb) jb)$ jg$ jm$ jH (zV Z) Z m3 Nt$ ja (jF (qG Z) Z m2 R8$ ja (pv 2) jb) jb),?_];refine aj λF1 C=>#[_,Z,_,Z,v,g,st,ss,M,Y,Z,j,u,U,hd,hz,λr1 G H1 e1 m1 l1 k1=>#[r1,_,Z,.inl$ aB.of e1,λN I=>C _ _ ?_]];clear C;have s2:ae H (af H1 N$ .lst$ G.map V.str):=k1.trans (je I);have J:=j.mono (ae.tm s2);obtain⟨o2,O⟩:=Bw j U;have a:af H1 N (.lst$ G.map V.str) N=some (.lst$ G.map V.str):=jc;have h0:H N=none:=k1.free I;generalize af H1 N (.lst$ G.map V.str)=H2 at s2 J a;refine aj λF1 C=>?_;refine eI λF kF=>#[_,Z,v,st,Z,J,λr H3 t W=>#[r,Z,#[_,ax.of t],kF _ _ ?_]];clear kF;have r0:r≠N:=jO t (W _ _ a) (by intro z;cases z);have s3:=s2.trans W;have b0:=zr;refine Ko (K:=K) (xs:=st.own.map rT) (OI v g r N st M H3) #[_,G,Z,W _ _ a,λy=>?_,Sf,ar.refl] (λi σ H' hi h=>?_) ?_ (λσ H' h=>C _ _ ?_)
 ·rw[m1 y];exact#[.inl,λz=>z.elim (λw=>w) λ#[c,p,_]=>absurd p HK]
 ·obtain⟨_,_,_,_,_,_,k⟩:=h;exact ax.of$ k _ _ r0 t
 ·clear C;intro E _ i x σ H4 B fE Gq D h;obtain⟨o3,X,rfl,h1,R,h3,k4⟩:=h;rw[HE]at B;cases p:st.own[i]? with
  |none=>rw[p]at B;cases B
  |some c=>
   rw[p]at B;cases B;refine D ?_;clear D;have cm:=Hu p;have hi:i < st.own.length:=by
    rcases MZ i st.own.length with z |z
    ·exact z
    ·rw[Ib z]at p;cases p
   have tm:ai H3 H4:=λb xs e=>k4 b _ (jO e (W _ _ a) (by intro z;cases z)) e;show oi _ E [some v,some$ .ref g,some$ .ref N,some$ .ref c.1] H4;refine#[_,Z,.inl #[Z,_,aB.of h1],_,Z,c.1,c.2,Y,Z,((Bv j c cm).mono$ ae.tm s3).mono tm,(O c cm).2,(O c cm).1,u.y20,λr5 s5 H5 n5 e5 d5 m5 o5 k5=>?_];have l5:s5.length<=21:=Hr (j7 d5 λx B=>kj (O c cm).1 x ((m5 x).mp B)) u.y20;refine#[N,r5,_,_,Z,Z,k5 _ _ h1,e5,by rw[He,He];omega,fE _ _ #[_,X++s5,Z,by rw[jc,Hz],λy=>?_,by rw[Hf];omega,λb o nb e=>?_]]
   ·rw[LV,R y,m5 y,IN,p];refine#[λz=>z.elim (λz=>z.elim .inl λ#[d,hd,w]=>.inr #[d,IH _ hd,w]) λw=>.inr #[c,HC _$ List.mem_singleton.mpr Z,w],λz=>z.elim (λw=>.inl (.inl w)) λ#[d,hd,w]=>?_];rcases List.mem_append.mp hd with hd |hd
    ·exact .inl$ .inr #[d,hd,w]
    ·have ed:d=c:=List.mem_singleton.mp hd;rw[ed]at w;exact .inr w
   ·rw[ji nb];exact k5 _ _$ k4 b o nb e
 ·obtain⟨o3,X,rfl,h1,R,h3,k4⟩:=h;clear C;rw[He]at R h3;have s4:ae H H':=λb o e=>k4 b o (jl e h0) (s3 _ _ e);refine#[_,Z,N,X,Z,aB.of h1,(λL nd j=>IV (IU$ j7 nd j) (by show X.length+1 < 4096;omega)),λl L S h4 hm=>?_];have sub:∀y∈L,y∈Y:=λy hy=>Bd.use_in U u.sub y ((uK j M y).mpr (by have:=(R y).mp ((hm y).mp hy);rwa [Im]at this));have lL:=Hr (j7 h4 sub) u.y20;refine#[l,L,Z,jc,Sf,λr' s0 T pm nd so=>?_];refine q r' s0 _ ((s4.trans$ je S).free T) #[jc,#[pm.nodup_iff.mpr nd,so,λy=>?_],Bd.use_in U u.sub,u.y20] ((s4.trans$ je S).trans$ je T);rw[pm.mem_iff,hm y,R y,uK j M y,Im]
theorem none_of(s:ae H h)(n:h r=none):H r=none:=by
 cases z:H r with
 |none=>rfl
 |some o=>have:=s _ _ z;rw[n]at this;cases this
inductive UI(a g:Addr)(b:Bd)(p:List V)(M:Str->Prop)(q:List Str)(H:Hp)(i:Nat)(s:_L.St)(d:Hp):Prop
 |mk(n:Addr)(o:Option V)(c m:Bd)(r:List Str)(e:s=[some (.ref a),some (.ref g),some (.ref n),o])(f:b=c.app m)(h:di H c (p.take (p.length - i)))(j:NL d n r (m.use M) q)(k:ae H d)(l:H n=none)
theorem nP:ak ["body","behind","names","statement"] z14z (aa xu):=bu
theorem Bp{L:Nat}(F:aK K "used_ahead" "used_ahead" xu f fd)(cU:Cl P w K mg base (L+10) fU f0 z3z (fq n) "used_ahead_of")(J:mg "sorted"=none)(N:mg "reversed"=none):ah P w K mg base aA (L+11) f fd z14z (ij$ n+1):=by
 refine F.ok nP ?_ λc0 A O s H vs Q E hr h=>?_
 ·rintro _ _ _ _ ⟨a,g,b,xs,R,M,Y,rfl,_⟩;rfl
 obtain⟨a,g,b,xs,R,M,Y,rfl,ha,hb,d,ho,hd,hz,q⟩:=h;refine#[_,(jd (jx 2 nP.nd$ jH Xa Z J Nt$ ja (pv 1) jb)$ jd (km HZ Z (@su _ _ _ _ _ _ _ Z N ON (pv 0) Se Se Sl Sl) (js (i:=3) nP.nd Z$ Or.inl Z)$ jg$ jx 2 nP.nd$ cU.e hr.m$ ja (pv 3)$ ja (pv 2) jb)$ jg$ jm$ pv 2),?_];have g0:R.length<=21:=Hr (j7 d.nd λx o=>d.sub x ((d.mem x).mp o)) d.y20;have b0:=aD;refine aj λF1 t=>#[_,Z,g,R,Z,aB.of d.at',Sf,λl c nl pm so=>t _ _ ?_];clear t;have T:Nm c M:=#[pm.nodup_iff.mpr d.nd,so,λx=>pm.mem_iff.trans (d.mem x)];have U:ae H (af H l$ .lst$ c.map V.str):=je nl;have u:NL (af H l$ .lst$ c.map V.str) l c M Y:=#[jc,T,d.sub,d.y20];generalize af H l (.lst$ c.map V.str)=H1 at U u;have xl:=hb.len;refine aj λF1 t=>?_;refine eI λF kF=>#[_,Z,a,xs,Z,ax.of$ U _ _ ha,kF _ _ ?_];clear kF;refine Xr (K:=K) (xs:=xs) (UI a g b xs M Y H) #[l,_,b,.nil,c,Z,(qQ b).symm,by rw[Ny,Im];exact hb,u,U,nl] (λi σ H' hi h=>?_) ?_ (λσ H' h=>t _ _ ?_)
 ·obtain⟨_,_,_,_,_,_,_,_,_,k,_⟩:=h;exact ax.of$ k _ _ ha
 ·clear t;intro E _ i x σ H2 o fE Gq p h;obtain⟨I,o3,pre,eN,W,rfl,j,y,X,B,n2⟩:=h;have hi:i < xs.length:=by
   rcases MZ i xs.length with z |z
   ·exact z
   ·rw[Ib (by simpa using z)]at o;cases o
  rw[Md hi]at o;have et:xs.take (xs.length - i)=xs.take (xs.length - (i+1))++[x]:=by
   have C:xs.length - i=(xs.length - 1 - i)+1:=by omega
   have e2:xs.length - (i+1)=xs.length - 1 - i:=by omega
   rw[C,e2,IN,o];rfl
  rw[et]at y;rcases y.last with ⟨e,_⟩ | ⟨ws,v,D,S,C,e2,h4,h5⟩
  ·exact absurd e Si
  obtain⟨ew,ev⟩:=Pj C Z;cases ev;subst e2;have h0:=zG (j▸ho);have G:=zG h0.1;have a1:b.dep=max (D.app S).dep eN.dep:=by rw[j,zf]
  have a2:(D.app S).dep=max D.dep S.dep:=zf ..;have h6:S.dep<=b.dep:=by rw[a1,a2];exact Hr (Mg ..)$ Mo ..
  clear a1 a2;have h7:S.size<=b.size:=by rw[j,jV,jV];omega
  refine p ?_;clear p;show dS _ _ E [some$ .ref a,some$ .ref g,some$ .ref I,some x] H2;refine#[_,Z,_,Z,x,I,S,W,eN.use M,Y,Z,h5.mono$ ae.tm B,X,G.2,Sf,Sf,λr z H3 nr n3 k3=>fE _ _ #[r,_,D,S.app eN,z,Z,by rw[j,zN],?_,by rw[JT];exact n3,B.trans k3,none_of B nr]];rw[ew];exact h4
 ·obtain⟨I,o3,pre,eN,W,rfl,j,y,X,B,n2⟩:=h;rw[MY]at y;have ep:pre= .nil:=by
   rcases y.last with ⟨_,e⟩ | ⟨ws,v,D,S,C,_⟩
   ·exact e
   ·exact absurd C Si
  rw[ep]at j;refine#[_,Z,q I W H' n2 ?_ B];rw[j];exact X
theorem A0:ah P w K mg base aA k f e z14z (ij 0):=by
 have n:∀v H Q E,¬ij 0 v H Q E:=λv H Q E h=>by obtain⟨a,g,b,x,S,M,y,_,_,_,_,_,d,_⟩:=h;exact absurd d$ Mn _
 exact#[λv H Q E h=>absurd h (n v H Q E),λA o s H c u v Q E _ _ _ _ h=>absurd h (n v H Q E)]
theorem Ey(F:aK K "used_ahead" "used_ahead" xu f e)(FB:aK K "used_behind_terms" "used_behind_terms" tw r g)(d:aK K "used_ahead_of" "used_ahead_of" xw o b)
  (B:ay K e z14z []) (i:mg "used_ahead"=some (.ref f)) (j:ay K g z3z []) (k:mg "used_behind_terms"=some (.ref r)) (p:ay K b z3z []) (q:mg "used_ahead_of"=some (.ref o)) (C:Cl P w K mg base 1 u s z4z lQ "own_terms") (l:Cl P w K mg base 7 v t z2z (c8 6) "names_in") (M:mg "list"=none) (a:mg "set"=none) (m:mg "sorted"=none) (c:mg "reversed"=none):
  ∀n:Nat,ah P w K mg base aA (3*n+8) f e z14z (ij n)/\ah P w K mg base aA (3*n+10) o b z3z (fq n)
 |0=>by have h:ah P w K mg base aA 8 f e z14z (ij 0):=A0;have H:=rY (L:=8) (n:=0) FB #[h,B,F.kp,i];exact#[h,rZ (L:=0) d #[H,j,FB.kp,k] C l M a m]
 |n+1=>by
  have I:=(Ey F FB d B i j k p q C l M a m c n).2;have h:=Bp (L:=3*n) F #[I,p,d.kp,q] m c;have E:3*n+11=3*(n+1)+8:=by omega
  rw[E]at h;have H:=rY (L:=3*(n+1)+8) (n:=n+1) FB #[h,B,F.kp,i];exact#[h,rZ (L:=3*(n+1)) d #[H,j,FB.kp,k] C l M a m]
noncomputable abbrev BP:Stmt:=bE 25
noncomputable abbrev sU:Stmt:=bE 28
noncomputable abbrev sS:Stmt:=bE 29
noncomputable abbrev iV:Stmt:=bE 30
noncomputable abbrev sW:Stmt:=bE 31
noncomputable def Lf.cut:Lf->Nat
 | .st _ _ _=>0
 | .gv _ _=>0
 |_=>1
noncomputable def Bd.cuts:Bd->Nat
 | .nil=>0
 | .lf _ l r=>l.cut+r.cuts
 | .ite _ _ _ a b r=>1+a.cuts+b.cuts+r.cuts
 | .loop _ _ _ a r=>1+a.cuts+r.cuts
noncomputable def Bd.inn:Bd->Bd
 | .ite _ _ _ a b _=>a.app b
 | .loop _ _ _ a _=>a
 |_=>.nil
theorem zL:∀(a b:Bd),(a.app b).cuts=a.cuts+b.cuts
 | .nil,b=>by show b.cuts=0+b.cuts;omega
 | .lf _ l r,b=>by have:=zL r b;show l.cut+(r.app b).cuts=l.cut+r.cuts+b.cuts;omega
 | .ite _ _ _ x y r,b=>by have:=zL r b;show 1+x.cuts+y.cuts+(r.app b).cuts=1+x.cuts+y.cuts+r.cuts+b.cuts;omega
 | .loop _ _ _ x r,b=>by have:=zL r b;show 1+x.cuts+(r.app b).cuts=1+x.cuts+r.cuts+b.cuts;omega
inductive lM(b:List V)(H:Hp)(Q:VK)(a:XK):Prop
 |mk(v:V)(s:Bd)(_:b=[v])(_:gE H v s)(_:s.size<=10000000)(_:∀(r:Addr) (xs:List V) (H':Hp),H' r=some (.tup xs)->di H' s.inn xs->ae H H'->Q (.ref r) H')
inductive gc(d:List V)(H:Hp)(Q:VK)(c:XK):Prop
 |mk(a:Addr)(b:Bd)(e:List V)(_:d=[.ref a])(_:H a=some (.tup e))(_:di H b e)(_:b.size<=10000000)(_:∀H',ae H H'->Q (.int (b.cuts:Int)) H')
theorem D7:ak z4z z4z (aa BP):=bu
theorem A6(F:aK K "bodies_in" "bodies_in" BP f y):ah P w K mg base aA 1 f y z4z lM:=by
 refine F.ok D7 ?_ λC A o s H V Q E j h=>?_
 ·rintro _ _ _ _ ⟨v,s,rfl,_⟩;rfl
 obtain⟨v,st,rfl,z,B,q⟩:=h;refine#[_,(jd (jw (ke$ jz$ pv 0) (jg$ jm$ ju jU (jz$ pv 0)$ jz$ pv 0) jp)$ jd (jw (ke$ jz$ pv 0) (jg$ jm$ jz$ pv 0) jp)$ jg$ jm$ jh jb),?_];have D:=aD;cases z with
 |lf p l V c d=>
  cases l with
  |rd x t T |st x t T |wr t u T U |cl x f R S |gv t T=>obtain⟨rfl,_⟩:=d;refine(jv c Z #[Z,_,Z,aO Sj ?_]);refine(jv c Z #[Z,_,Z,aO Sj ?_]);exact#[iw,λr N=>q r [] _ jc Z (je N)]
 |ite p t T a b e G g I c J d i m n=>refine(jv c Z #[Z,_,Z,bQ Sj ?_]);have L:a.size+b.size+0+1<=10000000:=B;have W:=m.len;have X:=n.len;exact(jv c Z$ jv c Z #[e,G,g,I,Z,Z,d,i,Sf,λr M j s=>q r _ M j ((n.mono$ ae.tm s).app$ m.mono$ ae.tm s) s])
 |loop p t T a e g c J d i=>refine(jv c Z #[Z,_,Z,aO Sj ?_]);refine(jv c Z #[Z,_,Z,bQ Sj ?_]);exact(jv c Z$ q e g H d i$ ae.refl H)
theorem xV(h:gE H v s):s.inn.size < s.size/\∃(p:Addr) (w:Str) (r:List V),v= .ref p/\H p=some (.tup (.str w::r))/\s.cuts=(if nj (.str w) [.str "set",.str "give"]=true then 0 else 1)+s.inn.cuts:=by
 cases h with
 |lf p l i c d=>
  refine#[Nat.zero_lt_succ _,?_];cases l with
  |rd x t T |wr t u T U |cl x f Q j=>obtain⟨rfl,_⟩:=d;exact#[p,_,_,Z,c,by rw[HG Sj];rfl]
  |st x t T |gv t T=>obtain⟨rfl,_⟩:=d;exact#[p,_,_,Z,c,by rw[HD Sj];rfl]
 |ite p t T a b q k A B c e d g m n=>refine#[by show(a.app b).size < a.size+b.size+0+1;rw[jV];omega,p,_,_,Z,c,?_];rw[HG Sj];show 1+a.cuts+b.cuts+0=1+(a.app b).cuts;rw[zL];omega
 |loop p t T a q A c e d g=>refine#[by show a.size < a.size+0+1;omega,p,_,_,Z,c,?_];rw[HG Sj];show 1+a.cuts+0=1+a.cuts;omega
theorem gn:dq (v::y) 0=some v:=jM (j:=0) Z
inductive MI(a n:Addr)(b:Bd)(H:Hp)(m:Nat)(p:_L.St)(c:Hp):Prop
 |mk(l:Option V)(W:Bd)(o:List V)(k:Nat)(d:m=W.size)(e:p=[some (.ref a),some (.int (k:Int)),some (.ref n),l])(f:c n=some (.lst o))(g:di c W o)(h:k+W.cuts=b.cuts)(i:W.size<=10000000)(j:ar n H c)
theorem gX:ak ["body","many","todo","statement"] ["body"] (aa sU):=bu
theorem wn(F:aK K "many_cuts" "many_cuts" sU f fd)(cB:Cl P w K mg base 1 fB f0 z4z lM "bodies_in")(m0:mg "list"=none):ah P w K mg base aA 2 f fd ["body"] gc:=by
 refine F.ok gX ?_ λc0 A o1 s H vs Q E hr h=>?_
 ·rintro _ _ _ _ ⟨a,b,xs,rfl,_⟩;rfl
 obtain⟨a,b,xs,rfl,ha,hb,hz,q⟩:=h;refine#[_,(jd (jx 1 gX.nd jf)$ jd (jx 2 gX.nd$ jF qY Z m0 Rm$ ja (pv 0) jb)$ jd (Xk HZ (@sF _ _ _ (pv 2) (λ_=>Z))$ jd (jx 3 gX.nd$ si Hv PySem.F.slot_list_pop PySem.F.type_list_pop AS$ pv 2)$ jd (jZ$ jw (jA qX (jz$ pv 3) (jh$ ja jk$ ja jk jb) Z) (jg$ BF (i:=1) gX.nd Z (Or.inl Z) jf AE) jp)$ jg$ jN$ kr Hv LK LJ Yv (pv 2)$ ja (cB.e hr.m$ ja (pv 3) jb) jb)$ jg$ jm$ pv 1),?_];have b0:=aD;refine aj λU d=>d _ _ ?_;clear d;refine aj λU d=>#[_,Z,a,_,Z,.inr$ ax.of ha,λt C=>d _ _ ?_];clear d;have s0:ae H (af H t$ .lst xs):=je C;refine aj λU d=>?_;refine uP (MI a t b H) b.size #[_,b,xs,0,Z,Z,jc,hb.mono$ ae.tm s0,Sf,hz,λc o N e=>s0 _ _ e] ?_;intro m σ D E _ fE F X Y Gq y h;obtain⟨o3,W,zs,k,rfl,rfl,x,h2,h3,h4,h5⟩:=h;refine y #[_,Z,!zs.isEmpty,.inl #[zs,aB.of x,Z],?_];clear y;rcases h2.last with ⟨e1,e2⟩ | ⟨g,v,B,n,e1,e2,g1,g2⟩
 ·rw[e1];refine Y _$ d _ _ #[_,Z,?_];rw[e2]at h3;have e3:k=b.cuts:=by have:k+0=b.cuts:=h3;omega
  rw[e3];exact q _ λc o e=>h5 c o (jl e C) e
 ·rw[e1];have ne:(!(g++[v]).isEmpty)=true:=by cases g<;>rfl
  rw[ne];refine X _ ?_;clear Y X d;have h6:W.size=B.size+n.size:=by rw[e2,jV]
  have h7:W.cuts=B.cuts+n.cuts:=by rw[e2,zL]
  obtain⟨h8,p,w',r,rfl,hp,hc⟩:=xV g2;rw[e1]at x;refine aj λU d=>#[_,Z,.inl #[Z,_,aB.of x],t,_,.ref p,Z,Z,x,Si,d _ _ ?_];clear d;rw[List.dropLast_concat];have T:ai D (af D t$ .lst g):=λc ys e=>by rw[ji$ jO e x (by intro z;cases z)];exact e
  have t2:af D t (.lst g) t=some (.lst g):=jc;have u:=g1.mono T;have I:=g2.mono T;have J:=T _ _ hp;have k2:ar t H (af D t$ .lst g):=λc o N e=>by rw[ji N];exact h5 c o N e
  generalize af D t (.lst g)=H2 at t2 u I J k2;clear T x h2 h5 g1 g2 hp;have R:∀(j:Nat) (H3:Hp),ae H2 H3->j+B.cuts+n.inn.cuts=b.cuts->oi (FM K "list" (gO K) (aV 2)$ al (dC lM [] E0$ al (aV 3) aM) aM) E [some$ .ref a,some$ .int (j:Int),some$ .ref t,some$ .ref p] H3:=λj H3 L hk=>by
   have g0:=I.mono (ae.tm L);refine#[_,Z,.inl #[Z,_,aB.of$ L _ _ t2],_,Z,.ref p,n,Z,g0,Sf,λr' ys H4 h0 hy s4=>?_];have S:=L.trans s4;have l1:=u.len;have l2:=hy.len;refine#[t,r',g,ys,Z,Z,S _ _ t2,ax.of h0,Sf,fE (B.app n.inn).size _ _ (by rw[jV];omega) #[_,B.app n.inn,g++ys,j,Z,Z,jc,?_,by rw[zL];omega,by rw[jV];omega,λc o N e=>?_]]
   ·have M:ai H4 (af H4 t$ .lst$ g++ys):=λc z0 e=>by rw[ji$ jO e (S _ _ t2) (by intro z;cases z)];exact e
    exact(hy.mono M).app ((u.mono$ ae.tm S).mono M)
   ·rw[ji N];exact S _ _$ k2 c o N e
  refine aj λU d=>dm (λO H'=>∃j:Nat,O=[some$ .ref a,some$ .int (j:Int),some$ .ref t,some$ .ref p]/\ae H2 H'/\j+B.cuts+n.inn.cuts=b.cuts) (λE2 _ fm=>?_) λO H' h=>?_
  ·clear d fE;refine uX λG X Y=>(jv J gn #[bK,λl nl=>#[l,_,Z,.inr$ ax.of jc,Z,Z,_,Z,?_]]);cases hv:nj (.str w') [.str "set",.str "give"] with
   |true=>rw[hv,HD Z]at hc;exact Y _$ fm _ _ #[k,Z,je nl,Sf]
   |false=>rw[hv,HG Hl]at hc;refine X _ #[_,Z,_,_,Z,Z,fm _ _ #[k+1,?_,je nl,Sf]];show [_,some$ V.int ((k:Int)+1),_,_]=[_,some$ V.int ((k+1:Nat):Int),_,_];rfl
  ·obtain⟨j,rfl,L,hk⟩:=h;exact d _ _$ R j H' L hk
end _K
namespace _K
open PySem PySem.Spec PyProof.Rows _L
variable {P:Program}{w:World}{K:Frag}{mg:Str->Option Value}{base:Heap}
inductive EC where
 |go (n:Int) |give (t:Addr)
structure Wy where
 sets:List (Str×Addr)
 goal:EC
inductive Dd where
 |st (p:Addr) |ask (t:Addr)
structure Ct where
 M:Str->Prop
 d:Dd
 ws:List Wy
structure Pc where
 M:Str->Prop
 w:Wy
def aP(H:Hp):Tr->V->List V->Prop
 | .lf v,x,_=>x=v/\Fu v=true
 | .tp l,x,_=>l.isL=true/\∃a X,x= .ref a/\H a=some (.tup X)/\aP H l .non X
 | .nil,_,X=>X=[]
 | .cons h t,_,X=>h.isL=false/\t.isL=true/\∃y Y,X=y::Y/\aP H h y []/\aP H t .non Y
theorem aP.at{K:Frag}:∀{t:Tr} {x:V} {xs:List V},aP H t x xs->lE K H t x xs:=by
 intro t;induction t with
 |lf v |nil=>exactλh=>h
 |tp l d=>rintro x xs ⟨h,a,Y,e,b,c⟩;exact#[h,a,Y,e,ax.of b,d c]
 |cons h t i I=>rintro x xs ⟨E,f,y,Y,e,b,c⟩;exact#[E,f,y,Y,e,i b,I c]
theorem aP.mono(k:ai H d):∀{t:Tr} {x:V} {X:List V},aP H t x X->aP d t x X:=by
 intro t;induction t with
 |lf v |nil=>exactλh=>h
 |tp l f=>rintro x X ⟨h,a,Y,e,b,c⟩;exact#[h,a,Y,e,k _ _ b,f c]
 |cons h t i I=>rintro x X ⟨E,g,y,Y,e,b,c⟩;exact#[E,g,y,Y,e,i b,I c]
noncomputable def aG:List Tr->Tr
 | []=>.nil
 |t::T=>.cons t (aG T)
theorem QD:∀t:List Tr,(aG t).isL=true
 | []=>rfl
 |_::_=>rfl
noncomputable def aZ(t:List Tr):Tr:=.tp (aG t)
noncomputable def bX(x:Str):Tr:=.lf (.str x)
noncomputable def oR(a:Addr):Tr:=.lf (.ref a)
noncomputable def aY(n:Int):Tr:=.lf (.int n)
section
variable {H:Hp}
theorem jC:aP H (aG []) .non []:=rfl
theorem jo{t:Tr}(h:t.isL=false)(a:aP H t y [])(b:aP H (aG T) .non Y):aP H (aG (t::T)) .non (y::Y):=#[h,QD T,y,Y,Z,a,b]
theorem jG(h:H a=some (.tup x))(b:aP H (aG t) .non x):aP H (aZ t) (.ref a) []:=#[QD t,a,x,Z,h,b]
theorem j3:aP H (bX x) (.str x) []:=#[Z,Z]
theorem Jh:aP H (oR a) (.ref a) []:=#[Z,Z]
theorem kK:aP H (aY n) (.int n) []:=#[Z,Z]
theorem JU(a:aP H (aG s) .non Y):∀{T:List Tr} {x:List V},aP H (aG T) .non x->aP H (aG$ T++s) .non (x++Y)
 | [],x,h=>by have e:x=[]:=h;rw[e];exact a
 |t::T,x,h=>by obtain⟨E,_,y,z,e,b,c⟩:=h;rw[e];exact jo E b (JU a c)
theorem zD:∀{T:List Tr} {x:List V},aP H (aG T) .non x->x.length=T.length
 | [],x,h=>by have e:x=[]:=h;rw[e];rfl
 |t::T,x,h=>by obtain⟨_,_,y,z,e,_,a⟩:=h;rw[e,HM,HM,zD a]
theorem Xz:∀(S:List Str),aP H (aG$ S.map bX) .non (S.map V.str)
 | []=>rfl
 |s::S=>jo Z j3 (Xz S)
theorem Zd:∀{T:List Tr} {x:List V},aP H (aG T) .non x->aP H (aG T.reverse) .non x.reverse
 | [],x,h=>by have e:x=[]:=h;rw[e];rfl
 |t::T,x,h=>by obtain⟨E,_,y,z,e,a,b⟩:=h;rw[e,Mw,Mw];exact JU (jo E a jC)$ Zd b
theorem Ji:∀{T:List Tr} {X:List V},aP H (aG T) .non X->∀(i:Nat) (x:V),X[i]?=some x->∃t,T[i]?=some t/\aP H t x []
 | [],X,h,i,x,a=>by have e:X=[]:=h;rw[e]at a;simp at a
 |t::T,X,h,0,x,a=>by obtain⟨_,_,y,z,e,b,c⟩:=h;rw[e]at a;cases a;exact#[t,Z,b]
 |t::T,X,h,i+1,x,a=>by obtain⟨_,_,y,z,e,b,c⟩:=h;rw[e]at a;simpa using Ji c i x (by simpa using a)
end
noncomputable def Ec(s:Str×Addr):Tr:=aZ [bX s.1,oR s.2]
noncomputable def vL:EC->Tr
 | .go n=>aZ [bX "go",aY n]
 | .give t=>aZ [bX "give",oR t]
noncomputable def gA(w:Wy):Tr:=aZ [aZ$ w.sets.map Ec,vL w.goal]
noncomputable def EL:Dd->Tr
 | .st p=>oR p
 | .ask t=>aZ [bX "ask",oR t]
noncomputable def Dk(c:Ct):Tr:=aZ [aZ ((canon c.M).map bX),EL c.d,aZ$ c.ws.map gA]
theorem AA(g:EC):(vL g).isL=false:=by cases g<;>rfl
theorem Dn(d:Dd):(EL d).isL=false:=by cases d<;>rfl
def lX(H:Hp)(p:Pc)(v:V)(g:Addr)(y:List Str):Prop:=∃(r:Addr) (s:List Str) (W:V),v= .ref r/\H r=some (.tup [.ref g,W])/\NL H g s p.M y/\aP H (gA p.w) W []
theorem lX.same(h:lX H p v g y)(s:ae H a):lX a p v g y:=by obtain⟨r,S,W,e,b,c,d⟩:=h;exact#[r,S,W,e,s _ _ b,c.same s,d.mono$ ae.tm s]
theorem lX.but(h:lX H p v g y)(k:ar f H c)(d:H f=some (.lst C))(n:g≠f):lX c p v g y:=by obtain⟨r,s,W,e,i,a,j⟩:=h;have t:ai H c:=λb x e=>k b _ (jO e d (by intro z;cases z)) e;exact#[r,s,W,e,t _ _ i,#[k _ _ n a.at',a.nm,a.sub,a.y20],j.mono t]
noncomputable def Lf.isCut:Lf->Bool
 | .st _ _ _=>false
 | .gv _ _=>false
 |_=>true
noncomputable def Bd.deed:Bd->Dd
 | .lf p _ _=>.st p
 | .ite _ t _ _ _ _=>.ask t
 | .loop _ t _ _ _=>.ask t
 | .nil=>.st 0
inductive hV(b:List V)(H:Hp)(Q:VK)(a:XK):Prop
 |mk(v:V)(s:Bd)(_:b=[v])(_:gE H v s)(_:∀(d:V) (H':Hp),aP H' (EL s.deed) d []->ae H H'->Q d H')
inductive fj(b:List V)(H:Hp)(Q:VK)(a:XK):Prop
 |mk(t:Addr)(T:Tm)(c:List Str)(_:b=[.ref t])(_:a7 H T t)(_:db c T)(_:c.length<=21)(_:∀(v:V) (g:Addr) (H':Hp),lX H' #[λx=>x∈T.vars,#[[],.give t]] v g c->H g=none->ae H H'->Q v H')
inductive nX(K:Frag)(c:List V)(H:Hp)(Q:VK)(b:XK):Prop
 |mk(a:Addr)(_:c=[.ref a])(_:ax K H a [.str "num",.int 0])(_:∀(r:Addr),H r=none->Q (.ref r) (af H r (.lst [])))
inductive nY(K:Frag)(b:List V)(H:Hp)(Q:VK)(a:XK):Prop
 |mk(t:Addr)(c:List Str)(_:b=[.ref t])(_:ax K H t [.str "num",.int 0])(_:c.length<=21)(_:∀(v:V) (g:Addr) (H':Hp),lX H' #[λx=>x∈(Tm.num 0).vars,#[[],.give t]] v g c->H g=none->ae H H'->Q v H')
open Classical in
noncomputable def gZ(x:Str)(t:Addr)(p:Pc):Wy:=if p.M x then #[(x,t)::p.w.sets,p.w.goal] else p.w
inductive ie(d:List V)(H:Hp)(Q:VK)(a:XK):Prop
 |mk(v b:V)(p t:Addr)(x:Str)(T:Tm)(c:Pc)(g:Addr)(e:List Str)(_:d=[v,b])(_:gE H v (.lf p (.st x t T) .nil))(_:lX H c b g e)(_:x∈e)(_:db e T)(_:c.w.sets.length<=10000000)(_:∀(v':V) (g':Addr) (H':Hp),lX H' #[(Lf.st x t T).use c.M,gZ x t c] v' g' e->H g'=none->ae H H'->Q v' H')
theorem BZ:ak z4z z4z (aa sS):=bu
theorem wj(F:aK K "deed_of" "deed_of" sS f e):ah P w K mg base aA 1 f e z4z hV:=by
 refine F.ok BZ ?_ λC A o s H V Q E z h=>?_
 ·rintro _ _ _ _ ⟨v,s,rfl,_⟩;rfl
 obtain⟨v,st,rfl,g,q⟩:=h;refine#[_,(jd (jw (jA zi (jz$ pv 0) (jh$ ja jk$ ja jk jb) Z) (jg$ jm$ jh$ ja jk$ ja (jz$ pv 0) jb) jp)$ jg$ jm$ pv 0),?_];cases g with
 |lf p l V c d=>
  cases l with
  |rd x t T |st x t T |wr t u T U |cl x f B D |gv t T=>obtain⟨rfl,_⟩:=d;refine(jv c Z #[bK,λl n=>#[l,_,Z,.inr$ ax.of jc,Z,Z,_,Z,aO Sj ?_]]);exact#[_,Z,q _ _ Jh$ je n]
 |ite p t T a b i I j J c m d y L M |loop p t T a i j c m d y=>refine(jv c Z #[bK,λl n=>#[l,_,Z,.inr$ ax.of jc,Z,Z,_,Z,bQ Sj ?_]]);refine(jv (am c n) Z #[bK,λr N=>?_]);exact q _ _ (jG jc$ jo Z j3$ jo Z Jh jC) ((je n).trans$ je N)
theorem Bh{fN:Addr}{fdN:FuncData}(F:aK K "names_in" "names_in" dP f b)(c:Cl P w K mg base (n+1) f b z2z (c8 n) "names_in")(m:mg "set"=none)(M:mg "sorted"=none):ah P w K mg base aA (n+2) f b z2z (nX K):=by
 refine F.ok tJ (λv H Q E h=>?_) (λC A o s H v Q E d h=>?_)
 ·obtain⟨a,rfl,_⟩:=h;rfl
 obtain⟨a,rfl,g,q⟩:=h;refine#[_,(jd (jw (ke$ jz$ pv 0) (jg$ jm$ jD jb) jp)$ jd (jw (ke$ jz$ pv 0) (jg$ jm$ jD$ ja (jz$ pv 0) jb) jp)$ jg$ jm$ jH (zV Z) Z M Nt$ ja (jF (qG Z) Z m R8$ ja (ju zO (c.e d$ ja (jz$ pv 0) jb)$ c.e d$ ja (jz$ pv 0) jb) jb) jb),?_];refine#[_,Z,a,_,_,_,Z,Z,g,Z,Z,_,Z,bQ Sj ?_];exact#[iw,λr N=>q r N]
theorem nL:ak z2z z2z (aa iV):=bu
theorem rW(F:aK K "place_of_give" "place_of_give" iV f d)(C:Cl P w K mg base 7 U i z2z (c8 6) "names_in"):ah P w K mg base aA 8 f d z2z fj:=by
 refine F.ok nL ?_ λj A o s H V Q E l h=>?_
 ·rintro _ _ _ _ ⟨t,T,y,rfl,_⟩;rfl
 obtain⟨t,T,y,rfl,p,O,b,q⟩:=h;refine#[_,(jg$ jm$ jh$ ja (C.e l.m$ ja (pv 0) jb)$ ja (jh$ ja (jh jb)$ ja (jh$ ja jk$ ja (pv 0) jb) jb) jb),?_];refine#[_,Z,t,T,y,Z,p,O.2,O.1,b,λg v a z B D M G I=>?_];have J:NL a g v (λx=>x∈T.vars) y:=#[B,#[D,G,M],kj O.1,b];refine#[iw,λe L=>#[_,Z,bK,λu c=>#[bK,λx N=>#[bK,λr n=>?_]]]];have S:ae a (af (af (af (af a e$ .tup []) u$ .tup [.str "give",.ref t]) x$ .tup [.ref e,.ref u]) r$ .tup [.ref g,.ref x]):=(((je L).trans$ je c).trans$ je N).trans (je n);refine q _ g _ #[r,_,.ref x,Z,jc,J.same S,?_] z (I.trans S);exact jG (am jc n)$ jo Z (jG (am (am (am jc c) N) n) jC)$ jo Z (jG (am (am jc N) n)$ jo Z j3$ jo Z Jh jC) jC
theorem Bj(F:aK K "place_of_give" "place_of_give" iV f j)(C:Cl P w K mg base 7 G l z2z (nX K) "names_in"):ah P w K mg base aA 8 f j z2z (nY K):=by
 refine F.ok nL ?_ λp A o s H V Q E v h=>?_
 ·rintro _ _ _ _ ⟨t,y,rfl,_⟩;rfl
 obtain⟨t,y,rfl,z,B,q⟩:=h;refine#[_,(jg$ jm$ jh$ ja (C.e v.m$ ja (pv 0) jb)$ ja (jh$ ja (jh jb)$ ja (jh$ ja jk$ ja (pv 0) jb) jb) jb),?_];refine#[_,Z,t,Z,z,λg a=>?_];have b:ae H (af H g$ .lst []):=je a;have c:NL (af H g$ .lst []) g [] (λx=>x∈(Tm.num 0).vars) y:=#[jc,#[M',Z,λx=>N5],λx h=>absurd h HK,B];generalize af H g (.lst [])=d at b c;refine#[iw,λe D=>#[_,Z,bK,λu i=>#[bK,λx N=>#[bK,λr n=>?_]]]];have S:ae d (af (af (af (af d e$ .tup []) u$ .tup [.str "give",.ref t]) x$ .tup [.ref e,.ref u]) r$ .tup [.ref g,.ref x]):=(((je D).trans$ je i).trans$ je N).trans (je n);refine q _ g _ #[r,_,.ref x,Z,jc,c.same S,?_] a (b.trans S);exact jG (am jc n)$ jo Z (jG (am (am (am jc i) N) n) jC)$ jo Z (jG (am (am jc N) n)$ jo Z j3$ jo Z Jh jC) jC
end _K
namespace _K
open PySem PySem.Spec PyProof.Rows _L
variable {P:Program}{w:World}{K:Frag}{mg:Str->Option Value}{base:Heap}
theorem vM{Y:List Str}:nj (.str x) (Y.map V.str)=decide (x∈Y):=by
 by_cases h:x∈Y
 ·rw[Hw h];unfold nj;rw[Pk];exact#[.str x,List.mem_map.mpr #[x,h,Z],by simp [ma]]
 ·rw[Hk h];unfold nj;rw[Pd];intro z;rw[Pk]at z;obtain⟨v,a,e⟩:=z;obtain⟨y,H,rfl⟩:=List.mem_map.mp a;have E:x=y∨y=x:=by
   first
    |exact .inl (by simpa [ma] using e)
    |exact .inr (by simpa [ma] using e)
  rcases E with rfl |rfl
  ·exact h H
  ·exact h H
theorem CG{H:Hp}{w:Wy}{v:V}(h:aP H (gA w) v []):∃(W s:Addr) (S:List V) (y:V),v= .ref W/\H W=some (.tup [.ref s,y])/\H s=some (.tup S)/\aP H (aG$ w.sets.map Ec) .non S/\aP H (vL w.goal) y []:=by obtain⟨_,W,x,rfl,a,_,_,l,b,e,⟨_,s,S,c,d,f⟩,_,_,g,Y,E,i,j⟩:=h;have k:Y=[]:=j;rw[k]at E;rw[E]at e;rw[e,c]at a;exact#[W,s,S,g,Z,a,d,f,i]
theorem mN:ak ["statement","behind","way"] z3z (aa sW):=bu
theorem wu(F:aK K "place_of_set" "place_of_set" sW f fd)(cU:Cl P w K mg base 10 fU f0 z3z (fq 0) "used_ahead_of"):ah P w K mg base aA 11 f fd z3z ie:=by
 refine F.ok mN ?_ λc0 A O s H vs Q E hr h=>?_
 ·rintro _ _ _ _ ⟨v,bv,p,t,x,T,C,g,Y,rfl,_⟩;rfl
 obtain⟨v,bv,p,t,x,T,C,g,Y,rfl,X,hp,hx,ok,hl,q⟩:=h;refine#[_,(jd (jx 2 mN.nd$ jz$ pv 1)$ jd (jZ$ jw (jA zi (jz$ pv 0) (jz$ pv 1) Z) (jg$ jx 2 mN.nd$ jh$ ja (ju jU (jh$ ja (jK zC (pv 0) (jI jf) j8) jb)$ jz$ pv 2)$ ja (jz$ pv 2) jb) jp)$ jg$ jm$ jh$ ja (cU.e hr.m$ ja (pv 0)$ ja (jz$ pv 1) jb)$ ja (pv 2) jb),?_];have b0:=aD;obtain⟨r,ss,wv,rfl,b,B,hW⟩:=hp;have h0:=X;cases X with
 |lf _ _ vs h1 h2=>
  obtain⟨rfl,hT⟩:=h2;obtain⟨wa,sa,sx,y,rfl,i,D,j,hy⟩:=CG hW;refine aj λF1 d=>(jv b Z$ d _ _ ?_);clear d;have sl:=zD j;rw[He]at sl;refine aj λF1 d=>dm (λl I=>∃W:V,l=[some$ .ref p,some$ .ref r,some W]/\aP I (gA$ gZ x t C) W []/\ae H I) (λE2 _ fm=>?_) λl I h=>?_
  ·clear d;refine uX λG kT kF=>(jv h1 Z$ jv b Z #[g,_,Z,.inl$ aB.of B.at',Z,Qz _,_,Z,?_]);rw[vM];by_cases a:x∈ss
   ·rw[Hw a];refine kT _ #[_,Z,_,Z,p,_,Z,h1,λs1 H1 J k1=>#[gK,λu nu=>?_]];have L:=k1.trans (je (o:=.tup [.ref s1]) nu);refine(jv (L _ _ i) Z #[u,sa,_,_,Z,Z,jc,L _ _ D,by show 1+sx.length<=_;omega,λc H2 hc z=>?_]);have R:=L.trans z;refine(jv (R _ _ i) Z #[bK,λnw n=>fm _ _ #[.ref nw,Z,?_,R.trans$ je n]]);have tm:=ae.tm (R.trans$ je (o:=.tup [.ref c,y]) n);unfold gZ;rw[HD ((B.nm.mem x).mp a)];refine jG jc$ jo Z (jG (am hc n)$ jo Z ?_$ j.mono tm)$ jo (AA _) (hy.mono tm) jC;exact jG (am (z _ _$ am J nu) n)$ jo Z j3$ jo Z Jh jC
   ·rw[Hk a];refine kF _$ fm _ _ #[_,Z,?_,ae.refl _];unfold gZ;rw[HG λw=>a ((B.nm.mem x).mpr w)];exact hW
  ·obtain⟨W,rfl,S,k⟩:=h;refine d _ _ ?_;clear d;refine#[_,Z,jv (k _ _ b) Z #[.ref p,g,.lf p (.st x t T) .nil,ss,C.M,Y,Z,h0.mono$ ae.tm k,B.same k,#[#[hx,ok],trivial],(by show 0 < 1;decide),(by show 0+1<=10000000;decide),λg' zs H3 n3 N3 z=>?_]];refine#[_,Z,bK,λr' N=>q _ g' _ #[r',zs,W,Z,jc,N3.same$ je N,S.mono$ ae.tm$ z.trans$ je N] (k.free n3) ((k.trans z).trans$ je N)]
noncomputable abbrev xh:Stmt:=bV (bE 32) 1
noncomputable abbrev xp:Stmt:=bV (bE 32) 2
noncomputable abbrev xj:Stmt:=bV (bE 32) 3
noncomputable abbrev xz:Stmt:=bV (bE 32) 4
noncomputable abbrev sT:Stmt:=bV (bE 32) 0
noncomputable def pL(m:Int)(p:Addr)(l:Lf)(q:Pc×List Ct):Pc×List Ct:=match l with
 | .gv t T=>(#[λx=>x∈T.vars,#[[],.give t]],q.2)
 | .st x t T=>(#[(Lf.st x t T).use q.1.M,gZ x t q.1],q.2)
 | .rd x t T=>(#[(Lf.rd x t T).use q.1.M,#[[],.go (m - (q.2.length:Int) - 1)]],q.2++[#[(Lf.rd x t T).use q.1.M,.st p,[q.1.w]]])
 | .wr t u T U=>(#[(Lf.wr t u T U).use q.1.M,#[[],.go (m - (q.2.length:Int) - 1)]],q.2++[#[(Lf.wr t u T U).use q.1.M,.st p,[q.1.w]]])
 | .cl x f a b=>(#[(Lf.cl x f a b).use q.1.M,#[[],.go (m - (q.2.length:Int) - 1)]],q.2++[#[(Lf.cl x f a b).use q.1.M,.st p,[q.1.w]]])
noncomputable def pB(m:Int):Bd->Pc->List Ct->Pc×List Ct
 | .nil,c,f=>(c,f)
 | .lf p l r,c,f=>pL m p l (pB m r c f)
 | .ite p t T a b r,c,f=>
  let q:=pB m r c f
  let o:=pB m b q.1 q.2
  let s:=pB m a q.1 o.2
  (#[(Bd.ite p t T a b .nil).use q.1.M,#[[],.go$ m - (q.2.length:Int) - ((Bd.ite p t T a b .nil).cuts:Int)]],s.2++[#[(Bd.ite p t T a b .nil).use q.1.M,.ask t,[s.1.w,o.1.w]]])
 | .loop p t T a r,c,f=>
  let q:=pB m r c f
  let d:Pc:=#[(Bd.loop p t T a .nil).use q.1.M,#[[],.go$ m - (q.2.length:Int) - ((Bd.loop p t T a .nil).cuts:Int)]]
  let s:=pB m a d q.2
  (d,s.2++[#[(Bd.loop p t T a .nil).use q.1.M,.ask t,[s.1.w,q.1.w]]])
theorem Kf(m:Int):∀(a b:Bd) (c:Pc) (f:List Ct),pB m (a.app b) c f=pB m a (pB m b c f).1 (pB m b c f).2
 | .nil,_,_,_=>rfl
 | .lf p l r,b,c,f=>by show pL m p l (pB m (r.app b) c f)=pL m p l (pB m r _ _);rw[Kf m r b c f]
 | .ite p t T x y r,b,c,f=>by have e:=Kf m r b c f;show pB m (.ite p t T x y$ r.app b) c f=_;unfold pB;rw[e]
 | .loop p t T x r,b,c,f=>by have e:=Kf m r b c f;show pB m (.loop p t T x$ r.app b) c f=_;unfold pB;rw[e]
theorem j9(m:Int):∀(b:Bd) (c:Pc) (F:List Ct),(pB m b c F).2.length=F.length+b.cuts
 | .nil,_,_=>rfl
 | .lf p l r,c,F=>by
  have e:=j9 m r c F;show(pL m p l$ pB m r c F).2.length=F.length+(l.cut+r.cuts);cases l with
  |rd x t T |wr t u T U |cl x f a d=>show((pB m r c F).2++[_]).length=F.length+(1+r.cuts);rw[Hf,e];show _+1=_;omega
  |st x t T |gv t T=>show(pB m r c F).2.length=F.length+(0+r.cuts);omega
 | .ite p t T x y r,c,F=>by have e:=j9 m r c F;show((pB m x _ (pB m y _ _).2).2++[_]).length=_;rw[Hf,j9 m x,j9 m y,e];show _+1=F.length+(1+x.cuts+y.cuts+r.cuts);omega
 | .loop p t T x r,c,F=>by have e:=j9 m r c F;show((pB m x _ _).2++[_]).length=_;rw[Hf,j9 m x,e];show _+1=F.length+(1+x.cuts+r.cuts);omega
theorem XA(x:Str)(t:Addr)(p:Pc):(gZ x t p).sets.length<=p.w.sets.length+1:=by
 unfold gZ;split
 ·exact Hg _
 ·exact IL _
theorem Ze(m:Int):∀(b:Bd) (a:Pc) (f:List Ct),(pB m b a f).1.w.sets.length<=a.w.sets.length+b.size
 | .nil,_,_=>Hg _
 | .lf p l r,a,f=>by
  have e:=Ze m r a f;show(pL m p l$ pB m r a f).1.w.sets.length<=a.w.sets.length+(r.size+1);cases l with
  |st x t T=>have:=XA x t (pB m r a f).1;show(gZ x t (pB m r a f).1).sets.length<=_;omega
  |_=>exact Ho _
 | .ite p t T x y r,a,f=>Ho _
 | .loop p t T x r,a,f=>Ho _
theorem kC:∀b:Bd,b.cuts<=b.size
 | .nil=>Hg _
 | .lf _ l r=>by
  have:=kC r;have h:l.cut<=1:=by cases l<;>first |exact Hg _ |exact Ho _
  show l.cut+r.cuts<=r.size+1;omega
 | .ite _ _ _ a b r=>by have:=kC a;have:=kC b;have:=kC r;show 1+a.cuts+b.cuts+r.cuts<=a.size+b.size+r.size+1;omega
 | .loop _ _ _ a r=>by have:=kC a;have:=kC r;show 1+a.cuts+r.cuts<=a.size+r.size+1;omega
structure CK(K:Frag)(C:Addr):Prop where
 cl:oj K C
 nm:bq K C "many"
 nf:bq K C "found"
structure Cg(H:Hp)(C ia dx fa:Addr)(m:Int)(cts:List Ct)(cs:List V):Prop where
 ins:H ia=some (.ins C dx [("many",.int m),("found",.ref fa)])
 fd:H fa=some (.lst cs)
 tr:aP H (aG$ cts.map Dk) .non cs
theorem Cg.same(h:Cg H C i d f m c a)(s:ae H b):Cg b C i d f m c a:=#[s _ _ h.ins,s _ _ h.fd,h.tr.mono$ ae.tm s]
theorem Cg.len(h:Cg H C i d f m c a):a.length=c.length:=by rw[zD h.tr,He]
theorem Cg.tm(h:Cg H C i d f m c g)(k:ar f H a):ai H a:=λb x e=>k b _ (jO e h.fd (by intro z;cases z)) e
structure u7(H:Hp)(C ia dx fa:Addr)(m:Int)(cts:List Ct)(cs:List V)(pc:Pc)(bv:V)(g:Addr)(ys:List Str)(b:Bd):Prop where
 c:Cg H C ia dx fa m cts cs
 p:lX H pc bv g ys
 ng:g≠fa
 ok:b.Ok ys
 sz:cts.length+pc.w.sets.length+b.size<=10000000
def pk(H:Hp)(C i d f:Addr)(m:Int)(y:List Str)(q:Pc×List Ct)(Q:VK):Prop:=∀(v:V) (g:Addr) (c:List V) (h:Hp),lX h q.1 v g y->g≠f->Cg h C i d f m q.2 c->ar f H h->Q v h
inductive lR(C:Addr)(n:Nat)(l:List V)(H:Hp)(Q:VK)(c:XK):Prop
 |mk(j h i a g:Addr)(m:Int)(d:List Ct)(f o:List V)(k:Pc)(e:V)(p:List Str)(b:Bd)(_:l=[.ref j,.ref a,e])(_:u7 H C j h i m d f k e g p b)(_:H a=some (.tup o))(_:di H b o)(_:b.dep < n)(_:pk H C j h i m p (pB m b k d) Q)
inductive Cm(C:Addr)(n:Nat)(j:List V)(H:Hp)(Q:VK)(a:XK):Prop
 |mk(h e f g:Addr)(m:Int)(b:List Ct)(d:List V)(i:Pc)(v c:V)(k:List Str)(s:Bd)(_:j=[.ref h,v,c])(_:u7 H C h e f m b d i c g k s)(_:gE H v s)(_:s.dep < n+1)(_:pk H C h e f m k (pB m s i b) Q)
noncomputable def Bd.isCut:Bd->Bool
 | .lf _ l _=>l.isCut
 | .nil=>false
 |_=>true
inductive xT(C:Addr)(n:Nat)(j:List V)(H:Hp)(Q:VK)(a:XK):Prop
 |mk(h e f g:Addr)(m:Int)(b:List Ct)(d:List V)(i:Pc)(v c:V)(k:List Str)(s:Bd)(_:j=[.ref h,v,c])(_:u7 H C h e f m b d i c g k s)(_:gE H v s)(_:s.dep < n+1)(_:s.isCut=true)(_:pk H C h e f m k (pB m s i b) Q)
noncomputable def gg(m:Int)(c:Pc)(p:Pc)(f:List Ct):Bd->List Wy×List Ct
 | .ite _ _ _ a b _=>([(pB m a p (pB m b p f).2).1.w,(pB m b p f).1.w],(pB m a p (pB m b p f).2).2)
 | .loop _ _ _ a _=>([(pB m a c f).1.w,p.w],(pB m a c f).2)
 |_=>([p.w],f)
inductive Cn(C:Addr)(n:Nat)(o:List V)(H:Hp)(Q:VK)(a:XK):Prop
 |mk(i e f g h:Addr)(m:Int)(b:List Ct)(d:List V)(j k:Pc)(v c l:V)(p:List Str)(s:Bd)(_:o=[.ref i,v,l,c])(_:u7 H C i e f m b d j c g p s)(_:lX H k l h p)(_:h≠f)(_:k.w.sets=[])(_:gE H v s)(_:s.dep < n+1)(_:∀(wv:V) (cs':List V) (H':Hp),aP H' (aZ ((gg m k j b s).1.map gA)) wv []->Cg H' C i e f m (gg m k j b s).2 cs'->ar f H H'->Q wv H')
theorem X4(h:gE H v s)(g:s.isCut=true)(m:Int)(c:Pc)(F:List Ct):
  pB m s c F=(#[s.use c.M,#[[],.go$ m - (F.length:Int) - (s.cuts:Int)]],(gg m #[s.use c.M,#[[],.go$ m - (F.length:Int) - (s.cuts:Int)]] c F s).2++[#[s.use c.M,s.deed,(gg m #[s.use c.M,#[[],.go$ m - (F.length:Int) - (s.cuts:Int)]] c F s).1]]):=by
 cases h with
 |lf p l V d e=>
  cases l with
  |rd x t T |wr t u T U |cl x f a k=>rfl
  |st x t T |gv t T=>cases g
 |ite p t T a b q Q A B d i e j n o |loop p t T a q A d i e j=>rfl
theorem uO(h:lX H p v g y):∃(r:Addr) (W:V),v= .ref r/\H r=some (.tup [.ref g,W])/\aP H (gA p.w) W []:=by obtain⟨r,s,W,e,a,c,b⟩:=h;exact#[r,W,e,a,b]
theorem D9:ak ["self","statement","place","behind","other"] z21z (aa xz):=bu
theorem DQ(F:aK K "ways_of" "Cutting.ways_of" xz f fd)(X:CK K C)(GB:ah P w K mg base aA (4*n+31) fB f0 z11z (lR C n))(bB:ay K f0 z11z [])(hB:bN K C "place_of_body" fB):ah P w K mg base aA (4*n+32) f fd z21z (Cn C n):=by
 refine F.ok D9 ?_ λc3 A o1 s H vs Q E hr h=>?_
 ·rintro _ _ _ _ ⟨i,D,R,g,g2,m,d,S,y,pl,v,bv,pv,Y,s,rfl,_⟩;rfl
 obtain⟨i,D,R,g,g2,m,d,S,y,pl,v,bv,G,Y,st,rfl,I,h6,n0,h7,hs,hd,q⟩:=h;refine#[_,(jd (jw (ke$ jz$ pv 1) (jd (jx 4 D9.nd$ kN (pv 0) X.cl hB GB hr.m bB .nil bp$ ja (jz$ pv 1)$ ja (pv 3) jb)$ jg$ jm$ jh$ ja (jr jS (kN (pv 0) X.cl hB GB hr.m bB .nil bp$ ja (jz$ pv 1)$ ja (pv 3) jb) jf (λ_ _=>Z))$ ja (jz$ pv 4) jb) jp)$ jd (jw (ke$ jz$ pv 1) (jg$ jm$ jh$ ja (jr jS (kN (pv 0) X.cl hB GB hr.m bB .nil bp$ ja (jz$ pv 1)$ ja (pv 2) jb) jf (λ_ _=>Z))$ ja (jz$ pv 3) jb) jp)$ jg$ jm$ jh$ ja (jz$ pv 3) jb),?_];have b0:=aD;obtain⟨br,bw,rfl,J,L⟩:=uO I.p;cases hs with
 |lf p l vs e M=>
  have f2:iy (bL$ al (dD (eY K) (aV 3)$ tC$ V.int 1) aM) { nx:=λx H'=>Q V.non H',rt:=Q } [some$ .ref i,some$ .ref p,some G,some$ .ref br,none] H:=by refine(jv J Z #[gK,λr N=>q (.ref r) S _ (jG jc$ jo Z (L.mono$ ae.tm$ je N) jC) (I.c.same$ je N) (ar.of_same$ je N)])
  cases l with
  |rd x t T |st x t T |wr t u T U |cl x f q2 ts |gv t T=>obtain⟨rfl,_⟩:=M;refine(jv e Z #[Z,_,Z,aO Sj ?_]);refine(jv e Z #[Z,_,Z,aO Sj ?_]);exact f2
 |ite p t T a b qa qb as bs e h0 M h3 h4 h5=>refine(jv e Z #[Z,_,Z,bQ Sj ?_]);have h8:max (max a.dep b.dep+1) 0 < n+1:=hd;have hz:d.length+y.w.sets.length+(a.size+b.size+0+1)<=10000000:=I.sz;have W:=I.ok;refine aj λF1 f1=>#[_,Z,i,D,_,Z,I.c.ins,Z,jv e Z #[_,Z,i,D,R,qb,g,m,d,S,bs,y,.ref br,Y,b,Z,#[I.c,I.p,I.ng,W.2.2.1,Sf],h3,h5,Sf,λv1 g1 j H1 p1 n1 O z=>f1 _ _ ?_]];clear f1;have B:=I.c.tm z;have lc:=j9 m b y d;have cb:=kC b;refine#[_,Z,i,D,_,Z,O.ins,Z,jv (B _ _ e) Z #[_,Z,i,D,R,qa,g,m,_,j,as,y,.ref br,Y,a,Z,#[O,I.p.but z I.c.fd I.ng,I.ng,W.2.1,Sf],B _ _ M,h4.mono B,Sf,λv2 g2 c0 H2 p2 n2 c2 k2=>?_]];obtain⟨r2,w2,rfl,h9,h'⟩:=uO p2;obtain⟨r1,w1,rfl,k,o⟩:=uO (p1.but k2 O.fd n1);refine#[r2,_,_,_,Z,Z,ax.of h9,Z,jv k Z #[bK,λr N=>q (.ref r) c0 _ (jG jc$ jo Z (h'.mono$ ae.tm$ je N)$ jo Z (o.mono$ ae.tm$ je N) jC) (c2.same$ je N) ((z.trans k2).trans$ ar.of_same$ je N)]]
 |loop p t T a qa as e h0 M h3=>refine(jv e Z #[Z,_,Z,aO Sj ?_]);refine(jv e Z #[Z,_,Z,bQ Sj ?_]);have h8:max (a.dep+1) 0 < n+1:=hd;have hz:d.length+y.w.sets.length+(a.size+0+1)<=10000000:=I.sz;have W:=I.ok;refine#[_,Z,i,D,_,Z,I.c.ins,Z,jv e Z #[_,Z,i,D,R,qa,g2,m,d,S,as,pl,G,Y,a,Z,#[I.c,h6,n0,W.2.1,by rw[h7];show d.length+0+a.size<=_;omega],M,h3,Sf,λv1 g1 j H1 p1 n1 O z=>?_]];obtain⟨r1,w1,rfl,k,o⟩:=uO p1;have B:=I.c.tm z;refine#[r1,_,_,_,Z,Z,ax.of k,Z,jv (B _ _ J) Z #[bK,λr N=>q (.ref r) j _ (jG jc$ jo Z (o.mono$ ae.tm$ je N)$ jo Z ((L.mono B).mono$ ae.tm$ je N) jC) (O.same$ je N) (z.trans$ ar.of_same$ je N)]]
theorem tE:ak ["self","statement","behind","n","names","place","ways"] z6z (aa xj):=bu
theorem DN(F:aK K "place_of_cut" "Cutting.place_of_cut" xj f fd)(y:CK K C)(h7:n<=7)(GW:ah P w K mg base aA (4*n+32) fW f0 z21z (Cn C n))(bW:ay K f0 z21z [])(hW:bN K C "ways_of" fW)(cM:Cl P w K mg base 2 fM f2 ["body"] gc "many_cuts")(cU:Cl P w K mg base 31 fU f3 z3z (fq 7) "used_ahead_of")(cD:Cl P w K mg base 1 fD f4 z4z hV "deed_of")(ml:mg "len"=none)(m0:mg "tuple"=none):ah P w K mg base aA (4*n+33) f fd z6z (xT C n):=by
 refine F.ok tE ?_ λc0 A o1 s H vs Q E Y h=>?_
 ·rintro _ _ _ _ ⟨z,L,l,g,m,a,cs,j,v,bv,ys,s,rfl,_⟩;rfl
 obtain⟨z,L,l,g,m,a,cs,j,v,bv,ys,st,rfl,I,B,hd,hc,q⟩:=h;refine#[_,(jd (jx 3 tE.nd$ ju kJ (ju kJ (zo (pv 0) Z)$ jH jE Z ml Ih$ ja (zo (pv 0) Z) jb)$ cM.e Y.m$ ja (jh$ ja (pv 1) jb) jb)$ jd (jx 4 tE.nd$ cU.e Y.m$ ja (pv 1)$ ja (jz$ pv 2) jb)$ jd (jx 5 tE.nd$ jh$ ja (pv 4)$ ja (jh$ ja (jh jb)$ ja (jh$ ja jk$ ja (pv 3) jb) jb) jb)$ jd (jx 6 tE.nd$ kN (pv 0) y.cl hW GW Y.m bW .nil bp$ ja (pv 1)$ ja (pv 5)$ ja (pv 2) jb)$ jd (jN$ kr Hv HP HN jP (zo (pv 0) Z)$ ja (jh$ ja (jF jB Z m0 IQ$ ja (pv 4) jb)$ ja (cD.e Y.m$ ja (pv 1) jb)$ ja (pv 6) jb) jb)$ jg$ jm$ pv 5),?_];have b0:=aD;obtain⟨br,ss,bw,rfl,h0,hN,h1⟩:=id I.p;have hz:=I.sz;have lc:=I.c.len;refine aj λF1 i=>#[_,Z,z,C,L,_,_,Z,I.c.ins,y.cl,y.nm,Z,_,Z,z,C,L,_,_,Z,I.c.ins,y.cl,y.nf,Z,l,_,Z,.inl$ aB.of I.c.fd,_,_,Z,Z,_,Z,gK,λu nu=>?_];have s1:ae H (af H u$ .tup [v]):=je nu;refine#[u,st,_,Z,jc,(B.mono$ ae.tm s1).bd,Sf,λH1 k1=>#[_,_,Z,Z,i _ _ ?_]];clear i;have S:=s1.trans k1;rw[lc];refine aj λF1 i=>#[_,Z,jv (S _ _ h0) Z #[v,g,st,ss,j.M,ys,Z,B.mono$ ae.tm S,hN.same S,I.ok,Sf,Sf,λG zs H2 n2 N2 k2=>i _ _ ?_]];clear i;have s3:=S.trans k2;have N:G≠l:=λe=>by rw[e,S _ _ I.c.fd]at n2;cases n2
 refine aj λF1 i=>#[_,Z,iw,λe ne=>#[_,Z,bK,λU O=>#[bK,λx nx=>#[bK,λr nr=>i _ _ ?_]]]];clear i;have s4:ae H2 (af (af (af (af H2 e$ .tup []) U$ .tup [.str "go",.int$ m - (a.length:Int) - (st.cuts:Int)]) x$ .tup [.ref e,.ref U]) r$ .tup [.ref G,.ref x]):=(((je ne).trans$ je O).trans$ je nx).trans (je nr);have P4:lX (af (af (af (af H2 e$ .tup []) U$ .tup [.str "go",.int$ m - (a.length:Int) - (st.cuts:Int)]) x$ .tup [.ref e,.ref U]) r$ .tup [.ref G,.ref x]) #[st.use j.M,#[[],.go$ m - (a.length:Int) - (st.cuts:Int)]] (.ref r) G ys:=
  #[r,zs,.ref x,Z,jc,N2.same s4,jG (am jc nr)$ jo Z (jG (am (am (am jc O) nx) nr) jC)$ jo Z (jG (am (am jc nx) nr)$ jo Z j3$ jo Z kK jC) jC]
 generalize af (af (af (af H2 e$ .tup []) U$ .tup [.str "go",.int$ m - (a.length:Int) - (st.cuts:Int)]) x$ .tup [.ref e,.ref U]) r (.tup [.ref G,.ref x])=H4 at s4 P4;have R:=s3.trans s4;have c5:=I.c.same R;refine aj λF1 i=>#[_,Z,z,L,_,Z,c5.ins,Z,_,Z,_,Z,_,Z,z,L,l,g,G,m,a,cs,j,_,v,.ref br,.ref r,ys,st,Z,#[c5,I.p.same R,I.ng,I.ok,I.sz],P4,N,Z,B.mono$ ae.tm R,hd,λwv D H6 w6 c6 k6=>i _ _ ?_];clear i;have t0:=c5.tm k6;have p6:=P4.but k6 c5.fd N;have z6:H6 G=some (.lst$ zs.map V.str):=k6 _ _ N (s4 _ _ N2.at');have ez:=N2.nm.canon;have l6:=c6.len;have lw:(gg m #[st.use j.M,#[[],.go$ m - (a.length:Int) - (st.cuts:Int)]] j a st).2.length+1=a.length+st.cuts:=by have:=j9 m st j a;rw[X4 B hc m j a,Hf]at this;exact this
 have cl:=kC st;refine aj λF1 i=>#[_,Z,z,C,L,_,_,Z,c6.ins,y.cl,y.nf,Z,.inl #[Z,_,aB.of c6.fd],_,Z,G,_,Z,.inl #[aB.of z6,λnt n0=>?_]];have s7:ae H6 (af H6 nt$ .tup$ zs.map V.str):=je n0;refine#[_,Z,v,st,Z,((B.mono$ ae.tm R).mono t0).mono$ ae.tm s7,λd H8 d8 k8=>#[_,Z,dZ,λW J=>?_]];have X:=(s7.trans k8).trans (je (o:=.tup [.ref nt,d,wv]) J);have t:=c6.same X;refine#[l,D,_,Z,Z,t.fd,Sf,i _ _ ?_];clear i;have T9:aP (af H8 W$ .tup [.ref nt,d,wv]) (Dk #[st.use j.M,st.deed,(gg m #[st.use j.M,#[[],.go$ m - (a.length:Int) - (st.cuts:Int)]] j a st).1]) (.ref W) []:=by refine jG jc$ jo Z (jG (am (k8 _ _ jc) J) ?_)$ jo (Dn _) (d8.mono$ ae.tm$ je J)$ jo Z (w6.mono$ ae.tm X) jC;rw[<- ez];exact Xz zs
 have p9:=p6.same X;generalize af H8 W (.tup [.ref nt,d,wv])=H9 at X t T9 p9;have k:ar l H9 (af H9 l$ .lst$ D++[.ref W]):=λb o nb e=>by rw[ji nb];exact e
 have T:=t.tm k;have n1:z≠l:=λe=>by have:=t.ins;rw[e,t.fd]at this;cases this
 refine#[_,Z,q (.ref r) G (D++[.ref W]) _ ?_ N ?_ (λb o nb e=>k b o nb (X _ _$ k6 b o nb$ R _ _ e))]
 ·rw[X4 B hc m j a];exact p9.but k t.fd N
 ·rw[X4 B hc m j a];refine#[k _ _ n1 t.ins,jc,?_];rw[Hz];exact JU (jo Z (T9.mono T) jC)$ t.tr.mono T
inductive BI(C u j t a:Addr)(m:Int)(c:List Ct)(x:Pc)(f:V)(z:List Str)(b:Bd)(y:List V)(H:Hp)(i:Nat)(A:_L.St)(e:Hp):Prop
 |mk(d s:Bd)(v:V)(g:Addr)(h:List V)(w:Option V)(k:A=[some (.ref u),some (.ref a),some f,some v,w])(l:b=d.app s)(n:di H d (y.take (y.length - i)))(o:lX e (pB m s x c).1 v g z)(p:g≠t)(q:Cg e C u j t m (pB m s x c).2 h)(r:ar t H e)
theorem JV(m:Int):∀(b:Bd) (c:Pc) (F:List Ct),(pB m b c F).2.length+(pB m b c F).1.w.sets.length<=F.length+c.w.sets.length+b.size
 | .nil,_,_=>Hg _
 | .lf p l r,c,F=>by
  have e:=JV m r c F;show(pL m p l$ pB m r c F).2.length+(pL m p l$ pB m r c F).1.w.sets.length<=F.length+c.w.sets.length+(r.size+1);cases l with
  |st x t T=>have:=XA x t (pB m r c F).1;show(pB m r c F).2.length+(gZ x t (pB m r c F).1).sets.length<=_;omega
  |gv t T=>show(pB m r c F).2.length+0<=_;omega
  |rd x t T |wr t u T U |cl x f a d=>show((pB m r c F).2++[_]).length+0<=_;rw[Hf];show _+1+0<=_;omega
 | .ite p t T x y r,c,F=>by have e:=JV m r c F;have h:=kC x;have H:=kC y;show((pB m x _ (pB m y _ _).2).2++[_]).length+0<=F.length+c.w.sets.length+(x.size+y.size+r.size+1);rw[Hf,j9 m x,j9 m y];show _+1+0<=_;omega
 | .loop p t T x r,c,F=>by have e:=JV m r c F;have h:=kC x;show((pB m x _ _).2++[_]).length+0<=F.length+c.w.sets.length+(x.size+r.size+1);rw[Hf,j9 m x];show _+1+0<=_;omega
theorem FG:ak z6z z6z (aa xp):=bu
theorem DP(F:aK K "place_of" "Cutting.place_of" xp f fd)(ck:CK K C)(GC:ah P w K mg base aA (4*n+33) fC D z6z (xT C n))(bC:ay K D z6z [])(hC:bN K C "place_of_cut" fC)(cG:Cl P w K mg base 8 fG f0 z2z fj "place_of_give")(cS:Cl P w K mg base 11 fS f1 z3z ie "place_of_set"):ah P w K mg base aA (4*n+34) f fd z6z (Cm C n):=by
 refine F.ok FG ?_ λc0 A O s H vs Q E G h=>?_
 ·rintro _ _ _ _ ⟨r,J,fa,g,m,j,z,L,v,B,y,s,rfl,_⟩;rfl
 obtain⟨r,J,fa,g,m,j,z,L,v,B,y,st,rfl,I,M,hd,q⟩:=h;refine#[_,(jd (jw (ke$ jz$ pv 1) (jg$ jm$ cG.e G.m$ ja (jz$ pv 1) jb) jp)$ jd (jw (ke$ jz$ pv 1) (jg$ jm$ cS.e G.m$ ja (pv 1)$ ja (pv 2) jb) jp)$ jg$ jm$ kN (pv 0) ck.cl hC GC G.m bC .nil bp$ ja (pv 1)$ ja (pv 2) jb),?_];have hz:=I.sz;have R:=M;have i:st.isCut=true->iy (ur C "place_of_cut" (xT C n) [] E0 (aV 0)$ al (aV 1)$ al (aV 2) aM) { nx:=λx k=>Q V.non k,rt:=Q } [some$ .ref r,some v,some B] H:=λhc=>
  #[_,Z,r,J,_,Z,I.c.ins,Z,_,Z,_,Z,r,J,fa,g,m,j,z,L,v,B,y,st,Z,I,M,hd,hc,q]
 cases M with
 |lf p l vs d o=>
  cases l with
  |rd x t T |wr t u T U |cl x f q2 ts=>obtain⟨rfl,_⟩:=o;refine(jv d Z #[Z,_,Z,aO Sj ?_]);refine(jv d Z #[Z,_,Z,aO Sj ?_]);exact i Z
  |gv t T=>
   obtain⟨rfl,hT⟩:=o;refine(jv d Z #[Z,_,Z,bQ Sj ?_]);clear i;have Y:y.length<=21:=by obtain⟨_,_,_,_,_,hN,_⟩:=I.p;exact hN.y20
   exact(jv d Z #[t,T,y,Z,hT,I.ok.1,Y,λW X k p' N S=>q W X z k p' (λe=>by rw[e,I.c.fd]at N;cases N) (I.c.same S) (ar.of_same S)])
  |st x t T=>obtain⟨rfl,hT⟩:=o;refine(jv d Z #[Z,_,Z,aO Sj ?_]);refine(jv d Z #[Z,_,Z,bQ Sj ?_]);clear i;exact#[_,Z,_,Z,.ref p,B,p,t,x,T,L,g,y,Z,R,I.p,I.ok.1.1,I.ok.1.2,Sf,λW X k p' N S=>q W X z k p' (λe=>by rw[e,I.c.fd]at N;cases N) (I.c.same S) (ar.of_same S)]
 |ite p t T a b qa qb as bs d h0 o h3 h4 h5 |loop p t T a qa as d h0 o h3=>refine(jv d Z #[Z,_,Z,aO Sj ?_]);refine(jv d Z #[Z,_,Z,aO Sj ?_]);exact i Z
theorem xE:ak ["self","body","behind","place","statement"] z11z (aa xh):=bu
theorem DM(F:aK K "place_of_body" "Cutting.place_of_body" xh f fd)(ck:CK K C)(GO:ah P w K mg base aA (4*n+34) fO T z6z (Cm C n))(bO:ay K T z6z [])(hO:bN K C "place_of" fO)(R:mg "reversed"=none):ah P w K mg base aA (4*n+35) f fd z11z (lR C$ n+1):=by
 refine F.ok xE ?_ λc1 A U s H vs Q E hr h=>?_
 ·rintro _ _ _ _ ⟨r,J,V,a,g,m,d,cs,xs,l,L,Y,b,rfl,_⟩;rfl
 obtain⟨r,J,V,a,g,m,d,cs,xs,l,L,Y,b,rfl,I,ha,hb,hd,q⟩:=h;refine#[_,(jd (jx 3 xE.nd$ pv 2)$ jd (km HZ Z (@su _ _ _ _ _ _ _ Z R ON (pv 1) Se Se Sl Sl) (js (i:=4) xE.nd Z$ Or.inl Z)$ jg$ jx 3 xE.nd$ kN (pv 0) ck.cl hO GO hr.m bO .nil bp$ ja (pv 4)$ ja (pv 3) jb)$ jg$ jm$ pv 3),?_];have b0:=aD;have hz:=I.sz;have xl:=hb.len;refine aj λF1 u=>#[_,Z,u _ _ ?_];clear u;refine aj λF1 u=>?_;refine eI λF kF=>#[_,Z,a,xs,Z,ax.of ha,kF _ _ ?_];clear kF;refine Xr (K:=K) (xs:=xs) (BI C r J V a m d l L Y b xs H) #[b,.nil,L,g,cs,_,Z,(qQ b).symm,by rw[Ny,Im];exact hb,I.p,I.ng,I.c,ar.refl] (λi σ H' hi h=>?_) ?_ (λσ H' h=>u _ _ ?_)
 ·obtain⟨_,_,_,_,_,_,_,_,_,_,_,_,k⟩:=h;exact ax.of$ I.c.tm k _ _ ha
 ·clear u;intro E _ i x σ H2 M fE Gq t h;obtain⟨pre,eN,v,W,o,o4,rfl,j,y,X,h4,N,O⟩:=h;have hi:i < xs.length:=by
   rcases MZ i xs.length with z |z
   ·exact z
   ·rw[Ib (by simpa using z)]at M;cases M
  rw[Md hi]at M;have et:xs.take (xs.length - i)=xs.take (xs.length - (i+1))++[x]:=by
   have D:xs.length - i=(xs.length - 1 - i)+1:=by omega
   have e2:xs.length - (i+1)=xs.length - 1 - i:=by omega
   rw[D,e2,IN,M];rfl
  rw[et]at y;rcases y.last with ⟨e,_⟩ | ⟨ws,v',B,S,D,e2,h6,h7⟩
  ·exact absurd e Si
  obtain⟨ew,ev⟩:=Pj D Z;cases ev;subst e2;have h0:=zG (j▸I.ok);have G:=zG h0.1;have a1:b.dep=max (B.app S).dep eN.dep:=by rw[j,zf]
  have a2:(B.app S).dep=max B.dep S.dep:=zf ..;have h8:S.dep<=b.dep:=by rw[a1,a2];exact Hr (Mg ..)$ Mo ..
  clear a1 a2;have h9:b.size=B.size+S.size+eN.size:=by rw[j,jV,jV]
  have hl:=j9 m eN l d;have h':=kC eN;have a0:=Ze m eN l d;have a3:(pB m eN l d).1.w.sets.length+(pB m eN l d).2.length+S.size<=10000000:=by have:=JV m eN l d;omega
  refine t ?_;clear t;have tm:=I.c.tm O;show dS _ _ E [some$ .ref r,some$ .ref a,some L,some v,some x] H2;refine#[_,Z,r,J,_,Z,N.ins,Z,_,Z,_,Z,r,J,V,W,m,_,o,_,x,v,Y,S,Z,#[N,X,h4,G.2,Sf],h7.mono tm,Sf,λv3 g3 c0 H3 p3 n3 c3 k3=>fE _ _ #[B,S.app eN,v3,g3,c0,_,Z,by rw[j,zN],?_,by rw[Kf];exact p3,n3,by rw[Kf];exact c3,O.trans k3]];rw[ew];exact h6
 ·obtain⟨pre,eN,v,W,o,o4,rfl,j,y,X,h4,N,O⟩:=h;rw[MY]at y;have ep:pre= .nil:=by
   rcases y.last with ⟨_,e⟩ | ⟨ws,v,B,S,D,_⟩
   ·exact e
   ·exact absurd D Si
  rw[ep]at j;refine#[_,Z,q v W o H' ?_ h4 ?_ O]
  ·rw[j];exact X
  ·rw[j];exact N
theorem DJ:ah P w K mg base aA k f i z11z (lR C 0):=by
 have n:∀v H Q E,¬lR C 0 v H Q E:=λv H Q E h=>by obtain⟨I,D,F,a,g,m,d,j,x,p,B,y,b,_,_,_,_,e,_⟩:=h;exact absurd e$ Mn _
 exact#[λv H Q E h=>absurd h (n v H Q E),λA o s H c u v Q E _ _ _ _ h=>absurd h (n v H Q E)]
theorem Gn(c:CK K C)(FB:aK K "place_of_body" "Cutting.place_of_body" xh g f)(F:aK K "place_of" "Cutting.place_of" xp A a)(i:aK K "place_of_cut" "Cutting.place_of_cut" xj D b)(j:aK K "ways_of" "Cutting.ways_of" xz E d)
  (B:ay K f z11z []) (H:bN K C "place_of_body" g) (k:ay K a z6z []) (l:bN K C "place_of" A) (o:ay K b z6z []) (p:bN K C "place_of_cut" D) (q:ay K d z21z []) (r:bN K C "ways_of" E)
  (s:Cl P w K mg base 2 T G ["body"] gc "many_cuts") (t:Cl P w K mg base 31 U I z3z (fq 7) "used_ahead_of") (u:Cl P w K mg base 1 Y J z4z hV "deed_of") (v:Cl P w K mg base 8 fG L z2z fj "place_of_give") (x:Cl P w K mg base 11 fS N z3z ie "place_of_set") (y:mg "len"=none) (m:mg "tuple"=none) (M:mg "reversed"=none):
  ∀n:Nat,n<=8->ah P w K mg base aA (4*n+31) g f z11z (lR C n)
 |0,_=>DJ
 |n+1,h=>by
  have O:=Gn c FB F i j B H k l o p q r s t u v x y m M n Sf;have Q:=DQ j c O B H;have R:=DN i c Sf Q q r s t u y m;have S:=DP F c R o p v x;have z:=DM FB c S k l M;have e:4*n+35=4*(n+1)+31:=by omega
  rw[e]at z;exact z
theorem QZ{X:Cx}{K:Frag}{n:Nat}(a:X.K=K)(b:X.calm=true)(h:CS X e t)
  (c:(assignEach e X.env).length=n) (H:(assignEach e X.env).findIdx? (·.1)=none):PG X (.Tuple e k p) (ot K n t):=by
 subst a;exact zk b h c H
def D1(K:Frag):List V->Hp->VK->Prop:=λx H Q=>∃p y,x=[.ref p]/\(aB K H p y∨ax K H p y)/\Q (.int y.length) H
theorem Z7{X:Cx}{K:Frag}(h:X.K=K):b8 X (.builtin "len") (D1 K):=by subst h;exact jE
abbrev g3(K:Frag)(i j k:Nat):TG:=ot K 3 (de (bf i)$ de (bf j)$ de (bf k) pY)
theorem Fs{t:_L.St}(h:t.length=3):∃a b c,t=[a,b,c]:=by
 cases t with
 |nil=>cases h
 |cons a r=>
  cases r with
  |nil=>cases h
  |cons b R=>
   cases R with
   |nil=>cases h
   |cons c d=>
    cases d with
    |nil=>exact#[a,b,c,Z]
    |cons _ _=>cases h
noncomputable abbrev sV:Stmt:=bE 33
noncomputable abbrev nE:Stmt:=bE 34
structure Df where
 f:Str
 p:Addr
 pa:Addr
 pb:Addr
 b:Bd
def yi(H:Hp)(d:Df)(v:V):Prop:=∃B,v= .ref d.p/\H d.p=some (.tup [.str d.f,.ref d.pa,.ref d.pb])/\H d.pb=some (.tup B)/\di H d.b B
def cq(H:Hp):List Df->List V->Prop
 | [],a=>a=[]
 |d::D,a=>∃v r,a=v::r/\yi H d v/\cq H D r
theorem yi.mono(k:ai H a)(h:yi H d v):yi a d v:=by obtain⟨b,e,c,f,g⟩:=h;exact#[b,e,k _ _ c,k _ _ f,g.mono k]
theorem cq.mono(k:ai H b):∀{a:List V},cq H D a->cq b D a:=by
 induction D with
 |nil=>exactλh=>h
 |cons d D i=>rintro a ⟨v,r,e,c,f⟩;exact#[v,r,e,c.mono k,i f]
theorem cq.snoc{d:Df}(a:yi H d v):∀{D:List Df} {b:List V},cq H D b->cq H (D++[d]) (b++[v])
 | [],_,h=>by have e:_=[]:=h;rw[e];exact#[v,[],Z,a,Z]
 |_::_,_,z=>by obtain⟨u,r,e,c,f⟩:=z;exact #[u,r++[v],by rw[e];rfl,c,cq.snoc a f]
theorem cq.len:∀{d:List Df} {v:List V},cq H d v->v.length=d.length
 | [],_,h=>by have e:_=[]:=h;rw[e];rfl
 |_::_,_,z=>by obtain⟨u,r,e,b,a⟩:=z;rw[e,HM,HM,cq.len a]
theorem cq.at:∀{D:List Df} {b:List V},cq H D b->∀(i:Nat) (v:V),b[i]?=some v->∃d,D[i]?=some d/\yi H d v
 | [],_,h,i,v,a=>by have e:_=[]:=h;rw[e]at a;simp at a
 |d::_,_,q,0,v,a=>by obtain⟨u,r,e,c,f⟩:=q;rw[e]at a;cases a;exact#[d,Z,c]
 |_::D,_,q,i+1,v,a=>by obtain⟨u,r,e,c,f⟩:=q;rw[e]at a;simpa using cq.at f i v (by simpa using a)
def mf(d:Df):Prop:=(∃y:List Str,y.length<=20/\d.b.Ok y)/\d.b.dep < 8/\d.b.size<=3000
noncomputable def Fx(n:Addr):Pc:=#[λx=>x∈(Tm.num 0).vars,#[[],.give n]]
noncomputable def gQ(n:Addr)(d:Df):Pc×List Ct:=pB (d.b.cuts:Int) d.b (Fx n) []
noncomputable def eX(n:Addr)(d:Df):Tr:=aZ [bX d.f,oR d.pa,gA (gQ n d).1.w,aZ ((gQ n d).2.reverse.map Dk)]
def mn(K:Frag)(n:Addr):Prop:=∀H:Hp,ax K H n [.str "num",.int 0]
inductive nV(C:Addr)(f:List V)(H:Hp)(Q:VK)(c:XK):Prop
 |mk(e d a:Addr)(b:Bd)(g:List V)(_:f=[.ref e,.ref a])(_:H e=some (.ins C d []))(_:H a=some (.tup g))(_:di H b g)(_:b.size<=10000000)(_:∀(fa:Addr) (H':Hp),H fa=none->Cg H' C e d fa (b.cuts:Int) [] []->ar e H H'->Q .non H')
inductive i8(K:Frag)(c:Addr)(e:List V)(H:Hp)(Q:VK)(a:XK):Prop
 |mk(d:Df)(b:List V)(_:e=[.str d.f,.ref d.pa,.ref d.pb])(_:H d.pb=some (.tup b))(_:di H d.b b)(_:mf d)(_:∀(v:V) (H':Hp),aP H' (eX c d) v []->ae H H'->Q v H')
inductive i5(K:Frag)(e:Addr)(f:List V)(H:Hp)(Q:VK)(b:XK):Prop
 |mk(a:Addr)(c:List Df)(g:List V)(_:f=[.ref a])(_:H a=some (.tup g))(_:cq H c g)(_:c.length<=1000)(_:∀d∈c,mf d)(_:∀(v:V) (H':Hp),aP H' (aZ (c.map (eX e))) v []->ae H H'->Q v H')
theorem Z8{K:Frag}{t:TE}{Q:List V->Hp->Prop}{H:Hp}(x:H a=some (.tup g))(u:cq H D g)(R:D.length<=1000)
  (Pv:Nat->List V->Hp->Prop) (z:Pv 0 [] H) (A:∀i Y h,Pv i Y h->ae H h/\Y.length<=i)
  (C:∀i d B Y h,D[i]?=some d->h d.pb=some (.tup B)->di h d.b B->Pv i Y h->t (some (.str d.f)::some (.ref d.pa)::some (.ref d.pb)::l) h λy j=>Pv (i+1) (Y++[y]) j)
  (E:∀Y h,Pv D.length Y h->Q Y h):dI (vb K a) 3 l (g3 K 0 1 2) j' t Q H:=by
 have F:=aD;have S:=u.len;refine#[λi m Y h=>m=D.length - i/\i<=D.length/\Pv i Y h,#[D.length,Si,Ho _,z],?_];intro i m Y h c;obtain⟨rfl,T,p⟩:=c;obtain⟨s,U⟩:=A i Y h p;have c:ax K h a g:=ax.of (s _ _ x);by_cases n:i < D.length
 ·have I:i < g.length:=by omega
  refine .inr #[#[g,g[i],c,G8 I],Sf,Pv$ i+1,λJ j L=>#[D.length - (i+1),Sf,Z,n,L],λv j W o y=>?_];obtain⟨e,y⟩:=y;subst e;have q:=y g c;obtain⟨d,r,B,rfl,M,N,O⟩:=(u.mono$ ae.tm s).at i v q;obtain⟨X,t2,t3,rfl⟩:=Fs o;refine#[d.p,_,Z,ax.of M,Z,_,_,Z,_,_,Z,_,_,Z,Z,#[[some _,some _,some _],Z,Z],?_];exact C i d B Y j r N O p
 ·have e:i=D.length:=by omega
  subst e;exact .inl #[#[g,c,Sf],E Y h p]
theorem D8:ak ["self","body"] ["self","body"] (aa sT):=bu
theorem A9(F:aK K "__init__" "Cutting.__init__" sT f t)(d:CK K C)(u:Cl P w K mg base 2 M v ["body"] gc "many_cuts"):ah P w K mg base aA 3 f t ["self","body"] (nV C):=by
 refine F.ok D8 ?_ λy A O s H V Q E B h=>?_
 ·rintro _ _ _ _ ⟨i,D,a,b,x,rfl,_⟩;rfl
 obtain⟨i,D,a,b,x,rfl,G,I,J,L,q⟩:=h;refine#[_,(jd (@qC _ _ _ _ _ _ _ _ (pv 0) (u.e B.m$ ja (pv 1) jb) Z)$ jg$ @qC _ _ _ _ _ _ _ _ (pv 0) (jD jb) Z),?_];refine aj λS l=>#[_,Z,a,b,x,Z,I,J,L,λT k=>#[_,Z,i,C,D,_,Z,k _ _ G,d.cl,d.nm,Se,l _ _ ?_]];clear l;refine#[iw,λg n=>#[_,Z,i,C,D,_,Z,am jc n,d.cl,d.nf,(by show 1 < 1000;decide),?_]];have N:g≠i:=λe=>by rw[e,jc]at n;cases n
 have p:H g=none:=by
  cases e:H g with
  |none=>rfl
  |some o=>rw[ji N,k _ _ e]at n;cases n
 refine q g _ p #[jc,by rw[ji N,jc],Z] λc o r e=>?_;rw[ji r,ji (λz=>by rw[z,p]at e;cases e),ji r];exact k _ _ e
theorem mM:ak ["name","params","body","cutting","first"] z17z (aa sV):=bu
theorem wq(F:aK K "part_made" "part_made" sV f fd)(t:CK K C)(mk:Mk K C fI)(GI:ah P w K mg base aA 3 fI u ["self","body"] (nV C))(bI:ay K u ["self","body"] [])(mC:mg "Cutting"=some (.ref C))(M:mg "NOUGHT"=some (.ref n))(no:mn K n)(GB:ah P w K mg base aA 63 fB x z11z (lR C 8))(bB:ay K x z11z [])(hB:bN K C "place_of_body" fB)(cG:Cl P w K mg base 8 fG f0 z2z (nY K) "place_of_give")(y:mg "tuple"=none)(z:mg "reversed"=none):ah P w K mg base aA 64 f fd z17z (i8 K n):=by
 refine F.ok mM ?_ λc0 A O s H vs Q E B h=>?_
 ·rintro _ _ _ _ ⟨d,G,rfl,_⟩;rfl
 obtain⟨d,G,rfl,hb,a,I,q⟩:=h;refine#[_,(jd (jx 3 mM.nd$ Y2 mk GI B.m Z mC bI .nil bp$ ja (pv 2) jb)$ jd (jx 4 mM.nd$ kN (pv 3) t.cl hB GB B.m bB .nil bp$ ja (pv 2)$ ja (cG.e B.m$ ja (kY (v:=.ref n) Z M Z) jb) jb)$ jg$ jm$ jh$ ja (pv 0)$ ja (pv 1)$ ja (jz$ pv 4)$ ja (@ZZ _ _ _ _ _ _ _ _ _ Z Z y IQ Z z ON (zo (pv 3) Z) Se Se Se Se Sl Sl Sl Sl) jb),?_];have b0:=aD;obtain⟨⟨ys,y0,ok⟩,J,hz⟩:=I;refine aj λF1 j=>#[_,Z,λi D N L n0=>?_];have S:ae H (af (af H D$ .own i) i$ .ins C D []):=λc o e=>by rw[ji$ jl e N,ji$ jl e L];exact e
 refine#[i,D,d.pb,d.b,G,Z,jc,S _ _ hb,a.mono$ ae.tm S,Sf,λp H1 nf R k1=>#[Z,j _ _ ?_]];clear j;have s1:ae H H1:=λc o e=>k1 c o (jl e N) (S _ _ e);have T:H p=none:=S.free nf;refine aj λF1 j=>#[_,Z,i,D,_,Z,R.ins,Z,_,Z,n,ys,Z,no _,Sf,λv g H2 p2 n2 k2=>?_];have ng:g≠p:=λe=>by rw[e,R.fd]at n2;cases n2
 have U:=s1.trans k2;refine#[i,D,p,d.pb,g,_,[],[],G,Fx n,v,ys,d.b,Z,#[R.same k2,p2,ng,ok,by show 0+0+d.b.size<=_;omega],U _ _ hb,a.mono$ ae.tm U,J,λv3 g3 k V p3 n3 W k3=>j _ _ ?_];clear j;obtain⟨r3,w3,rfl,X,Y⟩:=uO p3;have s3:ae H V:=λc o e=>k3 c o (jl e T) (U _ _ e);refine#[_,Z,_,Z,jv X Z #[_,Z,i,C,D,_,_,Z,W.ins,t.cl,t.nf,Z,p,k,Z,aB.of W.fd,λl nl=>#[oe,λr nr=>?_]]];have s5:ae V (af (af V l$ .tup k.reverse) r$ .tup [.str d.f,.ref d.pa,w3,.ref l]):=(je nl).trans (je nr);refine q (.ref r) _ ?_$ s3.trans s5;refine jG jc$ jo Z j3$ jo Z Jh$ jo Z (Y.mono$ ae.tm s5)$ jo Z (jG (am jc nr) ?_) jC;have e:=Zd (W.tr.mono$ ae.tm s5);rw[<- List.map_reverse]at e;exact e
theorem B0:ak ["program"] ["program"] (aa nE):=bu
noncomputable def tQ:Scope:=#[.function,[(".0",.local),("name",.local),("params",.local),("body",.local),("part_made",.globalImplicit)],false,false,[]]
theorem rG:(z17z:List Str).Nodup:=by decide+kernel
theorem Di:aT ["program"] (aa nE) tQ z17z 3 []:=l8
theorem wm(F:aK K "made" "made" nE f p)(C:Cl P w K mg base 64 U t z17z (i8 K N) "part_made")(M:mg "tuple"=none):ah P w K mg base aA 65 f p ["program"] (i5 K N):=by
 refine F.ok B0 ?_ λu A o s H V Q E x h=>?_
 ·rintro _ _ _ _ ⟨a,D,X,rfl,_⟩;rfl
 obtain⟨a,D,X,rfl,g,y,B,O,q⟩:=h;refine#[_,(jg$ jm$ jF jB Z M IQ$ ja (@ki _ _ _ _ _ _ _ (z17z) (3) ([]) _ _ _ _ Z (qc$ pv 0) Di (λ_ _ _ _ _=>(QZ (K:=K) (n:=3) Z Z (jy (js (i:=0) rG Z$ Or.inl Z)$ jy (js (i:=1) rG Z$ Or.inl Z)$ jy (js (i:=2) rG Z$ Or.inl Z) j4) Z Z)) (λ_ _ _ _ _=>(@kM _)) (λ_ _ _ _ _=>(C.e x.m$ ja (pv 0)$ ja (pv 1)$ ja (pv 2) jb)) (by intro _;rfl)) jb),?_];refine#[_,Z,a,Z,#[_,ax.of g],?_];refine Z8 g y B (λi V b=>aP b (aG ((D.take i).map$ eX N)) .non V/\ae H b/\i<=D.length) #[Z,ae.refl _,Ho _] (λi V b h=>#[h.2.1,?_]) (λi d G V b c I J h=>?_) (λV b h l L=>?_)
 ·rw[zD h.1,He,HL];exact NT ..
 ·have R:i < D.length:=by
   rcases MZ i D.length with z |z
   ·exact z
   ·rw[Ib z]at c;cases c
  refine#[_,Z,_,Z,_,Z,d,G,Z,I,J,O d$ Hu c,λv Y T j=>#[?_,h.2.1.trans j,R]];rw[IN,c,Hz];exact JU (jo Z T jC)$ h.1.mono$ ae.tm j
 ·refine#[l,V,Z,.inl #[aB.of jc,λr S=>?_]];have s:ae b (af (af b l$ .lst V) r$ .tup V):=(je L).trans (je S);refine q (.ref r) _ (jG jc ?_)$ h.2.1.trans s;have e:=h.1;rw[Im]at e;exact e.mono$ ae.tm s
noncomputable abbrev sX:Stmt:=bE 60
noncomputable abbrev sY:Stmt:=bE 61
noncomputable abbrev nC:Stmt:=bE 62
def aI(p q:Addr)(H h:Hp):Prop:=∀b o,b≠p->b≠q->H b=some o->h b=some o
theorem aI.refl:aI p q H H:=λ_ _ _ _ h=>h
theorem aI.trans(a:aI p q H d)(b:aI p q d e):aI p q H e:=λc o n m h=>b c o n m (a c o n m h)
theorem ar.two(a:ar p H b):aI p q H b:=λc o n _ h=>a c o n h
theorem aI.of_same(a:ae H b):aI p q H b:=λc o _ _ h=>a c o h
theorem aI.at:aI p q H (af H q o):=λb u _ m e=>by rw[ji m];exact e
def bZ(H:Hp)(q:Addr):Prop:=∃k:Int,H q=some (.lst [.int k])
theorem bZ.new{o:HO}(h:bZ H q)(n:H r=none):bZ (af H r o) q:=let #[k,e]:=h;#[k,am e n]
theorem bZ.ne(h:bZ H q)(B:ao H p):q≠p:=by obtain⟨k,e⟩:=h;obtain⟨a,b,_,_,_,d⟩:=B.ob;exact jO e d (by intro z;cases z)
theorem bZ.but(h:bZ H q)(B:ao H p)(k:ar p H a):bZ a q:=by have n:=h.ne B;obtain⟨z,e⟩:=h;exact#[z,k _ _ n e]
theorem aI.tm(k:aI p q H h)(B:ao H p)(s:bZ H q):ai H h:=λb x e=>by obtain⟨a,c,_,_,_,f⟩:=B.ob;obtain⟨z,g⟩:=s;exact k b _ (jO e f (by intro w;cases w)) (jO e g (by intro w;cases w)) e
noncomputable def cp(H:Hp)(q:Addr):Int:=match H q with
 |some (.lst [.int k])=>k
 |_=>0
theorem zH{H:Hp}(e:H q=some (.lst [.int k])):cp H q=k:=by unfold cp;rw[e]
theorem QJ{h:Hp}(s:bZ H q)(k:∀o,H q=some o->h q=some o):cp h q=cp H q:=by obtain⟨z,e⟩:=s;rw[zH e,zH$ k _ e]
theorem jR(B:ao H p)(s:bZ H q)(k:ar p H h):cp h q=cp H q:=QJ s λo e=>k _ _ (s.ne B) e
theorem jW(s:bZ H q)(k:ae H h):cp h q=cp H q:=QJ s λo e=>k _ _ e
def ED(H:Hp)(c:Str×List Str)(v:V):Prop:=∃p t,v= .ref p/\H p=some (.tup [.str c.1,.ref t])/\H t=some (.tup$ c.2.map V.str)
def du(H:Hp):List (Str×List Str)->List V->Prop
 | [],a=>a=[]
 |c::C,a=>∃v r,a=v::r/\ED H c v/\du H C r
theorem du.mono(k:ai H b):∀{c:List (Str×List Str)} {a:List V},du H c a->du b c a
 | [],_,h=>h
 |_::_,_,z=>by obtain⟨v,r,e,⟨p,t,E,d,f⟩,g⟩:=z;exact #[v,r,e,#[p,t,E,k _ _ d,k _ _ f],du.mono k g]
theorem du.snoc(a:ED H c v):∀{C:List (Str×List Str)} {b:List V},du H C b->du H (C++[c]) (b++[v])
 | [],_,h=>by have e:_=[]:=h;rw[e];exact#[v,[],Z,a,Z]
 |_::_,_,z=>by obtain⟨u,r,e,d,f⟩:=z;exact #[u,r++[v],by rw[e];rfl,d,du.snoc a f]
theorem du.len:∀{c:List (Str×List Str)} {v:List V},du H c v->v.length=c.length
 | [],_,h=>by have e:_=[]:=h;rw[e];rfl
 |_::_,_,z=>by obtain⟨u,r,e,b,a⟩:=z;rw[e,HM,HM,du.len a]
theorem du.at:∀{C:List (Str×List Str)} {b:List V},du H C b->∀(i:Nat) (v:V),b[i]?=some v->∃c,C[i]?=some c/\ED H c v
 | [],_,h,i,v,a=>by have e:_=[]:=h;rw[e]at a;simp at a
 |c::_,_,q,0,v,a=>by obtain⟨u,r,e,d,f⟩:=q;rw[e]at a;cases a;exact#[c,Z,d]
 |_::C,_,q,i+1,v,a=>by obtain⟨u,r,e,d,f⟩:=q;rw[e]at a;simpa using du.at f i v (by simpa using a)
theorem BL(h:du H C a)(i:0<=k)(j:k < (a.length:Int)):∃v c,dq a k=some v/\c∈C/\ED H c v:=by
 have b:k.toNat < a.length:=by omega
 have d:k=((k.toNat:Nat):Int):=by omega
 have E:a[k.toNat]?=some a[k.toNat]:=G8 b;have e:dq a ((k.toNat:Nat):Int)=some a[k.toNat]:=jM E;rw[<- d]at e;obtain⟨c,f,g⟩:=h.at _ _ E;exact#[_,c,e,Hu f,g]
def Bd.fit(h:List (Str×List Str))(y:List Str)(d:Nat)(b:Bd):Prop:=(b.Ok y/\b.Cs (h.map λc=>(c.1,c.2.length)))/\b.dep<=d
theorem Zf:Bd.fit h y d .nil:=#[#[trivial,trivial],Ho _]
theorem Ax{H:List (Str×List Str)}{l:Lf}(h:l.Ok y)(k:l.Cs (H.map λc=>(c.1,c.2.length))):Bd.fit H y d (.lf p l .nil):=#[#[#[h,trivial],k,trivial],Ho _]
theorem Zg{a b:Bd}(h:a.fit H y d)(k:b.fit H y d):(a.app b).fit H y d:=#[#[Ke h.1.1 k.1.1,Kd h.1.2 k.1.2],by rw[zf];have:=h.2;have:=k.2;omega]
theorem vI{a b:Bd}(c:db y T)(h:a.fit H y d)(k:b.fit H y d):Bd.fit H y (d+1) (.ite p t T a b .nil):=#[#[#[c,h.1.1,k.1.1,trivial],h.1.2,k.1.2,trivial],by show max (max a.dep b.dep+1) 0<=d+1;have:=h.2;have:=k.2;omega]
theorem pU{a:Bd}(H:db y T)(h:a.fit b y d):Bd.fit b y (d+1) (.loop p t T a .nil):=#[#[#[H,h.1.1,trivial],h.1.2,trivial],by show max (a.dep+1) 0<=d+1;have:=h.2;omega]
noncomputable def Gp:Nat->Nat
 |0=>1
 |d+1=>1+2*(5*Gp d)
inductive ig(b:List V)(H:Hp)(Q:VK)(a:XK):Prop
 |mk(p g:Addr)(c:List Str)(_:b=[.ref p,.ref g])(_:ao H p)(_:H g=some (.lst (c.map V.str)))(_:1<=c.length)(_:c.length<=20)(_:∀(r:Addr) (T:Tm) (H':Hp),a7 H' T r->db c T->ao H' p->ar p H H'->Q (.ref r) H')
structure lV(H:Hp)(p g h sp:Addr)(ys:List Str)(hs:List (Str×List Str)):Prop where
 B:ao H p
 g:H g=some (.lst$ ys.map V.str)
 y1:1<=ys.length
 y2:ys.length<=20
 h:∃hv,H h=some (.lst hv)/\du H hs hv
 h1:1<=hs.length
 h2:hs.length<=20
 h3:∀c∈hs,c.2.length<=6
 s:bZ H sp
theorem lV.gsp{H:Hp}{p g h S:Addr}{y:List Str}{b:List (Str×List Str)}(G:lV H p g h S y b):g≠S:=by
 obtain⟨k,e⟩:=G.s;refine jO G.g e λz=>?_;injection z with z;have c:=G.y1
 match y,c,z with
 |a::r,_,z=>injection z with d _;cases d
theorem lV.hsp{H:Hp}{p g h S:Addr}{y:List Str}{f:List (Str×List Str)}(G:lV H p g h S y f):h≠S/\h≠p:=by
 obtain⟨k,e⟩:=G.s;obtain⟨j,E,l⟩:=G.h;obtain⟨a,b,_,_,_,m⟩:=G.B.ob;have n:=G.h1;have:∃q r,j= .ref q::r:=by
  match f,n,l with
  |c::C,_,#[v,r,e,#[q,t,o,_],_]=>exact#[q,r,by rw[e,o]]
 obtain⟨q,r,rfl⟩:=this;refine#[jO E e λz=>?_,jO E m λz=>?_]
 ·injection z with z;injection z with d _;cases d
 ·injection z with z;injection z with d _;cases d
theorem lV.but2{H a:Hp}{p g h S:Addr}{y:List Str}{b:List (Str×List Str)}(G:lV H p g h S y b)(B:ao a p)(s:bZ a S)(k:aI p S H a):lV a p g h S y b:=by obtain⟨c,e,E⟩:=G.h;exact#[B,k _ _ (zp G.B G.g) G.gsp G.g,G.y1,G.y2,#[c,k _ _ G.hsp.2 G.hsp.1 e,E.mono$ k.tm G.B G.s],G.h1,G.h2,G.h3,s]
theorem lV.but{H a:Hp}{p g h S:Addr}{y:List Str}{b:List (Str×List Str)}(G:lV H p g h S y b)(B:ao a p)(k:ar p H a):lV a p g h S y b:=G.but2 B (G.s.but G.B k) k.two
inductive iD(n:Nat)(f:List V)(H:Hp)(Q:VK)(a:XK):Prop
 |mk(p g h e:Addr)(d:Nat)(i:List Str)(c:List (Str×List Str))(_:f=[.ref p,.ref g,.ref h,.ref e,.int (d:Int)])(_:lV H p g h e i c)(_:d < n)(_:0 < cp H e)(_:∀(r:Addr) (b:Bd) (H':Hp),di H' b [.ref r]->(b.size:Int)+cp H' e<=cp H e->0<=cp H' e->b.fit c i d->ao H' p->bZ H' e->aI p e H H'->Q (.ref r) H')
inductive f8(n:Nat)(f:List V)(H:Hp)(Q:VK)(a:XK):Prop
 |mk(p g h e:Addr)(d:Nat)(i:List Str)(c:List (Str×List Str))(_:f=[.ref p,.ref g,.ref h,.ref e,.int (d:Int)])(_:lV H p g h e i c)(_:d < n)(_:0<=cp H e)(_:∀(r:Addr) (b:Bd) (bs:List V) (H':Hp),H' r=some (.tup bs)->di H' b bs->(b.size:Int)+cp H' e<=cp H e->0<=cp H' e->b.fit c i d->ao H' p->bZ H' e->aI p e H H'->Q (.ref r) H')
theorem tN:ak ["_law_box_here","_law_names_here","_law_kind"] z25z (aa sX):=bu
theorem wz(F:aK K "_law_spot" "_law_spot" sX f M)(C:Cl P w K mg base 1 Y N z0z aL "_law_take")(O:Cl P w K mg base 6 fM R z8z (cr 4) "_law_term"):ah P w K mg base aA 7 f M z25z ig:=by
 refine F.ok tN ?_ λS A o s H vs Q E a h=>?_
 ·rintro _ _ _ _ ⟨p,g,y,rfl,_⟩;rfl
 obtain⟨p,g,y,rfl,B,I,i,j,q⟩:=h;refine#[_,(jd (jx 2 tN.nd$ C.e a.m$ ja (pv 0)$ ja jf jb)$ jd (jw (jA qH (pv 2) jf$ aC _) (jg$ jm$ O.e a$ ja (pv 0)$ ja (pv 1)$ ja jf jb) jp)$ jd (jw (kE$ pv 2) (jg$ jm$ jh$ ja jk$ ja (ju kJ (ju kJ (ju Ka jf jf) jf)$ C.e a.m$ ja (pv 0)$ ja jf jb) jb) jp)$ jg$ jm$ jh$ ja jk$ ja (C.e a.m$ ja (pv 0)$ ja jf jb) jb),?_];have k:g≠p:=zp B I;refine#[_,Z,p,8,Z,B,Se,Se,λkd J k0 k1 l L=>?_];have t:J g=some (.lst$ y.map V.str):=by rw[L g k];exact I
 have u:ar p H J:=ar.of_eq L;refine#[_,Z,_,_,Z,Z,_,Z,?_];refine bG (λc=>?_) (λc=>?_)
 ·exact#[_,Z,_,Z,p,g,1,y,Z,l,t,i,j,Se,Se,λr T v U dT W b X=>q r T v U #[W,Sf] b (u.trans X)]
 refine#[_,Z,Z,_,Z,?_];refine bG (λc=>?_) (λc=>?_)
 ·refine#[_,_,Z,Z,#[Se,Se,Se],_,_,Z,Z,_,Z,p,4,Z,l,Se,Se,λD v d x b z=>#[_,_,Z,Z,bK,λr n=>?_]];exact q r (.num (1000000000000000000 - 1 - D)) _ jc #[#[Sf,Sf],(by show 0 < 6;decide)] (b.upd_new n) ((u.trans$ ar.of_eq z).upd_new n)
 ·refine#[_,Z,p,12,Z,l,Se,Se,λD v d x b z=>#[bK,λr n=>?_]];exact q r (.num D) _ jc #[#[d,Sf],(by show 0 < 6;decide)] (b.upd_new n) ((u.trans$ ar.of_eq z).upd_new n)
theorem iB:ak z36z z5z (aa sY):=bu
noncomputable def Z9:Scope:=#[.function,[(".0",.local),("_law_one",.local),("_law_term",.globalImplicit),("_law_box_here",.free),("_law_names_here",.free)],false,false,[]]
theorem AV:(z31z:List Str).Nodup:=by decide+kernel
theorem Aq:aT z36z (aa sY) Z9 z31z 1 [0,1]:=l8
def RH(p g h s:Addr)(d:Nat)(k:Int)(y:Str)(H:Hp)(a:_L.St)(b:Hp):Prop:=a=[some$ .ref p,some$ .ref g,some$ .ref h,some$ .ref s,some$ .int (d:Int),some$ .int k,some$ .str y,none,none,none]/\b=H
theorem Bo(F:aK K "_law_statement" "_law_statement" sY f fd)(cT:Cl P w K mg base 1 fT f0 z0z aL "_law_take")(cM:Cl P w K mg base 6 fM f3 z8z (cr 4) "_law_term")(cP:Cl P w K mg base 7 fP f4 z25z ig "_law_spot"){L:Nat}(cB:Cl P w K mg base (L+9) fB f5 z5z (f8 n) "_law_body")(ml:mg "len"=none)(m0:mg "tuple"=none):ah P w K mg base aA (L+10) f fd z5z (iD$ n+1):=by
 refine F.ok iB ?_ λc3 A o2 s H vs Q E U h=>?_
 ·rintro _ _ _ _ ⟨p,g,h,S,d,ys,hs,rfl,_⟩;rfl
 obtain⟨p,g,h,S,d,ys,hs,rfl,G0,hd,b1,q⟩:=h;refine#[_,(jd (jx 5 iB.nd$ cT.e U.m$ ja (pv 0)$ ja jf jb)$ jd (jx 6 iB.nd$ jr jq (pv 1) (cT.e U.m$ ja (pv 0)$ ja (jH jE Z ml Ih$ ja (pv 1) jb) jb) (λ_ _=>Z))$ jd (kQ (ju kJ (jr jq (pv 3) jf (λ_ _=>Z)) jf)$ z9 (pv 3) jf zd)$ jd (jw (jA qH (pv 5) jf$ aC _) (jg$ jm$ jh$ ja jk$ ja (pv 6)$ ja (cP.e U.m$ ja (pv 0)$ ja (pv 1) jb) jb) jp)$ jd (jw (PW.pt$ Jw (kE$ pv 5)$ qB$ kE$ pv 5) (jg$ jm$ jh$ ja jk$ ja (cP.e U.m$ ja (pv 0)$ ja (pv 1) jb)$ ja (cM.e U.m$ ja (pv 0)$ ja (pv 1)$ ja jf jb) jb) jp)$ jd (jw (PW.pt$ Jw (kE$ pv 5)$ qB$ kE$ pv 5) (jd (kQ (jr jq (pv 2) (cT.e U.m$ ja (pv 0)$ ja (jH jE Z ml Ih$ ja (pv 2) jb) jb) (λ_ _=>Z))$ zk (n:=2) Z$ jy (js (i:=7) iB.nd Z$ Or.inl Z)$ jy (js (i:=8) iB.nd Z$ Or.inl Z) j4)$ jg$ jm$ jh$ ja jk$ ja (pv 6)$ ja (pv 7)$ ja (jF jB Z m0 IQ$ ja (@ki _ _ _ _ _ _ _ (z31z) (1) ([0,1]) _ _ _ _ Z (qc$ pv 8) Aq (λ_ _ _ _ _=>(js (i:=0) AV Z$ Or.inl Z)) (λ_ _ _ _ _=>(@kM _)) (λ_ _ _ _ _=>(cM.e U.m$ ja (pv 1)$ ja (pv 2)$ ja jf jb)) (by intro _;rfl)) jb) jb) jp)$ jd (jZ$ jw (PW.pt$ J9 (kE$ pv 5)$ qM$ jA qI (pv 4) jf$ aC _) (jd (jx 9 iB.nd$ cB.e U$ ja (pv 0)$ ja (pv 1)$ ja (pv 2)$ ja (pv 3)$ ja (ju kJ (pv 4) jf) jb)$ jg$ jm$ jh$ ja jk$ ja (cM.e U.m$ ja (pv 0)$ ja (pv 1)$ ja jf jb)$ ja (pv 9)$ ja (cB.e U$ ja (pv 0)$ ja (pv 1)$ ja (pv 2)$ ja (pv 3)$ ja (ju kJ (pv 4) jf) jb) jb) jp)$ jd (jZ$ jw (PW.pt$ J9 (kE$ pv 5)$ qM$ jA qI (pv 4) jf$ aC _) (jg$ jm$ jh$ ja jk$ ja (cM.e U.m$ ja (pv 0)$ ja (pv 1)$ ja jf jb)$ ja (cB.e U$ ja (pv 0)$ ja (pv 1)$ ja (pv 2)$ ja (pv 3)$ ja (ju kJ (pv 4) jf) jb) jb) jp)$ jd (jw (kE$ pv 5) (jg$ jm$ jh$ ja jk$ ja (cM.e U.m$ ja (pv 0)$ ja (pv 1)$ ja jf jb) jb) jp)$ jg$ jm$ jh$ ja jk$ ja (pv 6)$ ja (cM.e U.m$ ja (pv 0)$ ja (pv 1)$ ja jf jb) jb),?_];have b2:=aD;have B:=G0.B;have b4:g≠p:=zp B G0.g;refine aj λF1 u=>#[_,Z,p,10,Z,B,Se,Se,λkd H1 k0 k1 B1 e1=>u _ _ ?_];clear u;have G1:=G0.but B1 (ar.of_eq e1);have y1:=G0.y1;have y2:=G0.y2;refine aj λF1 u=>#[_,Z,_,Z,_,Z,g,_,Z,.inl$ aB.of G1.g,p,_,Z,B1,by rw[He];omega,by rw[He];omega,λd2 H2 d1 d0 B2 e2=>?_];rw[He]at d0;have G2:=G1.but B2 (ar.of_eq e2);obtain⟨y,hy,a1⟩:=Jg (ys:=ys) d1 d0;refine#[g,_,_,_,Z,Z,aB.of G2.g,a1,u _ _ ?_];clear u;obtain⟨k,hk⟩:=G2.s;have ek:cp H S=k:=((jR B1 G1.s$ ar.of_eq e2).trans$ jR B G0.s$ ar.of_eq e1).symm.trans (zH hk);refine aj λF1 u=>#[_,Z,S,_,_,_,Z,Z,aB.of hk,Z,_,_,Z,Z,_,Z,S,_,_,0,Z,Z,hk,Z,u _ _ ?_];clear u;have s0:=G2.s.ne B2;have B3:ao (af H2 S$ .lst ([.int k].set 0 (.int$ k - 1))) p:=B2.eq (ji$ HR s0);have s3:bZ (af H2 S$ .lst ([.int k].set 0 (.int$ k - 1))) S:=#[k - 1,jc];have K3:aI p S H (af H2 S$ .lst ([.int k].set 0 (.int$ k - 1))):=((ar.of_eq e1).trans$ ar.of_eq e2).two.trans aI.at;have G:=G0.but2 B3 s3 K3;have e3:cp (af H2 S$ .lst ([.int k].set 0 (.int$ k - 1))) S=k - 1:=zH jc;generalize af H2 S (.lst ([.int k].set 0 (.int$ k - 1)))=H3 at B3 s3 K3 G e3;have l0:∀(l:Lf) (M:List V) (j:Hp) (r:Addr),ve j l M->l.Ok ys->l.Cs (hs.map λc=>(c.1,c.2.length))->lV j p g h S ys hs->aI p S H j->cp j S=k - 1->j r=none->Q (.ref r) (af j r$ .tup M):=λl M j r hl ok cs C K4 e4 nr=>
  q r (.lf r l .nil) _ #[M,[],Z,jc,hl.mono$ ae.tm$ je nr,Z] (by rw[jW C.s$ je nr];show((0+1:Nat):Int)+_<=_;omega) (by rw[jW C.s$ je nr];omega) (Ax ok cs) (C.B.upd_new nr) (C.s.new nr) (K4.trans$ aI.of_same$ je nr)
 refine aj λF1 u=>ni λG' D=>#[_,Z,_,_,Z,Z,_,Z,D _ _ ?_];clear D;refine bG (λc=>?_) (λc=>u _ _ ?_)
 ·refine#[_,Z,_,Z,_,Z,p,g,ys,Z,G.B,G.g,y1,y2,λr T j W oT B4 J=>#[dZ,λt N=>?_]];exact l0 (.rd y r T) _ j t #[Z,W] #[hy,oT] trivial (G.but B4 J) (K3.trans J.two) ((jR G.B G.s J).trans e3) N
 have wr:∀(r:Addr) (T0:Tm) (j:Hp),a7 j T0 r->db ys T0->ao j p->ar p H3 j->dC (cr 4) [] E0 (al (aV 0)$ al (aV 1)$ al (tC$ .int 2) aM) [some$ .ref p,some$ .ref g,some$ .ref h,some$ .ref S,some$ .int (d:Int),some$ .int kd,some$ .str y,none,none,none] j (λv o=>3<=sizeLine/\∀t,o t=none->Q (.ref t) (af o t$ .tup [.str "write",.ref r,v])):=λr T0 j h4 o1 B4 J=>by refine#[_,Z,_,Z,p,g,2,ys,Z,B4,(G.but B4 J).g,y1,y2,Se,Se,λX T o W dT gT R a=>#[Se,λt N=>?_]];exact l0 (.wr r X T0 T) _ o t #[Z,h4.but B4 a,W] #[o1,gT,Sf] trivial (G.but R$ J.trans a) (K3.trans (J.trans a).two) ((jR G.B G.s$ J.trans a).trans e3) N
 refine aj λF1 u=>ni λG' D=>?_;have Y:G' true H3:=D _ _ (oy #[_,Z,_,Z,p,g,ys,Z,G.B,G.g,y1,y2,λr T0 j h4 o1 B4 J=>wr r T0 j h4 o1 B4 J]);refine#[_,Z,Z,_,Z,bG (λc=>Y) (λc=>#[_,Z,Z,_,Z,yo Y λc2=>D _ _ (aO c2$ u _ _ ?_)])];clear Y D u;obtain⟨hv,hh,hH⟩:=G.h;have hl:=hH.len;have h1:=G0.h1;have h2:=G0.h2;have c1:∀(f':Str) (ps:List Str) (h9:(f',ps.length)∈hs.map λc=>(c.1,c.2.length)) (t:Addr) (j:Hp),lV j p g h S ys hs->aI p S H j->cp j S=k - 1->j t=some (.tup$ ps.map V.str)->ps.length<=6->
   dI (vb K t) 1 [some$ .ref p,some$ .ref g] (bf 0) j' (dC (cr 4) [] E0$ al (aV 1)$ al (aV 2)$ al (tC$ .int 1) aM) (λM o=>∀l,o l=none->∃p' y0,[V.ref l]=[.ref p']/\((aB K (af o l$ .lst M) p' y0/\∀l2,af o l (.lst M) l2=none->4<=sizeLine/\∀r,af (af o l$ .lst M) l2 (.tup y0) r=none->Q (.ref r) (af (af (af o l$ .lst M) l2$ .tup y0) r$ .tup [.str "call",.str y,.str f',.ref l2]))∨(ax K (af o l$ .lst M) p' y0/\4<=sizeLine/\∀r,af o l (.lst M) r=none->Q (.ref r) (af (af o l$ .lst M) r$ .tup [.str "call",.str y,.str f',.ref p'])))) j:=λf' ps h9 t j C K4 e4 ht b5=>by
  refine qr (K:=K) (xs:=ps.map V.str) (by rw[He];omega) (λi M o=>∃ts:List (Addr×Tm),M=ts.map (λc=>V.ref c.1)/\ts.length=i/\(∀c∈ts,a7 o c.2 c.1/\db ys c.2)/\ao o p/\ar p j o) #[[],Z,Z,(λ_ h=>absurd h HK),C.B,ar.refl] (λi M o h5=>?_) ?_ ?_
  ·obtain⟨ts,rfl,e5,_,_,a⟩:=h5;exact#[ax.of$ a.tm C.B _ _ ht,by rw[He,e5];exact Hg _]
  ·intro i x M o hx a2;obtain⟨ts,rfl,e5,h5,R,a⟩:=a2;refine#[_,Z,_,Z,p,g,1,ys,Z,R,(C.but R a).g,y1,y2,Se,Se,λX T H6 W dT gT B6 k6=>#[ts++[(X,T)],by rw[Hz];rfl,by rw[Hf,e5];rfl,λc hc=>?_,B6,a.trans k6]];rcases List.mem_append.mp hc with hc |hc
   ·exact#[(h5 c hc).1.but R k6,(h5 c hc).2]
   ·rw[List.mem_singleton.mp hc];exact#[W,gT,(by show T.depth < 6;omega)]
  ·rintro M o ⟨ts,rfl,e5,h5,R,a⟩ l nl;refine#[l,_,Z,.inl #[aB.of jc,λl2 n0=>#[Se,λr nr=>?_]]];have O:=C.but R a;have s6:ae o (af (af o l$ .lst$ ts.map λc=>V.ref c.1) l2$ .tup$ ts.map λc=>V.ref c.1):=(je nl).trans (je n0);rw[He]at e5;exact l0 (.cl y f' l2 ts) _ _ r #[Z,jc,λc hc=>(h5 c hc).1.same s6] #[hy,Sf,λc hc=>(h5 c hc).2] (by show(f',ts.length)∈_;rw[e5];exact h9) (O.but2 ((O.B.upd_new nl).upd_new n0) ((O.s.new nl).new n0)$ aI.of_same s6) ((K4.trans a.two).trans$ aI.of_same s6) ((jW O.s s6).trans ((jR C.B C.s a).trans e4)) nr
 refine aj λF1 u=>ni λG' D=>?_;have Y:G' true H3:=by refine D _ _$ oy ?_;clear u D;refine aj λF2 f2=>#[_,Z,_,Z,_,Z,h,_,Z,.inl$ aB.of hh,p,_,Z,G.B,Sf,Sf,λd4 j d3 d5 B4 e4=>?_];have C:=G.but B4 (ar.of_eq e4);have J:ar p H3 j:=ar.of_eq e4;have a3:=hH.mono (J.tm G.B);obtain⟨v,c0,a4,h',p4,t4,rfl,z1,z2⟩:=BL a3 d3 d5;refine#[h,_,_,_,Z,Z,aB.of$ J _ _ G.hsp.2 hh,a4,p4,_,Z,ax.of z1,Z,_,_,Z,_,_,Z,Z,f2 _ _ ?_];clear f2;refine#[_,Z,_,Z,_,Z,t4,Z,#[_,ax.of z2],?_];exact c1 c0.1 c0.2 (List.mem_map.mpr #[c0,h',Z]) t4 j C (K3.trans J.two) ((jR G.B G.s J).trans e3) z2$ G0.h3 c0 h'
 refine#[_,Z,Z,_,Z,bG (λc=>Y) (λc=>#[_,Z,Z,_,Z,yo Y λc2=>D _ _ (aO c2$ u _ _ ?_)])];clear Y D u;have l1:∀(c:(0:Int) < (d:Int)),∃d':Nat,d=d'+1:=λc=>#[d - 1,Sf];refine aj λF1 u=>dm (RH p g h S d kd y H3) (λE6 eR f6=>?_) λσ0 H' z=>?_
 ·clear u;refine ni λG' D=>#[_,Z,Z,_,Z,?_];refine bG (λc=>?_) (λc=>D _ _ (ou$ f6 _ _ #[Z,Z]));refine#[_,Z,_,_,Z,Z,_,Z,D _ _ ?_];clear D;refine bG (λc2=>?_) (λc2=>f6 _ _ #[Z,Z]);clear f6;obtain⟨d',rfl⟩:=l1 (ID c2);have ed:(((d'+1:Nat):Int) - 1)=((d':Nat):Int):=by omega
  refine#[_,Z,_,Z,_,Z,_,Z,_,Z,_,_,Z,Z,p,g,h,S,d',ys,hs,(by show [V.ref p,V.ref g,V.ref h,V.ref S,V.int (((d'+1:Nat):Int) - 1)]=_;rw[ed]),G,Sf,Sf,λr b bs j a5 a6 b7 a8 a' B4 s4 J=>?_];have C:=G.but2 B4 s4 J;refine#[_,Z,_,Z,p,g,2,ys,Z,C.B,C.g,y1,y2,Se,Se,λX T o W dT gT R a=>?_];have O:=C.but R a;refine#[_,Z,_,Z,_,Z,_,Z,_,Z,_,Z,_,_,Z,Z,p,g,h,S,d',ys,hs,(by show [V.ref p,V.ref g,V.ref h,V.ref S,V.int (((d'+1:Nat):Int) - 1)]=_;rw[ed]),O,Sf,(by rw[jR C.B C.s a];exact a8),λr3 b3 b0 H6 h6 h7 a0 h8 h0 B6 s6 k6=>#[oe,λt N=>?_]];have G6:=O.but2 B6 s6 k6;have tm:ai j H6:=λb' xs e=>k6.tm O.B O.s _ _ (a.tm C.B _ _ e);have I:ai H6 (af H6 t$ .tup [.str "if",.ref X,.ref r,.ref r3]):=ae.tm (je N);rw[eR];refine q t (.ite t X T b b3 .nil) _ #[r,r3,bs,b0,[],Z,jc,(W.mono$ k6.tm O.B O.s).mono I,I _ _$ tm _ _ a5,I _ _ h6,(a6.mono tm).mono I,h7.mono I,Z] (by have x1:=jR C.B C.s a;rw[jW G6.s$ je N];show((b.size+b3.size+0+1:Nat):Int)+_<=_;omega) (by rw[jW G6.s$ je N];exact h8) (vI #[gT,Sf] a' h0) (G6.B.upd_new N) (G6.s.new N) (((K3.trans J).trans$ a.two.trans k6).trans$ aI.of_same$ je N)
 obtain⟨rfl,e⟩:=z;rw[e];refine u _ _ ?_;clear u;refine aj λF1 u=>dm (RH p g h S d kd y H3) (λE6 eR f6=>?_) λσ0 H' z=>?_
 ·clear u;refine ni λG' D=>#[_,Z,Z,_,Z,?_];refine bG (λc=>?_) (λc=>D _ _ (ou$ f6 _ _ #[Z,Z]));refine#[_,Z,_,_,Z,Z,_,Z,D _ _ ?_];clear D;refine bG (λc2=>?_) (λc2=>f6 _ _ #[Z,Z]);clear f6;obtain⟨d',rfl⟩:=l1 (ID c2);have ed:(((d'+1:Nat):Int) - 1)=((d':Nat):Int):=by omega
  refine#[_,Z,_,Z,p,g,2,ys,Z,G.B,G.g,y1,y2,Se,Se,λX T o W dT gT R a=>?_];have O:=G.but R a;refine#[_,Z,_,Z,_,Z,_,Z,_,Z,_,_,Z,Z,p,g,h,S,d',ys,hs,(by show [V.ref p,V.ref g,V.ref h,V.ref S,V.int (((d'+1:Nat):Int) - 1)]=_;rw[ed]),O,Sf,(by rw[jR G.B G.s a];omega),λr3 b3 b0 H6 h6 h7 a0 h8 h0 B6 s6 k6=>#[dZ,λt N=>?_]];have G6:=O.but2 B6 s6 k6;have I:ai H6 (af H6 t$ .tup [.str "while",.ref X,.ref r3]):=ae.tm (je N);rw[eR];refine q t (.loop t X T b3 .nil) _ #[r3,b0,[],Z,jc,(W.mono$ k6.tm O.B O.s).mono I,I _ _ h6,h7.mono I,Z] (by have x1:=jR G.B G.s a;rw[jW G6.s$ je N];show((b3.size+0+1:Nat):Int)+_<=_;omega) (by rw[jW G6.s$ je N];exact h8) (pU #[gT,Sf] h0) (G6.B.upd_new N) (G6.s.new N) ((K3.trans$ a.two.trans k6).trans$ aI.of_same$ je N)
 obtain⟨rfl,e⟩:=z;rw[e];refine u _ _ ?_;clear u;refine aj λF1 u=>ni λG' D=>#[_,Z,Z,_,Z,D _ _ ?_];clear D;refine bG (λc=>?_) (λc=>u _ _ ?_)
 ·refine#[_,Z,_,Z,p,g,2,ys,Z,G.B,G.g,y1,y2,Se,Se,λX T o W dT gT R a=>#[bK,λt N=>?_]];exact l0 (.gv X T) _ o t #[Z,W] #[gT,Sf] trivial (G.but R a) (K3.trans a.two) ((jR G.B G.s a).trans e3) N
 ·refine#[_,Z,_,Z,_,Z,p,g,3,ys,Z,G.B,G.g,y1,y2,Se,Se,λX T o W dT gT R a=>#[dZ,λt N=>?_]];exact l0 (.st y X T) _ o t #[Z,W] #[hy,gT,Sf] trivial (G.but R a) (K3.trans a.two) ((jR G.B G.s a).trans e3) N
theorem mK:ak ["_law_box_here","_law_names_here","_law_heads","_law_spare","_law_deep","_law_body_here","_law_k"] z5z (aa nC):=bu
theorem Zh(F:aK K "_law_body" "_law_body" nC f fd)(cT:Cl P w K mg base 1 fT f0 z0z aL "_law_take"){L:Nat}(cS:Cl P w K mg base (L+8) fS f1 z5z (iD n) "_law_statement")(mr:mg "range"=none)(m2:mg "tuple"=none):ah P w K mg base aA (L+9) f fd z5z (f8 n):=by
 refine F.ok mK ?_ λc0 A o1 s H v Q E hr h=>?_
 ·rintro _ _ _ _ ⟨p,g,h,S,d,ys,hs,rfl,_⟩;rfl
 obtain⟨p,g,h,S,d,ys,hs,rfl,G,hd,h0,q⟩:=h;refine#[_,(jd (jx 5 mK.nd$ jD jb)$ jd (km HZ Z (j6 Z mr$ ja (cT.e hr.m$ ja (pv 0)$ ja jf jb) jb) (js (i:=6) mK.nd Z$ Or.inl Z)$ jg$ jw (jA qI (jr jq (pv 3) jf (λ_ _=>Z)) jf$ aC _) (jg$ jN$ kr Hv HP HN jP (pv 5)$ ja (cS.e hr$ ja (pv 0)$ ja (pv 1)$ ja (pv 2)$ ja (pv 3)$ ja (pv 4) jb) jb) jp)$ jg$ jm$ jF jB Z m2 IQ$ ja (pv 5) jb),?_];have b0:=aD;refine#[Ho _,λl N=>?_];have s0:ae H (af H l$ .lst []):=je N;have O:lV (af H l$ .lst []) p g h S ys hs:=G.but2 (G.B.upd_new N) (G.s.new N) (aI.of_same s0);have l1:af H l (.lst []) l=some (.lst []):=jc;have lp:l≠p:=G.B.ne N;have D:l≠S:=λe=>by obtain⟨k,z⟩:=G.s;rw[<- e,N]at z;cases z
 have k1:aI p S H (af H l$ .lst []):=aI.of_same s0;have R:cp (af H l$ .lst []) S=cp H S:=jW G.s s0;generalize af H l (.lst [])=H1 at O l1 k1 R;refine#[_,Z,p,6,Z,O.B,Se,Se,λm H2 m0 m1 B2 e2=>#[_,Z,Sf,Sf,?_]];have G2:=O.but B2 (ar.of_eq e2);refine Ql (lo:=0) (λi σ I=>∃(o6:Option V) (v:List V) (b:Bd),σ=[some$ .ref p,some$ .ref g,some$ .ref h,some$ .ref S,some$ .int (d:Int),some$ .ref l,o6]/\I l=some (.lst v)/\di I b v/\((b.size:Int)+cp I S<=cp H S/\0<=cp I S)/\b.fit hs ys d/\v.length<=i/\ao I p/\bZ I S/\aI p S H I)
  #[none,[],.nil,Z,by rw[e2 l lp];exact l1,Z,(by rw[jR O.B O.s$ ar.of_eq e2,R];exact#[by show((0:Nat):Int)+_<=_;omega,h0]),Zf,Ho _,B2,G2.s,k1.trans (ar.of_eq e2).two] ?_ ?_
 ·intro i σ H3 hi J;obtain⟨o6,v,b,rfl,a,u,j,x,h1,T,C,U⟩:=J;have G3:=G.but2 T C U;obtain⟨kk,W⟩:=id C;refine#[_,Z,S,_,_,_,Z,Z,aB.of W,Z,_,_,Z,Z,_,Z,?_];refine bG (λc=>?_) (λc=>?_)
  ·refine#[_,Z,.inl #[Z,_,aB.of a],_,Z,_,Z,_,Z,_,Z,_,Z,p,g,h,S,d,ys,hs,Z,G3,hd,(by rw[zH W];exact ID c),λr b4 H4 h2 h5 h3 h4 B4 s4 k4=>?_];have X:H4 l=some (.lst v):=k4 _ _ lp D a;refine#[l,_,_,Z,Z,X,Sf,?_];have tm:ai H4 (af H4 l$ .lst$ v++[.ref r]):=λb' xs e=>by rw[ji$ jO e X (by intro z;cases z)];exact e
   have Y:ai H3 H4:=k4.tm T C;refine#[_,_,b.app b4,Z,jc,(h2.mono tm).app ((u.mono Y).mono tm),?_,Zg x h4,by rw[Hf];show v.length+1<=i+1;omega,B4.eq$ ji$ HR lp,?_,λb' o n1 n2 e=>?_]
   ·rw[jV,QJ s4 λo e=>by rw[ji$ HR D];exact e];obtain⟨z1,z2⟩:=j;exact#[Sf,h3]
   ·obtain⟨z,hz⟩:=s4;exact#[z,by rw[ji$ HR D];exact hz]
   ·rw[ji$ jl e N];exact k4 _ _ n1 n2$ U _ _ n1 n2 e
  ·exact#[_,v,b,Z,a,u,j,x,Sf,T,C,U]
 ·intro σ H3 J;obtain⟨o6,v,b,rfl,a,u,j,x,h1,T,C,U⟩:=J;refine#[_,Z,l,v,Z,.inl #[aB.of a,λt M=>?_]];have hm:(m).toNat<=5:=by omega
  refine q t b v _ jc (u.mono$ ae.tm$ je M) (by rw[jW C$ je M];exact j.1) (by rw[jW C$ je M];exact j.2) x (T.upd_new M) (C.new M)$ U.trans$ aI.of_same$ je M
theorem rK:ah P w K mg base aA 8 f c z5z (iD 0):=by
 have n:∀v H Q E,¬iD 0 v H Q E:=λv H Q E h=>by obtain⟨p,g,h,S,d,y,e,_,_,b,_⟩:=h;exact absurd b$ Mn _
 exact#[λv H Q E h=>absurd h (n v H Q E),λA o s H a u v Q E _ _ _ _ h=>absurd h (n v H Q E)]
theorem Eg(F:aK K "_law_statement" "_law_statement" sY f e)(FB:aK K "_law_body" "_law_body" nC g a)(c:Cl P w K mg base 1 r k z0z aL "_law_take")(C:Cl P w K mg base 6 s l z8z (cr 4) "_law_term")(h:Cl P w K mg base 7 t o z25z ig "_law_spot")(b:ay K e z5z [])(M:mg "_law_statement"=some (.ref f))(B:ay K a z5z [])(i:mg "_law_body"=some (.ref g))(j:mg "len"=none)(m:mg "tuple"=none)(d:mg "range"=none):
  ∀n:Nat,ah P w K mg base aA (n+n+8) f e z5z (iD n)/\ah P w K mg base aA (n+n+9) g a z5z (f8 n)
 |0=>#[rK,Zh (L:=0) FB c #[rK,b,F.kp,M] d m]
 |n+1=>by
  have I:=Eg F FB c C h b M B i j m d n;have E:n+n+10=n+1+(n+1)+8:=by omega
  have p:n+n+2+9=n+1+(n+1)+9:=by omega
  have H:=Bo (L:=n+n) F c C h #[I.2,B,FB.kp,i] j m;have q:=Zh (L:=n+n+2) FB c #[H,b,F.kp,M] d m;rw[<- E,<- p];exact#[H,q]
theorem Dm{x:List V}(h:k<=x.length):aE x none (some (k:Int))=x.take k:=by
 unfold aE;rw[HT.sIx_nat,HT.sIx_none];have e:min k x.length=k:=by omega
 rw[e];simp
noncomputable abbrev BO:Stmt:=bE 63
theorem vE(h:0<=d)(H:d < 4):∃D:Nat,dq [V.int 3,.int 3,.int 3,.int 5] d=some (.int (D:Int))/\D < 6/\Gp D<=111111/\D<=5:=by
 rcases(by omega:d=0∨d=1∨d=2∨d=3) with rfl |rfl |rfl |rfl
 ·exact#[3,Z,Se,Se,Se]
 ·exact#[3,Z,Se,Se,Se]
 ·exact#[3,Z,Se,Se,Se]
 ·exact#[5,Z,Se,Se,Se]
theorem pJ{ys:List Str}{k:Int}(h:ys.length=20)(H:14<=k)(a:k<=20):1<=(a9 ys (some 8)$ some k).length/\(a9 ys (some 8)$ some k).length<=20:=by
 refine#[?_,by have:=qg ys (some 8) (some k);omega];have e:(8:Int)=((8:Nat):Int):=rfl;have E:k=((k.toNat:Nat):Int):=by omega
 unfold a9;rw[e,E,HT.sIx_nat,HT.sIx_nat,HL,Lb];omega
theorem vB{ss:List Str}(h:0<=k):(a9 ss none$ some k).length<=k.toNat:=by
 have e:k=((k.toNat:Nat):Int):=by omega
 unfold a9;rw[e,HT.sIx_nat,HT.sIx_none,HL];omega
theorem ff{t u:TS}(h:∀E:aU,(∀a b,u D a b->E.nx a b)->t E c H):gf t u D c H:=h { D with nx:=u D } λ_ _ h=>h
def C1(h:List (Str×List Str)):Prop:=∀c∈h,c.1.length<=20/\c.2.length<=6
def Gu(H:Hp)(D:List Df):Prop:=∀d∈D,∃p:List Str,H d.pa=some (.tup$ p.map V.str)/\p.length<=100
theorem qW{a:Type}{P:a->Prop}{X:List a}{x:a}(h:∀c∈X,P c)(H:P x):∀c∈X++[x],P c:=λc b=>by
 rcases List.mem_append.mp b with h1 |h1
 ·exact h c h1
 ·rw[List.mem_singleton.mp h1];exact H
def lW(H:Hp)(D:List Df)(N:List Nat):Prop:=D.length=N.length/\∀(i:Nat) (d:Df) (n:Nat),D[i]?=some d->N[i]?=some n->∃p:List Str,H d.pa=some (.tup$ p.map V.str)/\p.length=n/\n<=100
theorem lW.mono(h:lW H D N)(k:ai H a):lW a D N:=#[h.1,λi d n b c=>let #[p,e,l]:=h.2 i d n b c;#[p,k _ _ e,l]]
theorem lW.snoc{d:Df}{p:List Str}(h:lW H D N)(e:H d.pa=some (.tup$ p.map V.str))(l:p.length<=100):lW H (D++[d]) (N++[p.length]):=by
 refine#[by rw[Hf,Hf,h.1];rfl,λi c n a b=>?_];by_cases f:i < D.length
 ·rw[Li f]at a;rw[Li (by rw[<- h.1];exact f)]at b;exact h.2 i c n a b
 ·have g:i < (D++[d]).length:=(List.getElem?_eq_some_iff.mp a).1;rw[Hf]at g;have E:i=D.length:=by have:i < D.length+1:=g;omega
  subst E;rw[Ld$ Hg _,MY]at a;rw[h.1,Ld$ Hg _,MY]at b;cases a;cases b;exact#[p,e,Z,l]
theorem lW.v(h:lW H D n):Gu H D:=λd b=>by
 obtain⟨i,a,e⟩:=List.mem_iff_getElem.mp b;have c:D[i]?=some d:=by rw[<- e];exact G8 a
 obtain⟨p,e,l,k⟩:=h.2 i d _ c (G8 (by rw[<- h.1];exact a));exact#[p,e,Sf]
def u6(D:List Df)(n:List Nat):Prop:=(∀d∈D,mf d/\d.b.Cs ((D.map Df.f).zip n))/\(D.map Df.f).Nodup/\∀y∈D.map Df.f,y.length<=20
inductive nR(c:List V)(H:Hp)(Q:VK)(a:XK):Prop
 |mk(p:Addr)(T b:Int)(_:c=[.ref p,.int T,.int b])(_:ao H p)(_:1<=T)(_:T<=8)(_:0<=b)(_:b<=40)(_:∀(r:Addr) (ds:List Df) (xs:List V) (H':Hp),H' r=some (.tup xs)->cq H' ds xs->(ds.length:Int)=T->∀ns:List Nat,u6 ds ns->lW H' ds ns->ao H' p->ar p H H'->Q (.ref r) H')
theorem cw:ak ["_law_box_here","_law_total","_law_room","_law_words","_law_most","_law_heads","_law_k","_law_turn","_law_row","_law_some","_law_deep","_law_defs","_law_f","_law_params","_law_spare","_law_body_here"] z32z (aa BO):=bu
inductive AJ(p k:Addr)(T j:Int)(H:Hp)(b:_L.St)(c:Hp):Prop
 |mk(a:List Str)(d:b=[some (.ref p),some (.int T),some (.int j),some (.ref k),none,none,none,none,none,none,none,none,none,none,none,none])(e:c k=some (.lst (a.map V.str)))(f:a.length=20)(g:(∀y∈a,y.length<=20)/\(a.take 8).Nodup)(h:ao c p)(i:ar p H c)
inductive AI(p t k:Addr)(T s m:Int)(u:List Str)(H:Hp)(i:Nat)(v:_L.St)(a:Hp):Prop
 |mk(o q r:Option V)(l:List (Str×List Str))(n:List V)(b:v=[some (.ref p),some (.int T),some (.int s),some (.ref t),some (.int m),some (.ref k),o,q,r,none,none,none,none,none,none,none])(c:a k=some (.lst n))(d:du a l n)(e:l.length=i)(f:C1 l/\l.map (·.1)=u.take i)(g:a t=some (.lst (u.map V.str)))(h:ao a p)(j:ar p H a)
inductive AK(p G y F h:Addr)(T E m:Int)(j:Nat)(I:List Str)(z:List (Str×List Str))(A:List V)(H:Hp)(i:Nat)(J:_L.St)(g:Hp):Prop
 |mk(B C D b c e f:Option V)(k:List Df)(l:List V)(n:J=[some (.ref p),some (.int T),some (.int E),some (.ref G),some (.int m),some (.ref y),B,C,D,some (.ref F),some (.int (j:Int)),some (.ref h),b,c,e,f])(o:g h=some (.lst l))(q:cq g k l)(r:k.length=i)(s:(∀d∈k,mf d/\d.b.Cs (z.map λc=>(c.1,c.2.length)))/\k.map Df.f=(z.map (·.1)).take i)(t:g y=some (.lst A))(u:du g z A)(v:g F=some (.lst (I.map V.str)))(w:ao g p)(x:ar p H g)(a:lW g k ((z.map λc=>c.2.length).take i))
inductive AL(v:List (Str×List Str))(D:List Str)(p C u z h B A:Addr)(T y m:Int)(i:Nat)(w x:Option V)(c:Str×List Str)(e:Hp)(j:Nat)(E:_L.St)(d:Hp):Prop
 |mk(a:Option V)(f:Addr)(b:Bd)(g:List V)(k:E=[some (.ref p),some (.int T),some (.int y),some (.ref C),some (.int m),some (.ref u),a,w,x,some (.ref z),some (.int (i:Int)),some (.ref h),some (.str c.1),some (.ref B),some (.ref A),some (.ref f)])(l:d f=some (.tup g))(n:di d b g)(o:(b.size:Int)+cp d A<=y/\0<=cp d A)(q:b.fit v D i)(r:ao d p)(s:bZ d A)(t:aI p A e d)
theorem A3(F:aK K "_law_any" "_law_any" BO f fd)(cT:Cl P w K mg base 1 fT i4 z0z aL "_law_take")(cA:Cl P w K mg base 2 fA j0 z20z dY "_law_names")(cB:Cl P w K mg base 21 fB j1 z5z (f8 6) "_law_body")(ml:mg "len"=none)(mr:mg "range"=none)(m0:mg "tuple"=none)(mi:mg "int"=none):ah P w K mg base aA 22 f fd z32z nR:=by
 refine F.ok cw ?_ λj2 A o5 s H vs Q E hr h=>?_
 ·rintro _ _ _ _ ⟨p,T,Y,rfl,_⟩;rfl
 obtain⟨p,T,Y,rfl,B,l4,l5,e8,l6,q⟩:=h;refine#[_,(jd (jx 3 cw.nd$ cA.e hr.m$ ja (pv 0)$ ja jf jb)$ jd (jZ$ jw (kE$ cT.e hr.m$ ja (pv 0)$ ja jf jb) (jg$ kQ (jK kh (pv 3) j8$ jI jf)$ @sr _ _ _ _ _ _ _ _ _ (pv 3) jf jf (by intro _;rfl)) jp)$ jd (jx 4 cw.nd$ jr jq (jD$ ja jf$ ja jf jb) (jF Jo Z mi R9$ ja (JO Jx (cT.e hr.m$ ja (pv 0)$ ja jf jb) jf$ aC _) jb) (λ_ _=>Z))$ jd (jx 5 cw.nd$ jD jb)$ jd (km HZ Z (j6 Z mr$ ja (pv 1) jb) (js (i:=6) cw.nd Z$ Or.inl Z)$ jd (jx 7 cw.nd$ ju jY jf$ cT.e hr.m$ ja (pv 0)$ ja jf jb)$ jd (jx 8 cw.nd$ ju zO (jK kh (pv 3) (jI$ pv 7)$ jI jf)$ jK kh (pv 3) (jI jf)$ jI$ pv 7)$ jg$ jN$ kr Hv HP HN jP (pv 5)$ ja (jh$ ja (jr jq (pv 3) (pv 6) (λ_ _=>Z))$ ja (jF jB Z m0 IQ$ ja (jK kh (pv 8) j8$ jI$ cT.e hr.m$ ja (pv 0)$ ja (pv 4) jb) jb) jb) jb)$ jd (jx 9 cw.nd$ jK kh (pv 3) (jI jf)$ jI$ ju jY jf$ cT.e hr.m$ ja (pv 0)$ ja jf jb)$ jd (jx 10 cw.nd$ jr jq (jD$ ja jf$ ja jf$ ja jf$ ja jf jb) (cT.e hr.m$ ja (pv 0)$ ja jf jb) (λ_ _=>Z))$ jd (jx 11 cw.nd$ jD jb)$ jd (km HZ Z (za$ pv 5) (zk (n:=2) Z$ jy (js (i:=12) cw.nd Z$ Or.inl Z)$ jy (js (i:=13) cw.nd Z$ Or.inl Z) j4)$ jd (jx 14 cw.nd$ jD$ ja (pv 2) jb)$ jd (jx 15 cw.nd$ jh jb)$ jd (km HZ Z (j6 Z mr$ ja jf jb) (js (i:=6) cw.nd Z$ Or.inl Z)$ jg$ jx 15 cw.nd$ ju jU (pv 15)$ cB.e hr$ ja (pv 0)$ ja (pv 9)$ ja (pv 5)$ ja (pv 14)$ ja (pv 10) jb)$ jg$ jN$ kr Hv HP HN jP (pv 11)$ ja (jh$ ja (pv 12)$ ja (pv 13)$ ja (pv 15) jb) jb)$ jg$ jm$ jF jB Z m0 IQ$ ja (pv 11) jb),?_];have l9:=aD;refine ff λE1 m1=>?_;refine#[_,Z,p,20,Z,B,Se,Se,λW ys H1 c1 e' c2 C B1 k1=>?_];refine m1 _ _ ?_;refine ff λE2 m2=>?_;have wp:W≠p:=B.ne c1;refine dm (AJ p W T Y H) (λE0 _ fm=>?_) λσ0 H2 l=>?_
 ·clear m2;refine ni λG' g'=>#[_,Z,p,2,Z,B1,Se,Se,λd1 H2 l' m' B2 e2=>?_];have h0:H2 W=some (.lst$ ys.map V.str):=by rw[e2 W wp];exact e'
  have k2:=k1.trans (ar.of_eq e2);refine#[Z,_,Z,g' _ _ ?_];clear g';refine bG (λc=>?_) (λc=>fm _ _ #[ys,Z,h0,Sf,#[C.1,C.2.sublist$ Lm _ _],B2,k2]);refine#[_,Z,_,Z,W,_,Z,aB.of h0,λsl n0=>?_];have f4:W≠sl:=λe=>by rw[<- e,h0]at n0;cases n0
  have o':=B2.ne n0;refine#[_,Z,W,sl,_,_,_,_,Z,Z,Z,Z,am h0 n0,jc,f4,Se,Se,by rw[He];omega,?_,?_]
  ·have:=ze (ys.map V.str) none (some 2);rw[He]at this ⊢;omega
  have e2:aE (ys.map V.str) none (some 2)=(ys.take 2).map V.str:=by rw[show(2:Int)=((2:Nat):Int) from Z,Dm (by rw[He];omega),Mh]
  refine fm _ _ #[ys.take 8++ys.take 2++ys.drop 10,Z,?_,?_,?_,(B2.upd_new n0).eq$ ji$ HR wp,?_]
  ·rw[jc,e2,Hz,Hz,Mh,P7,Mh];rfl
  ·rw[Hf,Hf,HL,HL,Lb];omega
  ·refine#[λy hy=>?_,?_]
   ·rcases List.mem_append.mp hy with h |h
    ·rcases List.mem_append.mp h with h |h
     ·exact C.1 y$ Ii h
     ·exact C.1 y$ Ii h
    ·exact C.1 y$ Na h
   ·rw[Ln,List.take_append_of_le_length (by rw[HL];omega),PQ];exact C.2.sublist$ Lm _ _
  ·exact(k2.upd_new n0).upd_own c1
 obtain⟨ys,rfl,h0,c2,C,B2,k2⟩:=l;refine m2 _ _ ?_;clear m1 m2;refine ff λE3 m3=>?_;refine#[bK,λl1 n9=>?_];refine#[_,Z,p,3,Z,B2.upd_new n9,Se,Se,λd2 H3 p1 p2 B3 e3=>?_];have k3:ar p H2 H3:=((ar.refl).upd_new n9).trans (ar.of_eq e3);have l0:=B2.ne n9;have f5:H3 l1=some (.lst [.int 4,.int 7]):=by rw[e3 l1 l0];exact jc
 refine#[Z,.inr #[_,Z,?_]];have a4:∀c:Bool,∃m:Int,dq [V.int 4,V.int 7] (if c then 1 else 0)=some (.int m)/\4<=m/\m<=7:=λc=>by
  cases c
  ·exact#[4,Z,Se,Se]
  ·exact#[7,Z,Se,Se]
 obtain⟨m,hm,m4,m7⟩:=a4 _;refine#[l1,_,_,_,Z,Z,aB.of f5,hm,?_];refine m3 _ _ ?_;refine ff λE4 m4=>?_;have c3:H3 W=some (.lst$ ys.map V.str):=k3 _ _ wp h0;have k0:=k2.trans k3;refine#[Ho _,λhl n1=>?_];refine m4 _ _ ?_;refine ff λE5 m5=>?_;have h4:=B3.ne n1;have n5:H hl=none:=by
  cases z:H hl with
  |none=>rfl
  |some o=>have:=k0 _ _ h4 z;rw[n1]at this;cases this
 have wh:W≠hl:=λe=>by rw[<- e,c3]at n1;cases n1
 refine eI λJ j=>#[_,Z,T,Z,Sf,Sf,j _ _ ?_];clear j;refine zB (lo:=0) (AI p W hl T Y m ys H)
  #[none,none,none,[],[],Z,jc,Z,Z,#[(λc hc=>nomatch hc),Z],am c3 n1,B3.upd_new n1,k0.upd_own n5] ?_ ?_
 ·intro D' _ i σ H4 hi f0 Gq u l;obtain⟨o6,o7,o8,hs,hv,rfl,a5,h6,c4,h7,a6,B4,k4⟩:=l;refine u ?_;clear u m5 m3 m4;show gf (dS _ _) _ D' _ _;refine ff λF1 f1=>?_;refine#[_,Z,p,6,Z,B4,Se,Se,λD H5 f7 f9 B5 e5=>?_];have k5:ar p H4 H5:=ar.of_eq e5;have h8:=k5 _ _ wp a6;have a8:=k5 _ _ h4 a5;have a':=h6.mono (k5.tm B4);refine#[_,_,Z,Z,?_];refine f1 _ _ ?_;show gf (dS _ _) _ D' _ _;refine ff λF2 f2=>?_;refine#[_,Z,_,Z,_,Z,_,Z,W,_,Z,aB.of h8,λs1 n'=>?_];refine#[_,Z,_,Z,_,Z,_,Z,W,_,Z,aB.of$ am h8 n',λs2 b1=>?_];have L1:=qg ys (some (8+D)) (some 14);have L0:=qg ys (some 8) (some (8+D));have L3:=ze (ys.map V.str) (some (8+D)) (some 14);have L4:=ze (ys.map V.str) (some 8) (some (8+D));rw[He]at L3 L4;refine#[s1,s2,_,_,Z,Z,am jc b1,jc,Sf,λrl c5=>?_];refine f2 _ _ ?_;have er:aE (ys.map V.str) (some (8+D)) (some 14)++aE (ys.map V.str) (some 8) (some (8+D))=(a9 ys (some (8+D)) (some 14)++a9 ys (some 8) (some (8+D))).map V.str:=by rw[zu,zu,Hz]
  have s6:ae H5 (af (af (af H5 s1$ .lst$ aE (ys.map V.str) (some (8+D))$ some 14) s2$ .lst$ aE (ys.map V.str) (some 8)$ some (8+D)) rl$ .lst$ aE (ys.map V.str) (some (8+D)) (some 14)++aE (ys.map V.str) (some 8) (some (8+D))):=((je n').trans$ je b1).trans (je c5);have r6:af (af (af H5 s1$ .lst$ aE (ys.map V.str) (some (8+D))$ some 14) s2$ .lst$ aE (ys.map V.str) (some 8)$ some (8+D)) rl (.lst$ aE (ys.map V.str) (some (8+D)) (some 14)++aE (ys.map V.str) (some 8) (some (8+D))) rl=some (.lst ((a9 ys (some (8+D)) (some 14)++a9 ys (some 8) (some (8+D))).map V.str)):=by rw[jc,er]
  have B6:ao (af (af (af H5 s1$ .lst$ aE (ys.map V.str) (some (8+D))$ some 14) s2$ .lst$ aE (ys.map V.str) (some 8)$ some (8+D)) rl$ .lst$ aE (ys.map V.str) (some (8+D)) (some 14)++aE (ys.map V.str) (some 8) (some (8+D))) p:=((B5.upd_new n').upd_new b1).upd_new c5;generalize af (af (af H5 s1$ .lst$ aE (ys.map V.str) (some (8+D))$ some 14) s2$ .lst$ aE (ys.map V.str) (some 8)$ some (8+D)) rl (.lst$ aE (ys.map V.str) (some (8+D)) (some 14)++aE (ys.map V.str) (some 8) (some (8+D)))=H6 at s6 r6 B6;have LR:(a9 ys (some (8+D)) (some 14)++a9 ys (some 8) (some (8+D))).length<=40:=by rw[Hf];omega
  generalize a9 ys (some (8+D)) (some 14)++a9 ys (some 8) (some (8+D))=r0 at r6 LR;have c6:=s6 _ _ h8;have h9:=s6 _ _ a8;have ei:(0:Int)+(i:Int)=(i:Int):=Int.zero_add _;rw[ei];obtain⟨y,b2⟩:∃y,ys[i]?=some y:=#[_,G8 (by omega:i < ys.length)];have hy:=Hu b2;have a4:dq (ys.map V.str) (i:Int)=some (.str y):=jM (by rw[HE,b2];rfl);have rp:rl≠p:=zp B6 r6;refine#[_,Z,.inl #[Z,_,aB.of h9],_,Z,_,Z,W,_,_,_,Z,Z,aB.of c6,a4,_,Z,_,Z,_,Z,p,m,Z,B6,Sf,Sf,λd7 H7 d0 d4 B7 e7=>?_];have k7:ar p H6 H7:=ar.of_eq e7;refine#[_,Z,rl,_,Z,aB.of$ k7 _ _ rp r6,λs3 c9=>?_];refine#[s3,_,Z,.inl #[aB.of jc,λt nt=>#[bK,λr nr=>?_]]];rw[zu]at nt nr ⊢;have L8:=vB (ss:=r0) d0;generalize a9 r0 none (some d7)=ps at*;have s8:ae H7 (af (af (af H7 s3$ .lst$ ps.map V.str) t$ .tup$ ps.map V.str) r$ .tup [.str y,.ref t]):=((je c9).trans$ je nt).trans (je nr);have t8:af (af (af H7 s3$ .lst$ ps.map V.str) t$ .tup$ ps.map V.str) r (.tup [.str y,.ref t]) t=some (.tup$ ps.map V.str):=am jc nr;have r8:af (af (af H7 s3$ .lst$ ps.map V.str) t$ .tup$ ps.map V.str) r (.tup [.str y,.ref t]) r=some (.tup [.str y,.ref t]):=jc;have B8:ao (af (af (af H7 s3$ .lst$ ps.map V.str) t$ .tup$ ps.map V.str) r$ .tup [.str y,.ref t]) p:=((B7.upd_new c9).upd_new nt).upd_new nr;generalize af (af (af H7 s3$ .lst$ ps.map V.str) t$ .tup$ ps.map V.str) r (.tup [.str y,.ref t])=R at s8 t8 r8 B8;have c':=s8 _ _ (k7 _ _ h4 h9);have f':=s8 _ _ (k7 _ _ wp c6);have h5:=h6.len;refine#[hl,_,_,Z,Z,c',Sf,?_];have tm:ai R (af R hl$ .lst$ hv++[.ref r]):=λb xs e=>by rw[ji$ jO e c' (by intro z;cases z)];exact e
  have g0:=((a'.mono$ ae.tm s6).mono$ k7.tm B6).mono (ae.tm s8);refine f0 _ _ #[_,_,_,hs++[(y,ps)],_,Z,jc,(g0.mono tm).snoc #[r,t,Z,tm _ _ r8,tm _ _ t8],by rw[Hf,c4];rfl,#[qW h7.1 #[C.1 y hy,by show ps.length<=6;omega],by rw[Hz,h7.2,LD,b2];rfl],by rw[ji wh];exact f',B8.eq$ ji$ HR h4,?_];refine ar.upd_own (λb o n e=>?_) n5;exact s8 _ _$ k7 _ _ n$ s6 _ _$ k5 _ _ n$ k4 _ _ n e
 intro σ H4 l;obtain⟨o6,o7,o8,hs,hv,rfl,a5,h6,c4,⟨h7,d6⟩,a6,B4,k4⟩:=l;refine m5 _ _ ?_;refine ff λE6 m6=>?_;refine#[_,Z,_,Z,_,Z,p,7,Z,B4,Se,Se,λD H5 f7 f9 B5 e5=>?_];have k5:ar p H4 H5:=ar.of_eq e5;have h8:=k5 _ _ wp a6;have a8:=k5 _ _ h4 a5;have a':=h6.mono (k5.tm B4);refine#[_,_,Z,Z,_,Z,W,_,Z,aB.of h8,λsm n3=>?_];refine m6 _ _ ?_;refine ff λE7 m7=>?_;obtain⟨z1,z2⟩:=pJ (ys:=ys) (k:=14+D) c2 Sf Sf;have m6:af H5 sm (.lst$ aE (ys.map V.str) (some 8)$ some (14+D)) sm=some (.lst ((a9 ys (some 8)$ some (14+D)).map V.str)):=by rw[jc,zu]
 have k6:ar p H (af H5 sm$ .lst$ aE (ys.map V.str) (some 8)$ some (14+D)):=(k4.trans k5).upd_new n3;have h9:=am (o:=.lst (aE (ys.map V.str) (some 8)$ some (14+D))) a8 n3;have d8:=a'.mono (ae.tm$ je (o:=.lst (aE (ys.map V.str) (some 8)$ some (14+D))) n3);have B6:=B5.upd_new (o:=.lst (aE (ys.map V.str) (some 8)$ some (14+D))) n3;generalize af H5 sm (.lst$ aE (ys.map V.str) (some 8)$ some (14+D))=H6 at m6 k6 h9 d8 B6;generalize a9 ys (some 8) (some (14+D))=zs at m6 z1 z2;have s':=zp B6 m6;refine#[oe,λl2 b3=>?_];refine#[_,Z,p,4,Z,B6.upd_new b3,Se,Se,λd7 H7 d0 d4 B7 e7=>?_];have k7:ar p H6 H7:=((ar.refl).upd_new b3).trans (ar.of_eq e7);have l3:=B6.ne b3;have g1:H7 l2=some (.lst [.int 3,.int 3,.int 3,.int 5]):=by rw[e7 l2 l3];exact jc
 obtain⟨dp,g2,g4,p3,p4⟩:=vE d0 d4;refine#[l2,_,_,_,Z,Z,aB.of g1,g2,?_];refine m7 _ _ ?_;refine ff λE8 m8=>?_;have m7:=k7 _ _ s' m6;have b4:=k7 _ _ h4 h9;have g5:=d8.mono (k7.tm B6);have k9:=k6.trans k7;refine#[Ho _,λdl N=>?_];refine m8 _ _ ?_;refine ff λE9 m9=>?_;have d3:=B7.ne N;have n7:H dl=none:=by
  cases z:H dl with
  |none=>rfl
  |some o=>have:=k9 _ _ d3 z;rw[N]at this;cases this
 have d9:hl≠dl:=λe=>by rw[<- e,b4]at N;cases N
 have s5:sm≠dl:=λe=>by rw[<- e,m7]at N;cases N
 have p5:=h6.len;refine eI λJ j=>#[_,Z,hl,Z,#[_,aB.of$ am b4 N],j _ _ ?_];clear j;refine Js (K:=K) (a:=hl) (xs:=hv) (AK p W hl sm dl T Y m dp zs hs hv H)
  #[_,_,_,_,_,_,_,[],[],Z,jc,Z,Z,#[(λc hc=>nomatch hc),Z],am b4 N,g5.mono$ ae.tm$ je N,am m7 N,B7.upd_new N,k9.upd_own n7,#[Z,(λi d n h=>nomatch h)]] ?_ ?_ ?_
 ·intro i σ R _ l;obtain⟨o6,o7,o8,o1,o2,o3,o4,ds,dv,rfl,h5,hD,h',x,hh,hd,b5,B8,k8,p0⟩:=l;exact aB.of hh
 ·intro D' _ i v σ R hx f0 Gq u l;obtain⟨o6,o7,o8,o1,o2,o3,o4,ds,dv,rfl,h5,hD,h',x,hh,hd,b5,B8,k8,p0⟩:=l;have p6:i < hv.length:=(List.getElem?_eq_some_iff.mp hx).1;obtain⟨c,hc,q0,t0,rfl,w1,w2⟩:=hd.at i v hx;refine u ?_;clear u m9;have g6:=Hu hc;have d':=h7 c g6;refine GN λF6 f6=>#[q0,_,Z,ax.of w1,Z,_,_,Z,_,_,Z,Z,f6 _ _ ?_];clear f6;show gf (dS _ _) _ D' _ _;refine ff λF1 f1=>?_;refine#[_,Z,gK,λM n2=>?_];refine f1 _ _ ?_;show gf (dS _ _) _ D' _ _;refine ff λF2 f2=>?_;refine#[iw,λb0 n4=>?_];refine f2 _ _ ?_;show gf (Cy _ _ _) _ D' _ _;refine ff λF3 f3=>?_;have s9:ae R (af (af R M$ .lst [.int Y]) b0$ .tup []):=(je n2).trans (je n4);have s4:bZ (af (af R M$ .lst [.int Y]) b0$ .tup []) M:=#[Y,am jc n4];have b9:af (af R M$ .lst [.int Y]) b0 (.tup []) b0=some (.tup []):=jc;have B9:ao (af (af R M$ .lst [.int Y]) b0$ .tup []) p:=(B8.upd_new n2).upd_new n4;have e9:cp (af (af R M$ .lst [.int Y]) b0$ .tup []) M=Y:=zH (am jc n4);generalize af (af R M$ .lst [.int Y]) b0 (.tup [])=H9 at s9 s4 b9 B9 e9;have e0:H M=none:=by
   cases z:H M with
   |none=>rfl
   |some o=>have:=k8 _ _ (B8.ne n2) z;rw[n2]at this;cases this
  have g7:dl≠M:=λe=>by rw[<- e,h5]at n2;cases n2
  have G9:lV H9 p sm hl M zs hs:=#[B9,s9 _ _ b5,z1,z2,#[hv,s9 _ _ hh,hd.mono$ ae.tm s9],Sf,Sf,λc hc=>(h7 c hc).2,s4];refine eI λJ j=>#[_,Z,Se,Se,j _ _ ?_];clear j;refine zB (lo:=0) (AL hs zs p W hl sm dl t0 M T Y m dp o7 o8 c H9)
   #[_,b0,.nil,[],Z,b9,Z,(by rw[e9];exact#[by show((0:Nat):Int)+_<=_;omega,e8]),Zf,B9,s4,aI.refl] ?_ ?_
  ·intro p8 _ j σ G hj fin2 Gq u l;obtain⟨o9,bb,Bb,bs,rfl,b7,a0,a1,I,B',U,L⟩:=l;refine u ?_;clear u f1 f2 f3;have G0:=G9.but2 B' U L;refine#[_,Z,_,Z,_,Z,_,Z,_,Z,_,Z,p,sm,hl,M,dp,zs,hs,Z,G0,g4,a1.2,λr b p9 H0 X a3 g8 b' c0 a2 S k'=>?_];have tm:=k'.tm B' U;have lb:=a0.len;have p':=a3.len;obtain⟨i0,i1⟩:=a1;refine#[bb,r,_,_,Z,Z,tm _ _ b7,X,Sf,λr2 H' e4 s0=>?_];have i2:ao H' p:=by obtain⟨a,b,h1,h2,h3,h⟩:=a2.ob;exact#[a,b,h1,h2,h3,s0 _ _ h]
   have s7:bZ H' M:=by obtain⟨z,hz⟩:=S;exact#[z,s0 _ _ hz]
   refine fin2 _ _ #[_,r2,Bb.app b,_,Z,e4,(a3.mono$ ae.tm s0).app ((a0.mono tm).mono$ ae.tm s0),?_,Zg I c0,i2,s7,L.trans$ k'.trans$ aI.of_same s0];rw[jV,jW S s0];exact#[Sf,b']
  ·intro σ G l;obtain⟨o9,bb,Bb,bs,rfl,b7,a0,a1,I,B',U,L⟩:=l;refine f3 _ _ ?_;have O:G dl=some (.lst dv):=L _ _ d3 g7 (s9 _ _ h5);have G0:=G9.but2 B' U L;have t3:ai R G:=λb xs e=>L.tm B9 s4 _ _ (s9 _ _ e);refine#[_,Z,.inl #[Z,_,aB.of O],_,Z,_,Z,_,Z,dZ,λr nr=>?_];have S:ae G (af G r$ .tup [.str c.1,.ref t0,.ref bb]):=je nr;have i3:=hD.len;have e6:Bb.size<=40:=by obtain⟨i0,i1⟩:=a1;omega
   refine#[dl,_,_,Z,Z,S _ _ O,Sf,?_];have X:af G r (.tup [.str c.1,.ref t0,.ref bb]) r=some (.tup [.str c.1,.ref t0,.ref bb]):=jc;have a2:=B'.upd_new (o:=.tup [.str c.1,.ref t0,.ref bb]) nr;generalize af G r (.tup [.str c.1,.ref t0,.ref bb])=H0 at S X a2;have tm:ai H0 (af H0 dl$ .lst$ dv++[.ref r]):=λb xs e=>by rw[ji$ jO e (S _ _ O) (by intro z;cases z)];exact e
   have t2:ai G (af H0 dl$ .lst$ dv++[.ref r]):=λb xs e=>tm _ _ (S _ _ e);have t1:ai R (af H0 dl$ .lst$ dv++[.ref r]):=λb xs e=>t2 _ _ (t3 _ _ e);refine f0 _ _ #[_,_,_,_,_,_,_,ds++[#[c.1,r,t0,bb,Bb]],_,Z,jc,(hD.mono t1).snoc #[bs,Z,tm _ _ X,t2 _ _ b7,a0.mono t2],by rw[Hf,h'];rfl,#[qW x.1 #[#[#[zs,z2,I.1.1],IV I.2 Sf,Hr e6 Se],I.1.2],by rw[Hz,x.2,LD,HE,hc];rfl],?_,hd.mono t1,?_,a2.eq$ ji$ HR d3,?_,(by rw[LD,HE,hc];exact(p0.mono t1).snoc (d:=#[c.1,r,t0,bb,Bb]) (t1 _ _ w2) (Hr d'.2 Se))]
   ·obtain⟨q1,e1,e2⟩:=G0.h;rw[ji d9];exact S _ _$ L _ _ G9.hsp.2 G9.hsp.1$ s9 _ _ hh
   ·rw[ji s5];exact S _ _ G0.g
   ·refine ar.upd_own (λb o n e=>?_) n7;exact S _ _$ L _ _ n (jl e e0)$ s9 _ _$ k8 _ _ n e
 ·intro σ R l;obtain⟨o6,o7,o8,o1,o2,o3,o4,ds,dv,rfl,h5,hD,h',x,hh,hd,b5,B8,k8,p0⟩:=l;refine m9 _ _ ?_;refine#[_,Z,dl,dv,Z,.inl #[aB.of h5,λt nt=>?_]];have nn:(ds.map Df.f).Nodup:=by
   rw[x.2,d6];refine List.Nodup.sublist (Lm _ _) ?_;have e:∀m,m<=8->ys.take m=(ys.take 8).take m:=λm hm=>by rw[PQ,Ll hm]
   rw[e _ Sf];exact C.2.sublist$ Lm _ _
  exact q t ds dv _ jc (hD.mono$ ae.tm$ je nt) Sf (hs.map λc=>c.2.length) #[λd hd=>#[(x.1 d hd).1,by have e:=x.2;rw[J' (by rw[He];omega)]at e;rw[e];have z:=(x.1 d hd).2;rw[show(hs.map λc=>(c.1,c.2.length))=(hs.map (·.1)).zip (hs.map λc=>c.2.length) by rw[List.zip_map']]at z;exact z],nn,λy hy=>by rw[x.2,d6]at hy;exact C.1 y$ Ii$ Ii hy] (by have z:=p0.mono (ae.tm$ je (o:=.tup dv) nt);rw[J' (by rw[He];omega)]at z;exact z) (B8.upd_new nt) (k8.upd_new nt)
theorem iw:0<=sizeLine:=by decide
theorem gK:1<=sizeLine:=by decide
theorem bK:2<=sizeLine:=by decide
theorem dZ:3<=sizeLine:=by decide
theorem oe:4<=sizeLine:=by decide
theorem ai.trans(a:ai H h)(b:ai h d):ai H d:=λc x e=>b c x (a c x e)
theorem ai.refl:ai H H:=λ_ _ e=>e
def fV(H:Hp)(y:List Str)(k:Nat)(a:Addr):Prop:=∃T,a7 H T a/\T.Good y/\T.depth<=k
theorem fV.mono(h:fV H y k a)(m:ai H b):fV b y k a:=let #[T,c,d]:=h;#[T,c.mono m,d]
theorem fV.ok(h:fV H y k a)(m:k < 6):∃T,a7 H T a/\db y T:=let #[T,b,c,d]:=h;#[T,b,c,IV d m]
section
variable {Cf:gN}{H:Hp}{ys:List Str}
theorem CF(h:H a=some (.tup [.str "num",.int n]))(b:0<=n)(c:n < 1000000000000000000):fV H ys 0 a:=#[.num n,h,#[b,c],Ho _]
theorem uI(h:H a=some (.tup [.str "var",.str x]))(b:x∈ys):fV H ys 0 a:=#[.var x,h,b,Ho _]
def Sg(s:Str):Prop:=∃i,i < 6/\s=FH i
theorem y4(h:H a=some (.tup [.str "op",.str s,.ref b,.ref c]))(d:Sg s)(e:fV H ys j b)(f:fV H ys k c)(q:j < n)(r:k < n):fV H ys n a:=by obtain⟨i,g,rfl⟩:=d;obtain⟨B,l,m,t⟩:=e;obtain⟨C,o,p,u⟩:=f;exact#[.op i B C,#[b,c,h,l,o],#[g,m,p],by show max B.depth C.depth+1<=n;omega]
theorem zg:Sg "+":=#[0,Se,Sj]
theorem XB:Sg "-":=#[1,Se,Sj]
theorem XC:Sg "*":=#[2,Se,Sj]
theorem xK:Sg "/":=#[3,Se,Sj]
theorem Q0:Sg "<":=#[4,Se,Sj]
theorem Ed:Sg "=":=#[5,Se,Sj]
theorem wO(h:0<=d)(a:d < 4):∃s,dq [V.str "+",.str "+",.str "*",.str "-"] d=some (.str s)/\Sg s:=by
 rcases(by omega:d=0∨d=1∨d=2∨d=3) with rfl |rfl |rfl |rfl
 ·exact#[_,Z,zg]
 ·exact#[_,Z,zg]
 ·exact#[_,Z,XC]
 ·exact#[_,Z,XB]
theorem wN(h:0<=d)(a:d < 3):∃c,dq (Str.cps "<=*").toList d=some c/\Sg #[(List.toArray [c])]:=by
 rcases(by omega:d=0∨d=1∨d=2) with rfl |rfl |rfl
 ·exact#[_,Z,Q0]
 ·exact#[_,Z,Ed]
 ·exact#[_,Z,XC]
theorem DU{P:Addr->Prop}(e:0<=d)(f:d < 2)(h:P a)(c:P b):∃x,dq [V.ref a,.ref b] d=some (.ref x)/\P x:=by
 rcases(by omega:d=0∨d=1) with rfl |rfl
 ·exact#[_,Z,h]
 ·exact#[_,Z,c]
theorem DV{P:Addr->Prop}(g:0<=d)(i:d < 3)(h:P a)(e:P b)(f:P c):∃x,dq [V.ref a,.ref b,.ref c] d=some (.ref x)/\P x:=by
 rcases(by omega:d=0∨d=1∨d=2) with rfl |rfl |rfl
 ·exact#[_,Z,h]
 ·exact#[_,Z,e]
 ·exact#[_,Z,f]
theorem DW{P:Addr->Prop}(h:P a)(d:P b)(c:Bool):∃x,dq [V.ref a,.ref b] (if c then 1 else 0)=some (.ref x)/\P x:=by
 cases c
 ·exact#[_,Z,h]
 ·exact#[_,Z,d]
def cf(Cf:gN)(H:Hp)(ys:List Str)(d:Nat)(v:V):Prop:=∃s,gE H v s/\(s.Ok ys/\s.Cs Cf)/\s.dep<=d/\s.size<=1+20*d
def gi(Cf:gN)(H:Hp)(ys:List Str)(d:Nat)(x:List V):Prop:=∃b,di H b x/\(b.Ok ys/\b.Cs Cf)/\b.dep<=d/\b.size<=(1+20*d)*x.length
theorem cf.mono(h:cf Cf H ys d v)(m:ai H a):cf Cf a ys d v:=let #[s,b,c]:=h;#[s,b.mono m,c]
theorem gi.mono(h:gi Cf H ys d x)(m:ai H a):gi Cf a ys d x:=let #[s,b,c]:=h;#[s,b.mono m,c]
theorem cf.up(h:cf Cf H ys 0 v):cf Cf H ys d v:=let #[s,a,b,c,e]:=h;#[s,a,b,Sf,Sf]
theorem Kg:gi Cf H ys d []:=#[.nil,Z,#[trivial,trivial],Ho _,Ho _]
theorem Jj{xs:List V}(h:gi Cf H ys d xs)(g:gi Cf H ys d z):gi Cf H ys d (xs++z):=by obtain⟨a,c,A,f,i⟩:=h;obtain⟨b,e,B,j,k⟩:=g;refine#[a.app b,e.app c,#[Ke A.1 B.1,Kd A.2 B.2],by rw[zf];omega,?_];rw[jV,Hf,Nat.mul_add];omega
theorem zq(h:cf Cf H ys d v):gi Cf H ys d [v]:=by obtain⟨s,a,b,c,e⟩:=h;exact#[s,a.bd,b,c,by show s.size<=(1+20*d)*1;omega]
theorem jT(h:cf Cf H ys d v)(g:gi Cf H ys d xs):gi Cf H ys d (v::xs):=Jj (xs:=[v]) (zq h) g
theorem Xh{l:Lf}(h:H p=some (.tup v))(a:ve H l v)(b:l.Ok ys)(c:l.Cs Cf):cf Cf H ys 0 (.ref p):=#[.lf p l .nil,.lf p l v h a,#[#[b,trivial],c,trivial],Hg 0,Hg 1]
theorem Ek(h:H p=some (.tup [.str "read",.str x,.ref t]))(a:x∈ys)(b:fV H ys k t)(c:k < 6:=by decide):cf Cf H ys 0 (.ref p):=by obtain⟨T,d,e⟩:=b.ok c;exact Xh (l:=.rd x t T) h #[Z,d] #[a,e] trivial
theorem El(h:H p=some (.tup [.str "set",.str x,.ref t]))(a:x∈ys)(b:fV H ys k t)(c:k < 6:=by decide):cf Cf H ys 0 (.ref p):=by obtain⟨T,d,e⟩:=b.ok c;exact Xh (l:=.st x t T) h #[Z,d] #[a,e] trivial
theorem Ei(h:H p=some (.tup [.str "give",.ref t]))(a:fV H ys k t)(b:k < 6:=by decide):cf Cf H ys 0 (.ref p):=by obtain⟨T,c,d⟩:=a.ok b;exact Xh (l:=.gv t T) h #[Z,c] d trivial
theorem Em(h:H p=some (.tup [.str "write",.ref t,.ref u]))(a:fV H ys k t)(b:fV H ys j u)(c:k < 6:=by decide)(d:j < 6:=by decide):cf Cf H ys 0 (.ref p):=by obtain⟨T,e,f⟩:=a.ok c;obtain⟨U,g,i⟩:=b.ok d;exact Xh (l:=.wr t u T U) h #[Z,e,g] #[f,i] trivial
theorem Eh{f:Str}(h:H p=some (.tup [.str "call",.str x,.str f,.ref q]))(b:x∈ys)(a:(f,2)∈Cf)(d:H q=some (.tup [.ref t,.ref u]))(e:fV H ys k t)(g:fV H ys j u)(i:k < 6:=by decide)(m:j < 6:=by decide):cf Cf H ys 0 (.ref p):=by
 obtain⟨T,n,o⟩:=e.ok i;obtain⟨U,r,s⟩:=g.ok m;refine Xh (l:=.cl x f q [(t,T),(u,U)]) h #[Z,d,λc hc=>?_] #[b,(by show 2<=6;decide),λc hc=>?_] a
 ·rcases List.mem_cons.mp hc with rfl |hc
  ·exact n
  ·rw[List.mem_singleton.mp hc];exact r
 ·rcases List.mem_cons.mp hc with rfl |hc
  ·exact o
  ·rw[List.mem_singleton.mp hc];exact s
theorem Ej(h:H p=some (.tup [.str "if",.ref t,.ref q,.ref Q]))(e:fV H ys k t)(f:H q=some (.tup A))(g:H Q=some (.tup B))(G:gi Cf H ys 0 A)(i:gi Cf H ys 0 B)(r:A.length+B.length<=20)(j:k < 6:=by decide):cf Cf H ys 1 (.ref p):=by obtain⟨T,l,m⟩:=e.ok j;obtain⟨a,n,c,s,u⟩:=G;obtain⟨b,o,d,v,x⟩:=i;exact#[.ite p t T a b .nil,.ite p t T a b q Q A B h l f g n o,#[#[m,c.1,d.1,trivial],c.2,d.2,trivial],(by show max (max a.dep b.dep+1) 0<=1;omega),(by show a.size+b.size+0+1<=21;omega)]
theorem uj(h:H p=some (.tup [.str "while",.ref t,.ref q]))(c:fV H ys k t)(d:H q=some (.tup A))(g:gi Cf H ys 0 A)(l:A.length<=20)(e:k < 6:=by decide):cf Cf H ys 1 (.ref p):=by obtain⟨T,f,i⟩:=c.ok e;obtain⟨a,j,b,m,n⟩:=g;exact#[.loop p t T a .nil,.loop p t T a q A h f d j,#[#[i,b.1,trivial],b.2,trivial],(by show max (a.dep+1) 0<=1;omega),(by show a.size+0+1<=21;omega)]
def pe(Cf:gN)(n:Nat)(H:Hp)(r:Addr)(f:Str):Prop:=∃d:Df,yi H d (.ref r)/\(mf d/\d.b.Cs Cf)/\∃p:List Str,H d.pa=some (.tup$ p.map V.str)/\p.length=n/\d.f=f
theorem pe.mono(h:pe Cf n H r f)(m:ai H a):pe Cf n a r f:=let #[d,b,c,p,e,g]:=h;#[d,b.mono m,c,p,m _ _ e,g]
theorem Dr{f:Str}{p:List Str}(h:H r=some (.tup [.str f,.ref a,.ref b]))(d:H a=some (.tup$ p.map V.str))(e:p.length=n)(i:H b=some (.tup x))(g:gi Cf H ys 1 x)(l:x.length<=100)(j:ys.length<=20):pe Cf n H r f:=by obtain⟨c,k,C,m,o⟩:=g;exact#[#[f,r,a,b,c],#[x,Z,h,i,k],#[#[#[ys,j,C.1],(by show c.dep < 8;omega),(by show c.size<=3000;omega)],C.2],p,d,e,Z]
structure Wd(H0 H:Hp)(p wl:Addr)(ys:List Str):Prop where
 B:ao H p
 K:ar p H0 H
 w:H wl=some (.lst$ ys.map V.str)
theorem Wd.np(h:Wd b H p a ys):a≠p:=zp h.B h.w
theorem Wd.same(h:Wd a H p b ys)(s:ae H c):Wd a c p b ys:=#[h.B.same s,h.K.trans$ ar.of_same s,s _ _ h.w]
theorem Wd.but(h:Wd b H p c ys)(B:ao a p)(k:ar p H a):Wd b a p c ys:=#[B,h.K.trans k,k _ _ h.np h.w]
theorem Wd.own{xs:List V}(h:Wd a H p b ys)(n:a l=none)(L:l≠p)(c:l≠b):Wd a (af H l$ .lst z) p b ys:=#[h.B.eq$ ji$ HR L,h.K.upd_own n,by rw[ji$ HR c];exact h.w]
theorem QK(h:H l=some (.lst x)):ai H (af H l$ .lst a):=λb u e=>by rw[ji$ jO e h (by intro z;cases z)];exact e
end
inductive lP(d:List V)(H:Hp)(Q:VK)(c:XK):Prop
 |mk(p a b:Addr)(e:List Str)(k:Nat)(_:d=[.ref p,.ref a,.ref b])(_:ao H p)(_:fV H e k a)(_:fV H e k b)(_:∀(r:Addr) (H':Hp),fV H' e (k+1) r->ao H' p->ar p H H'->Q (.ref r) H')
inductive c7(n:Nat)(b:List V)(H:Hp)(Q:VK)(a:XK):Prop
 |mk(p c:Addr)(f g:Str)(d:List Str)(_:b=[.ref p,.str f,.str g,.ref c])(_:ao H p)(_:H c=some (.lst (d.map V.str)))(_:d.length=6)(_:∀(r:Addr) (H':Hp),pe [(g,2)] n H' r f->ao H' p->ar p H H'->Q (.ref r) H')
noncomputable abbrev FE:Stmt:=bE 64
noncomputable abbrev mH:Stmt:=bE 65
noncomputable abbrev gG:Stmt:=bE 66
noncomputable abbrev eZ:Stmt:=bE 67
noncomputable abbrev sP:Stmt:=bE 68
theorem Ft{A:List V}(h:A.length=5):∃a b c d e,A=[a,b,c,d,e]:=by
 cases A with
 |nil=>cases h
 |cons a r=>
  cases r with
  |nil=>cases h
  |cons b R=>
   cases R with
   |nil=>cases h
   |cons c f=>
    cases f with
    |nil=>cases h
    |cons d g=>
     cases g with
     |nil=>cases h
     |cons e i=>
      cases i with
      |nil=>exact#[a,b,c,d,e,Z]
      |cons _ _=>cases h
theorem Gx{n:Nat}:my (n+1) 0=some 0:=by unfold my;rw[HD Se,HD Sf];rfl
theorem Gy{n:Nat}:my (n+2) 1=some 1:=by unfold my;rw[HD Se,HD Sf];rfl
theorem l7:dq (v::u::y) 1=some u:=jM (j:=1) Z
structure Fw(p:Addr)(H H':Hp):Prop where
 t:ai H H'
 b:ar p H H'
theorem Fw.refl:Fw p H H:=#[ai.refl,ar.refl]
theorem Fw.trans(a:Fw p H h)(b:Fw p h c):Fw p H c:=#[a.t.trans b.t,a.b.trans b.b]
theorem Fw.new{p:Addr}{H:Hp}{o:HO}(n:H r=none):Fw p H (af H r o):=#[ae.tm$ je n,ar.of_same$ je n]
theorem Fw.same(s:ae H h):Fw p H h:=#[ae.tm s,ar.of_same s]
theorem Fw.but(B:ao H p)(c:ar p H h):Fw p H h:=#[c.tm B,c]
def mZ(P:Hp->V->Prop):Prop:=∀H h v,ai H h->P H v->P h v
def Ev(a:Hp)(p W:Addr)(y:List Str)(b:Hp)(c:_L.St)(t:TE)(P:Hp->V->Prop):Prop:=∀(H:Hp) (Q:VK),Fw p b H->Wd a H p W y->(∀v h,P h v->Wd a h p W y->Fw p H h->Q v h)->t c H Q
def PT(y:List Str)(k:Nat)(H:Hp)(v:V):Prop:=∃a,v= .ref a/\fV H y k a
def PB(C:gN)(y:List Str)(d n:Nat)(H:Hp)(v:V):Prop:=∃a x,v= .ref a/\H a=some (.tup x)/\gi C H y d x/\x.length<=n
def PN(y:List Str)(_:Hp)(v:V):Prop:=∃x,v= .str x/\x∈y
def PG(_:Hp)(v:V):Prop:=∃s,v= .str s/\Sg s
def PP(n:Nat)(H:Hp)(v:V):Prop:=∃(a:Addr) (x:List Str),v= .ref a/\H a=some (.tup$ x.map V.str)/\x.length=n
def vf(y:Str)(_:Hp)(v:V):Prop:=v= .str y
def PD(C:gN)(n:Nat)(f:Str)(H:Hp)(v:V):Prop:=∃a,v= .ref a/\pe C n H a f
section
variable {Cf:gN}{ys:List Str}{H0 Hb:Hp}{p wl:Addr}{σ:_L.St}
theorem aq:mZ (PT ys k):=λ_ _ _ m #[a,e,h]=>#[a,e,h.mono m]
theorem dA:mZ (PB Cf ys d n):=λ_ _ _ m #[a,x,e,h,H,b]=>#[a,x,e,m _ _ h,H.mono m,b]
theorem dF:mZ λH v=>cf Cf H ys d v:=λ_ _ _ m h=>h.mono m
theorem iH:mZ (PD Cf n f):=λ_ _ _ m #[a,e,h]=>#[a,e,h.mono m]
theorem Ev.up{P R:Hp->V->Prop}(h:Ev H0 p wl ys Hb σ t P)(k:∀H v,P H v->R H v):Ev H0 p wl ys Hb σ t R:=λH Q m W q=>h H Q m W λv a x=>q v a (k _ _ x)
theorem jJ{P:Hp->V->Prop}(e:σ[i]?=some (some v))(M:mZ P)(h:P Hb v):Ev H0 p wl ys Hb σ (aV i) P:=λH Q m W q=>#[v,e,q v H (M _ _ _ m.t h) W .refl]
theorem zZ(h:Sg s):Ev H0 p wl ys Hb σ (tC$ .str s) PG:=λH Q m W q=>q _ H #[s,Z,h] W .refl
theorem kG{K:Frag}(e:σ[j]?=some (some$ .ref wl))(a:0<=i)(b:i < (ys.length:Int)):Ev H0 p wl ys Hb σ (dD (ip K) (aV j)$ tC$ .int i) (PN ys):=λH Q m W q=>by obtain⟨y,c,h⟩:=Jg (ys:=ys) a b;exact#[_,e,wl,_,_,_,Z,Z,aB.of W.w,h,q _ H #[y,Z,c] W .refl]
theorem kn{Q:VK}{P:Hp->V->Prop}(W:Wd H0 H p wl ys)(q:∀v h,P h v->Wd H0 h p wl ys->Fw p H h->Q v h)(n:H r=none)(x:ai H (af H r o)->af H r o r=some o->P (af H r o) (.ref r)):Q (.ref r) (af H r o):=
 q _ _ (x (ae.tm$ je n) jc) (W.same$ je n) (.new n)
abbrev uY(n:Int):TE:=dC aL [] E0 (al (aV 0)$ al (tC$ .int n) aM)
def PK(n:Int)(_:Hp)(v:V):Prop:=∃d:Int,v= .int d/\0<=d/\d < n
theorem kL(e:σ[0]?=some (some$ .ref p))(h:1<=n)(c:n<=1000):Ev H0 p wl ys Hb σ (uY n) (PK n):=λH Q m W q=>
 #[_,e,p,n,Z,W.B,Sf,Sf,λd f D a b E=>q _ _ #[d,Z,D,a] (W.but b$ ar.of_eq E) (.but W.B$ ar.of_eq E)]
theorem kA(h:Ev H0 p wl ys Hb σ t (PK n))(g:n<=1000000000000000000):Ev H0 p wl ys Hb σ (bL$ al (tC$ .str "num")$ al t aM) (PT ys 0):=λH Q m W q=>
 h H _ m W λv i #[d,e,D,j] a b=>#[bK,λr N=>kn (P:=PT ys 0) a (λV c x f k=>q V c x f (b.trans k)) N λ_ z=>#[r,Z,CF (by rw[z,e]) D Sf]]
theorem QH(h:0<=n)(a:n < m):Ev H0 p wl ys Hb σ (tC$ .int n) (PK m):=λH Q _ W q=>q _ H #[n,Z,h,a] W .refl
theorem QL(h:Ev H0 p wl ys Hb σ t (PK n))(c:0<=m):Ev H0 p wl ys Hb σ (dD (sK λi j=>V.int (i+j)) (tC$ .int m) t) (PK$ m+n):=λH Q M W q=>
 h H _ M W λv a #[d,e,D,f] b k=>#[m,d,Z,e,q _ a #[m+d,Z,Sf,Sf] b k]
theorem J3(h:Ev H0 p wl ys Hb σ t (PN ys)):Ev H0 p wl ys Hb σ (bL$ al (tC$ .str "var")$ al t aM) (PT ys 0):=λH Q m W q=>
 h H _ m W λv i #[d,e,a] b c=>#[bK,λr n=>kn (P:=PT ys 0) b (λV f x g k=>q V f x g (c.trans k)) n λ_ z=>#[r,Z,uI (by rw[z,e]) a]]
theorem zW{n:Nat}(h:Ev H0 p wl ys Hb σ T PG)(f:Ev H0 p wl ys Hb σ g (PT ys j))(i:Ev H0 p wl ys Hb σ l (PT ys k))(o:j < n)(u:k < n):Ev H0 p wl ys Hb σ (bL$ al (tC$ .str "op")$ al T$ al g$ al l aM) (PT ys n):=λH Q m W q=>
 h H _ m W λM v #[s,E,X] y c=>f v _ (m.trans c) y λO A #[a,B,C] D d=>i A _ ((m.trans c).trans d) D λR S #[b,F,G] I e=>#[oe,λr N=>kn (P:=PT ys n) I (λV J x L k=>q V J x L (((c.trans d).trans e).trans k)) N λt z=>
  #[r,Z,y4 (by rw[z,E,B,F]) X ((C.mono e.t).mono t) (G.mono t) o u]]
theorem Dx(e:σ[0]?=some (some$ .ref p)):Ev H0 p wl ys Hb σ (dD wU (tC$ .str "<=*")$ uY 3) PG:=λH Q m W q=>
 kL e Se Se H _ m W λv h #[d,E,D,a] b k=>by obtain⟨g,i,x⟩:=wN D a;exact#["<=*",d,g,Z,E,Sj,i,q _ h #[_,Z,x] b k]
theorem YS{K:Frag}(e:σ[0]?=some (some$ .ref p))(r:Ev H0 p wl ys Hb σ T (PT ys k))(s:Ev H0 p wl ys Hb σ u (PT ys k)):Ev H0 p wl ys Hb σ (dD (ip K) (lS$ al T$ al u aM)$ uY 2) (PT ys k):=λH Q m W q=>
 r H _ m W λV y #[a,E,X] z c=>s y _ (m.trans c) z λA C #[b,D,F] h f=>#[bK,λl n=>kL e Se Se _ _ (((m.trans c).trans f).trans$ .new n) (h.same$ je n) λv G #[d,I,J,L] M j=>by
  obtain⟨g,i,x⟩:=DU (P:=fV C ys k) J L (X.mono f.t) F;rw[<- E,<- D]at i;have t:=(Fw.new (p:=p) (o:=HO.lst [V,A]) n).trans j;exact#[l,_,d,_,Z,I,aB.of$ j.b _ _ (h.B.ne n) jc,i,q _ G #[g,Z,x.mono t.t] M ((c.trans f).trans t)]]
theorem yu{K:Frag}(e:σ[0]?=some (some$ .ref p))(u:Ev H0 p wl ys Hb σ T (PT ys k))(y:Ev H0 p wl ys Hb σ z (PT ys k))(A:Ev H0 p wl ys Hb σ C (PT ys k)):Ev H0 p wl ys Hb σ (dD (ip K) (lS$ al T$ al z$ al C aM)$ uY 3) (PT ys k):=λH Q m W q=>
 u H _ m W λV D #[a,E,X] F f=>y D _ (m.trans f) F λG I #[b,J,L] M h=>A I _ ((m.trans f).trans h) M λN O #[c,R,S] r j=>#[dZ,λl n=>kL e Se Se _ _ ((((m.trans f).trans h).trans j).trans$ .new n) (r.same$ je n) λv U #[d,Y,d0,d1] W4 s=>by
  obtain⟨g,i,x⟩:=DV (P:=fV O ys k) d0 d1 (X.mono (h.trans j).t) (L.mono j.t) S;rw[<- E,<- J,<- R]at i;have t:=(Fw.new (p:=p) (o:=HO.lst [V,G,N]) n).trans s;exact#[l,_,d,_,Z,Y,aB.of$ s.b _ _ (r.B.ne n) jc,i,q _ U #[g,Z,x.mono t.t] W4 (((f.trans h).trans j).trans t)]]
theorem Dv{K:Frag}(e:σ[0]?=some (some$ .ref p))(r:1<=n)(s:n<=1000)(u:Ev H0 p wl ys Hb σ T (PT ys k))(y:Ev H0 p wl ys Hb σ z (PT ys k)):Ev H0 p wl ys Hb σ (dD (ip K) (lS$ al T$ al z aM)$ EN (λX H Q=>(∃i,X=[V.int i]/\Q (V.int i) H)∨∃k,X=[V.bl k]/\Q (V.int (if k=true then 1 else 0)) H)$ al (dD DY (uY n)$ tC$ .int 0) aM) (PT ys k):=λH Q m W q=>
 u H _ m W λA C #[a,E,D] F c=>y C _ (m.trans c) F λG I #[b,J,L] h f=>#[bK,λl N=>kL e r s _ _ (((m.trans c).trans f).trans$ .new N) (h.same$ je N) λv M #[d,O,S,U] R j=>by
  subst O;refine#[Z,.inr #[_,Z,?_]];obtain⟨g,i,x⟩:=DW (P:=fV I ys k) (D.mono f.t) L _;rw[<- E,<- J]at i;have t:=(Fw.new (p:=p) (o:=HO.lst [A,G]) N).trans j;exact#[l,_,_,_,Z,Z,aB.of$ j.b _ _ (h.B.ne N) jc,i,q _ M #[g,Z,x.mono t.t] R ((c.trans f).trans t)]]
theorem J4(e:σ[0]?=some (some$ .ref p))(h:Ev H0 p wl ys Hb σ T (PT ys k))(g:Ev H0 p wl ys Hb σ i (PT ys k)):Ev H0 p wl ys Hb σ (dC lP [] E0$ al (aV 0)$ al T$ al i aM) (PT ys$ k+1):=λH Q m W q=>
 #[_,e,h H _ m W λv j #[a,E,x] l d=>g j _ (m.trans d) l λV y #[b,n,X] c f=>#[p,a,b,ys,k,by rw[E,n];rfl,c.B,x.mono f.t,X,λr o s u C=>q _ o #[r,Z,s] (c.but u C) ((d.trans f).trans$ .but c.B C)]]
theorem vF{w:Str}{T a:TE}{A B R:Hp->V->Prop}(M:mZ A)(d:mZ B)(e:Ev H0 p wl ys Hb σ T A)(f:Ev H0 p wl ys Hb σ a B)(h:∀H r u v,H r=some (.tup [.str w,u,v])->A H u->B H v->R H (.ref r)):Ev H0 p wl ys Hb σ (bL$ al (tC$ .str w)$ al T$ al a aM) R:=λH Q m W q=>
 e H _ m W λC g X i b=>f g _ (m.trans b) i λD E j l c=>#[dZ,λr n=>kn (P:=R) l (λo s x y k=>q o s x y ((b.trans c).trans k)) n λt z=>h _ _ _ _ z (M _ _ _ t$ M _ _ _ c.t X) (d _ _ _ t j)]
theorem Fk{w:Str}{T:TE}{A R:Hp->V->Prop}(M:mZ A)(a:Ev H0 p wl ys Hb σ T A)(h:∀H r u,H r=some (.tup [.str w,u])->A H u->R H (.ref r)):Ev H0 p wl ys Hb σ (bL$ al (tC$ .str w)$ al T aM) R:=λH Q m W q=>
 a H _ m W λf g X b c=>#[bK,λr n=>kn (P:=R) b (λv d x e k=>q v d x e (c.trans k)) n λt z=>h _ _ _ z (M _ _ _ t X)]
theorem Ds{w:Str}{T d e:TE}{A B C R:Hp->V->Prop}(M:mZ A)(f:mZ B)(g:mZ C)(i:Ev H0 p wl ys Hb σ T A)(j:Ev H0 p wl ys Hb σ d B)(l:Ev H0 p wl ys Hb σ e C)(h:∀H r u v x,H r=some (.tup [.str w,u,v,x])->A H u->B H v->C H x->R H (.ref r)):Ev H0 p wl ys Hb σ (bL$ al (tC$ .str w)$ al T$ al d$ al e aM) R:=λH Q m W q=>
 i H _ m W λL n X o a=>j n _ (m.trans a) o λO s y D b=>l s _ ((m.trans a).trans b) D λS U E F c=>#[oe,λr N=>kn (P:=R) F (λG I x J k=>q G I x J (((a.trans b).trans c).trans k)) N λt z=>h _ _ _ _ _ z (M _ _ _ t$ M _ _ _ (b.trans c).t X) (f _ _ _ t$ f _ _ _ c.t y) (g _ _ _ t E)]
theorem AR:mZ (PN ys):=λ_ _ _ _ h=>h
theorem J5{t T:TE}{k:Nat}(h:Ev H0 p wl ys Hb σ t (PN ys))(b:Ev H0 p wl ys Hb σ T (PT ys k))(c:k < 6):Ev H0 p wl ys Hb σ (bL$ al (tC$ .str "read")$ al t$ al T aM) (λH v=>cf Cf H ys 0 v):=vF AR aq h b λH r u v z #[x,e,d] #[a,E,f]=>Ek (by rw[z,e,E]) d f c
theorem Jy{t T:TE}{k:Nat}(h:Ev H0 p wl ys Hb σ t (PN ys))(b:Ev H0 p wl ys Hb σ T (PT ys k))(c:k < 6):Ev H0 p wl ys Hb σ (bL$ al (tC$ .str "set")$ al t$ al T aM) (λH v=>cf Cf H ys 0 v):=vF AR aq h b λH r u v z #[x,e,d] #[a,E,f]=>El (by rw[z,e,E]) d f c
theorem J6{t T:TE}{j k:Nat}(h:Ev H0 p wl ys Hb σ t (PT ys j))(b:Ev H0 p wl ys Hb σ T (PT ys k))(c:j < 6)(d:k < 6):Ev H0 p wl ys Hb σ (bL$ al (tC$ .str "write")$ al t$ al T aM) (λH v=>cf Cf H ys 0 v):=vF aq aq h b λH r u v z #[x,e,f] #[a,E,g]=>Em (by rw[z,e,E]) f g c d
theorem Xi{t:TE}{k:Nat}(h:Ev H0 p wl ys Hb σ t (PT ys k))(b:k < 6):Ev H0 p wl ys Hb σ (bL$ al (tC$ .str "give")$ al t aM) (λH v=>cf Cf H ys 0 v):=Fk aq h λH r v z #[a,e,c]=>Ei (by rw[z,e]) c b
theorem pS{n o T c:TE}{j k:Nat}(C:Ev H0 p wl ys Hb σ n (PN ys)){f:Str}(D:Ev H0 p wl ys Hb σ o (vf f))(d:(f,2)∈Cf)(F:Ev H0 p wl ys Hb σ T (PT ys j))(G:Ev H0 p wl ys Hb σ c (PT ys k))(I:j < 6)(J:k < 6):Ev H0 p wl ys Hb σ (bL$ al (tC$ .str "call")$ al n$ al o$ al (bL$ al T$ al c aM) aM) (λH v=>cf Cf H ys 0 v):=by
 let R:Hp->V->Prop:=λH v=>∃q a b,v= .ref q/\H q=some (.tup [.ref a,.ref b])/\fV H ys j a/\fV H ys k b
 have M:mZ R:=λ_ _ _ m #[q,a,b,e,g,L,i]=>#[q,a,b,e,m _ _ g,L.mono m,i.mono m];have N:Ev H0 p wl ys Hb σ (bL$ al T$ al c aM) R:=λH Q m W q=>
  F H _ m W λv2 O #[a,E,X] S s=>G O _ (m.trans s) S λv3 H3 #[b,l,U] Y A=>#[bK,λr nr=>kn (P:=R) Y (λv' H' x W' k=>q v' H' x W' ((s.trans A).trans k)) nr λt z=>#[r,a,b,Z,by rw[z,E,l],(X.mono A.t).mono t,U.mono t]]
 exact Ds AR (B:=vf f) (λ_ _ _ _ h=>h) M C D N λH r u v x z #[y,e1,g] (E:v= .str f) #[q,a,b,l,i,h4,h5]=>Eh (f:=f) (by rw[z,e1,E,l]) g d i h4 h5 I J
theorem yt{t T b:TE}{k n m:Nat}(h:Ev H0 p wl ys Hb σ t (PT ys k))(c:Ev H0 p wl ys Hb σ T (PB Cf ys 0 n))(d:Ev H0 p wl ys Hb σ b (PB Cf ys 0 m))(e:k < 6)(s:n+m<=20):Ev H0 p wl ys Hb σ (bL$ al (tC$ .str "if")$ al t$ al T$ al b aM) (λH v=>cf Cf H ys 1 v):=
 Ds aq dA dA h c d λH r u v x z #[a,E,f] #[Q,X,g,i,j,y] #[A,B,l,o,q,C]=>Ej (by rw[z,E,g,l]) f i o j q Sf e
theorem yy{t T:TE}{k n:Nat}(h:Ev H0 p wl ys Hb σ t (PT ys k))(b:Ev H0 p wl ys Hb σ T (PB Cf ys 0 n))(c:k < 6)(i:n<=20):Ev H0 p wl ys Hb σ (bL$ al (tC$ .str "while")$ al t$ al T aM) (λH v=>cf Cf H ys 1 v):=
 vF aq dA h b λH r u v z #[a,e,d] #[q,x,E,f,g,j]=>uj (by rw[z,e,E]) d f g Sf c
theorem yr{d:Nat}:Ev H0 p wl ys Hb σ (bL aM) (PB Cf ys d 0):=λH Q m W q=>#[iw,λr n=>kn (P:=PB Cf ys d 0) W q n λt z=>#[r,[],Z,z,Kg,Hg 0]]
theorem J7(h:Ev H0 p wl ys Hb σ T (λH v=>cf Cf H ys d v)):Ev H0 p wl ys Hb σ (bL$ al T aM) (PB Cf ys d 1):=λH Q m W q=>
 h H _ m W λf g X a b=>#[gK,λr n=>kn (P:=PB Cf ys d 1) a (λV c x e k=>q V c x e (b.trans k)) n λt z=>#[r,_,Z,z,zq$ X.mono t,Hg 1]]
theorem YT(h:Ev H0 p wl ys Hb σ T (λH v=>cf Cf H ys d v))(c:Ev H0 p wl ys Hb σ e (λH v=>cf Cf H ys d v)):Ev H0 p wl ys Hb σ (bL$ al T$ al e aM) (PB Cf ys d 2):=λH Q m W q=>
 h H _ m W λs f X g a=>c f _ (m.trans a) g λu y i j b=>#[bK,λr n=>kn (P:=PB Cf ys d 2) j (λV l x o k=>q V l x o ((a.trans b).trans k)) n λt z=>#[r,_,Z,z,jT ((X.mono b.t).mono t)$ zq$ i.mono t,Hg 2]]
theorem Dt(h:Ev H0 p wl ys Hb σ T (λH v=>cf Cf H ys d v))(e:Ev H0 p wl ys Hb σ f (λH v=>cf Cf H ys d v))(g:Ev H0 p wl ys Hb σ i (λH v=>cf Cf H ys d v)):Ev H0 p wl ys Hb σ (bL$ al T$ al f$ al i aM) (PB Cf ys d 3):=λH Q m W q=>
 h H _ m W λC j X l a=>e j _ (m.trans a) l λD n o s b=>g n _ ((m.trans a).trans b) s λE F u y c=>#[dZ,λr N=>kn (P:=PB Cf ys d 3) y (λV A x B k=>q V A x B (((a.trans b).trans c).trans k)) N λt z=>#[r,_,Z,z,jT ((X.mono (b.trans c).t).mono t)$ jT ((o.mono c.t).mono t)$ zq$ u.mono t,Hg 3]]
theorem qD(h:Ev H0 p wl ys Hb σ T (PB Cf ys d n))(e:Ev H0 p wl ys Hb σ f (PB Cf ys d m))(B:n+m<=100):Ev H0 p wl ys Hb σ (dD sI T f) (PB Cf ys d$ n+m):=λH Q M W q=>
 h H _ M W λV g #[a,x,E,i,X,L] j c=>e g _ (M.trans c) j λC D #[b,z,l,o,u,F] v k=>#[a,b,x,z,E,l,k.t _ _ i,o,Hr (show x.length+z.length<=100 by omega) Se,λr y A s=>q _ y #[r,_,Z,A,Jj ((X.mono k.t).mono$ ae.tm s)$ u.mono$ ae.tm s,by rw[Hf];omega] (v.same s) ((c.trans k).trans$ .same s)]
theorem Qj(e:σ[i]?=some (some$ .str x)):Ev H0 p wl ys Hb σ (aV i) (vf x):=jJ e (λ_ _ _ _ h=>h) Z
theorem YU(h:Ev H0 p wl ys Hb σ T (vf f))(g:Ev H0 p wl ys Hb σ i (PP m))(j:Ev H0 p wl ys Hb σ l (PB Cf ys 1 n))(O:n<=100)(o:ys.length<=20):Ev H0 p wl ys Hb σ (bL$ al T$ al i$ al l aM) (PD Cf m f):=λH Q M W q=>
 h H _ M W λv s (E:v= .str f) u c=>g s _ (M.trans c) u λR y #[a,S,A,B,L] C d=>j y _ ((M.trans c).trans d) C λU Y #[b,xs,D,F,X,l4] G e=>#[dZ,λr N=>kn (P:=PD Cf m f) G (λV I x J k=>q V I x J (((c.trans d).trans e).trans k)) N λt z=>
  #[r,Z,Dr (f:=f) (by rw[z,E,A,D]) (t _ _$ e.t _ _ B) L (t _ _ F) (X.mono t) Sf o]]
theorem yv(h:Ev H0 p wl ys Hb σ T (PN ys)):Ev H0 p wl ys Hb σ (bL$ al T aM) (PP 1):=λH Q m W q=>
 h H _ m W λV f #[X,e,_] a b=>#[gK,λr n=>kn (P:=PP 1) a (λv c x d k=>q v c x d (b.trans k)) n λt z=>#[r,[X],Z,by rw[z,e];rfl,Z]]
theorem yw(h:Ev H0 p wl ys Hb σ T (PN ys))(b:Ev H0 p wl ys Hb σ c (PN ys)):Ev H0 p wl ys Hb σ (bL$ al T$ al c aM) (PP 2):=λH Q m W q=>
 h H _ m W λV d #[X,e,_] f a=>b d _ (m.trans a) f λs u #[g,E,_] i j=>#[bK,λr n=>kn (P:=PP 2) i (λv l x o k=>q v l x o ((a.trans j).trans k)) n λt z=>#[r,[X,g],Z,by rw[z,e,E];rfl,Z]]
theorem cf.lift(h:cf Cf H ys 0 v):cf Cf H ys 1 v:=h.up
theorem PB.lift(h:PB Cf ys 0 n H v):PB Cf ys 1 n H v:=let #[a,x,e,c,#[b,B,d,g,i],f]:=h;#[a,x,e,c,#[b,B,d,Sf,Sf],f]
theorem PB.more(h:PB Cf ys d n H v)(k:n<=m):PB Cf ys d m H v:=let #[a,x,e,b,c,f]:=h;#[a,x,e,b,c,Hr f k]
theorem qJ{a b:TS}(W:Wd H0 H p wl ys)(e:σ[0]?=some (some$ .ref p))(g:1<=n)(i:n<=1000)(j:∀h,Wd H0 h p wl ys->Fw p H h->a D σ h)(l:∀h,Wd H0 h p wl ys->Fw p H h->b D σ h):lg (ik$ dD DY (uY n)$ tC$ .int 0) a b D σ H:=
 kL (Hb:=H) e g i H _ .refl W λv c #[d,E,m,o] f k=>by subst E;exact#[Z,_,Z,bG (λ_=>j c f k) (λ_=>l c f k)]
theorem jQ{D:aU}{P:Hp->V->Prop}(W:Wd H0 H p wl ys)(h:Ev H0 p wl ys H σ t P)(q:∀v a,P a v->Wd H0 a p wl ys->Fw p H a->D.nx (σ.set i$ some v) a):dS t (bf i) D σ H:=h H _ .refl W q
theorem QM{D:aU}{P:Hp->V->Prop}(W:Wd H0 H p wl ys)(h:Ev H0 p wl ys H σ t P)(q:∀v a,P a v->Wd H0 a p wl ys->D.rt v a):iy t D σ H:=h H _ .refl W λv a x b _=>q v a x b
theorem xI{K:Frag}{D:aU}(W:Wd H0 H p wl ys)(d:Ev H0 p wl ys H σ T (PT ys 0))(e:Ev H0 p wl ys H σ f (PT ys 0))(g:Ev H0 p wl ys H σ l (PT ys 0))
  (q:∀u v w h,PT ys 0 h u->PT ys 0 h v->PT ys 0 h w->Wd H0 h p wl ys->Fw p H h->D.nx (((σ.set k$ some w).set j$ some v).set i$ some u) h):yV K (bL$ al T$ al f$ al l aM) i j k D σ H:=
 d H _ .refl W λV m x o a=>e m _ a o λs y X z b=>g y _ (a.trans b) z λA E B C c=>#[dZ,λr n=>#[r,_,_,_,Z,ax.of jc,q V s A _ (aq _ _ _ (ae.tm$ je n)$ aq _ _ _ (b.trans c).t x) (aq _ _ _ (ae.tm$ je n)$ aq _ _ _ c.t X) (aq _ _ _ (ae.tm$ je n) B) (C.same$ je n) (((a.trans b).trans c).trans$ .new n)]]
structure Ow(H0 H:Hp)(p wl l:Addr)(xs:List V):Prop where
 hl:H l=some (.lst xs)
 np:l≠p
 lw:l≠wl
 l0:H0 l=none
theorem Ow.fw(o:Ow H0 H p wl l x)(k:Fw p H h):Ow H0 h p wl l x:=#[k.b _ _ o.np o.hl,o.np,o.lw,o.l0]
theorem Ow.new(W:Wd H0 H p wl ys)(n:H l=none):Ow H0 (af H l$ .lst x) p wl l x:=#[jc,W.B.ne n,(λe=>by have z:=W.w;rw[<- e,n]at z;cases z),W.K.none W.B n]
theorem DS{D:aU}(W:Wd H0 H p wl ys)(b:Ev H0 p wl ys H σ t (λH v=>cf Cf H ys 0 v))(q:∀l v h,Ow H0 h p wl l [v]->cf Cf h ys 0 v->Wd H0 h p wl ys->Fw p H h->D.nx (σ.set i$ some$ .ref l) h):dS (lS$ al t aM) (bf i) D σ H:=
 b H _ .refl W λV c x a k=>#[gK,λl n=>q l V _ (.new a n) (x.mono$ ae.tm$ je n) (a.same$ je n) (k.trans$ .new n)]
theorem DT{D:aU}(W:Wd H0 H p wl ys)(c:Ev H0 p wl ys H σ T (λH v=>cf Cf H ys 0 v))(d:Ev H0 p wl ys H σ e (λH v=>cf Cf H ys 0 v))(q:∀l u v h,Ow H0 h p wl l [u,v]->cf Cf h ys 0 u->cf Cf h ys 0 v->Wd H0 h p wl ys->Fw p H h->D.nx (σ.set i$ some$ .ref l) h):dS (lS$ al T$ al e aM) (bf i) D σ H:=
 c H _ .refl W λV f x g k=>d f _ k g λj m X a b=>#[bK,λl n=>q l V j _ (.new a n) ((x.mono b.t).mono$ ae.tm$ je n) (X.mono$ ae.tm$ je n) (a.same$ je n) ((k.trans b).trans$ .new n)]
theorem Jk{K:Frag}{D:aU}(W:Wd H0 H p wl ys)(a:σ[i]?=some (some$ .ref l))(o:Ow H0 H p wl l xs)(b:xs.length<=100)(c:Ev H0 p wl ys H σ T (λH v=>cf Cf H ys 0 v))
  (q:∀v h,cf Cf h ys 0 v->Ow H0 h p wl l (xs++[v])->Wd H0 h p wl ys->ai H h->D.nx σ h):oi (FM K "list" iJ (aV i)$ al T aM) D σ H:=
 #[_,a,.inl #[Z,_,aB.of o.hl],c H _ .refl W λv e x d k=>#[l,xs,v,Z,Z,(o.fw k).hl,IV b Se,q v _ (x.mono$ QK (o.fw k).hl) #[jc,o.np,o.lw,o.l0] (d.own (xs:=xs) o.l0 o.np o.lw) (k.t.trans$ QK (o.fw k).hl)]]
theorem xY{K:Frag}{D:aU}(W:Wd H0 H p wl ys)(h:σ[i]?=some (some$ .ref l))(o:Ow H0 H p wl l (u::v::z))
  (q:∀a,Ow H0 a p wl l (v::u::z)->Wd H0 a p wl ys->ai H a->D.nx σ a):dS (bL$ al (dD (ip K) (aV i)$ tC$ .int 1)$ al (dD (ip K) (aV i)$ tC$ .int 0) aM) (ot K 2$ de (Ay (aV i) (tC$ .int 0) nB)$ de (Ay (aV i) (tC$ .int 1) nB) pY) D σ H:=
 #[_,h,l,_,_,_,Z,Z,aB.of o.hl,l7,_,h,l,_,_,_,Z,Z,aB.of o.hl,gn,bK,λt N=>#[t,_,Z,ax.of jc,Z,_,_,Z,_,h,l,_,0,0,Z,Z,am o.hl N,Gx (n:=z.length+1),_,_,Z,_,h,l,_,1,1,Z,Z,jc,Gy (n:=z.length),Z,
  q _ #[jc,o.np,o.lw,o.l0] (((W.same$ je N).own (xs:=u::v::z) o.l0 o.np o.lw).own (xs:=u::v::z) o.l0 o.np o.lw) (((ae.tm$ je N).trans$ QK$ am o.hl N).trans$ QK jc)]]
theorem yx{K:Frag}{n:Nat}(e:σ[i]?=some (some$ .ref l))(o:Ow H0 Hb p wl l x)(h:gi Cf Hb ys 0 x)(a:x.length<=n):Ev H0 p wl ys Hb σ (EN (λx H Q=>∃p ys,x=[V.ref p]/\((aB K H p ys/\∀(l:Addr),H l=none->Q (V.ref l) (af H l$ HO.tup ys))∨ax K H p ys/\Q (V.ref p) H))$ al (aV i) aM) (PB Cf ys 0 n):=λH Q m W q=>
 #[_,e,l,x,Z,.inl #[aB.of (o.fw m).hl,λr N=>kn (P:=PB Cf ys 0 n) W q N λt z=>#[r,x,Z,z,(h.mono m.t).mono t,a]]]
theorem Al{D:aU}(W:Wd H0 H p wl ys)(u:σ[i]?=some (some$ .ref l))(y:σ[j]?=some (some$ .ref m))(o:Ow H0 H p wl l x)(O:Ow H0 H p wl m z)(C:x.length+z.length<=100)(E:gi Cf H ys 0 x)(F:gi Cf H ys 0 z)
  (G:Ev H0 p wl ys H σ T (λH v=>cf Cf H ys 0 v)) (I:Ev H0 p wl ys H σ J (λH v=>cf Cf H ys 0 v)) (q:∀r U h,Ow H0 h p wl r U->gi Cf h ys 0 U->U.length<=x.length+z.length+2->Wd H0 h p wl ys->Fw p H h->D.nx (σ.set i$ some$ .ref r) h):
  dS (dD wT (dD wT (aV i)$ aV j)$ lS$ al T$ al J aM) (bf i) D σ H:=
 #[_,u,_,y,l,m,_,_,Z,Z,o.hl,O.hl,Hr C Se,λc n=>G _ _ (.new n) (W.same$ je n) λV L X M k=>I L _ ((Fw.new n).trans k) M λe R Q A s=>#[bK,λd N=>#[c,d,_,_,Z,Z,am ((k.trans s).b _ _ (W.B.ne n) jc) N,jc,by
  have:=aD;show(x++z).length+2<=sizeLine;rw[Hf];omega,λr a=>q r _ _ (.new (A.same$ je N) a) (by
   have f:=(((Fw.new n).trans k).trans s).trans ((Fw.new (p:=p) (o:=HO.lst [V,e]) N).trans$ Fw.new (o:=HO.lst ((x++z)++[V,e])) a);have g:=(Fw.new (p:=p) (o:=HO.lst [V,e]) N).trans (Fw.new (o:=HO.lst ((x++z)++[V,e])) a);exact Jj (Jj (E.mono f.t)$ F.mono f.t)$ jT ((X.mono s.t).mono g.t)$ zq$ Q.mono g.t) (by rw[Hf,Hf];exact Hg _) ((A.same$ je N).same$ je a) ((((Fw.new n).trans k).trans s).trans ((Fw.new N).trans$ Fw.new a))]]]
theorem Zi{K:Frag}{D:aU}(W:Wd H0 H p wl ys)(k:σ[3]?=some (some$ .ref wl))(l:ys.length=6)
  (q:∀a b c d e g,PT ys 0 g a->PT ys 0 g b->PT ys 0 g c->PT ys 0 g d->PT ys 0 g e->Wd H0 g p wl ys->D.nx (((((σ.set 4$ some a).set 5$ some b).set 6$ some c).set 7$ some d).set 8$ some e) g):
  dS (uo (yA K$ EO (wV K) (aV 3) lh$ lT$ tC$ V.int 5) 1 [] (bf 0) j'$ bL$ al (tC$ V.str "var")$ al (aV 0) aM) (Fm K 5$ de (bf 4)$ de (bf 5)$ de (bf 6)$ de (bf 7)$ de (bf 8) pY) D σ H:=by
 have B:=aD;refine#[_,k,_,Z,wl,_,Z,aB.of W.w,λs n=>?_];have E:aE (ys.map V.str) none (some 5)=(ys.take 5).map V.str:=by rw[show(5:Int)=((5:Nat):Int) from Z,Dm (by rw[He];omega),Mh]
 have t:af H s (.lst$ aE (ys.map V.str) none$ some 5) s=some (.lst ((ys.take 5).map V.str)):=by rw[E];exact jc
 have S:=je (o:=HO.lst (aE (ys.map V.str) none$ some 5)) n;generalize af H s (.lst$ aE (ys.map V.str) none$ some 5)=A at t S;refine#[s,Z,#[_,aB.of t],?_];refine QA (K:=K) (a:=s) (xs:=(ys.take 5).map V.str) (by rw[He,HL];omega) (λi j g=>j.length=i/\(∀v∈j,PT ys 0 g v)/\ae A g) #[Z,(λ_ h=>absurd h HK),ae.refl _] (λi j g h=>#[aB.of$ h.2.2 _ _ t,NA h.1]) (λi x j g C h=>?_) (λj F h L N=>?_)
 ·obtain⟨y,l,rfl⟩:=List.mem_map.mp (Hu C);exact#[_,Z,bK,λr u=>#[by rw[Hf,h.1];rfl,qW (λa z=>aq _ _ _ (ae.tm$ je u) (h.2.1 a z)) #[r,Z,uI jc$ Ii l],h.2.2.trans$ je u]]
 ·have e:=h.1;rw[He,HL]at e;obtain⟨a,b,c,d,f,rfl⟩:=Ft (show j.length=5 by omega);have m:=ae.tm (je (o:=HO.lst [a,b,c,d,f]) N);exact#[L,_,Z,aB.of jc,Z,_,_,Z,_,_,Z,_,_,Z,_,_,Z,_,_,Z,Z,q a b c d f _ (aq _ _ _ m$ h.2.1 a Si) (aq _ _ _ m$ h.2.1 b Si) (aq _ _ _ m$ h.2.1 c Si) (aq _ _ _ m$ h.2.1 d Si) (aq _ _ _ m$ h.2.1 f Si) (((W.same S).same h.2.2).same$ je N)]
end
theorem FF:ak z15z z15z (aa FE):=bu
theorem DO(F:aK K "_law_op" "_law_op" FE f t)(C:Cl P w K mg base 1 T u z0z aL "_law_take"):ah P w K mg base aA 2 f t z15z lP:=by
 refine F.ok FF ?_ λv A O s H V Q E x h=>?_
 ·rintro _ _ _ _ ⟨p,a,b,y,k,rfl,_⟩;rfl
 obtain⟨p,a,b,y,k,rfl,B,z,D,q⟩:=h;refine#[_,(jg$ jm$ jh$ ja jk$ ja (jr jq (jD$ ja jk$ ja jk$ ja jk$ ja jk jb) (C.e x.m$ ja (pv 0)$ ja jf jb) (λ_ _=>Z))$ ja (pv 1)$ ja (pv 2) jb),?_];refine#[oe,λl n=>#[_,Z,p,4,Z,B.upd_new n,Se,Se,λd G I J L j=>?_]];obtain⟨s,c,M⟩:=wO I J;have g:ar p H G:=((ar.refl).upd_new n).trans (ar.of_eq j);refine#[l,_,_,_,Z,Z,aB.of (by rw[j l$ B.ne n];exact jc),c,_,Z,_,Z,oe,λr N=>?_];have S:=je (o:=HO.tup [.str "op",.str s,.ref a,.ref b]) N;exact q r _ (y4 jc M ((z.mono$ g.tm B).mono$ ae.tm S) ((D.mono$ g.tm B).mono$ ae.tm S) (IF _)$ IF _) (L.upd_new N)$ g.trans$ ar.of_same S
theorem bH:ak ["_law_box_here","_law_f","_law_g","_law_w","_law_x","_law_i","_law_y","_law_spot_here","_law_body_here","_law_deeper","_law_test","_law_early","_law_last"] z33z (aa mH):=bu
theorem rS(F:aK K "_law_inner" "_law_inner" mH f fd)(I:Cl P w K mg base 1 fT b9 z0z aL "_law_take")(cO:Cl P w K mg base 2 fO b' z15z lP "_law_op"):ah P w K mg base aA 3 f fd z33z (c7 2):=by
 refine F.ok bH ?_ λc0 A o1 s H vs Q E l h=>?_
 ·rintro _ _ _ _ ⟨p,T,f0,g,Y,rfl,_⟩;rfl
 obtain⟨p,T,f0,g,Y,rfl,B,hw,h2,q⟩:=h;refine#[_,(jd (@wP _ _ _ _ _ _ _ _ (4) (5) (6) Z bH.nd Z Z Z (Or.inl Z) (Or.inl Z) (Or.inl Z) (jh$ ja (jh$ ja jk$ ja (jr jq (pv 3) jf (λ_ _=>Z)) jb)$ ja (jh$ ja jk$ ja (jr jq (pv 3) jf (λ_ _=>Z)) jb)$ ja (jh$ ja jk$ ja (jr jq (pv 3) jf (λ_ _=>Z)) jb) jb) (by first |exact .inl Z |exact .inr Z) (by first |exact .inl Z |exact .inr Z) (by first |exact .inl Z |exact .inr Z) Sl Sl)$ jd (jx 7 bH.nd$ jh$ ja jk$ ja jk$ ja (jr jq (jD$ ja (pv 4)$ ja (pv 5) jb) (I.e l.m$ ja (pv 0)$ ja jf jb) (λ_ _=>Z))$ ja (jh$ ja jk$ ja (I.e l.m$ ja (pv 0)$ ja jf jb) jb) jb)$ jd (jx 8 bH.nd$ jh$ ja (jh$ ja jk$ ja (jr jq (pv 3) jf (λ_ _=>Z))$ ja (pv 7) jb) jb)$ jd (jZ$ jw (kE$ I.e l.m$ ja (pv 0)$ ja jf jb) (jd (jx 7 bH.nd$ jh$ ja jk$ ja jk$ ja (pv 5)$ ja (jh$ ja jk$ ja (ju jY jf$ I.e l.m$ ja (pv 0)$ ja jf jb) jb) jb)$ jg$ jx 8 bH.nd$ ju jU (pv 8)$ jh$ ja (jh$ ja jk$ ja (pv 7)$ ja (cO.e l.m$ ja (pv 0)$ ja (pv 4)$ ja (pv 6) jb) jb) jb) jp)$ jd (jZ$ jw (kE$ I.e l.m$ ja (pv 0)$ ja jf jb) (jd (jx 9 bH.nd$ jh$ ja jk$ ja (jr jq (pv 3) jf (λ_ _=>Z))$ ja (pv 2)$ ja (jh$ ja (jh$ ja jk$ ja jk$ ja (pv 5)$ ja (jh$ ja jk$ ja jf jb) jb)$ ja (pv 6) jb) jb)$ jg$ jx 8 bH.nd$ ju jU (pv 8)$ jh$ ja (jh$ ja jk$ ja (pv 5)$ ja (jh$ ja (pv 9) jb)$ ja (jh jb) jb) jb) jp)$ jd (jx 10 bH.nd$ jh$ ja jk$ ja (jr Kb jk (I.e l.m$ ja (pv 0)$ ja jf jb) (λ_ _=>Z))$ ja (pv 6)$ ja (jh$ ja jk$ ja (I.e l.m$ ja (pv 0)$ ja jf jb) jb) jb)$ jd (jx 11 bH.nd$ jh$ ja jk$ ja (cO.e l.m$ ja (pv 0)$ ja (pv 4)$ ja (pv 6) jb) jb)$ jd (jx 12 bH.nd$ jh$ ja jk$ ja (cO.e l.m$ ja (pv 0)$ ja (pv 6)$ ja (pv 5) jb) jb)$ jd (jx 8 bH.nd$ ju jU (pv 8)$ jh$ ja (jh$ ja jk$ ja (pv 10)$ ja (jh$ ja (pv 11) jb)$ ja (jh jb) jb)$ ja (pv 12) jb)$ jg$ jm$ jh$ ja (pv 1)$ ja (jh$ ja (jr jq (pv 3) jf (λ_ _=>Z))$ ja (jr jq (pv 3) jf (λ_ _=>Z)) jb)$ ja (pv 8) jb),?_];have W0:Wd H H p T Y:=#[B,ar.refl,hw];refine aj λF1 f1=>xI W0 (J3$ kG Z Se Sf) (J3$ kG Z Se Sf) (J3$ kG Z Se Sf) λvx vi vy J xx X U W1 k1=>f1 _ _ ?_;refine aj λF2 f2=>jQ W1 (zW (n:=1) (zZ zg) (YS Z (jJ Z aq xx)$ jJ Z aq X) (kA (kL Z Se Se) Se) Se Se) λv2 H2 x2 W2 k2=>f2 _ _ ?_;refine aj λF3 f3=>jQ W2 (J7$ J5 (Cf:=[(g,2)]) (kG Z Se Sf) (jJ Z aq x2) Se) λv3 H3 x3 W3 k3=>f3 _ _ ?_;refine aj λF4 f4=>dm (λL u=>∃(o:Option V) (b:V),L=[some$ V.ref p,some$ V.str f0,some$ V.str g,some$ V.ref T,some$ vx,some$ vi,some$ vy,o,some b,none,none,none,none]/\PB [(g,2)] Y 1 2 u b/\Wd H u p T Y/\ai H3 u) (λE4 _ f5=>qJ W3 Z Se Se (λH6 W6 k6=>?_) (λH6 W6 k6=>?_)) λσ0 H5 h0=>?_
 ·clear f4;have C:ai J H6:=((k2.t.trans k3.t).trans k6.t);refine aj λF7 f7=>jQ W6 (zW (n:=1) (zZ zg) (jJ Z aq$ aq _ _ _ C X) (kA (QL (kL Z Se Se) Se) Se) Se Se) λv7 H7 x7 W7 k7=>f7 _ _ ?_;have D:ai H3 H7:=(k6.t.trans k7.t);have G:ai J H7:=(C.trans k7.t);refine jQ W7 (qD (jJ Z dA$ dA _ _ _ D x3) (J7$ J6 (Cf:=[(g,2)]) (jJ Z aq x7) (J4 Z (jJ Z aq$ aq _ _ _ G xx)$ jJ Z aq$ aq _ _ _ G U) Se Se) Se) λv8 H8 x8 W8 k8=>f5 _ _ ?_;have m0:ai H3 H8:=(D.trans k8.t);exact#[_,_,Z,(PB.lift x8),W8,m0]
 ·clear f4;exact f5 _ _ #[_,_,Z,(PB.more (PB.lift$ dA _ _ _ k6.t x3) Se),W6,k6.t]
 obtain⟨o5,b5,rfl,x5,W5,k5⟩:=h0;refine f4 _ _ ?_;clear f4;refine aj λF9 f9=>dm (λL u=>∃(o:Option V) (b:V),L=[some$ V.ref p,some$ V.str f0,some$ V.str g,some$ V.ref T,some$ vx,some$ vi,some$ vy,o5,some b,o,none,none,none]/\PB [(g,2)] Y 1 3 u b/\Wd H u p T Y/\ai H5 u) (λE9 _ f6=>qJ W5 Z Se Se (λH0 W k=>?_) (λH0 W k=>?_)) λσ1 H4 h1=>?_
 ·clear f9;have M:ai J H0:=(((k2.t.trans k3.t).trans k5).trans k.t);refine aj λF0 f'=>jQ W (pS (Cf:=[(g,2)]) (kG Z Se Sf) (Qj Z) HI (zW (n:=1) (zZ XB) (jJ Z aq$ aq _ _ _ M X) (kA (QH Se (by decide:(1:Int) < 2)) Se) Se Se) (jJ Z aq$ aq _ _ _ M U) Se Se) λv0 H9 x0 W4 k0=>f' _ _ ?_;have c:ai H5 H9:=(k.t.trans k0.t);have N:ai J H9:=(M.trans k0.t);refine jQ W4 (qD (jJ Z dA$ dA _ _ _ c x5) (J7$ yt (jJ Z aq$ aq _ _ _ N X) (J7$ jJ Z dF x0) (yr (Cf:=[(g,2)]) (d:=0)) Se Se) Se) λv1 a2 x1 W9 k9=>f6 _ _ ?_;have O:ai H5 a2:=(c.trans k9.t);exact#[_,_,Z,x1,W9,O]
 ·clear f9;exact f6 _ _ #[_,_,Z,(PB.more (dA _ _ _ k.t x5) Se),W,k.t]
 obtain⟨o2,c1,rfl,x4,a3,k'⟩:=h1;refine f9 _ _ ?_;clear f9;have i:ai J H4:=(((k2.t.trans k3.t).trans k5).trans k');refine aj λF5 a4=>jQ a3 (zW (n:=1) (Dx Z) (jJ Z aq$ aq _ _ _ i U) (kA (kL Z Se Se) Se) Se Se) λv4 a0 x9 a5 k4=>a4 _ _ ?_;have a:ai J a0:=(i.trans k4.t);refine aj λF6 a6=>jQ a5 (Xi (Cf:=[(g,2)]) (J4 Z (jJ Z aq$ aq _ _ _ a xx)$ jJ Z aq$ aq _ _ _ a U) Se) λv5 a8 x' a' R=>a6 _ _ ?_;have j:ai J a8:=(a.trans R.t);refine aj λc2 b0=>jQ a' (Xi (Cf:=[(g,2)]) (J4 Z (jJ Z aq$ aq _ _ _ j U)$ jJ Z aq$ aq _ _ _ j X) Se) λv9 a1 b1 b2 S=>b0 _ _ ?_;have y:ai H4 a1:=((k4.t.trans R.t).trans S.t);have z:ai a0 a1:=(R.t.trans S.t);refine aj λc3 b3=>jQ b2 (qD (jJ Z dA$ dA _ _ _ y x4) (YT (yt (jJ Z aq$ aq _ _ _ z x9) (J7$ jJ Z dF$ dF _ _ _ S.t x') (yr (Cf:=[(g,2)]) (d:=0)) Se Se)$ Ev.up (jJ Z dF b1) λ_ _=>cf.lift) Se) λv' c4 b4 b7 c5=>b3 _ _ ?_;refine QM b7 (YU (Qj Z) (yw (kG Z Se Sf)$ kG Z Se Sf) (jJ Z dA b4) Se Sf) λv u x W'=>?_;obtain⟨r,rfl,x⟩:=x;exact q r u x W'.B W'.K
theorem bg:ak z37z z18z (aa gG):=bu
noncomputable def Qc:Scope:=#[.function,[(".0",.local),("_law_one",.local)],false,false,[]]
theorem YF:(["_law_one"]:List Str).Nodup:=by decide+kernel
theorem YG:aT z37z (aa gG) Qc ["_law_one"] 1 []:=l8
theorem oI(F:aK K "_law_looped" "_law_looped" gG f fd)(C:Cl P w K mg base 1 fT d4 z0z aL "_law_take")(cO:Cl P w K mg base 2 fO d5 z15z lP "_law_op")(mi:mg "int"=none)(m6:mg "tuple"=none):ah P w K mg base aA 3 f fd z18z (c7 1):=by
 refine F.ok bg ?_ λd6 A a8 s H vs Q E l h=>?_
 ·rintro _ _ _ _ ⟨p,W,f0,g,Y,rfl,_⟩;rfl
 obtain⟨p,W,f0,g,Y,rfl,B,hw,h2,q⟩:=h;refine#[_,(jd (kQ (@ki _ _ _ _ _ _ _ (["_law_one"]) (1) ([]) _ _ _ _ Z (za$ jK kh (pv 3) j8$ jI jf) YG (λ_ _ _ _ _=>(js (i:=0) YF Z$ Or.inl Z)) (λ_ _ _ _ _=>(@kM _)) (λ_ _ _ _ _=>(jh$ ja jk$ ja (pv 0) jb)) (by intro _;rfl))$ @Y7 _ _ _ _ (5) _ Z (jy (js (i:=4) bg.nd Z$ Or.inl Z)$ jy (js (i:=5) bg.nd Z$ Or.inl Z)$ jy (js (i:=6) bg.nd Z$ Or.inl Z)$ jy (js (i:=7) bg.nd Z$ Or.inl Z)$ jy (js (i:=8) bg.nd Z$ Or.inl Z) j4) Sl Sl)$ jd (jx 9 bg.nd$ jD$ ja (jh$ ja jk$ ja (jr jq (pv 3) jf (λ_ _=>Z))$ ja (jh$ ja jk$ ja jk$ ja (pv 5)$ ja (jh$ ja jk$ ja (C.e l.m$ ja (pv 0)$ ja jf jb) jb) jb) jb) jb)$ jd (jN$ kr Hv HP HN jP (pv 9)$ ja (jh$ ja jk$ ja (jr jq (pv 3) jf (λ_ _=>Z))$ ja (pv 2)$ ja (jh$ ja (pv 7)$ ja (jr jq (jD$ ja (pv 5)$ ja (pv 6) jb) (jF Jo Z mi R9$ ja (JO Jx (C.e l.m$ ja (pv 0)$ ja jf jb) jf$ aC _) jb) (λ_ _=>Z)) jb) jb) jb)$ jd (jZ$ jw (kE$ C.e l.m$ ja (pv 0)$ ja jf jb) (jd (jx 10 bg.nd$ jh$ ja jk$ ja jk$ ja (pv 5)$ ja (jh$ ja jk$ ja (ju jY jf$ C.e l.m$ ja (pv 0)$ ja jf jb) jb) jb)$ jg$ jN$ kr Hv HP HN jP (pv 9)$ ja (jh$ ja jk$ ja (pv 10)$ ja (jr jq (jD$ ja (pv 6)$ ja (pv 8)$ ja (pv 7) jb) (C.e l.m$ ja (pv 0)$ ja jf jb) (λ_ _=>Z)) jb) jb) jp)$ jd (jN$ kr Hv HP HN jP (pv 9)$ ja (jh$ ja jk$ ja (jr jq (pv 3) jf (λ_ _=>Z))$ ja (cO.e l.m$ ja (pv 0)$ ja (jr jq (jD$ ja (pv 6)$ ja (pv 6)$ ja (pv 7) jb) (C.e l.m$ ja (pv 0)$ ja jf jb) (λ_ _=>Z))$ ja (pv 8) jb) jb) jb)$ jd (jZ$ jw (kE$ C.e l.m$ ja (pv 0)$ ja jf jb) (jg$ kQ (jh$ ja (jr jq (pv 9) jf (λ_ _=>Z))$ ja (jr jq (pv 9) jf (λ_ _=>Z)) jb)$ zk (n:=2) Z$ jy (z9 (pv 9) jf zd)$ jy (z9 (pv 9) jf zd) j4) jp)$ jd (jN$ kr Hv HP HN jP (pv 9)$ ja (jh$ ja jk$ ja (jr jq (pv 3) jf (λ_ _=>Z))$ ja (jh$ ja jk$ ja jk$ ja (pv 5)$ ja (jh$ ja jk$ ja jf jb) jb) jb) jb)$ jd (jx 11 bg.nd$ jh$ ja (jh$ ja jk$ ja (jr jq (pv 3) jf (λ_ _=>Z))$ ja (jh$ ja jk$ ja (C.e l.m$ ja (pv 0)$ ja jf jb) jb) jb)$ ja (jh$ ja jk$ ja (jr jq (pv 3) jf (λ_ _=>Z))$ ja (jh$ ja jk$ ja (C.e l.m$ ja (pv 0)$ ja jf jb) jb) jb) jb)$ jd (jZ$ jw (kE$ C.e l.m$ ja (pv 0)$ ja jf jb) (jd (jx 11 bg.nd$ ju jU (pv 11)$ jh$ ja (jh$ ja jk$ ja (jr jq (pv 3) jf (λ_ _=>Z))$ ja (jh$ ja jk$ ja (ju jY jf$ C.e l.m$ ja (pv 0)$ ja jf jb) jb) jb) jb)$ jg$ jx 11 bg.nd$ ju jU (pv 11)$ jh$ ja (jh$ ja jk$ ja (jr jq (pv 3) jf (λ_ _=>Z))$ ja (jh$ ja jk$ ja jk$ ja (pv 4)$ ja (jh$ ja jk$ ja jf jb) jb) jb) jb) jp)$ jd (jx 12 bg.nd$ jh$ ja jk$ ja (jh$ ja jk$ ja jk$ ja (pv 5)$ ja (pv 4) jb)$ ja (jF jB Z m6 IQ$ ja (pv 9) jb) jb)$ jg$ jm$ jh$ ja (pv 1)$ ja (jh$ ja (jr jq (pv 3) jf (λ_ _=>Z)) jb)$ ja (ju jU (pv 11)$ jh$ ja (pv 12)$ ja (jh$ ja jk$ ja (jh$ ja jk$ ja jf jb)$ ja (pv 6) jb)$ ja (jh$ ja jk$ ja (pv 6) jb) jb) jb),?_];have W0:Wd H H p W Y:=#[B,ar.refl,hw];refine aj λF1 f1=>Zi W0 Z h2 λvn vi vs vx vy U xn xi xs xx xy W1=>f1 _ _ ?_;refine aj λF2 f2=>DS W1 (J5 (Cf:=[(g,2)]) (kG Z Se Sf) (zW (n:=1) (zZ zg) (jJ Z aq xi) (kA (kL Z Se Se) Se) Se Se) Se) λlb u2 H2 o2 x2 W2 k2=>f2 _ _ ?_;refine aj λF3 f3=>Jk W2 Z o2 (show 1<=100 by decide) (pS (Cf:=[(g,2)]) (kG Z Se Sf) (Qj Z) HI (jJ Z aq$ aq _ _ _ k2.t xx) (Dv Z Se Se (jJ Z aq$ aq _ _ _ k2.t xi)$ jJ Z aq$ aq _ _ _ k2.t xs) Se Se) λu3 H3 x3 o3 W3 k3=>f3 _ _ ?_;refine aj λF4 f4=>dm (λu c=>∃(o:Option V) (G:List V),u=[some$ V.ref p,some$ V.str f0,some$ V.str g,some$ V.ref W,some$ vn,some$ vi,some$ vs,some$ vx,some$ vy,some$ V.ref lb,o,none,none]/\Ow H c p W lb (u2::u3::G)/\gi [(g,2)] c Y 0 G/\G.length<=1/\Wd H c p W Y/\ai H3 c) (λE4 _ f5=>qJ W3 Z Se Se (λH6 W6 k6=>?_) (λH6 W6 k6=>?_)) λσ2 H5 h3=>?_
 ·clear f4;have o6:=o3.fw k6;have R:ai U H6:=((k2.t.trans k3).trans k6.t);refine aj λF7 f7=>jQ W6 (zW (n:=1) (zZ zg) (jJ Z aq$ aq _ _ _ R xi) (kA (QL (kL Z Se Se) Se) Se) Se Se) λv7 H7 x7 W7 k7=>f7 _ _ ?_;have o7:=o6.fw k7;have y:ai U H7:=(R.trans k7.t);refine Jk W7 Z o7 (show 2<=100 by decide) (J6 (Cf:=[(g,2)]) (jJ Z aq x7) (yu Z (jJ Z aq$ aq _ _ _ y xs) (jJ Z aq$ aq _ _ _ y xy)$ jJ Z aq$ aq _ _ _ y xx) Se Se) λu8 H8 x8 o8 W8 k8=>f5 _ _ ?_;have m5:ai H3 H8:=((k6.t.trans k7.t).trans k8);exact#[_,[u8],Z,o8,zq x8,Hg 1,W8,m5]
 ·clear f4;have o6:=o3.fw k6;exact f5 _ _ #[_,[],Z,o6,Kg,Se,W6,k6.t]
 obtain⟨w5,G,rfl,o5,zx,zl,W5,k5⟩:=h3;refine f4 _ _ ?_;clear f4;have M:ai U H5:=((k2.t.trans k3).trans k5);refine aj λF9 f9=>Jk W5 Z o5 (show G.length+1+1<=100 by omega) (Jy (Cf:=[(g,2)]) (kG Z Se Sf) (J4 Z (yu Z (jJ Z aq$ aq _ _ _ M xs) (jJ Z aq$ aq _ _ _ M xs)$ jJ Z aq$ aq _ _ _ M xx)$ jJ Z aq$ aq _ _ _ M xy) Se) λu9 H9 x9 o9 W9 k9=>f9 _ _ ?_;have zy:gi [(g,2)] H9 Y 0 (G++[u9]):=Jj (zx.mono k9) (zq x9);have zm:(G++[u9]).length<=2:=by rw[Hf];exact IU zl
 refine aj λF0 I=>dm (λu c=>∃(X:List V),u=[some$ V.ref p,some$ V.str f0,some$ V.str g,some$ V.ref W,some$ vn,some$ vi,some$ vs,some$ vx,some$ vy,some$ V.ref lb,w5,none,none]/\Ow H c p W lb X/\gi [(g,2)] c Y 0 X/\X.length<=4/\Wd H c p W Y/\ai H9 c) (λE1 _ S=>qJ W9 Z Se Se (λH0 W4 k=>?_) (λH0 W4 k=>?_)) λσ0 a' h0=>?_
 ·clear I;have o1:=o9.fw k;refine xY W4 Z o1 λH4 b1 b2 k0=>S _ _ ?_;have m0:ai H3 H4:=(((k5.trans k9).trans k.t).trans k0);have m1:ai H2 H4:=((((k3.trans k5).trans k9).trans k.t).trans k0);have z:ai H9 H4:=(k.t.trans k0);exact#[_,Z,b1,jT ((dF _ _ _ m0 x3))$ jT ((dF _ _ _ m1 x2))$ zy.mono z,(show(G++[u9]).length+1+1<=4 by omega),b2,z]
 ·clear I;have o1:=o9.fw k;have m2:ai H2 H0:=(((k3.trans k5).trans k9).trans k.t);have m3:ai H3 H0:=((k5.trans k9).trans k.t);exact S _ _ #[_,Z,o1,jT ((dF _ _ _ m2 x2))$ jT ((dF _ _ _ m3 x3))$ zy.mono k.t,(show(G++[u9]).length+1+1<=4 by omega),W4,k.t]
 obtain⟨X,rfl,b3,ux,ul,b4,b5⟩:=h0;refine I _ _ ?_;clear I;have d:ai U a':=((M.trans k9).trans b5);refine aj λF5 f6=>Jk b4 Z b3 Sf (Jy (Cf:=[(g,2)]) (kG Z Se Sf) (zW (n:=1) (zZ zg) (jJ Z aq$ aq _ _ _ d xi) (kA (QH Se (by decide:(1:Int) < 2)) Se) Se Se) Se) λu0 a1 x1 b7 b9 k1=>f6 _ _ ?_;have b0:gi [(g,2)] a1 Y 0 (X++[u0]):=Jj (ux.mono k1) (zq x1);have bl:(X++[u0]).length<=5:=by rw[Hf];exact IU ul
 refine aj λF6 f'=>jQ b9 (YT (Jy (Cf:=[(g,2)]) (kG Z Se Sf) (kA (kL Z Se Se) Se) Se)$ Jy (Cf:=[(g,2)]) (kG Z Se Sf) (kA (kL Z Se Se) Se) Se) λv0 a2 x0 b' J=>f' _ _ ?_;have o':=b7.fw J;refine aj λd7 L=>dm (λu c=>∃(b:V),u=[some$ V.ref p,some$ V.str f0,some$ V.str g,some$ V.ref W,some$ vn,some$ vi,some$ vs,some$ vx,some$ vy,some$ V.ref lb,w5,some b,none]/\Ow H c p W lb (X++[u0])/\PB [(g,2)] Y 0 4 c b/\Wd H c p W Y/\ai a2 c) (λE2 _ T=>qJ b' Z Se Se (λc0 a0 a=>?_) (λc0 a0 a=>?_)) λσ1 a3 h1=>?_
 ·clear L;have o4:=o'.fw a;refine aj λd8 c1=>jQ a0 (qD (jJ Z dA$ dA _ _ _ a.t x0) (J7$ J5 (Cf:=[(g,2)]) (kG Z Se Sf) (kA (QL (kL Z Se Se) Se) Se) Se) Se) λv1 c2 x4 c3 k4=>c1 _ _ ?_;have c4:=o4.fw k4;have m4:ai U c2:=((((d.trans k1).trans J.t).trans a.t).trans k4.t);refine jQ c3 (qD (jJ Z dA x4) (J7$ Jy (Cf:=[(g,2)]) (kG Z Se Sf) (zW (n:=1) (zZ xK) (jJ Z aq$ aq _ _ _ m4 xn) (kA (QH Se (by decide:(2:Int) < 3)) Se) Se Se) Se) Se) λv2 c5 x5 c6 a4=>T _ _ ?_;have c9:=c4.fw a4;have N:ai a2 c5:=((a.t.trans k4.t).trans a4.t);exact#[_,Z,c9,x5,c6,N]
 ·clear L;have o4:=o'.fw a;exact T _ _ #[_,Z,o4,(PB.more (dA _ _ _ a.t x0) Se),a0,a.t]
 obtain⟨d9,rfl,a5,x',c',a6⟩:=h1;refine L _ _ ?_;clear L;have j:ai U a3:=(((d.trans k1).trans J.t).trans a6);have O:ai a1 a3:=(J.t.trans a6);refine aj λd' d0=>jQ c' (yy (zW (n:=1) (zZ Q0) (jJ Z aq$ aq _ _ _ j xi) (jJ Z aq$ aq _ _ _ j xn) Se Se) (yx (n:=5) Z a5 (b0.mono O) bl) Se Se) λv3 d1 d2 d3 k'=>d0 _ _ ?_;have e0:=a5.fw k';have D:ai U d1:=(j.trans k'.t);refine QM d3 (YU (Qj Z) (yv$ kG Z Se Sf) (qD (Ev.up (jJ Z dA$ dA _ _ _ k'.t x') λ_ _=>PB.lift) (Dt (jJ Z dF d2) (Ev.up (J6 (Cf:=[(g,2)]) (kA (QH Se (by decide:(30:Int) < 31)) Se) (jJ Z aq$ aq _ _ _ D xs) Se Se) λ_ _=>cf.lift)$ Ev.up (Xi (Cf:=[(g,2)]) (jJ Z aq$ aq _ _ _ D xs) Se) λ_ _=>cf.lift) Se) Se Sf) λv c x W'=>?_;obtain⟨r,rfl,x⟩:=x;exact q r c x W'.B W'.K
theorem Fg(b:0<=d)(c:d < 2)(h:cf C H y 0 u)(a:cf C H y 0 v):gi C H y 0 (aE [u,v] none$ some (1+d))/\(aE [u,v] none$ some (1+d)).length<=2:=by
 rcases(by omega:d=0∨d=1) with rfl |rfl
 ·exact#[zq h,by show 1<=2;decide]
 ·exact#[jT h$ zq a,by show 2<=2;decide]
def P2(C:gN)(y:List Str)(H:Hp)(w:V):Prop:=∃a u v,w= .ref a/\H a=some (.tup [u,v])/\cf C H y 0 u/\cf C H y 0 v
theorem yG:mZ (P2 C y):=λ_ _ _ m #[a,u,v,e,h,H,b]=>#[a,u,v,e,m _ _ h,H.mono m,b.mono m]
section
variable {Cf:gN}{ys:List Str}{H0 Hb:Hp}{p wl:Addr}{σ:_L.St}
theorem Av(h:Ev H0 p wl ys Hb σ T (λH v=>cf Cf H ys 0 v))(c:Ev H0 p wl ys Hb σ d (λH v=>cf Cf H ys 0 v)):Ev H0 p wl ys Hb σ (bL$ al T$ al d aM) (P2 Cf ys):=λH Q m W q=>
 h H _ m W λo e X f a=>c e _ (m.trans a) f λs u g i b=>#[bK,λr n=>kn (P:=P2 Cf ys) i (λV j x l k=>q V j x l ((a.trans b).trans k)) n λt z=>#[r,_,_,Z,z,(X.mono b.t).mono t,g.mono t]]
theorem Au(e:σ[i]?=some (some v))(E:σ[0]?=some (some$ .ref p))(h:P2 Cf ys Hb v):Ev H0 p wl ys Hb σ (EO BK (aV i) lh$ lT$ dD (sK λi j=>V.int (i+j)) (tC$ .int 1)$ uY 2) (PB Cf ys 0 2):=λH Q m W q=>
 #[v,e,kL E Se Se H _ m W λw y #[d,b,D,c] f k=>#[1,d,Z,b,_,Z,by
  obtain⟨a,u,A,rfl,g,l,n⟩:=yG _ _ _ (m.trans k).t h;have z:=Fg D c l n;exact#[a,_,Z,g,λr o x s=>q _ o #[r,_,Z,x,z.1.mono$ ae.tm s,z.2] (f.same s) (k.trans$ .same s)]]]
end
theorem aN:ak z38z z18z (aa eZ):=bu
noncomputable def KP:Scope:=#[.function,[(".0",.local),("_law_one",.local)],false,false,[]]
theorem XZ:(["_law_one"]:List Str).Nodup:=by decide+kernel
theorem X0:aT z38z (aa eZ) KP ["_law_one"] 1 []:=l8
theorem YH(F:aK K "_law_ticking" "_law_ticking" eZ f fd)(C:Cl P w K mg base 1 fT b3 z0z aL "_law_take")(cO:Cl P w K mg base 2 fO b4 z15z lP "_law_op")(mi:mg "int"=none)(m1:mg "tuple"=none):ah P w K mg base aA 3 f fd z18z (c7 1):=by
 refine F.ok aN ?_ λc0 A o5 s H vs Q E c h=>?_
 ·rintro _ _ _ _ ⟨p,W,f0,g,ys,rfl,_⟩;rfl
 obtain⟨p,W,f0,g,ys,rfl,B,hw,h1,q⟩:=h;refine#[_,(jd (kQ (@ki _ _ _ _ _ _ _ (["_law_one"]) (1) ([]) _ _ _ _ Z (za$ jK kh (pv 3) j8$ jI jf) X0 (λ_ _ _ _ _=>(js (i:=0) XZ Z$ Or.inl Z)) (λ_ _ _ _ _=>(@kM _)) (λ_ _ _ _ _=>(jh$ ja jk$ ja (pv 0) jb)) (by intro _;rfl))$ @Y7 _ _ _ _ (5) _ Z (jy (js (i:=4) aN.nd Z$ Or.inl Z)$ jy (js (i:=5) aN.nd Z$ Or.inl Z)$ jy (js (i:=6) aN.nd Z$ Or.inl Z)$ jy (js (i:=7) aN.nd Z$ Or.inl Z)$ jy (js (i:=8) aN.nd Z$ Or.inl Z) j4) Sl Sl)$ jd (jx 9 aN.nd$ jh$ ja jk$ ja (ju jY jf$ C.e c.m$ ja (pv 0)$ ja jf jb) jb)$ jd (jx 10 aN.nd$ jD$ ja (jh$ ja jk$ ja (jr jq (pv 3) jf (λ_ _=>Z))$ ja (pv 9) jb)$ ja (jh$ ja jk$ ja (jr jq (pv 3) jf (λ_ _=>Z))$ ja (jr jq (jD$ ja (pv 5)$ ja (jh$ ja jk$ ja (C.e c.m$ ja (pv 0)$ ja jf jb) jb) jb) (C.e c.m$ ja (pv 0)$ ja jf jb) (λ_ _=>Z)) jb) jb)$ jd (jN$ kr Hv HP HN jP (pv 10)$ ja (jh$ ja jk$ ja (jr jq (pv 3) jf (λ_ _=>Z))$ ja (pv 2)$ ja (jh$ ja (jr jq (jD$ ja (pv 7)$ ja (jh$ ja jk$ ja jf jb) jb) (C.e c.m$ ja (pv 0)$ ja jf jb) (λ_ _=>Z))$ ja (jr jq (jD$ ja (pv 5)$ ja (jh$ ja jk$ ja jf jb) jb) (C.e c.m$ ja (pv 0)$ ja jf jb) (λ_ _=>Z)) jb) jb) jb)$ jd (jZ$ jw (kE$ C.e c.m$ ja (pv 0)$ ja jf jb) (jg$ jN$ kr Hv HP HN jP (pv 10)$ ja (jh$ ja jk$ ja (jh$ ja jk$ ja jk$ ja (pv 5)$ ja (jh$ ja jk$ ja (C.e c.m$ ja (pv 0)$ ja jf jb) jb) jb)$ ja (pv 8) jb) jb) jp)$ jd (jx 11 aN.nd$ jh$ ja jk$ ja jf jb)$ jd (jx 12 aN.nd$ jD$ ja (jh$ ja jk$ ja (jr jq (pv 3) jf (λ_ _=>Z))$ ja (pv 11) jb)$ ja (jh$ ja jk$ ja (pv 11)$ ja (cO.e c.m$ ja (pv 0)$ ja (pv 6)$ ja (pv 8) jb) jb) jb)$ jd (jZ$ jw (kE$ C.e c.m$ ja (pv 0)$ ja jf jb) (jg$ jx 12 aN.nd$ jD$ ja (jh$ ja jk$ ja (jr jq (pv 3) jf (λ_ _=>Z))$ ja (cO.e c.m$ ja (pv 0)$ ja (pv 6)$ ja (pv 8) jb) jb) jb) jp)$ jd (jx 10 aN.nd$ ju zO (ju zO (pv 10)$ pv 12)$ jD$ ja (jh$ ja jk$ ja (pv 9)$ ja (jh$ ja jk$ ja jk$ ja (pv 5)$ ja (jh$ ja jk$ ja jf jb) jb) jb)$ ja (jh$ ja jk$ ja (jr jq (pv 3) jf (λ_ _=>Z))$ ja (jh$ ja jk$ ja jk$ ja (pv 5)$ ja (pv 4) jb) jb) jb)$ jd (jx 13 aN.nd$ jh$ ja (jh$ ja jk$ ja (jr jq (pv 3) jf (λ_ _=>Z))$ ja (jh$ ja jk$ ja jf jb) jb)$ ja (jh$ ja jk$ ja (pv 9)$ ja (jh$ ja jk$ ja (C.e c.m$ ja (pv 0)$ ja jf jb) jb) jb) jb)$ jd (jx 14 aN.nd$ jh$ ja jk$ ja (jh$ ja jk$ ja (jr jq (pv 3) jf (λ_ _=>Z)) jb)$ ja (jF jB Z m1 IQ$ ja (pv 10) jb) jb)$ jg$ jm$ jh$ ja (pv 1)$ ja (jh$ ja (jr jq (pv 3) jf (λ_ _=>Z)) jb)$ ja (ju jU (jK zC (pv 13) j8$ jI$ ju jY jf$ C.e c.m$ ja (pv 0)$ ja jf jb)$ jh$ ja (pv 14)$ ja (jh$ ja jk$ ja (pv 6) jb) jb) jb),?_];have W0:Wd H H p W ys:=#[B,ar.refl,hw];refine aj λF1 f1=>Zi W0 Z h1 λvn vi vs vx vy H1 xn xi xs xx xy W1=>f1 _ _ ?_;refine aj λF2 f2=>jQ W1 (kA (QL (kL Z Se Se) Se) Se) λv2 H2 x2 W2 k2=>f2 _ _ ?_;refine aj λF3 f3=>DT W2 (J5 (Cf:=[(g,2)]) (kG Z Se Sf) (jJ Z aq x2) Se) (J5 (Cf:=[(g,2)]) (kG Z Se Sf) (YS Z (jJ Z aq$ aq _ _ _ k2.t xi)$ kA (kL Z Se Se) Se) Se) λlb u3 w3 H3 o3 x3 y3 W3 k3=>f3 _ _ ?_;have a:ai H1 H3:=(k2.t.trans k3.t);refine aj λF4 f4=>Jk W3 Z o3 (show 2<=100 by decide) (pS (Cf:=[(g,2)]) (kG Z Se Sf) (Qj Z) HI (YS Z (jJ Z aq$ aq _ _ _ a xx)$ kA (QH Se (by decide:(3:Int) < 4)) Se) (YS Z (jJ Z aq$ aq _ _ _ a xi)$ kA (QH Se (by decide:(2:Int) < 3)) Se) Se Se) λu4 H4 x4 o4 W4 k4=>f4 _ _ ?_;refine aj λF5 f5=>dm (λN d=>∃(us:List V),N=[some$ V.ref p,some$ V.str f0,some$ V.str g,some$ V.ref W,some$ vn,some$ vi,some$ vs,some$ vx,some$ vy,some$ v2,some$ V.ref lb,none,none,none,none]/\Ow H d p W lb us/\gi [(g,2)] d ys 0 us/\us.length<=4/\Wd H d p W ys/\ai H4 d) (λE5 _ f6=>qJ W4 Z Se Se (λH7 W7 u=>?_) (λH7 W7 u=>?_)) λσ1 H6 h2=>?_
 ·clear f5;have o7:=o4.fw u;have D:ai H1 H7:=((a.trans k4).trans u.t);refine Jk W7 Z o7 (show 3<=100 by decide) (J6 (Cf:=[(g,2)]) (zW (n:=1) (zZ zg) (jJ Z aq$ aq _ _ _ D xi) (kA (kL Z Se Se) Se) Se Se) (jJ Z aq$ aq _ _ _ D xy) Se Se) λu8 H8 x8 o8 W8 k8=>f6 _ _ ?_;have G:ai H4 H8:=(u.t.trans k8);have I:ai H3 H8:=((k4.trans u.t).trans k8);exact#[_,Z,o8,(jT ((dF _ _ _ I x3))$ jT ((dF _ _ _ I y3))$ jT ((dF _ _ _ G x4))$ jT (x8) Kg),(show 4<=4 by decide),W8,G]
 ·clear f5;have o7:=o4.fw u;have J:ai H3 H7:=(k4.trans u.t);exact f6 _ _ #[_,Z,o7,(jT ((dF _ _ _ J x3))$ jT ((dF _ _ _ J y3))$ jT ((dF _ _ _ u.t x4)) Kg),(show 3<=4 by decide),W7,u.t]
 obtain⟨us,rfl,o6,ux,ul,W6,k6⟩:=h2;refine f5 _ _ ?_;clear f5;refine aj λF9 f9=>jQ W6 (kA (QH Se (by decide:(30:Int) < 31)) Se) λv9 H9 x9 W9 k9=>f9 _ _ ?_;have o9:=o6.fw k9;have b:ai H1 H9:=(((a.trans k4).trans k6).trans k9.t);refine aj λF0 f7=>DT W9 (J5 (Cf:=[(g,2)]) (kG Z Se Sf) (jJ Z aq x9) Se) (J6 (Cf:=[(g,2)]) (jJ Z aq x9) (J4 Z (jJ Z aq$ aq _ _ _ b xs)$ jJ Z aq$ aq _ _ _ b xy) Se Se) λlm u0 w0 H0 z0 x0 y0 W5 j=>f7 _ _ ?_;have o1:=o9.fw j;refine aj λF6 y=>dm (λN d=>∃(m:Addr) (zs:List V),N=[some$ V.ref p,some$ V.str f0,some$ V.str g,some$ V.ref W,some$ vn,some$ vi,some$ vs,some$ vx,some$ vy,some$ v2,some$ V.ref lb,some$ v9,some$ .ref m,none,none]/\Ow H d p W lb us/\Ow H d p W m zs/\gi [(g,2)] d ys 0 zs/\zs.length<=2/\Wd H d p W ys/\ai H0 d) (λE1 _ L=>qJ W5 Z Se Se (λH5 O k=>?_) (λH5 O k=>?_)) λσ0 R h0=>?_
 ·clear y;have S:=o1.fw k;have z1:=z0.fw k;have l:ai H1 H5:=((b.trans j.t).trans k.t);refine DS O (Jy (Cf:=[(g,2)]) (kG Z Se Sf) (J4 Z (jJ Z aq$ aq _ _ _ l xs)$ jJ Z aq$ aq _ _ _ l xy) Se) λlq u1 a0 z2 x1 a1 k1=>L _ _ ?_;have o':=S.fw k1;have z:ai H0 a0:=(k.t.trans k1.t);exact#[_,_,Z,o',z2,zq x1,(show 1<=2 by decide),a1,z]
 ·clear y;have S:=o1.fw k;have z1:=z0.fw k;exact L _ _ #[_,_,Z,S,z1,(jT ((dF _ _ _ k.t x0))$ jT ((dF _ _ _ k.t y0)) Kg),(show 2<=2 by decide),O,k.t]
 obtain⟨lm,zs,rfl,a2,z3,zx,zl,a3,T⟩:=h0;refine y _ _ ?_;clear y;have o:ai H2 R:=(((((k3.t.trans k4).trans k6).trans k9.t).trans j.t).trans T);have M:ai H1 R:=((b.trans j.t).trans T);have U:ai H6 R:=((k9.t.trans j.t).trans T);refine aj λF7 f'=>Al a3 Z Z a2 z3 Sf (ux.mono U) zx (J6 (Cf:=[(g,2)]) (jJ Z aq$ aq _ _ _ o x2) (zW (n:=1) (zZ zg) (jJ Z aq$ aq _ _ _ M xi) (kA (QH Se (by decide:(1:Int) < 2)) Se) Se Se) Se Se) (Jy (Cf:=[(g,2)]) (kG Z Se Sf) (zW (n:=1) (zZ Q0) (jJ Z aq$ aq _ _ _ M xi) (jJ Z aq$ aq _ _ _ M xn) Se Se) Se) λlc cs a4 a5 cx cl a6 k5=>f' _ _ ?_;have cm:cs.length<=8:=by omega
 have X:ai H2 a4:=(o.trans k5.t);refine aj λb5 a8=>jQ a6 (Av (Jy (Cf:=[(g,2)]) (kG Z Se Sf) (kA (QH Se (by decide:(1:Int) < 2)) Se) Se)$ J6 (Cf:=[(g,2)]) (jJ Z aq$ aq _ _ _ X x2) (kA (kL Z Se Se) Se) Se Se) λv0 b7 x5 a' Y=>a8 _ _ ?_;have o2:=a5.fw Y;refine aj λb9 b0=>jQ a' (yy (J3$ kG Z Se Sf) (yx (n:=8) Z o2 (cx.mono Y.t) cm) Se Se) λv1 b1 x7 b2 k0=>b0 _ _ ?_;have b':=o2.fw k0;have m0:ai H1 b1:=(((M.trans k5.t).trans Y.t).trans k0.t);refine QM b2 (YU (Qj Z) (yv$ kG Z Se Sf) (qD (Ev.up (Au Z Z$ yG _ _ _ k0.t x5) λ_ _=>PB.lift) (YT (jJ Z dF x7)$ Ev.up (Xi (Cf:=[(g,2)]) (jJ Z aq$ aq _ _ _ m0 xs) Se) λ_ _=>cf.lift) Se) Se Sf) λv d x W'=>?_;obtain⟨r,rfl,x⟩:=x;exact q r d x W'.B W'.K
theorem Fh{y:List Str}{lo:Nat}(h:y.length=14)(H:lo<=8):(a9 y (some (lo:Int))$ some ((lo+6:Nat):Int)).length=6:=by unfold a9;rw[HT.sIx_nat,HT.sIx_nat,HL,Lb,h,Ll$ Hr H Se,Ll$ Nat.add_le_add_right H 6,Nat.add_sub_cancel_left];exact Ll$ Nat.le_sub_of_add_le$ Hr (OU H 6) Se
theorem Gz{k:Nat}(h:k < n):my n (k:Int)=some k:=by unfold my;rw[HD Sf,HD Sf,Iq]
theorem pe.more(h:pe C n H r f)(k:∀y∈C,y∈D):pe D n H r f:=let #[d,b,a,c]:=h;#[d,b,#[a.1,kl k a.2],c]
theorem Fj(r:pe [(l,N),(m,j),(o,k)] N H a l)(s:pe [(l,N),(m,j),(o,k)] j H b m)(t:pe [(l,N),(m,j),(o,k)] k H c o)(p:N<=100/\j<=100/\k<=100):∃D,cq H D [.ref a,.ref b,.ref c]/\D.length=3/\((∀d∈D,mf d/\d.b.Cs [(l,N),(m,j),(o,k)])/\D.map Df.f=[l,m,o])/\lW H D [N,j,k]:=by
 obtain⟨d,u,v,O,y,z,E⟩:=r;obtain⟨e,A,B,Q,C,F,G⟩:=s;obtain⟨f,I,J,R,g3,L,M⟩:=t;refine#[[d,e,f],#[_,_,Z,u,_,_,Z,A,_,_,Z,I,Z],Z,#[λx q=>?_,by rw[<- E,<- G,<- M];rfl],Z,λi x n h g=>?_]
 ·simp only[IW,HK,Mp]at q;rcases q with rfl |rfl |rfl
  ·exact v
  ·exact B
  ·exact J
 ·match i,h,g with
  |0,h,g=>cases h;cases g;exact#[_,y,z,p.1]
  |1,h,g=>cases h;cases g;exact#[_,C,F,p.2.1]
  |2,h,g=>cases h;cases g;exact#[_,g3,L,p.2.2]
inductive iY(b:List V)(H:Hp)(Q:VK)(a:XK):Prop
 |mk(p:Addr)(_:b=[.ref p])(_:ao H p)(_:∀(r:Addr) (ds:List Df) (xs:List V) (H':Hp),H' r=some (.tup xs)->cq H' ds xs->ds.length=3->∀ns,u6 ds ns->lW H' ds ns->(∃r,ns=1::r)->ao H' p->ar p H H'->Q (.ref r) H')
def C6(L:List Str)(_:Hp)(v:V):Prop:=∃x,v= .str x/\x∈L
section
variable {ys:List Str}{H0 Hb:Hp}{p wl:Addr}{σ:_L.St}
theorem Dw{K:Frag}(e:σ[0]?=some (some$ .ref p))(r:Ev H0 p wl ys Hb σ t (vf a))(s:Ev H0 p wl ys Hb σ T (vf b))(u:Ev H0 p wl ys Hb σ x (vf c)):Ev H0 p wl ys Hb σ (dD (ip K) (lS$ al t$ al T$ al x aM)$ uY 3) (C6 [a,b,c]):=λH Q m W q=>
 r H _ m W λy z (E:y= .str a) A k=>s z _ (m.trans k) A λC D (F:C= .str b) G f=>u D _ ((m.trans k).trans f) G λI R (J:I= .str c) h j=>#[dZ,λl n=>kL e Se Se _ _ ((((m.trans k).trans f).trans j).trans$ .new n) (h.same$ je n) λv L #[d,M,S,U] N o=>by
  obtain⟨g,i,O⟩:∃g,dq [V.str a,.str b,.str c] d=some (.str g)/\g∈[a,b,c]:=by
   rcases(by omega:d=0∨d=1∨d=2) with rfl |rfl |rfl
   ·exact#[a,Z,Si]
   ·exact#[b,Z,Si]
   ·exact#[c,Z,Si]
  rw[<- E,<- F,<- J]at i;exact#[l,_,d,_,Z,M,aB.of$ o.b _ _ (h.B.ne n) jc,i,q _ L #[g,Z,O] N (((k.trans f).trans j).trans ((Fw.new n).trans o))]]
theorem pT{K:Frag}{lo:Nat}(e:σ[0]?=some (some$ .ref p))(E:σ[1]?=some (some$ .ref wl))(d:Ev H0 p wl ys Hb σ t (vf f))(l:Ev H0 p wl ys Hb σ T (C6 L))(h:ys.length=14)(o:lo<=8)(s:i=(lo:Int))(u:j=((lo+6:Nat):Int)):
  Ev H0 p wl ys Hb σ (dC (c7 n) [] E0$ al (aV 0)$ al t$ al T$ al (EO (wV K) (aV 1) (lT$ tC$ .int i)$ lT$ tC$ .int j) aM) (PD (L.map λy=>(y,2)) n f):=λH Q m W q=>
 #[_,e,d H _ m W λv x (z:v= .str f) A k=>l x _ (m.trans k) A λV M #[g,D,c] b F=>#[_,E,_,Z,_,Z,wl,_,Z,aB.of b.w,λr N=>#[p,r,f,g,a9 ys (some i)$ some j,by rw[z,D];rfl,b.B.upd_new N,by rw[jc,zu],by rw[s,u];exact Fh h o,λa G X I C=>
  q _ G #[a,Z,X.more λy J=>by rw[List.mem_singleton.mp J];exact List.mem_map.mpr #[g,c,Z]] ((b.same$ je N).but I C) ((k.trans F).trans ((Fw.new N).trans$ .but (b.B.upd_new N) C))]]]
theorem qK{K:Frag}{k:Nat}(e:σ[j]?=some (some$ .ref wl))(a:i=(k:Int))(h:ys[k]?=some y):Ev H0 p wl ys Hb σ (dD (ip K) (aV j)$ tC$ .int i) (vf y):=λH Q m W q=>
 #[_,e,wl,_,_,_,Z,Z,aB.of W.w,(by rw[a];exact jM (by rw[HE,h];rfl)),q _ H Z W .refl]
theorem Du{n1 n2 n3:Nat}(s:n1<=100/\n2<=100/\n3<=100)(u:Ev H0 p wl ys Hb σ T (PD [(e,n1),(h,n2),(i,n3)] n1 e))(y:Ev H0 p wl ys Hb σ z (PD [(e,n1),(h,n2),(i,n3)] n2 h))(A:Ev H0 p wl ys Hb σ B (PD [(e,n1),(h,n2),(i,n3)] n3 i)):Ev H0 p wl ys Hb σ (bL$ al T$ al z$ al B aM) (λH v=>∃r D x,v= .ref r/\H r=some (.tup x)/\cq H D x/\D.length=3/\((∀d∈D,mf d/\d.b.Cs [(e,n1),(h,n2),(i,n3)])/\D.map Df.f=[e,h,i])/\lW H D [n1,n2,n3]):=λH Q m W q=>
 u H _ m W λV C X E k=>y C _ (m.trans k) E λF G I J j=>A G _ ((m.trans k).trans j) J λL H4 M N l=>#[dZ,λr n=>q _ _ (by
  have t:=ae.tm (je (o:=HO.tup [V,F,L]) n);obtain⟨a,O,R⟩:=iH _ _ _ t (iH _ _ _ (j.trans l).t X);obtain⟨b,S,U⟩:=iH _ _ _ t (iH _ _ _ l.t I);obtain⟨c,Y,h3⟩:=iH _ _ _ t M;obtain⟨D,g⟩:=Fj R U h3 s;exact#[r,D,_,Z,by rw[jc,O,S,Y],g]) (N.same$ je n) (((k.trans j).trans l).trans$ .new n)]
end
theorem eK:ak ["_law_box_here","_law_w","_law_body_here","_law_deeper","_law_further","_law_first"] z1z (aa sP):=bu
theorem wf(F:aK K "_law_busy" "_law_busy" sP f fd)(T:Cl P w K mg base 1 fT f0 z0z aL "_law_take")(cO:Cl P w K mg base 2 fO f1 z15z lP "_law_op")(cA:Cl P w K mg base 2 fA f7 z20z dY "_law_names")(cL:Cl P w K mg base 3 fL f9 z18z (c7 1) "_law_looped")(cK:Cl P w K mg base 3 fK f' z18z (c7 1) "_law_ticking")(cI:Cl P w K mg base 3 fI a0 z33z (c7 2) "_law_inner"):ah P w K mg base aA 4 f fd z1z iY:=by
 refine F.ok eK ?_ λc0 A U s H vs Q E i h=>?_
 ·rintro _ _ _ _ ⟨p,rfl,_⟩;rfl
 obtain⟨p,rfl,B,q⟩:=h;refine#[_,(jd (jx 1 eK.nd$ cA.e i.m$ ja (pv 0)$ ja jf jb)$ jd (jZ$ jw (kE$ T.e i.m$ ja (pv 0)$ ja jf jb) (jg$ kQ (jr jq (pv 1) jf (λ_ _=>Z))$ z9 (pv 1) jf zd) jp)$ jd (jx 2 eK.nd$ jh$ ja (jh$ ja jk$ ja (jr jq (pv 1) jf (λ_ _=>Z))$ ja (jh$ ja jk$ ja (jr jq (pv 1) jf (λ_ _=>Z)) jb) jb)$ ja (jh$ ja jk$ ja (cO.e i.m$ ja (pv 0)$ ja (jh$ ja jk$ ja (jr jq (pv 1) jf (λ_ _=>Z)) jb)$ ja (jh$ ja jk$ ja (jr jq (pv 1) jf (λ_ _=>Z)) jb) jb) jb) jb)$ jd (jx 3 eK.nd$ jh$ ja (jr jq (pv 1) jf (λ_ _=>Z))$ ja (jh$ ja (jr jq (pv 1) jf (λ_ _=>Z))$ ja (jr jq (pv 1) jf (λ_ _=>Z)) jb)$ ja (pv 2) jb)$ jd (jx 4 eK.nd$ jr jq (jD$ ja (jr jq (pv 1) jf (λ_ _=>Z))$ ja (jr jq (pv 1) jf (λ_ _=>Z))$ ja (jr jq (pv 1) jf (λ_ _=>Z)) jb) (T.e i.m$ ja (pv 0)$ ja jf jb) (λ_ _=>Z))$ jd (jx 5 eK.nd$ cL.e i.m$ ja (pv 0)$ ja (jr jq (pv 1) jf (λ_ _=>Z))$ ja (jr jq (pv 1) jf (λ_ _=>Z))$ ja (jK kh (pv 1) (jI jf)$ jI jf) jb)$ jd (jZ$ jw (kE$ T.e i.m$ ja (pv 0)$ ja jf jb) (jg$ jx 5 eK.nd$ cK.e i.m$ ja (pv 0)$ ja (jr jq (pv 1) jf (λ_ _=>Z))$ ja (jr jq (pv 1) jf (λ_ _=>Z))$ ja (jK kh (pv 1) (jI jf)$ jI jf) jb) jp)$ jg$ jm$ jh$ ja (pv 5)$ ja (cI.e i.m$ ja (pv 0)$ ja (jr jq (pv 1) jf (λ_ _=>Z))$ ja (pv 4)$ ja (jK kh (pv 1) (jI jf)$ jI jf) jb)$ ja (pv 3) jb),?_];refine aj λFa o=>#[_,Z,p,14,Z,B,Se,Se,λj ys Ha X u c d Ba ka=>o _ _ ?_];clear o;have wp:j≠p:=zp Ba u;refine aj λFa o=>dm (λn g=>∃Y:List Str,n=[some$ V.ref p,some$ V.ref j,none,none,none,none]/\g j=some (.lst$ Y.map V.str)/\(Y.length=14/\(Y.take 3).Nodup/\∀y∈Y.take 3,y.length<=20)/\ao g p/\ar p H g) (λE0 _ fm=>qJ (W:=#[Ba,ka,u]) Z Se Se (λHb l kb=>?_) (λHb l kb=>fm _ _ #[_,Z,l.w,#[Sf,d.2.sublist$ Lm _ _,λy hy=>d.1 y (Ii hy)],l.B,l.K])) λσ1 H0 h3=>?_
 ·clear o;obtain⟨v1,h6,z⟩:=Jg (ys:=ys) (k:=1) Se Sf;refine#[_,Z,j,_,_,_,Z,Z,aB.of l.w,z,_,Z,j,_,8,8,Z,Z,l.w,Gz (k:=8) (by rw[He];omega),fm _ _ #[ys.set 8 v1,Z,?_,#[by rw[M1];omega,by rw[List.take_set_of_le Se];exact#[d.2.sublist$ Lm _ _,λy hy=>d.1 y (Ii hy)]],l.B.eq$ ji$ HR wp,l.K.upd_own X]];rw[jc,Rh]
 obtain⟨ys,rfl,h4,⟨c,C,D⟩,B1,k1⟩:=h3;obtain⟨y0,h0⟩:∃y,ys[0]?=some y:=#[_,G8 (by omega:0 < ys.length)];obtain⟨G,I⟩:∃y,ys[1]?=some y:=#[_,G8 (by omega:1 < ys.length)];obtain⟨y2,N⟩:∃y,ys[2]?=some y:=#[_,G8 (by omega:2 < ys.length)];have e3:ys.take 3=[y0,G,y2]:=by rw[LD,LD,LD,h0,I,N];rfl
 rw[e3]at C D;refine o _ _ ?_;clear o;have W1:Wd H H0 p j ys:=#[B1,k1,h4];generalize H0=H1 at W1;refine aj λF2 f2=>jQ W1 (YT (J5 (Cf:=[]) (kG Z Se Sf) (J3$ kG Z Se Sf) Se)$ Xi (Cf:=[]) (J4 Z (J3$ kG Z Se Sf)$ J3$ kG Z Se Sf) Se) λv2 H2 x2 W2 k2=>f2 _ _ ?_;refine aj λF3 f3=>jQ W2 (YU (Cf:=[]) (qK (k:=2) Z Z N) (yw (kG Z Se Sf)$ kG Z Se Sf) (Ev.up (jJ Z dA x2) λ_ _=>PB.lift) Se Sf) λv3 H3 x3 W3 k3=>f3 _ _ ?_;refine aj λF4 f4=>jQ W3 (Dw Z (qK (k:=1) Z Z I) (qK (k:=2) Z Z N)$ qK (k:=2) Z Z N) λv4 H4 x4 W4 k4=>f4 _ _ ?_;refine aj λF5 f5=>jQ W4 (pT (lo:=6) Z Z (qK (k:=0) Z Z h0) (Ev.up (R:=C6 [G]) (qK (k:=1) Z Z I) λ_ _ e=>#[_,e,HI]) c Se Z Z) λv5 H5 x5 W5 k5=>f5 _ _ ?_;refine aj λF6 O=>dm (λn g=>∃(b:V),n=[some$ V.ref p,some$ V.ref j,some$ v2,some$ v3,some$ v4,some b]/\PD [(G,2)] 1 y0 g b/\Wd H g p j ys/\ai H5 g) (λE6 _ J=>qJ W5 Z Se Se (λH8 W8 S=>?_) (λH8 W8 S=>?_)) λσ2 H7 h5=>?_
 ·clear O;refine jQ W8 (pT (lo:=6) Z Z (qK (k:=0) Z Z h0) (Ev.up (R:=C6 [G]) (qK (k:=1) Z Z I) λ_ _ e=>#[_,e,HI]) c Se Z Z) λv9 H9 x9 W9 k9=>J _ _ ?_;have M:ai H5 H9:=(S.t.trans k9.t);exact#[_,Z,x9,W9,M]
 ·clear O;exact J _ _ #[_,Z,(iH _ _ _ S.t x5),W8,S.t]
 obtain⟨b7,rfl,x7,W7,k7⟩:=h5;refine O _ _ ?_;clear O;have L:ai H3 H7:=((k4.t.trans k5.t).trans k7);refine QM W7 (Du (n1:=1) (n2:=2) (n3:=2) #[Se,Se,Se] (Ev.up (jJ Z iH x7) (λ_ _ #[a,e,h]=>#[a,e,h.more Si])) (Ev.up (pT (lo:=7) Z Z (qK (k:=1) Z Z I) (jJ (P:=C6 [G,y2,y2]) Z (λ_ _ _ _ h=>h) x4) c Se Z Z) (λ_ _ #[a,e,h]=>#[a,e,h.more Si])) (Ev.up (jJ Z iH$ iH _ _ _ L x3) (λ_ _ #[a,e,h]=>#[a,e,h.more Si]))) λv g x W'=>?_;obtain⟨r,ds,xs,rfl,g0,g1,g2,g3,g4⟩:=x;exact q r ds xs g g0 g1 g2 [1,2,2] #[by rw[g3.2];exact g3.1,by rw[g3.2];exact#[C,D]] g4 #[_,Z] W'.B W'.K
noncomputable abbrev nD:Stmt:=bE 69
theorem Cz(h:0<=d)(H:d < 4):∃m:Int,dq [V.int 3,.int 3,.int 3,.int 8] d=some (.int m)/\3<=m/\m<=8:=by
 rcases(by omega:d=0∨d=1∨d=2∨d=3) with rfl |rfl |rfl |rfl
 ·exact#[3,Z,Se,Se]
 ·exact#[3,Z,Se,Se]
 ·exact#[3,Z,Se,Se]
 ·exact#[8,Z,Se,Se]
theorem At(h:cq H D v)(f:0<=k)(g:k < (v.length:Int)):∃d,dq v k=some (.ref d.p)/\d∈D/\yi H d (.ref d.p):=by
 have a:k.toNat < v.length:=by omega
 have E:k=((k.toNat:Nat):Int):=by omega
 obtain⟨d,c,b⟩:=h.at k.toNat _ (G8 a);have e:v[k.toNat]= .ref d.p:=b.elim λ_ z=>z.1;refine#[d,?_,Hu c,by rw[<- e];exact b];rw[E];exact jM (by rw[<- e];exact G8 a)
def CY(H:Hp)(D:List Df)(v a:V):Prop:=∃(d:Df) (p:List Str) (t:Addr) (I:List Int),d∈D/\v= .str d.f/\H d.pa=some (.tup$ p.map V.str)/\a= .ref t/\H t=some (.tup$ I.map V.int)/\I.length=p.length/\I.length<=100/\∀i∈I,0<=i/\i < 1000000000000000000
inductive iZ(b:List V)(H:Hp)(Q:VK)(a:XK):Prop
 |mk(p:Addr)(_:b=[.ref p])(_:ao H p)(_:∀(t r:Addr) (v2 v3:V) (ds:List Df) (xs:List V) (H':Hp),H' t=some (.tup [.ref r,v2,v3])->H' r=some (.tup xs)->cq H' ds xs->1<=ds.length->ds.length<=8->∀ns,u6 ds ns->lW H' ds ns->CY H' ds v2 v3->ao H' p->ar p H H'->Q (.ref t) H')
theorem eL:ak z39z z1z (aa nD):=bu
noncomputable def X1:Scope:=#[.function,[(".0",.local),("_law_one",.local),("_law_number",.globalImplicit),("_law_box_here",.free)],false,false,[]]
theorem rF:(["_law_one","_law_box_here"]:List Str).Nodup:=by decide+kernel
theorem pG:aT z39z (aa nD) X1 ["_law_one","_law_box_here"] 1 [0]:=l8
theorem wg(F:aK K "_law_case" "_law_case" nD f fd)(M:Cl P w K mg base 1 fT f0 z0z aL "_law_take")(cN:Cl P w K mg base 2 fN f3 z1z eB "_law_number")(cY:Cl P w K mg base 4 fY f4 z1z iY "_law_busy")(cZ:Cl P w K mg base 22 fZ f5 z32z nR "_law_any")(ml:mg "len"=none)(m0:mg "tuple"=none):ah P w K mg base aA 23 f fd z1z iZ:=by
 refine F.ok eL ?_ λc0 A o1 s H vs Q E y h=>?_
 ·rintro _ _ _ _ ⟨p,rfl,_⟩;rfl
 obtain⟨p,rfl,B,q⟩:=h;refine#[_,(jd (jw (jA qI (M.e y.m$ ja (pv 0)$ ja jf jb) jf$ aC _) (jd (jx 1 eL.nd$ cY.e y.m$ ja (pv 0) jb)$ jg$ jm$ jh$ ja (pv 1)$ ja (jz$ jr jS (pv 1) jf (λ_ _=>Z))$ ja (jh$ ja (M.e y.m$ ja (pv 0)$ ja jf jb) jb) jb) jp)$ jd (jx 2 eL.nd$ jr jq (jD$ ja jf$ ja jf$ ja jf$ ja jf jb) (M.e y.m$ ja (pv 0)$ ja jf jb) (λ_ _=>Z))$ jd (jx 1 eL.nd$ cZ.e y.m$ ja (pv 0)$ ja (ju jY jf$ M.e y.m$ ja (pv 0)$ ja (pv 2) jb)$ ja jf jb)$ jd (kQ (jr jS (pv 1) (M.e y.m$ ja (pv 0)$ ja (jH jE Z ml Ih$ ja (pv 1) jb) jb) (λ_ _=>Z))$ zk (n:=3) Z$ jy (js (i:=3) eL.nd Z$ Or.inl Z)$ jy (js (i:=4) eL.nd Z$ Or.inl Z)$ jy (js (i:=5) eL.nd Z$ Or.inl Z) j4)$ jg$ jm$ jh$ ja (pv 1)$ ja (pv 3)$ ja (jF jB Z m0 IQ$ ja (@ki _ _ _ _ _ _ _ (["_law_one","_law_box_here"]) (1) ([0]) _ _ _ _ Z (qc$ pv 4) pG (λ_ _ _ _ _=>(js (i:=0) rF Z$ Or.inl Z)) (λ_ _ _ _ _=>(@kM _)) (λ_ _ _ _ _=>(cN.e y.m$ ja (pv 1) jb)) (by intro _;rfl)) jb) jb),?_];have b0:=aD;refine aj λF1 a=>ni λG1 g1=>#[_,Z,p,3,Z,B,Se,Se,λd1 H1 d' a0 B1 e1=>#[_,_,Z,Z,_,Z,g1 _ _ ?_]];clear g1;have k1:ar p H H1:=ar.of_eq e1;refine bG (λc=>?_) (λc=>a _ _ ?_)
 ·clear a;refine aj λF2 f2=>#[_,Z,p,Z,B1,λr ds xs H2 N C hl ns D b O B2 k2=>f2 _ _ ?_];clear f2;have ln:=C.len;obtain⟨nr,rfl⟩:=O;cases ds with
  |nil=>cases hl
  |cons d r0=>
  obtain⟨p0,R,S,_⟩:=b.2 0 d 1 Z Z;have h0:=C;obtain⟨u0,rr,rfl,⟨bs,rfl,hp,_⟩,_⟩:=h0;have g:dq (V.ref d.p::rr) 0=some (.ref d.p):=gn;refine#[_,Z,jv N g #[d.p,_,_,_,Z,Z,ax.of hp,gn,_,Z,p,6,Z,B2,Se,Se,λd3 H3 d0 d4 B3 e3=>?_]];have c3:ar p H2 H3:=ar.of_eq e3;refine#[gK,λu nu=>#[dZ,λt U=>?_]];have s4:ae H3 (af (af H3 u$ .tup [.int d3]) t$ .tup [.ref r,.str d.f,.ref u]):=(je nu).trans (je U);have T:=(c3.tm B2).trans (ae.tm s4);exact q t r _ _ _ _ _ jc (T _ _ N) (C.mono T) Sf Sf _ D (b.mono T) #[d,p0,u,[d3],HI,Z,T _ _ R,Z,am jc U,by rw[S];rfl,(by show 1<=100;decide),λi hi=>by rw[List.mem_singleton.mp hi];omega] (B3.same s4) ((k1.trans k2).trans$ c3.trans$ ar.of_same s4)
 clear a;refine aj λF1 a=>#[oe,λl W=>#[_,Z,p,4,Z,B1.upd_new W,Se,Se,λd2 H2 d6 d7 B2 e2=>?_]];have k2:ar p H1 H2:=((ar.refl).upd_new W).trans (ar.of_eq e2);obtain⟨m,g,m3,m8⟩:=Cz d6 d7;refine#[l,_,_,_,Z,Z,aB.of (by rw[e2 l$ B1.ne W];exact jc),g,a _ _ ?_];clear a;refine aj λF1 a=>#[_,Z,_,Z,_,Z,p,m,Z,B2,Sf,Sf,λd3 H3 d0 d4 B3 e3=>#[_,_,Z,Z,p,1+d3,12,Z,B3,Sf,Sf,Se,Se,λr ds xs H4 G C hl ns D b B4 k4=>a _ _ ?_]];clear a;have ln:=C.len;have K4:ar p H H4:=(k1.trans k2).trans ((ar.of_eq e3).trans k4);refine aj λF1 a=>#[_,Z,_,Z,_,Z,r,_,Z,.inr$ ax.of G,p,_,Z,B4,Sf,Sf,λd5 H5 d8 d9 B5 e5=>?_];have c5:ar p H4 H5:=ar.of_eq e5;have o:=c5.tm B4;obtain⟨d,g,hd,bs,e,hp,_⟩:=At (C.mono o) d8 d9;refine#[r,_,_,_,Z,Z,ax.of$ o _ _ G,g,d.p,_,Z,ax.of hp,Z,_,_,Z,_,_,Z,_,_,Z,Z,a _ _ ?_];clear a;obtain⟨pv,X,h4⟩:=b.v d hd;have z:=o _ _ X;refine#[_,Z,_,Z,_,Z,d.pa,Z,#[_,ax.of z],?_];refine qr (K:=K) (xs:=pv.map V.str) (by rw[He];omega) (λi L J=>(∃I:List Int,L=I.map V.int/\I.length=i/\∀j∈I,0<=j/\j < 1000000000000000000)/\ao J p/\ar p H5 J) #[#[[],Z,Z,(λ_ h=>nomatch h)],B5,ar.refl] (λi L J k=>?_) (λi x L J hx k=>?_) (λL J k l W=>?_)
 ·exact#[ax.of$ k.2.2.tm B5 _ _ z,let #[I,e,l,_]:=k.1;by rw[e,He,l];exact Hg _]
 ·exact#[_,Z,p,Z,k.2.1,λe H7 e0 e1 B7 e7=>#[let #[I,h1,l,h2]:=k.1;#[I++[e],by rw[h1,Hz];rfl,by rw[Hf,l];rfl,qW h2 #[e0,e1]],B7,k.2.2.trans$ ar.of_eq e7]]
 ·refine#[l,_,Z,.inl #[aB.of jc,λl2 n0=>#[dZ,λt U=>?_]]];have s7:ae J (af (af (af J l$ .lst L) l2$ .tup L) t$ .tup [.ref r,.str d.f,.ref l2]):=((je W).trans$ je n0).trans (je U);have T:=o.trans ((k.2.2.tm B5).trans$ ae.tm s7);obtain⟨I,hz,Y,h3⟩:=k.1;rw[He]at Y;exact q t r _ _ ds xs _ jc (T _ _ G) (C.mono T) Sf Sf ns D (b.mono T) #[d,pv,l2,I,hd,Z,T _ _ X,Z,by rw[<- hz];exact am jc U,Y,Sf,h3] (k.2.1.same s7) (K4.trans$ c5.trans$ k.2.2.trans$ ar.of_same s7)
noncomputable abbrev iP:Stmt:=bE 16
noncomputable abbrev iW:Stmt:=bE 17
abbrev cy:=List (bj×V)
def gj(x:Int):Prop:=0<=x/\x < 1000000000000000000
def GT(k:cy):Prop:=∀p∈k,∃i,p.2= .int i/\gj i
theorem GT.nil:GT []:=λ_ h=>absurd h HK
theorem GT.put(h:GT a)(k:bj)(H:gj i):GT (bJ a k$ .int i):=by
 intro p hp;unfold bJ at hp;split at hp
 ·obtain⟨q,b,rfl⟩:=List.mem_map.mp hp;by_cases e:q.1=k
  ·rw[HD e];exact#[i,Z,H]
  ·rw[HG e];exact h q b
 ·rcases List.mem_append.mp hp with hp |hp
  ·exact h p hp
  ·rw[List.mem_singleton.mp hp];exact#[i,Z,H]
theorem GT.val(h:GT a)(e:dn a k=some v):∃i,v= .int i/\gj i:=by unfold dn at e;obtain⟨p,H,rfl⟩:=Option.map_eq_some_iff.mp e;exact h p$ List.mem_of_find?_eq_some H
noncomputable def look(a:cy)(k:bj)(z:Int):Int:=match dn a k with
 |some (.int i)=>i
 |_=>z
theorem Kq(h:GT a)(k:bj)(z:Int):(dn a k).getD (.int z)= .int (look a k z):=by
 unfold look;cases e:dn a k with
 |none=>rfl
 |some v=>obtain⟨i,rfl,_⟩:=h.val e;rfl
theorem oC(h:GT a)(e:dn a k=some v)(z:Int):v= .int (look a k z):=by unfold look;obtain⟨i,rfl,_⟩:=h.val e;rw[e]
theorem oB(e:dn a k=none)(z:Int):look a k z=z:=by unfold look;rw[e]
theorem JW(h:GT a)(H:gj z):gj (look a k z):=by
 unfold look;cases e:dn a k with
 |none=>exact H
 |some v=>obtain⟨i,rfl,b⟩:=h.val e;exact b
theorem JX:gj 0:=#[Se,Se]
noncomputable def jn(i:Nat)(x y:Int):Int:=match i with
 |0=>(x+y) % 1000000000000000000
 |1=>(x - y) % 1000000000000000000
 |2=>x*y % 1000000000000000000
 |3=>if y=0 then 0 else x / y
 |4=>if x < y then 1 else 0
 |_=>if x=y then 1 else 0
noncomputable def Tm.ev(k:cy):Tm->Int
 | .num n=>n
 | .var x=>look k (.inr x) 0
 | .op i a b=>jn i (a.ev k) (b.ev k)
theorem DC(H:gj x)(c:gj y):gj (jn i x y):=by
 have a:(1000000000000000000:Int)≠0:=by decide
 have b:(0:Int) < 1000000000000000000:=by decide
 match i with
 |0=>exact#[Iw _ a,Ia _ b]
 |1=>exact#[Iw _ a,Ia _ b]
 |2=>exact#[Iw _ a,Ia _ b]
 |3=>
  show gj (if y=0 then 0 else x / y);by_cases h:y=0
  ·rw[HD h];exact#[Se,Se]
  ·rw[HG h];have e:=c.1;have d:0 < y:=by omega
   refine#[PV H.1 Sf,Int.lt_of_le_of_lt ?_ H.2];exact Int.ediv_le_self _ H.1
 |4=>show gj (if x < y then 1 else 0);split<;>exact#[Se,Se]
 |n+5=>show gj (if x=y then 1 else 0);split<;>exact#[Se,Se]
theorem Jz(g:GT k):∀{t:Tm},t.Good y->gj (t.ev k)
 | .num _,h=>h
 | .var x,_=>JW g JX
 | .op _ _ _,h=>DC (Jz g h.2.1) (Jz g h.2.2)
inductive hZ(b:List V)(H:Hp)(Q:VK)(a:XK):Prop
 |mk(i:Nat)(x y:Int)(_:b=[.str (FH i),.int x,.int y])(_:i < 6)(_:gj x)(_:gj y)(_:Q (.int (jn i x y)) H)
def Gh(K:Frag)(H:Hp)(T:Tm)(a:Addr):Prop:=a7 H T a∨(T= .num 0/\ax K H a [.str "num",.int 0])
inductive b6(K:Frag)(n:Nat)(e:List V)(H:Hp)(Q:VK)(b:XK):Prop
 |mk(a d:Addr)(T:Tm)(f:List Str)(c:cy)(_:e=[.ref a,.ref d])(_:Gh K H T a)(_:T.depth < n)(_:T.Good f)(_:H d=some (.dK c))(_:GT c)(_:Q (.int (T.ev c)) H)
theorem tH:ak z22z z22z (aa iP):=bu
theorem oH(F:aK K "joined" "joined" iP f b)(m:mg "TOP"=some (.int 1000000000000000000 t)):ah P w K mg base aA 1 f b z22z hZ:=by
 refine F.ok tH (λd H Q E h=>?_) (λe A o s H d Q E r h=>?_)
 ·obtain⟨i,x,y,rfl,_⟩:=h;rfl
 obtain⟨i,x,y,rfl,u,g,j,q⟩:=h;refine#[_,(jd (jw (ke$ pv 0) (jg$ jm$ ju kU (ju jY (pv 1)$ pv 2)$ kY (v:=.int 1000000000000000000) Z m #[_,Z]) jp)$ jd (jw (ke$ pv 0) (jg$ jm$ ju kU (ju kJ (pv 1)$ pv 2)$ kY (v:=.int 1000000000000000000) Z m #[_,Z]) jp)$ jd (jw (ke$ pv 0) (jg$ jm$ ju kU (ju zn (pv 1)$ pv 2)$ kY (v:=.int 1000000000000000000) Z m #[_,Z]) jp)$ jd (jw (ke$ pv 0) (jg$ jm$ zc (kE$ pv 2) jf$ ju Kk (pv 1)$ pv 2) jp)$ jd (jw (ke$ pv 0) (jg$ jm$ zc (jA qH (pv 1) (pv 2)$ aC _) jf jf) jp)$ jg$ jm$ zc (jA Jx (pv 1) (pv 2)$ aC _) jf jf),?_];obtain⟨k,l⟩:=g;obtain⟨n,p⟩:=j;rcases(by omega:i=0∨i=1∨i=2∨i=3∨i=4∨i=5) with rfl |rfl |rfl |rfl |rfl |rfl
 ·refine#[_,Z,Z,_,Z,bQ Sj ?_];exact#[_,Z,_,Z,_,_,Z,Z,_,_,Z,Z,(by show(0:Int) < 1000000000000000000;decide),q]
 ·refine#[_,Z,Z,_,Z,aO Sj ?_];refine#[_,Z,Z,_,Z,bQ Sj ?_];exact#[_,Z,_,Z,_,_,Z,Z,_,_,Z,Z,(by show(0:Int) < 1000000000000000000;decide),q]
 ·refine#[_,Z,Z,_,Z,aO Sj ?_];refine#[_,Z,Z,_,Z,aO Sj ?_];refine#[_,Z,Z,_,Z,bQ Sj ?_];exact#[_,Z,_,Z,_,_,Z,Z,.inl #[Sf,Sf],_,_,Z,Z,(by show(0:Int) < 1000000000000000000;decide),q]
 ·refine#[_,Z,Z,_,Z,aO Sj ?_];refine#[_,Z,Z,_,Z,aO Sj ?_];refine#[_,Z,Z,_,Z,aO Sj ?_];refine#[_,Z,Z,_,Z,bQ Sj ?_];have a:Q (.int (if y=0 then 0 else x / y)) H:=q;refine#[_,Z,Z,_,Z,?_];refine bG (λc=>?_) (λc=>?_)
  ·have C:V.int y=V.int 0:=ID c;injection C with C;rw[HD C]at a;exact a
  ·have C:y≠0:=λz=>c (by rw[z];rfl);rw[HG C]at a;exact#[_,Z,_,Z,_,_,Z,Z,#[Sf,Sf],a]
 ·refine#[_,Z,Z,_,Z,aO Sj ?_];refine#[_,Z,Z,_,Z,aO Sj ?_];refine#[_,Z,Z,_,Z,aO Sj ?_];refine#[_,Z,Z,_,Z,aO Sj ?_];refine#[_,Z,Z,_,Z,bQ Sj ?_];have a:Q (.int (if x < y then 1 else 0)) H:=q;refine#[_,Z,_,Z,_,_,Z,Z,_,Z,?_];refine bG (λc=>?_) (λc=>?_)
  ·rw[HD$ ID c]at a;exact a
  ·rw[HG$ M4$ Bool.eq_false_iff.mpr c]at a;exact a
 ·refine#[_,Z,Z,_,Z,aO Sj ?_];refine#[_,Z,Z,_,Z,aO Sj ?_];refine#[_,Z,Z,_,Z,aO Sj ?_];refine#[_,Z,Z,_,Z,aO Sj ?_];refine#[_,Z,Z,_,Z,aO Sj ?_];have a:Q (.int (if x=y then 1 else 0)) H:=q;refine#[_,Z,_,Z,Z,_,Z,?_];refine bG (λc=>?_) (λc=>?_)
  ·have C:V.int x=V.int y:=ID c;injection C with C;rw[HD C]at a;exact a
  ·have C:x≠y:=λz=>c (by rw[z];exact Hw Z);rw[HG C]at a;exact a
theorem xH:ak z9z z9z (aa iW):=bu
theorem sd(F:aK K "worth" "worth" iW f p)(C:Cl P w K mg base (n+1) f p z9z (b6 K n) "worth")(v:Cl P w K mg base 1 R B z22z hZ "joined"):ah P w K mg base aA (n+2) f p z9z (b6 K$ n+1):=by
 refine F.ok xH (λV H Q E h=>?_) (λD A o s H V Q E j h=>?_)
 ·obtain⟨a,d,T,y,c,rfl,_⟩:=h;rfl
 obtain⟨a,d,T,y,c,rfl,t,I,g,l,G,q⟩:=h;refine#[_,(jd (jw (ke$ jz$ pv 0) (jg$ jm$ jz$ pv 0) jp)$ jd (jw (ke$ jz$ pv 0) (jg$ jm$ @Kn _ _ _ _ _ _ _ _ _ (zY j) (pv 1) (jz$ pv 0) jf #[Sl,Sl,Sl,Sl]) jp)$ jg$ jm$ v.e j.m$ ja (jz$ pv 0)$ ja (C.e j$ ja (jz$ pv 0)$ ja (pv 1) jb)$ ja (C.e j$ ja (jz$ pv 0)$ ja (pv 1) jb) jb),?_];cases T with
 |num m=>
  have b:ax K H a [.str "num",.int m]:=t.elim (λh=>ax.of h) λz=>by cases z.1;exact z.2
  refine#[_,Z,a,_,_,_,Z,Z,b,Z,Z,_,Z,bQ Sj ?_];exact#[_,Z,a,_,_,_,Z,Z,b,Z,q]
 |var x=>
  have b:H a=some (.tup [.str "var",.str x]):=t.resolve_right λz=>by cases z.1
  refine(jv b Z #[Z,_,Z,aO Sj ?_]);refine(jv b Z #[Z,_,Z,bQ Sj ?_]);refine#[_,Z,d,Z,.inl #[c,.inl l],jv b Z #[_,eO.k (k:=Sum.inr x) l,?_]];rw[Kq G];exact q
 |op i r u=>
  obtain⟨J,L,b,M,N⟩:=t.resolve_right λz=>by cases z.1
  have O:max r.depth u.depth+1 < n+1:=I;refine(jv b Z #[Z,_,Z,aO Sj ?_]);refine(jv b Z #[Z,_,Z,aO Sj ?_]);refine(jv b Z ?_);refine(jv b Z #[_,Z,J,d,r,y,c,Z,.inl M,Sf,g.2.1,l,G,?_]);refine(jv b Z #[_,Z,L,d,u,y,c,Z,.inl N,Sf,g.2.2,l,G,?_]);exact#[i,_,_,Z,g.1,Jz G g.2.1,Jz G g.2.2,q]
theorem rL:ah P w K mg base aA 1 f e z9z (b6 K 0):=by
 have n:∀v H Q E,¬b6 K 0 v H Q E:=λv H Q E h=>by obtain⟨a,d,T,y,k,_,_,c,_⟩:=h;exact absurd c$ Mn _
 exact#[λv H Q E h=>absurd h (n v H Q E),λA o s H b u v Q E _ _ _ _ h=>absurd h (n v H Q E)]
theorem uQ(F:aK K "worth" "worth" iW f a)(b:ay K a z9z [])(m:mg "worth"=some (.ref f))(c:Cl P w K mg base 1 e d z22z hZ "joined"):
  ∀n:Nat,ah P w K mg base aA (n+1) f a z9z (b6 K n)
 |0=>rL
 |n+1=>sd F #[(uQ F b m c n),b,F.kp,m] c
def TV(H:Hp)(y:List Str)(t:Addr)(T:Tm):Prop:=a7 H T t/\db y T
theorem TV.mono(k:ai H a)(h:TV H y t T):TV a y t T:=#[h.1.mono k,h.2]
inductive Gl where
 |give (t:Addr) (T:Tm) |nought |go (n:Nat)
structure WD where
 sets:List (Str×Addr×Tm)
 goal:Gl
noncomputable def Gl.gol(N:Addr):Gl->EC
 | .give t _=>.give t
 | .nought=>.give N
 | .go n=>.go (n:Int)
noncomputable def WD.wy(n:Addr)(w:WD):Wy:=#[w.sets.map λs=>(s.1,s.2.1),w.goal.gol n]
def C0(H:Hp)(y:List Str)(m:Nat):Gl->Prop
 | .give t T=>TV H y t T
 | .nought=>True
 | .go n=>n < m
structure Ac(H:Hp)(ys:List Str)(m N:Nat)(w:WD):Prop where
 sets:∀s∈w.sets,TV H ys s.2.1 s.2.2
 len:w.sets.length<=N
 goal:C0 H ys m w.goal
def lF(H:Hp)(y:List Str)(n:Addr)(m N:Nat)(w:Wy):Prop:=∃d:WD,d.wy n=w/\Ac H y m N d
def Ga(F:gN)(H:Hp)(y:List Str):Dd->Prop
 | .st p=>∃(l:Lf) (v:List V),H p=some (.tup v)/\ve H l v/\l.Ok y/\l.isCut=true/\l.Cs F
 | .ask t=>∃T,TV H y t T
noncomputable def Dd.ways:Dd->Nat
 | .st _=>1
 | .ask _=>2
structure u5(F:gN)(H:Hp)(ys:List Str)(nA:Addr)(m N:Nat)(c:Ct):Prop where
 mem:∀x,c.M x->x∈ys
 deed:Ga F H ys c.d
 ways:∀w∈c.ws,lF H ys nA m N w
 len:c.ws.length=c.d.ways
structure uW(H:Hp)(ys:List Str)(nA:Addr)(m N:Nat)(pc:Pc):Prop where
 mem:∀x,pc.M x->x∈ys
 way:lF H ys nA m N pc.w
section
variable {F:gN}{H H':Hp}{ys:List Str}{nA:Addr}{m N N':Nat}
theorem C0.mono(k:ai H H')(h:C0 H ys m g):C0 H' ys m g:=by
 cases g with
 |give t T=>exact TV.mono k h
 |nought=>trivial
 |go n=>exact h
theorem Ac.mono(k:ai H H'){w:WD}(h:Ac H ys m N w):Ac H' ys m N w:=#[λs a=>(h.sets s a).mono k,h.len,h.goal.mono k]
theorem lF.up(a:N<=N'){w:Wy}(h:lF H ys nA m N w):lF H ys nA m N' w:=let #[d,e,v]:=h;#[d,e,v.sets,Hr v.len a,v.goal]
theorem u5.up(a:N<=N')(h:u5 F H ys nA m N c):u5 F H ys nA m N' c:=#[h.mem,h.deed,λw b=>(h.ways w b).up a,h.len]
theorem uW.up(a:N<=N')(h:uW H ys nA m N p):uW H ys nA m N' p:=#[h.mem,h.way.up a]
theorem X5{n:Nat}(a:k=(n:Int))(b:n < m):lF H ys nA m N #[[],.go k]:=#[#[[],.go n],by rw[a];rfl,(λ_ h=>absurd h HK),Ho _,b]
theorem J8:∀(b:Bd) {X:List V} {g:Pc} {fs:List Ct} {N:Nat},di H b X->b.Ok ys->b.Cs F->uW H ys nA m N g->(∀c∈fs,u5 F H ys nA m N c)->fs.length+b.cuts<=m->
  uW H ys nA m (N+b.size) (pB (m:Int) b g fs).1/\∀c∈(pB (m:Int) b g fs).2,u5 F H ys nA m (N+b.size) c
 | .nil,_,_,_,_,_,_,_,o,y,_=>#[o,y]
 | .lf p l r,X,g,fs,N,C,i,k,o,y,D=>by
  obtain⟨vs,zs,_,h1,I,h3⟩:=C;have E:fs.length+(l.cut+r.cuts)<=m:=D;obtain⟨R,A⟩:=J8 r h3 i.2 k.2 o y Sf;have hl:=j9 (m:Int) r g fs;have S:N+r.size<=N+(r.size+1):=by omega
  have j:=Lf.use_in i.1 R.mem;have J:l.isCut=true->l.cut=1->uW H ys nA m (N+(r.size+1)) #[l.use (pB (m:Int) r g fs).1.M,#[[],.go ((m:Int) - ((pB (m:Int) r g fs).2.length:Int) - 1)]]/\∀c∈(pB (m:Int) r g fs).2++[#[l.use (pB (m:Int) r g fs).1.M,.st p,[(pB (m:Int) r g fs).1.w]]],u5 F H ys nA m (N+(r.size+1)) c:=λG h0=>
   #[#[j,X5 (n:=m - (fs.length+r.cuts) - 1) (by rw[hl];omega) Sf],λc L=>by
    rcases List.mem_append.mp L with z |z
    ·exact(A c z).up S
    ·rw[List.mem_singleton.mp z];exact#[j,#[l,vs,h1,I,i.1,G,k.1],λw hw=>by rw[List.mem_singleton.mp hw];exact R.way.up S,Z]]
  show uW H ys nA m (N+(r.size+1)) (pL (m:Int) p l$ pB (m:Int) r g fs).1/\∀c∈(pL (m:Int) p l$ pB (m:Int) r g fs).2,u5 F H ys nA m (N+(r.size+1)) c;cases l with
  |gv t T=>exact#[#[j,#[#[[],.give t T],Z,(λ_ h=>absurd h HK),Ho _,I.2,i.1]],λc G=>(A c G).up S]
  |st x t T=>
   refine#[#[j,?_],λc G=>(A c G).up S];show lF H ys nA m _ (gZ x t (pB (m:Int) r g fs).1);unfold gZ;split
   ·obtain⟨d,e,v⟩:=R.way;refine#[#[(x,t,T)::d.sets,d.goal],by rw[<- e];rfl,λs hs=>?_,IU v.len,v.goal];rcases List.mem_cons.mp hs with rfl |hs
    ·exact#[I.2,i.1.2]
    ·exact v.sets s hs
   ·exact R.way.up S
  |rd x t T |wr t u T U |cl x f q ts=>exact J Z Z
 | .ite p t T a c r,X,g,fs,N,C,i,k,o,y,D=>by
  obtain⟨qa,qb,as,bs,zs,_,g1,O,g2,g3,Q,g5,W⟩:=C;have E:fs.length+(1+a.cuts+c.cuts+r.cuts)<=m:=D;obtain⟨R,A⟩:=J8 r W i.2.2.2 k.2.2 o y Sf;have B:=j9 (m:Int) r g fs;obtain⟨c1,c2⟩:=J8 c g5 i.2.2.1 k.2.1 R A Sf;have h4:=j9 (m:Int) c (pB (m:Int) r g fs).1 (pB (m:Int) r g fs).2;obtain⟨Y,a2⟩:=J8 a Q i.2.1 k.1 (R.up$ LM _ _) c2 Sf;have S:N+r.size+c.size+a.size<=N+(a.size+c.size+r.size+1):=by omega
  have j:∀x,(Bd.ite p t T a c .nil).use (pB (m:Int) r g fs).1.M x->x∈ys:=Bd.use_in #[i.1,i.2.1,i.2.2.1,trivial] R.mem;have hk:(m:Int) - ((pB (m:Int) r g fs).2.length:Int) - ((Bd.ite p t T a c .nil).cuts:Int)=((m - (fs.length+r.cuts) - (1+a.cuts+c.cuts):Nat):Int):=by show(m:Int) - _ - ((1+a.cuts+c.cuts+0:Nat):Int)=_;rw[B];omega
  unfold pB;dsimp only;refine#[#[j,X5 hk Sf],λe he=>?_];rcases List.mem_append.mp he with z |z
  ·exact(a2 e z).up S
  ·rw[List.mem_singleton.mp z];refine#[j,#[T,O,i.1],λw hw=>?_,Z];rcases List.mem_cons.mp hw with rfl |hw
   ·exact Y.way.up S
   ·rw[List.mem_singleton.mp hw];exact c1.way.up (by show _<=N+(a.size+c.size+r.size+1);omega)
 | .loop p t T a r,X,g,fs,N,C,i,k,o,y,D=>by
  obtain⟨qa,as,zs,_,g1,O,g2,Q,W⟩:=C;have E:fs.length+(1+a.cuts+r.cuts)<=m:=D;obtain⟨R,A⟩:=J8 r W i.2.2 k.2 o y Sf;have B:=j9 (m:Int) r g fs;have j:∀x,(Bd.loop p t T a .nil).use (pB (m:Int) r g fs).1.M x->x∈ys:=Bd.use_in #[i.1,i.2.1,trivial] R.mem;have hk:(m:Int) - ((pB (m:Int) r g fs).2.length:Int) - ((Bd.loop p t T a .nil).cuts:Int)=((m - (fs.length+r.cuts) - (1+a.cuts):Nat):Int):=by show(m:Int) - _ - ((1+a.cuts+0:Nat):Int)=_;rw[B];omega
  have pl:uW H ys nA m (N+r.size) #[(Bd.loop p t T a .nil).use (pB (m:Int) r g fs).1.M,#[[],.go ((m:Int) - ((pB (m:Int) r g fs).2.length:Int) - ((Bd.loop p t T a .nil).cuts:Int))]]:=#[j,X5 hk Sf];obtain⟨Y,a2⟩:=J8 a Q i.2.1 k.1 pl A Sf;have S:N+r.size+a.size<=N+(a.size+r.size+1):=by omega
  unfold pB;dsimp only;refine#[pl.up (by show _<=N+(a.size+r.size+1);omega),λe he=>?_];rcases List.mem_append.mp he with z |z
  ·exact(a2 e z).up S
  ·rw[List.mem_singleton.mp z];refine#[j,#[T,O,i.1],λw hw=>?_,Z];rcases List.mem_cons.mp hw with rfl |hw
   ·exact Y.way.up S
   ·rw[List.mem_singleton.mp hw];exact R.way.up (by show _<=N+(a.size+r.size+1);omega)
end
noncomputable def bY(n:Addr)(d:Df):List Ct:=(gQ n d).2.reverse
theorem Zj(n:Addr)(d:Df):(bY n d).length=d.b.cuts:=by unfold bY;rw[OQ];exact(j9 _ _ _ _).trans (MX _)
theorem yM{nA:Addr}{d:Df}(f:di H d.b B)(g:d.b.Ok y):uW H y nA d.b.cuts d.b.size (gQ nA d).1/\∀c∈bY nA d,u5 d.b.calls H y nA d.b.cuts d.b.size c:=by have p:uW H y nA d.b.cuts 0 (Fx nA):=#[λx i=>absurd i HK,#[[],.nought],Z,(λ_ h=>absurd h HK),Hg _,trivial];obtain⟨a,e⟩:=J8 (m:=d.b.cuts) d.b f g (zw d.b) p (fs:=[]) (λ_ h=>absurd h HK) (by show 0+_<=_;omega);rw[MX]at a e;exact#[a,λc j=>e c (List.mem_reverse.mp j)]
theorem QE{M:Str->Prop}{y:List Str}(h:∀x,M x->x∈y):(canon M).length<=y.length:=by
 by_cases e:∃s,Nm s M
 ·obtain⟨s,H⟩:=e;rw[<- H.canon];exact H.len h
 ·unfold canon;rw[dif_neg e];exact Ho _
noncomputable def eJ:List (Str×Addr×Tm)->cy->cy
 | [],k=>k
 |s::r,k=>eJ r (bJ k (.inr s.1) (.int (s.2.2.ev k)))
noncomputable def eV(N:Addr)(d:Df)(n:Nat):List Str:=match (bY N d)[n]? with
 |some c=>canon c.M
 |none=>[]
noncomputable def rq(N:Nat->List Str)(k:cy):Gl->Tr
 | .give _ T=>aZ [bX "give",aY (T.ev k)]
 | .nought=>aZ [bX "give",aY 0]
 | .go n=>aZ [bX "go",aY (n:Int),aZ ((N n).map λx=>aY (look k (.inr x) 0))]
theorem qR{H:Hp}{ys:List Str}:∀{ss:List (Str×Addr×Tm)} {k:cy},(∀s∈ss,TV H ys s.2.1 s.2.2)->GT k->GT (eJ ss k)
 | [],_,_,g=>g
 |s::r,k,h,g=>qR (H:=H) (ys:=ys) (ss:=r) (λS a=>h S (HQ _ a)) (g.put _ (Jz g (h s HI).2.1))
theorem oU{S:List (Str×Addr×Tm)}:∀{i:Nat} {s:Str×Addr×Tm} {k:cy},S[i]?=some s->eJ (S.take$ i+1) k=bJ (eJ (S.take i) k) (.inr s.1) (.int$ s.2.2.ev$ eJ (S.take i) k):=by
 induction S with
 |nil=>intro i s k h;simp at h
 |cons a r I=>
  intro i s k h;cases i with
  |zero=>cases h;rfl
  |succ i=>exact I (by simpa using h)
theorem qh{kvs:cy}{k:bj}{v:V}:(bJ kvs k v).length<=kvs.length+1:=by
 unfold bJ;split
 ·rw[He];exact IL _
 ·rw[Hf];exact Hg _
theorem XD:∀{ss:List (Str×Addr×Tm)} {k:cy},(eJ ss k).length<=k.length+ss.length
 | [],_=>Hg _
 |s::r,k=>by have h:=XD (ss:=r) (k:=bJ k (.inr s.1) (.int$ s.2.2.ev k));have H:=qh (kvs:=k) (k:=.inr s.1) (v:=.int (s.2.2.ev k));show(eJ r _).length<=k.length+(r.length+1);omega
noncomputable def cQ(n:List Str)(i:List Int):cy:=cX [] ((n.map Sum.inr).zip$ i.map V.int)
theorem XE:∀{m:cy} {k:cy},GT k->GT m->GT (cX k m)
 | [],_,g,_=>g
 |p::r,k,g,h=>by
  obtain⟨i,e,H⟩:=h p HI;have E:bJ k p.1 p.2=bJ k p.1 (.int i):=by rw[e]
  show GT (cX (bJ k p.1 p.2) r);rw[E];exact XE (g.put _ H) λq a=>h q (HQ _ a)
theorem Kh(h:∀i∈I,gj i):GT (cQ n I):=by refine XE GT.nil λp H=>?_;obtain⟨i,a,e⟩:=List.mem_map.mp (M0 H).2;exact#[i,e.symm,h i a]
theorem Zk{ns:List Str}{is:List Int}:(cQ ns is).length<=ns.length:=by have h:=qw ((ns.map Sum.inr).zip$ is.map V.int) [];rw[NJ,He]at h;show(cX [] _).length<=_;have H:(cX [] ((ns.map Sum.inr).zip$ is.map V.int)).length<=0+min ns.length (is.map V.int).length:=h;omega
noncomputable abbrev mG:Stmt:=bE 43
noncomputable abbrev iO:Stmt:=bE 44
noncomputable abbrev gU:Stmt:=bE 47
noncomputable abbrev iN:Stmt:=bE 48
noncomputable abbrev gR:Stmt:=bE 49
noncomputable abbrev iT:Stmt:=bE 50
structure lY(H:Hp)(nA:Addr)(d:Df)(ys:List Str)(v:V):Prop where
 tr:aP H (eX nA d) v []
 bd:∃bs,di H d.b bs
 ok:d.b.Ok ys
 y20:ys.length<=20
 sz:d.b.size<=3000
structure CZ(H:Hp)(nA:Addr)(d:Df)(ys:List Str)(c:Ct)(ka na wa:Addr)(dv:V)(wvs:List V):Prop where
 at':H ka=some (.tup [.ref na,dv,.ref wa])
 nms:H na=some (.tup ((canon c.M).map V.str))
 deed:aP H (EL c.d) dv []
 wat:H wa=some (.tup wvs)
 ways:aP H (aG$ c.ws.map gA) .non wvs
 v:u5 d.b.calls H ys nA d.b.cuts d.b.size c
theorem Zl:∀{S:List Str} {v:List V},aP H (aG$ S.map bX) .non v->v=S.map V.str
 | [],v,h=>h
 |s::S,v,h=>by obtain⟨_,_,y,Y,rfl,⟨rfl,_⟩,a⟩:=h;rw[Zl a];rfl
section
variable {H H':Hp}{nA:Addr}{d:Df}{ys:List Str}{v:V}
theorem lY.mono(k:ai H H')(h:lY H nA d ys v):lY H' nA d ys v:=#[h.tr.mono k,let #[b,a]:=h.bd;#[b,a.mono k],h.ok,h.y20,h.sz]
theorem lY.parts(h:lY H nA d ys v):∃(a c:Addr) (W:V) (C:List V),v= .ref a/\H a=some (.tup [.str d.f,.ref d.pa,W,.ref c])/\aP H (gA (gQ nA d).1.w) W []/\H c=some (.tup C)/\aP H (aG ((bY nA d).map Dk)) .non C:=by obtain⟨_,a,x,rfl,i,_,_,n,Y,rfl,⟨rfl,_⟩,_,_,o,j,rfl,⟨rfl,_⟩,_,_,W,k,rfl,l,_,_,p,y,rfl,m,e⟩:=h.tr;have e:y=[]:=e;subst e;obtain⟨_,c,C,rfl,b,g⟩:=m;exact#[a,c,W,C,Z,i,l,b,g]
theorem lY.cut{C:List V}(h:lY H nA d ys v)(a:aP H (aG ((bY nA d).map Dk)) .non C){n:Nat}{c:Ct}(g:(bY nA d)[n]?=some c):∃k N i D W,C[n]?=some (.ref k)/\CZ H nA d ys c k N i D W:=by
 have L:=zD a;rw[He]at L;have u:n < C.length:=by rw[L];exact(List.getElem?_eq_some_iff.mp g).1
 have j:C[n]?=some C[n]:=G8 u;obtain⟨T,b,t⟩:=Ji a n _ j;rw[HE,g]at b;cases b;obtain⟨B,y⟩:=h.bd;have z:=(yM (nA:=nA) y h.ok).2 c (Hu g);generalize C[n]=x at j t;obtain⟨_,k,E,rfl,l,_,_,F,G,rfl,m,_,_,D,I,rfl,o,_,_,J,A,rfl,p,e⟩:=t;have e:A=[]:=e;subst e;obtain⟨_,N,M,rfl,f,q⟩:=m;obtain⟨_,i,W,rfl,r,s⟩:=p;rw[Zl q]at f;exact#[k,N,i,D,W,j,l,f,o,r,s,z]
theorem lY.way(h:lY H nA d ys v):lF H ys nA d.b.cuts d.b.size (gQ nA d).1.w:=let #[B,a]:=h.bd;(yM (nA:=nA) a h.ok).1.way
theorem rJ(h:(bY nA d)[n]?=some c):eV nA d n=canon c.M:=by unfold eV;rw[h]
end
structure Fd(H:Hp)(nA:Addr)(w:WD)(wa sa ga:Addr)(ss:List V)(wd:Str)(u:V):Prop where
 at':H wa=some (.tup [.ref sa,.ref ga])
 sat:H sa=some (.tup ss)
 sets:∀(i:Nat) (x:V),ss[i]?=some x->∃(s:Str×Addr×Tm) (p:Addr),w.sets[i]?=some s/\x= .ref p/\H p=some (.tup [.str s.1,.ref s.2.1])
 len:ss.length=w.sets.length
 gat:H ga=some (.tup [.str wd,u])
 goal:match w.goal with
  | .give t _=>wd="give"/\u= .ref t
  | .nought=>wd="give"/\u= .ref nA
  | .go n=>wd="go"/\u= .int (n:Int)
theorem yc{w:WD}(h:aP H (gA$ w.wy N) v []):∃(l S G:Addr) (A:List V) (W:Str) (u:V),v= .ref l/\Fd H N w l S G A W u:=by
 obtain⟨_,r,X,rfl,C,_,_,y0,D,rfl,⟨_,s,c,rfl,E,m⟩,_,_,Y,y,rfl,b,e⟩:=h;have e:y=[]:=e;subst e;have L:=zD m;have st:∀(i:Nat) (x:V),c[i]?=some x->∃(s:Str×Addr×Tm) (p:Addr),w.sets[i]?=some s/\x= .ref p/\H p=some (.tup [.str s.1,.ref s.2.1]):=λi x F=>by obtain⟨tr,o,I⟩:=Ji m i x F;rw[HE]at o;obtain⟨q,J,rfl⟩:=Option.map_eq_some_iff.mp o;have a:(w.sets.map λs=>(s.1,s.2.1))[i]?=some q:=J;rw[HE]at a;obtain⟨z,M,rfl⟩:=Option.map_eq_some_iff.mp a;obtain⟨_,p,X,rfl,O,_,_,Q,R,rfl,⟨rfl,_⟩,_,_,U,B,rfl,⟨rfl,_⟩,e⟩:=I;have e:B=[]:=e;subst e;exact#[z,p,M,Z,O]
 have ln:c.length=w.sets.length:=by rw[L,He];exact He ..
 have f:∀g:Gl,w.goal=g->aP H (vL$ g.gol N) Y []->∃(G:Addr) (W:Str) (u:V),Y= .ref G/\H G=some (.tup [.str W,u])/\match g with
  | .give t _=>W="give"/\u= .ref t
  | .nought=>W="give"/\u= .ref N
  | .go n=>W="go"/\u= .int (n:Int):=λg _ b=>by
  cases g with
  |give t T |nought |go n=>obtain⟨_,gl,X,rfl,d,_,_,Q,R,rfl,⟨rfl,_⟩,_,_,U,B,rfl,⟨rfl,_⟩,e⟩:=b;have e:B=[]:=e;subst e;exact#[gl,_,_,Z,d,Z,Z]
 obtain⟨G,W,u,rfl,j,k⟩:=f w.goal Z b;exact#[r,s,G,c,W,u,Z,C,E,st,ln,j,k]
inductive g9(b:Addr)(e:List V)(H:Hp)(Q:VK)(a:XK):Prop
 |mk(v:V)(n:Nat)(d:Df)(f:List Str)(c:Ct)(_:e=[v,.int (n:Int)])(_:lY H b d f v)(_:(bY b d)[n]?=some c)(_:∀(ka na wa:Addr) (dv:V) (wvs:List V),CZ H b d f c ka na wa dv wvs->Q (.ref ka) H)
inductive hX(f:Addr)(g:List V)(H:Hp)(Q:VK)(a:XK):Prop
 |mk(v:V)(n:Nat)(b:Addr)(d:Df)(h:List Str)(c:Ct)(e:List Int)(_:g=[v,.int (n:Int),.ref b])(_:lY H f d h v)(_:(bY f d)[n]?=some c)(_:H b=some (.tup (e.map V.int)))(_:e.length=(canon c.M).length)(_:∀dd:Addr,H dd=none->Q (.ref dd) (af H dd (.dK (cQ (canon c.M) e))))
theorem Zm:∀(s:List Str),(s.map (Sum.inr:Str->bj)).map kV=s.map V.str:=λs=>by rw[L9];rfl
theorem xF:ak ["part","n"] ["part","n"] (aa mG):=bu
theorem rP{f:Addr}{g:FuncData}{N:Addr}(F:aK K "cut_at" "cut_at" mG f g):ah P w K mg base aA 1 f g ["part","n"] (g9 N):=by
 refine F.ok xF ?_ λl A o s H V Q E B h=>?_
 ·rintro _ _ _ _ ⟨v,n,d,y,c,rfl,_⟩;rfl
 obtain⟨v,n,d,y,c,rfl,i,m,q⟩:=h;refine#[_,(jg$ jm$ jr jS (jz$ pv 0) (pv 1) (λ_ _=>Z)),?_];obtain⟨a,p,I,J,rfl,r,L,b,e⟩:=i.parts;obtain⟨t,u,x,D,W,z,C⟩:=i.cut e m;exact#[_,Z,a,_,_,_,Z,Z,ax.of r,jM (j:=3) Z,_,Z,p,_,_,_,Z,Z,ax.of b,jM z,q t u x D W C]
theorem tG:ak z12z z12z (aa iO):=bu
theorem oG(F:aK K "held_at" "held_at" iO f g)(i:Cl P w K mg base 1 J j ["part","n"] (g9 N) "cut_at")(m:mg "dict"=none)(a:mg "zip"=none):ah P w K mg base aA 2 f g z12z (hX N):=by
 refine F.ok tG ?_ λp A o s H V Q E r h=>?_
 ·rintro _ _ _ _ ⟨v,n,b,d,y,c,I,rfl,_⟩;rfl
 obtain⟨v,n,b,d,y,c,I,rfl,t,u,x,z,q⟩:=h;refine#[_,(jg$ jm$ @Y9 _ _ _ _ _ _ _ _ Z m Z a Z (ja (jr jS (i.e r$ ja (pv 0)$ ja (pv 1) jb) jf (λ_ _=>Z))$ ja (pv 2) jb) Sl Sl Sl Sl),?_];refine#[_,Z,_,Z,v,n,d,y,c,Z,t,u,λB D O R W C=>#[B,_,_,_,Z,Z,ax.of C.at',gn,_,Z,D,b,(canon c.M).map Sum.inr,_,Z,by rw[Zm];exact ax.of C.nms,ax.of x,by rw[He,He,z],λl G=>q l G]]
inductive Wh where
 |rd (a i:Int) |wr (a b:Int) |ask (b:Int) |cl (f:Str) (is:List Int) (i:Int)
def Ad(H:Hp)(u:V):Wh->Prop
 | .rd a i=>∃p,u= .ref p/\H p=some (.tup [.str "read",.int a,.int i])
 | .wr a b=>∃p,u= .ref p/\H p=some (.tup [.str "write",.int a,.int b])
 | .ask b=>∃p,u= .ref p/\H p=some (.tup [.str "ask",.int b])
 | .cl f I i=>∃p c g e,u= .ref p/\H p=some (.tup [.str "call",.ref c])/\H c=some (.tup [.str f,.ref g,e,.int i])/\H g=some (.tup (I.map V.int))
theorem Ad.mono{H d:Hp}(k:ai H d){u:V}{w:Wh}(h:Ad H u w):Ad d u w:=by
 cases w with
 |rd a i |wr a b |ask b=>obtain⟨p,e,h⟩:=h;exact#[p,e,k _ _ h]
 |cl f I i=>obtain⟨p,c,g,e,E,j,l,m⟩:=h;exact#[p,c,g,e,E,k _ _ j,k _ _ l,k _ _ m]
inductive DD where
 |st (p:Addr) (l:Lf) |ask (t:Addr) (T:Tm)
noncomputable def DD.dd:DD->Dd
 | .st p _=>.st p
 | .ask t _=>.ask t
def y7(H:Hp)(y:List Str):DD->Prop
 | .st p l=>∃v,H p=some (.tup v)/\ve H l v/\l.Ok y/\l.isCut=true
 | .ask t T=>TV H y t T
theorem y7.mono(k:ai H a)(h:y7 H y d):y7 a y d:=by
 cases d with
 |st p l=>obtain⟨v,b,c,e⟩:=h;exact#[v,k _ _ b,c.mono k,e]
 |ask t T=>exact TV.mono k h
def DD.Cs(F:gN):DD->Prop
 | .st _ l=>l.Cs F
 | .ask _ _=>True
theorem Do{F:gN}(h:Ga F H y d):∃e:DD,e.dd=d/\y7 H y e/\e.Cs F:=by
 cases d with
 |st p=>obtain⟨l,v,a,b,c,f,g⟩:=h;exact#[.st p l,Z,#[v,a,b,c,f],g]
 |ask t=>obtain⟨T,h⟩:=h;exact#[.ask t T,Z,h,trivial]
def EB:DD->Wh->Prop
 | .st _ (.rd _ _ _),.rd _ i=>gj i
 | .st _ (.wr _ _ _ _),.wr _ _=>True
 | .st _ (.cl _ _ _ _),.cl _ _ i=>gj i
 | .ask _ _,.ask b=>b=0∨b=1
 |_,_=>False
noncomputable def vm(d:DD)(w:Wh)(k:cy):cy:=match d,w with
 | .st _ (.rd x _ _),.rd _ i=>bJ k (.inr x) (.int i)
 | .st _ (.cl x _ _ _),.cl _ _ i=>bJ k (.inr x) (.int i)
 |_,_=>k
noncomputable def Wh.side:Wh->Nat
 | .ask b=>if b=0 then 1 else 0
 |_=>0
def pW(Q:VK)(H:Hp):Wh->Prop
 | .rd _ i=>Q (.int i) H
 | .cl _ _ i=>Q (.int i) H
 |_=>False
inductive dX(b:List V)(H:Hp)(Q:VK)(a:XK):Prop
 |mk(u:V)(w:Wh)(_:b=[u])(_:Ad H u w)(_:pW Q H w)
inductive lN(c:Addr)(e:List V)(H:Hp)(Q:VK)(a:XK):Prop
 |mk(v f:V)(b:Addr)(d:Df)(g:List Str)(w:WD)(k:cy)(_:e=[v,f,.ref b])(_:lY H c d g v)(_:aP H (gA (w.wy c)) f [])(_:Ac H g d.b.cuts d.b.size w)(_:H b=some (.dK k))(_:GT k)(_:k.length<=200)(_:∀(u:V) (H':Hp),aP H' (rq (eV c d) (eJ w.sets k) w.goal) u []->ar b H H'->Q u H')
inductive EI(c:Addr)(a:_L.St)(j:List (Str×Addr×Tm))(k:cy)(H:Hp)(i:Nat)(l:_L.St)(b:Hp):Prop
 |mk(g h:Option V)(d:l=a++[g,h,none,none])(e:b c=some (.dK (eJ (j.take i) k)))(f:ar c H b)
theorem JY{H:Hp}:∀{is:List Int},aP H (aG$ is.map aY) .non (is.map V.int)
 | []=>rfl
 |i::is=>jo Z kK (JY (is:=is))
theorem oX:ak ["what"] ["what"] (aa gU):=bu
theorem rR(F:aK K "found_in" "found_in" gU f n):ah P w K mg base aA 1 f n ["what"] dX:=by
 refine F.ok oX ?_ λC A o s H v Q E t h=>?_
 ·rintro _ _ _ _ ⟨u,W,rfl,_⟩;rfl
 obtain⟨u,W,rfl,d,q⟩:=h;refine#[_,(jg$ jm$ zc (ke$ jz$ pv 0) (jz$ jr jS (pv 0) jf (λ_ _=>Z))$ jr jS (pv 0) (Qe Jf jf) (λ_ _=>Z)),?_];cases W with
 |rd a i=>obtain⟨p,rfl,l⟩:=d;exact(jv l gn #[Z,_,Z,aO Sj #[_,Z,_,Z,p,_,_,_,Z,Z,ax.of l,Z,q]])
 |cl f I i=>obtain⟨p,c,g,e,rfl,m,r,_⟩:=d;exact(jv m gn #[Z,_,Z,bQ Sj$ jv m l7 #[c,_,_,_,Z,Z,ax.of r,jM (j:=3) Z,q]])
 |wr a b |ask b=>exact q.elim
theorem fe:ak ["part","way","numbers","name","term","goal","held"] ["part","way","numbers"] (aa iN):=bu
noncomputable def YI:Scope:=#[.function,[(".0",.local),("name",.local),("numbers",.free)],false,false,[]]
theorem vW:(["name","numbers"]:List Str).Nodup:=by decide+kernel
theorem vt:aT ["part","way","numbers","name","term","goal","held"] (aa iN) YI ["name","numbers"] 1 [2]:=l8
theorem rQ(F:aK K "end_of" "end_of" iN f fd)(cC:Cl P w K mg base 1 fC f2 ["part","n"] (g9 U) "cut_at")(cW:Cl P w K mg base 7 fW f3 z9z (b6 K 6) "worth")(m0:mg "tuple"=none)(no:mn K U):ah P w K mg base aA 8 f fd ["part","way","numbers"] (lN U):=by
 refine F.ok fe ?_ λc0 A o1 s H vs Q E Y h=>?_
 ·rintro _ _ _ _ ⟨v,w1,D,d,ys,O,k,rfl,_⟩;rfl
 obtain⟨v,w1,D,d,ys,O,k,rfl,hp,hw,wv,hd,gk,hk,q⟩:=h;refine#[_,(jd (km HZ Z (qc$ jz$ pv 1) (zk (n:=2) Z$ jy (js (i:=3) fe.nd Z$ Or.inl Z)$ jy (js (i:=4) fe.nd Z$ Or.inl Z) j4)$ jg$ JQ (zY Y) (pv 2) (pv 3) (cW.e Y.m$ ja (pv 4)$ ja (pv 2) jb) Z)$ jd (jx 5 fe.nd$ jz$ pv 1)$ jd (jw (ke$ jz$ pv 5) (jg$ jm$ jh$ ja jk$ ja (cW.e Y.m$ ja (jz$ pv 5)$ ja (pv 2) jb) jb) jp)$ jd (@QW _ _ _ _ _ _ _ _ _ _ (6) (["name","numbers"]) (1) ([2]) _ _ _ _ fe.nd Z (Or.inl Z) Z (qc$ jr jS (cC.e Y.m$ ja (pv 0)$ ja (jz$ pv 5) jb) jf (λ_ _=>Z)) vt (λ_ _ _ _ _=>(js (i:=0) vW Z$ Or.inl Z)) (λ_ _ _ _ _=>(@kM _)) (λ_ _ _ _ _=>(@Kn _ _ _ _ _ _ _ _ _ (zY Y) (pv 1) (pv 0) jf #[Sl,Sl,Sl,Sl])) Sl (by first |exact .inl Z |exact .inr Z) (by intro _;rfl))$ jg$ jm$ jh$ ja jk$ ja (jz$ pv 5)$ ja (jF jB Z m0 IQ$ ja (pv 6) jb) jb),?_];have b0:=aD;obtain⟨wa,sa,ga,ss,wd,u,rfl,W⟩:=yc hw;have R:∀g,ar D H g->ai H g:=λg k b xs e=>k b _ (jO e hd (by intro z;cases z)) e;have h2:=hp.sz;have h3:=wv.len;refine aj λF1 C=>eI λJ j=>(jv W.at' gn #[sa,Z,#[_,ax.of W.sat],j _ _ ?_]);clear j;refine Ko (K:=K) (xs:=ss) (EI D [some v,some$ .ref wa,some$ .ref D] O.sets k H) #[_,_,Z,hd,ar.refl] (λi σ g _ h=>?_) ?_ (λσ g h=>C _ _ ?_)
 ·obtain⟨_,_,_,_,I⟩:=h;exact ax.of$ R _ I _ _ W.sat
 ·intro E _ i x σ H1 hx f0 Gq kq h;obtain⟨o3,o4,rfl,L,I⟩:=h;clear C;obtain⟨s,p,hs,rfl,h0⟩:=W.sets i x hx;have S:=R _ I;have tv:=(wv.sets s$ Hu hs).mono S;have g1:GT (eJ (O.sets.take i) k):=qR (H:=H) (ys:=ys) (λs hs=>wv.sets s (Ii hs)) gk;have l1:=XD (ss:=O.sets.take i) (k:=k);rw[HL]at l1;refine kq ?_;clear kq;refine#[p,_,Z,ax.of$ S _ _ h0,Z,_,_,Z,_,_,Z,Z,?_];refine#[_,Z,_,Z,s.2.1,D,s.2.2,ys,_,Z,.inl tv.1,tv.2.2,tv.2.1,L,g1,_,Z,_,Z,D,_,Z,.inl #[_,.inr s.1,L,Z,Sf,Z],f0 _ _ #[_,_,Z,?_,λc o X e=>by rw[ji X];exact I c o X e]];rw[oU hs];exact jc
 ·obtain⟨o3,o4,rfl,L,I⟩:=h;rw[W.len,Im]at L;have S:=R _ I;have g1:GT (eJ O.sets k):=qR (H:=H) (ys:=ys) wv.sets gk;have B:=wv.goal;have a:=W.goal;generalize eJ O.sets k=N at L g1 q;refine aj λF1 C=>(jv (S _ _ W.at') l7$ C _ _ ?_);clear C;have G:=S _ _ W.gat;refine aj λF1 C=>uX λG1 k3 k0=>(jv G gn #[Z,_,Z,?_]);have give:∀(t:Addr) (T:Tm),wd="give"->u= .ref t->Gh K g T t->db ys T->(∀(u':V) (H9:Hp),aP H9 (aZ [bX "give",aY$ T.ev N]) u' []->ar D H H9->Q u' H9)->G1 (decide$ V.str wd=V.str "give") g:=by intro t T e1 e2 x1 x2 x3;subst e1;subst e2;rw[Hw Z];refine k3 _$ jv G l7 #[_,Z,t,D,T,ys,N,Z,x1,x2.2,x2.1,L,g1,bK,λr nr=>?_];exact x3 _ _ (jG jc$ jo Z j3$ jo Z kK jC) λc o X e=>je nr _ _ (I c o X e)
  cases hg:O.goal with
  |give t T=>rw[hg]at B a q;exact give t T a.1 a.2 (.inl$ B.1.mono S) B.2 q
  |nought=>rw[hg]at a q;exact give U (.num 0) a.1 a.2 (.inr #[Z,no _]) #[#[Se,Se],Se] q
  |go n=>
   rw[hg]at B a q;clear give k3;obtain⟨e1,e2⟩:=a;subst e1;subst e2;have hn:n < (bY U d).length:=by rw[Zj];exact B
   obtain⟨c,hc⟩:∃c,(bY U d)[n]?=some c:=#[_,G8 hn];have e0:decide (V.str "go"=V.str "give")=false:=by decide+kernel
   rw[e0];refine k0 _$ C _ _ ?_;clear k0 C;refine aj λF1 C=>#[_,Z,jv G l7 #[v,n,d,ys,c,Z,hp.mono S,hc,λka na w2 dv w3 ca=>#[ka,_,_,_,Z,Z,ax.of ca.at',gn,na,Z,#[_,ax.of ca.nms],?_]]];have cl:=Hr (QE ca.v.mem) hp.y20;have q:∀(u:V) (g:Hp),aP g (aZ [bX "go",aY (n:Int),aZ ((eV U d n).map λx=>aY (look N (.inr x) 0))]) u []->ar D H g->Q u g:=q;rw[rJ hc]at q;refine qr (K:=K) (xs:=(canon c.M).map V.str) (by rw[He];omega) (λi zs Hx=>zs=((canon c.M).take i).map (λx=>V.int (look N (.inr x) 0))/\Hx=g) #[Z,Z] (λi zs Hx h=>?_) (λi x zs Hx hx h=>?_) (λzs Hx h l nl=>C _ _ ?_)
   ·obtain⟨rfl,rfl⟩:=h;exact#[ax.of ca.nms,by rw[He,HL];omega]
   ·obtain⟨rfl,rfl⟩:=h;rw[HE]at hx;obtain⟨y,hy,rfl⟩:=Option.map_eq_some_iff.mp hx;refine#[_,Z,D,Z,.inl #[N,.inl L],_,Z,_,eO.k (k:=Sum.inr y) L,?_,Z];rw[Kq g1,IN,hy,Hz];rfl
   ·obtain⟨rfl,rfl⟩:=h;rw[He,Im];refine(jv (je nl _ _ G) l7 #[_,Z,l,_,Z,.inl #[aB.of jc,λtl n0=>#[dZ,λr nr=>?_]]]);refine q _ _ (jG jc$ jo Z j3$ jo Z kK$ jo Z (jG (am jc nr) ?_) jC) λc' o X e=>je nr _ _ (je n0 _ _$ je nl _ _$ I c' o X e);have:=JY (H:=af (af (af Hx l$ .lst ((canon c.M).map (λx=>V.int (look N (.inr x) 0)))) tl$ .tup ((canon c.M).map (λx=>V.int (look N (.inr x) 0)))) r (.tup [.str "go",.int (n:Int),.ref tl])) (is:=(canon c.M).map λx=>look N (.inr x) 0);rw[L9,L9]at this;exact this
structure lD(H:Hp)(nA:Addr)(d:Df)(ys:List Str)(v:V)(sa:Addr)(n:Nat)(hv:Addr)(uw:V)(c:Ct)(is:List Int)(wh:Wh)(e:DD)(wd:WD):Prop where
 prt:lY H nA d ys v
 at':H sa=some (.tup [.int (n:Int),.ref hv,uw])
 cut:(bY nA d)[n]?=some c
 hat:H hv=some (.tup$ is.map V.int)
 hl:is.length=(canon c.M).length
 hin:∀i∈is,gj i
 whv:Ad H uw wh
 ed:e.dd=c.d
 dv:y7 H ys e
 fit:EB e wh
 way:c.ws[wh.side]?=some (wd.wy nA)
 wdv:Ac H ys d.b.cuts d.b.size wd
theorem lD.mono(k:ai H a)(h:lD H N d y v s n b u c i f e g):lD a N d y v s n b u c i f e g:=
 #[h.prt.mono k,k _ _ h.at',h.cut,k _ _ h.hat,h.hl,h.hin,h.whv.mono k,h.ed,h.dv.mono k,h.fit,h.way,h.wdv.mono k]
noncomputable def Fv(n:Addr)(d:Df)(c:Ct)(i:List Int)(a:Wh)(e:DD)(W:WD):Tr:=rq (eV n d) (eJ W.sets$ vm e a$ cQ (canon c.M) i) W.goal
inductive fh(e:Addr)(g:List V)(H:Hp)(Q:VK)(a:XK):Prop
 |mk(v:V)(b:Addr)(d:Df)(h f:List Str)(c:List Int)(w:WD)(_:g=[v,.ref b])(_:lY H e d h v)(_:H d.pa=some (.tup (f.map V.str)))(_:f.length<=100)(_:H b=some (.tup (c.map V.int)))(_:c.length=f.length)(_:∀i∈c,gj i)(_:w.wy e=(gQ e d).1.w)(_:Ac H h d.b.cuts d.b.size w)(_:∀(u:V) (H':Hp),aP H' (rq (eV e d) (eJ w.sets (cQ f c)) w.goal) u []->ae H H'->Q u H')
inductive t6(g:Addr)(j:List V)(H:Hp)(Q:VK)(a:XK):Prop
 |mk(v i:V)(h b:Addr)(n:Nat)(d:Df)(m:List Str)(c:Ct)(f:List Int)(l:Wh)(e:DD)(k:WD)(_:j=[v,.ref h])(_:lD H g d m v h n b i c f l e k)(_:∀(u:V) (H':Hp),aP H' (Fv g d c f l e k) u []->ae H H'->Q u H')
theorem pq(h:EB e a)(g:GT k):GT (vm e a k):=by
 unfold vm;split
 ·exact g.put _ h
 ·exact g.put _ h
 ·exact g
theorem vo{e:DD}{wh:Wh}{k:cy}:(vm e wh k).length<=k.length+1:=by
 unfold vm;split
 ·exact qh
 ·exact qh
 ·exact IL _
theorem oW:ak ["part","args"] ["part","args"] (aa gR):=bu
theorem YJ(F:aK K "first_of" "first_of" gR f I)(J:Cl P w K mg base 8 fE L ["part","way","numbers"] (lN T) "end_of")(M:mg "dict"=none)(b:mg "zip"=none):ah P w K mg base aA 9 f I ["part","args"] (fh T):=by
 refine F.ok oW ?_ λR A O s H vs Q E U h=>?_
 ·rintro _ _ _ _ ⟨v,x,d,y,p,is,z,rfl,_⟩;rfl
 obtain⟨v,x,d,y,p,is,z,rfl,C,g,V,i,n,r,t,W,q⟩:=h;refine#[_,(jg$ jm$ J.e U.m$ ja (pv 0)$ ja (jz$ pv 0)$ ja (@Y9 _ _ _ _ _ _ _ _ Z M Z b Z (ja (jz$ pv 0)$ ja (pv 1) jb) Sl Sl Sl Sl) jb),?_];obtain⟨a,ca,X,cs,rfl,D,G,Y,h0⟩:=C.parts;rw[<- t]at G;refine#[_,Z,_,Z,a,_,_,_,Z,Z,ax.of D,jM (j:=2) Z,jv D l7 #[_,Z,d.pa,x,p.map Sum.inr,_,Z,by rw[Zm];exact ax.of g,ax.of i,by rw[He,He,n],λl N=>?_]];have S:ae H (af H l$ .dK$ cQ p is):=je N;have zl:=Zk (ns:=p) (is:=is);exact#[.ref a,X,l,d,y,z,cQ p is,Z,C.mono$ ae.tm S,G.mono$ ae.tm S,W.mono$ ae.tm S,jc,Kh r,Sf,λu H' tu k=>q u H' tu λc o e=>k c o (jl e N) (S _ _ e)]
theorem dQ:ak ["part","step","cut","numbers","what","way"] ["part","step"] (aa iT):=bu
theorem oK{f:Addr}{fd:FuncData}{nA fC fD fF fE:Addr}{f0 f3 f4 f5:FuncData}(F:aK K "onward" "onward" iT f fd)(cC:Cl P w K mg base 1 fC f0 ["part","n"] (g9 nA) "cut_at")(cD:Cl P w K mg base 2 fD f3 z12z (hX nA) "held_at")(cF:Cl P w K mg base 1 fF f4 ["what"] dX "found_in")(cE:Cl P w K mg base 8 fE f5 ["part","way","numbers"] (lN nA) "end_of"):ah P w K mg base aA 9 f fd ["part","step"] (t6 nA):=by
 refine F.ok dQ ?_ λc0 A o2 s H vs Q E hr h=>?_
 ·rintro _ _ _ _ ⟨v,O,sa,hv,n,d,ys,c,is,wh,e,wd,rfl,_⟩;rfl
 obtain⟨v,O,sa,hv,n,d,ys,c,is,wh,e,wd,rfl,C,q⟩:=h;refine#[_,(jd (jx 2 dQ.nd$ cC.e hr.m$ ja (pv 0)$ ja (jz$ pv 1) jb)$ jd (jx 3 dQ.nd$ cD.e hr.m$ ja (pv 0)$ ja (jz$ pv 1)$ ja (jz$ pv 1) jb)$ jd (jx 4 dQ.nd$ jz$ pv 1)$ jd (jw (jA zi (jz$ pv 4) (jh$ ja jk$ ja jk jb) Z) (jg$ JQ (zY hr) (pv 3) (jz$ jr jS (pv 2) jf (λ_ _=>Z)) (cF.e hr.m$ ja (pv 4) jb) Z) jp)$ jd (jx 5 dQ.nd$ zc (jA (Bu$ zY hr) (pv 4) (jh$ ja jk$ ja jf jb)$ aC _) (jz$ jr jS (pv 2) jf (λ_ _=>Z))$ jz$ jr jS (pv 2) jf (λ_ _=>Z))$ jg$ jm$ cE.e hr.m$ ja (pv 0)$ ja (pv 5)$ ja (pv 3) jb),?_];have b0:=aD;obtain⟨a,ca,wv,cs,rfl,ha,hw,h',a0⟩:=C.prt.parts;have h0:=C.at';refine aj λF1 L=>#[_,Z,jv h0 gn #[_,n,d,ys,c,Z,C.prt,C.cut,λka na wa dv w0 cu=>L _ _ ?_]];clear L;refine aj λF1 L=>#[_,Z,jv h0 gn$ jv h0 l7 #[_,n,hv,d,ys,c,is,Z,C.prt,C.cut,C.hat,C.hl,λD n0=>L _ _ ?_]];clear L;have s1:ae H (af H D$ .dK$ cQ (canon c.M) is):=je n0;have d1:af H D (.dK$ cQ (canon c.M) is) D=some (.dK$ cQ (canon c.M) is):=jc;generalize af H D (.dK$ cQ (canon c.M) is)=H1 at s1 d1;have R:=C.mono (ae.tm s1);have g0:GT (cQ (canon c.M) is):=Kh C.hin;have z0:=Zk (ns:=canon c.M) (is:=is);have z1:=QE cu.v.mem;have z2:=C.prt.y20;generalize h7:cQ (canon c.M) is=k0 at d1 g0 z0;refine aj λF1 L=>#[_,Z,sa,_,_,_,Z,Z,ax.of R.at',jM (j:=2) Z,L _ _ ?_];clear L;have o1:Fv nA d c is wh e wd=rq (eV nA d) (eJ wd.sets$ vm e wh k0) wd.goal:=by unfold Fv;rw[h7]
 rw[o1]at q;have h1:=zD cu.ways;rw[He]at h1;have I:∃x,w0[wh.side]?=some x/\aP H (gA$ wd.wy nA) x []:=by
  have hj:wh.side < w0.length:=by rw[h1];exact(List.getElem?_eq_some_iff.mp C.way).1
  obtain⟨tr,ht,tx⟩:=Ji cu.ways wh.side _ (G8 hj);rw[HE,C.way]at ht;cases ht;exact#[_,G8 hj,tx]
 obtain⟨wx,I,t0⟩:=I;have h4:=cu.at';have h8:=cu.wat;refine aj λF1 L=>?_;have r0:∀(H3:Hp),H3 D=some (.dK$ vm e wh k0)->ar D H1 H3->F1 [some$ .ref a,some$ .ref sa,some$ .ref ka,some$ .ref D,some O,none] H3:=by
  intro H3 h3 k3;refine L _ _ ?_;clear L;have s3:ae H H3:=λc o x=>k3 c o (jl x n0) (s1 _ _ x);have l3:=vo (e:=e) (wh:=wh) (k:=k0);refine aj λF2 f2=>?_;have f6:∀H4,ae H3 H4->F2 [some$ .ref a,some$ .ref sa,some$ .ref ka,some$ .ref D,some O,some wx] H4:=λH4 s4=>f2 _ _ (by
   have S:=s3.trans s4;exact#[_,Z,_,Z,_,Z,.ref a,wx,D,d,ys,wd,_,Z,C.prt.mono$ ae.tm S,t0.mono$ ae.tm S,C.wdv.mono$ ae.tm S,s4 _ _ h3,pq C.fit g0,Sf,λu X tu k=>q u X tu λc o x=>k c o (jl x n0) (S _ _ x)])
  clear f2;have wk:=C.whv.mono (ae.tm s3);have G:∀(H4:Hp) (j:Nat),ae H3 H4->w0[j]?=some wx->dD (eY K) (dD (eY K) (aV 2)$ tC$ .int 2) (tC$ .int (j:Int)) [some$ .ref a,some$ .ref sa,some$ .ref ka,some$ .ref D,some O,none] H4 λx H5=>F2 ([some$ .ref a,some$ .ref sa,some$ .ref ka,some$ .ref D,some O,none].set 5 (some x)) H5:=λH4 j s4 hj=>
   #[_,Z,ka,_,_,_,Z,Z,ax.of ((s3.trans s4) _ _ h4),jM (j:=2) Z,wa,_,_,_,Z,Z,ax.of ((s3.trans s4) _ _ h8),jM hj,f6 H4 s4]
  cases wh with
  |rd a' i |wr a' b=>obtain⟨p,rfl,B⟩:=wk;exact#[_,Z,bK,λt N=>#[p,t,_,_,Z,Z,ax.of$ je N _ _ B,ax.of jc,.inl #[Z,Z,_,Z,aO (by unfold mw;exact Nb _)$ G _ 0 (je N) I]]]
  |ask b=>
   obtain⟨p,rfl,B⟩:=wk;have hb:b=0∨b=1:=by
    have:=C.fit;cases e with
    |st p l=>cases l<;>exact this.elim
    |ask t T=>exact this
   rcases hb with rfl |rfl
   ·exact#[_,Z,bK,λt N=>#[p,t,_,_,Z,Z,ax.of$ je N _ _ B,ax.of jc,.inl #[Z,Z,_,Z,bQ Sj$ G _ 1 (je N) I]]]
   ·exact#[_,Z,bK,λt N=>#[p,t,_,_,Z,Z,ax.of$ je N _ _ B,ax.of jc,.inl #[Z,Z,_,Z,aO Sj$ G _ 0 (je N) I]]]
  |cl f' i0 i=>obtain⟨p,c',g,e',rfl,B,h9,_⟩:=wk;exact#[_,Z,bK,λt N=>#[p,t,_,_,Z,Z,ax.of$ je N _ _ B,ax.of jc,.inr #[_,c',_,_,_,Z,ax.of$ je N _ _ h9,Z,_,Z,aO Z$ G _ 0 (je N) I]]]
 have wk:=R.whv;have dk:=R.dv;have fk:=R.fit;have h5:=s1 _ _ h4;have d0:=cu.deed;rw[<- C.ed]at d0;have skip:∀(p:Addr) (W:Str) (r:List V),O= .ref p->H1 p=some (.tup (.str W::r))->nj (.str W) [.str "read",.str "call"]=false->vm e wh k0=k0->lg (ik$ dD (D0 K false) (dD (eY K) (aV 4)$ tC$ .int 0)$ bL$ al (tC$ .str "read")$ al (tC$ .str "call") aM) (sQ (aV 3) (dD (eY K) (dD (eY K) (aV 2)$ tC$ .int 1)$ tC$ .int 1)$ dC dX [] E0$ al (aV 4) aM) uu { nx:=F1,rt:=Q } [some$ .ref a,some$ .ref sa,some$ .ref ka,some$ .ref D,some O,none] H1:=by intro p W r J B e2 e3;subst J;refine uX λG1 k1 k2=>(jv B gn #[bK,λt N=>#[t,_,Z,.inr$ ax.of jc,Z,Z,_,Z,?_]]);show G1 (nj (.str W) [.str "read",.str "call"]) _;rw[e2];exact k2 _$ r0 _ (by rw[e3];exact am d1 N) λc o _ x=>je N _ _ x
 have p0:∀(p p':Addr) (W:Str) (r:List V) (i:Int) (x:Str) (y:V) (r':List V),O= .ref p->H1 p=some (.tup (.str W::r))->nj (.str W) [.str "read",.str "call"]=true->dv= .ref p'->H1 p'=some (.tup (y:: .str x::r'))->(∀X:Hp,ae H1 X->Ad X O wh)->(∀(Q':VK) (X:Hp),Q' (.int i) X->pW Q' X wh)->vm e wh k0=bJ k0 (.inr x) (.int i)->lg (ik$ dD (D0 K false) (dD (eY K) (aV 4)$ tC$ .int 0)$ bL$ al (tC$ .str "read")$ al (tC$ .str "call") aM) (sQ (aV 3) (dD (eY K) (dD (eY K) (aV 2)$ tC$ .int 1)$ tC$ .int 1)$ dC dX [] E0$ al (aV 4) aM) uu { nx:=F1,rt:=Q } [some$ .ref a,some$ .ref sa,some$ .ref ka,some$ .ref D,some O,none] H1:=by intro p p' W r i x y r' J B e2 e4 Y e5 e6 e3;subst J;subst e4;refine uX λG1 k1 k2=>(jv B gn #[bK,λt N=>#[t,_,Z,.inr$ ax.of jc,Z,Z,_,Z,?_]]);show G1 (nj (.str W) [.str "read",.str "call"]) _;rw[e2];refine k1 _ #[_,Z,.ref p,wh,Z,e5 _$ je N,e6 _ _ ?_];exact#[_,Z,jv (je N _ _ h5) l7 #[p',_,_,_,Z,Z,ax.of$ je N _ _ Y,l7,D,_,Z,.inl #[k0,.inr x,am d1 N,Z,Sf,Z],r0 _ (by rw[e3];exact jc) λc o nc z=>by rw[ji nc];exact je N _ _ z]]
 cases e with
 |ask t T=>
  cases wh with
  |ask b=>obtain⟨p,J,B⟩:=wk;exact skip p _ _ J B Sj Z
  |_=>exact fk.elim
 |st p' l=>
  obtain⟨vs,Y,h6,_⟩:=dk;have ed:dv= .ref p':=d0.1;cases l with
  |rd x t T=>
   cases wh with
   |rd b i=>obtain⟨p,J,B⟩:=wk;obtain⟨rfl,_⟩:=h6;exact p0 p p' _ _ i x _ _ J B Sj ed Y (λX s'=>#[p,J,s' _ _ B]) (λ_ _ h=>h) Z
   |_=>exact fk.elim
  |wr t u T U=>
   cases wh with
   |wr b i=>obtain⟨p,J,B⟩:=wk;exact skip p _ _ J B Sj Z
   |_=>exact fk.elim
  |cl x f' q' ts=>
   cases wh with
   |cl f2 i1 i=>obtain⟨p,c2,g2,e2,J,B,h2,h3⟩:=wk;obtain⟨rfl,_⟩:=h6;exact p0 p p' _ _ i x _ _ J B Sj ed Y (λX s'=>#[p,c2,g2,e2,J,s' _ _ B,s' _ _ h2,s' _ _ h3]) (λ_ _ h=>h) Z
   |_=>exact fk.elim
  |st x t T |gv t T=>cases wh<;>exact fk.elim
noncomputable abbrev gH:Stmt:=bE 45
noncomputable abbrev iK:Stmt:=bE 46
noncomputable def Gj(k:cy):DD->Tr
 | .st _ (.rd _ _ T)=>aZ [bX "read",aY (T.ev k)]
 | .st _ (.wr _ _ T U)=>aZ [bX "write",aY (T.ev k),aY (U.ev k)]
 | .st _ (.cl _ f _ t)=>aZ [bX "call",bX f,aZ (t.map λc=>aY (c.2.ev k))]
 | .ask _ T=>aZ [bX "ask",aY (if T.ev k=0 then 0 else 1)]
 |_=>.nil
inductive fg(g:Addr)(h:List V)(H:Hp)(Q:VK)(a:XK):Prop
 |mk(v:V)(n:Nat)(b:Addr)(d:Df)(j:List Str)(c:Ct)(f:List Int)(e:DD)(_:h=[v,.int (n:Int),.ref b])(_:lY H g d j v)(_:(bY g d)[n]?=some c)(_:H b=some (.tup (f.map V.int)))(_:f.length=(canon c.M).length)(_:∀i∈f,gj i)(_:e.dd=c.d)(_:y7 H j e)(_:∀(u:V) (H':Hp),aP H' (Gj (cQ (canon c.M) f) e) u []->ae H H'->Q u H')
inductive fu(f:List V)(H:Hp)(Q:VK)(b:XK):Prop
 |mk(a d:Addr)(e:List (Addr×Tm))(g:List Str)(k:cy)(_:f=[.ref a,.ref d])(_:H a=some (.tup (e.map λc=>V.ref c.1)))(_:e.length<=6)(_:∀c∈e,a7 H c.2 c.1/\db g c.2)(_:H d=some (.dK k))(_:GT k)(_:∀(r:Addr) (H':Hp),H' r=some (.tup (e.map λc=>V.int (c.2.ev k)))->ae H H'->Q (.ref r) H')
theorem tP:ak ["terms","numbers"] ["terms","numbers"] (aa gH):=bu
noncomputable def YK:Scope:=#[.function,[(".0",.local),("term",.local),("worth",.globalImplicit),("numbers",.free)],false,false,[]]
theorem vY:(["term","numbers"]:List Str).Nodup:=by decide+kernel
theorem vA:aT ["terms","numbers"] (aa gH) YK ["term","numbers"] 1 [1]:=l8
theorem oN(F:aK K "worths" "worths" gH f v)(C:Cl P w K mg base 7 U B z9z (b6 K 6) "worth")(M:mg "tuple"=none):ah P w K mg base aA 8 f v ["terms","numbers"] fu:=by
 refine F.ok tP ?_ λG A o s H R Q E I h=>?_
 ·rintro _ _ _ _ ⟨a,D,t,g,k,rfl,_⟩;rfl
 obtain⟨a,D,t,g,k,rfl,p,W,b,J,L,q⟩:=h;refine#[_,(jg$ jm$ jF jB Z M IQ$ ja (@ki _ _ _ _ _ _ _ (["term","numbers"]) (1) ([1]) _ _ _ _ Z (qc$ pv 0) vA (λ_ _ _ _ _=>(js (i:=0) vY Z$ Or.inl Z)) (λ_ _ _ _ _=>(@kM _)) (λ_ _ _ _ _=>(C.e I.m$ ja (pv 0)$ ja (pv 1) jb)) (by intro _;rfl)) jb),?_];have N:=aD;refine#[_,Z,a,Z,#[_,ax.of p],?_];refine qr (K:=K) (xs:=t.map λc=>V.ref c.1) (by rw[He];omega) (λi z d=>z=(t.take i).map (λc=>V.int (c.2.ev k))/\d=H) #[Z,Z] (λi z d h=>?_) (λi x z d r h=>?_) (λz d h l O=>?_)
 ·obtain⟨rfl,rfl⟩:=h;exact#[ax.of p,by rw[He,HL];omega]
 ·obtain⟨rfl,rfl⟩:=h;rw[HE]at r;obtain⟨y,u,rfl⟩:=Option.map_eq_some_iff.mp r;have Y:=Hu u;refine#[_,Z,_,Z,y.1,D,y.2,g,k,Z,.inl (b y Y).1,(b y Y).2.2,(b y Y).2.1,J,L,?_,Z];rw[IN,u,Hz];rfl
 ·obtain⟨rfl,rfl⟩:=h;rw[He,Im];exact#[l,_,Z,.inl #[aB.of jc,λT n=>q T _ jc ((je O).trans$ je n)]]
theorem fc:ak ["part","n","held","numbers","deed","word"] z12z (aa iK):=bu
theorem oE(F:aK K "deed_at" "deed_at" iK f fd)(cH:Cl P w K mg base 2 fH f0 z12z (hX nA) "held_at")(cC:Cl P w K mg base 1 fC f2 ["part","n"] (g9 nA) "cut_at")(cW:Cl P w K mg base 7 fW f3 z9z (b6 K 6) "worth")(cS:Cl P w K mg base 8 fS f4 ["terms","numbers"] fu "worths"):ah P w K mg base aA 9 f fd z12z (fg nA):=by
 refine F.ok fc ?_ λc0 A o1 s H vs Q E L h=>?_
 ·rintro _ _ _ _ ⟨v,n,hv,d,Y,c,is,e,rfl,_⟩;rfl
 obtain⟨v,n,hv,d,Y,c,is,e,rfl,hp,hc,hh,hl,h0,h1,h2,q⟩:=h;refine#[_,(jd (jx 3 fc.nd$ cH.e L.m$ ja (pv 0)$ ja (pv 1)$ ja (pv 2) jb)$ jd (jx 4 fc.nd$ jr jS (cC.e L.m$ ja (pv 0)$ ja (pv 1) jb) jf (λ_ _=>Z))$ jd (jx 5 fc.nd$ jz$ pv 4)$ jd (jw (ke$ pv 5) (jg$ jm$ jh$ ja (pv 5)$ ja (zc (jA Jx (cW.e L.m$ ja (jz$ pv 4)$ ja (pv 3) jb) jf$ aC _) jf jf) jb) jp)$ jd (jw (ke$ pv 5) (jg$ jm$ jh$ ja (pv 5)$ ja (jz$ pv 4)$ ja (cS.e L.m$ ja (jz$ pv 4)$ ja (pv 3) jb) jb) jp)$ jd (jw (ke$ pv 5) (jg$ jm$ jh$ ja (pv 5)$ ja (cW.e L.m$ ja (jz$ pv 4)$ ja (pv 3) jb) jb) jp)$ jg$ jm$ ju jU (jh$ ja (pv 5) jb)$ cS.e L.m$ ja (jK zC (pv 4) (jI jf) j8)$ ja (pv 3) jb),?_];have b0:=aD;obtain⟨a,ca,p0,cs,rfl,ha,_,h7,h8⟩:=hp.parts;refine aj λi b=>#[_,Z,_,Z,_,Z,.ref a,n,hv,d,Y,c,is,Z,hp,hc,hh,hl,λC n0=>b _ _ ?_];clear b;have S:ae H (af H C$ .dK$ cQ (canon c.M) is):=je n0;have O:af H C (.dK$ cQ (canon c.M) is) C=some (.dK$ cQ (canon c.M) is):=jc;show gf _ _ _ _ (af H C$ .dK$ cQ (canon c.M) is);generalize af H C (.dK$ cQ (canon c.M) is)=H1 at S O;have V:GT (cQ (canon c.M) is):=Kh h0;generalize cQ (canon c.M) is=k at O V q;have dk:=h2.mono (ae.tm S);refine aj λi b=>#[_,Z,_,Z,.ref a,n,d,Y,c,Z,hp.mono$ ae.tm S,hc,λka na wa dv w0 cu=>#[ka,_,_,_,Z,Z,ax.of cu.at',l7,b _ _ ?_]];clear b;have D:=cu.deed;rw[<- h1]at D;cases e with
 |ask t T=>
  obtain⟨_,p,xs,rfl,g,_,_,y0,z0,rfl,⟨rfl,_⟩,_,_,y1,z1,rfl,⟨rfl,_⟩,e⟩:=D;have e:z1=[]:=e;subst e;refine aj λi b=>(jv g gn$ b _ _ ?_);clear b;refine aj λi b=>#[_,Z,Z,_,Z,bQ Sj #[_,Z,jv g l7 #[_,Z,t,C,T,Y,k,Z,.inl dk.1,dk.2.2,dk.2.1,O,V,Z,_,Z,?_]]];by_cases z:T.ev k=0
  ·refine bQ (by rw[z];decide+kernel) #[bK,λr G=>q _ _ (jG jc$ jo Z j3$ jo Z #[?_,Z] jC) (S.trans$ je G)];rw[HD z]
  ·refine aO (by rw[Hk];intro e;injection e with e;exact z e) #[bK,λr G=>q _ _ (jG jc$ jo Z j3$ jo Z #[?_,Z] jC) (S.trans$ je G)];rw[HG z]
 |st p l=>
  have ed:dv= .ref p:=D.1;subst ed;obtain⟨vs,g,I,B,h3⟩:=dk;cases l with
  |rd x t T=>obtain⟨rfl,ht⟩:=I;refine aj λi b=>(jv g gn$ b _ _ ?_);clear b;refine aj λi b=>#[_,Z,Z,_,Z,aO Sj$ b _ _ ?_];clear b;refine aj λi b=>#[_,Z,Z,_,Z,aO Sj$ b _ _ ?_];clear b;refine aj λi b=>#[_,Z,Z,_,Z,bQ Sj #[_,Z,_,Z,p,_,_,_,Z,Z,ax.of g,jM (j:=2) Z,_,Z,t,C,T,Y,k,Z,.inl ht,B.2.2,B.2.1,O,V,bK,λr G=>?_]];exact q _ _ (jG jc$ jo Z j3$ jo Z kK jC)$ S.trans$ je G
  |wr t u T U=>
   obtain⟨rfl,ht,hu⟩:=I;refine aj λi b=>(jv g gn$ b _ _ ?_);clear b;refine aj λi b=>#[_,Z,Z,_,Z,aO Sj$ b _ _ ?_];clear b;refine aj λi b=>#[_,Z,Z,_,Z,aO Sj$ b _ _ ?_];clear b;refine aj λi b=>#[_,Z,Z,_,Z,aO Sj$ b _ _ ?_];clear b;refine#[_,Z,gK,λr1 N=>#[_,Z,1,Z,p,_,Z,je N _ _ g,λr2 H2 J R=>#[_,Z,r2,C,[(t,T),(u,U)],Y,k,Z,J,(by show 2<=6;decide),?_,R _ _$ je N _ _ O,V,λr3 H3 h4 s3=>#[r1,r3,_,_,Z,Z,s3 _ _$ R _ _ jc,h4,dZ,λr4 H4 h5 s4=>?_]]]]
   ·intro y W;have X:=(je (o:=.tup [.str "write"]) N).trans R;simp only[IW,HK,Mp]at W;rcases W with rfl |rfl
    ·exact#[ht.same X,B.1]
    ·exact#[hu.same X,B.2]
   ·exact q _ _ (jG h5$ jo Z j3$ jo Z kK$ jo Z kK jC)$ S.trans ((je N).trans$ R.trans$ s3.trans s4)
  |cl x f' qa ts=>obtain⟨rfl,hq,h6⟩:=I;refine aj λi b=>(jv g gn$ b _ _ ?_);clear b;refine aj λi b=>#[_,Z,Z,_,Z,aO Sj$ b _ _ ?_];clear b;have l6:ts.length<=6:=B.2.1;refine aj λi b=>#[_,Z,Z,_,Z,bQ Sj #[_,Z,_,Z,p,_,_,_,Z,Z,ax.of g,jM (j:=2) Z,_,Z,p,_,_,_,Z,Z,ax.of g,jM (j:=3) Z,_,Z,qa,C,ts,Y,k,Z,hq,l6,λy W=>#[h6 y W,B.2.2 y W],O,V,λr2 H2 J R=>#[dZ,λr G=>?_]]];refine q _ _ (jG jc$ jo Z j3$ jo Z j3$ jo Z (jG (am J G) ?_) jC)$ S.trans$ R.trans$ je G;have:=JY (H:=af H2 r (.tup [.str "call",.str f',.ref r2])) (is:=ts.map λc=>c.2.ev k);rw[L9,L9]at this;exact this
  |st x t T |gv t T=>cases h3
noncomputable abbrev iR:Stmt:=bE 37
noncomputable abbrev mz:Stmt:=bE 38
noncomputable abbrev iM:Stmt:=bE 39
noncomputable abbrev sZ:Stmt:=bV (bE 40) 0
noncomputable abbrev mJ:Stmt:=bV (bE 40) 1
noncomputable abbrev tj:Stmt:=bV (bE 40) 2
noncomputable abbrev iU:Stmt:=bE 42
def CQ(H:Hp)(x:V)(g:Str):Prop:=∃p r,x= .ref p/\H p=some (.tup (.str g::r))
inductive i6(c:List V)(H:Hp)(Q:VK)(b:XK):Prop
 |mk(a:Addr)(f:Str)(d:List V)(i:Nat)(v:V)(_:c=[.ref a,.str f])(_:H a=some (.tup d))(_:d[i]?=some v)(_:CQ H v f)(_:∀j x,j < i->d[j]?=some x->∃g,CQ H x g/\g≠f)(_:Q v H)
inductive gI(e:List V)(H:Hp)(Q:VK)(b:XK):Prop
 |mk(a g:Addr)(f:Str)(h k:List V)(i:Nat)(v:V)(p c:Addr)(r d:List V)(_:e=[.ref a,.str f,.ref g])(_:H a=some (.tup h))(_:h[i]?=some v)(_:v= .ref p)(_:H p=some (.tup (.str f:: .ref c::r)))(_:H c=some (.tup d))(_:H g=some (.tup k))(_:k.length=d.length)(_:∀j x,j < i->h[j]?=some x->∃g,CQ H x g/\g≠f)(_:Q v H)
noncomputable def gM(c l p:Addr)(m:Int)(t:Nat):List (Str×V):=[("cells",.ref c),("most",.int m),("left",.ref l),("turns",.int (t:Int)),("parts",.ref p)]
structure Rn(H:Hp)(C r dx cA lA pA:Addr)(m:Int)(t:Nat)(L Cs:cy):Prop where
 ins:H r=some (.ins C dx$ gM cA lA pA m t)
 lf:H lA=some (.dK L)
 ce:H cA=some (.dK Cs)
 iL:GT L
 iC:GT Cs
 cl:cA≠lA
structure RK(K:Frag)(C:Addr):Prop where
 cl:oj K C
 n1:bq K C "cells"
 n2:bq K C "most"
 n3:bq K C "left"
 n4:bq K C "turns"
 n5:bq K C "parts"
inductive fi(C:Addr)(h:List V)(H:Hp)(Q:VK)(a:XK):Prop
 |mk(r e d f g:Addr)(m c:Int)(t:Nat)(L b:cy)(_:h=[.ref r,.int c])(_:Rn H C r e d f g m t L b)(_:Q (.int (look L (.inl c) (look b (.inl c) 0))) H)
inductive i'(C:Addr)(d:List V)(H:Hp)(Q:VK)(a:XK):Prop
 |mk(r c b:Addr)(m:Int)(_:d=[.ref r,.ref b,.int m])(_:H r=some (.ins C c []))(_:∀lA,H lA=none->Q .non (af (af H lA (.dK [])) r (.ins C c [("cells",.ref b),("most",.int m),("left",.ref lA),("turns",.int 0)])))
structure XM(K:Frag)(mg:Str->Option Value)(x:Str)(L:Addr):Prop where
 ex:excIn K L mv "ValueError.__new__"=true
 kp:keepIn K (.ref L)=true
 xc:gw K L
 ty:typeIn K (.ref L)=some (.type "type")
 m:mg x=some (.ref L)
def NX(o:HO):Prop:=∀a,o≠ .ext a
def Kp(H h:Hp):Prop:=∀b o,NX o->H b=some o->h b=some o
theorem Kp.of_same(s:ae H h):Kp H h:=λb o _ e=>s _ _ e
theorem Kp.trans(a:Kp H h)(b:Kp h d):Kp H d:=λc o n e=>b c o n (a c o n e)
def nq(E:XK):XK:=λC d H=>∀x T t c,C= .ref c->H x=some (dW c d T x)->H T=some (dH T)->H t=none->E (.ref c) d (af (af H t$ dH t) x$ dW c d t x)
theorem zj{P:Program}{w:World}{K:Frag}{mg:Str->Option Value}{base:Heap}:dh (dG P w) (eQ (dG P w) P w K mg base N q s f g A o a H E) (nq E):=
 wJ λx C d T t i b c e h=>h x T t C Z b c e
theorem qS{H h:Hp}(e:h b=some o)(n:NX o)(a:h x=some (dW C d T x))(c:h t=none):af (af h t$ dH t) x (dW C d t x) b=some o:=by
 have N:b≠x:=λz=>by rw[z,a]at e;injection e with e;exact n _ e.symm
 rw[ji N,ji$ jl e c];exact e
def Fl(E:XK)(L:Addr)(R:Hp->Prop):Prop:=∀(_:Unit) H,R H->E (.ref L) none H
inductive ii(C L:Addr)(e:List V)(H:Hp)(Q:VK)(E:XK):Prop
 |mk(r b a c d:Addr)(m:Int)(t:Nat)(_:e=[.ref r])(_:H r=some (.ins C b (gM a c d m t)))(_:(t:Int) < m->Q .non (af H r (.ins C b (gM a c d m (t+1)))))(_:m<=(t:Int)->Fl E L (Kp H))
inductive dR(D:Addr)(a:List V)(H:Hp)(Q:VK)(E:XK):Prop
 |mk(d:Int)(_:a=[.int d])(_:d < 15->Q (.int (d+1)) H)(_:15<=d->Fl E D (Kp H))
theorem zM{H:Hp}(a:H x=none)(N:af H x (yj L none x) T=none):ae H (af (af (af H x$ yj L none x) T$ dH T) x$ dW L d T x):=by intro b o e;have n:b≠x:=jl e a;rw[ji n,ji (λz=>by rw[<- z,ji n,e]at N;cases N),ji n];exact e
theorem lK:ak ["ones","f","one"] ["ones","f"] (aa iR):=bu
theorem oJ(F:aK K "named" "named" iR f D):ah P w K mg base aA 1 f D ["ones","f"] i6:=by
 refine F.ok lK ?_ λG A o s H W Q E X h=>?_
 ·rintro _ _ _ _ ⟨a,f,xs,i,v,rfl,_⟩;rfl
 obtain⟨a,f,xs,i,v,rfl,t,u,L,d,q⟩:=h;refine#[_,(jd (km HZ Z (qc$ pv 0) (js (i:=2) lK.nd Z$ Or.inl Z)$ jg$ jw (jA Jx (jz$ pv 2) (pv 1)$ aC _) (jg$ jm$ pv 2) jp)$ @sy _ _),?_];have M:i < xs.length:=(List.getElem?_eq_some_iff.mp u).1;refine aj λY f1=>eI λJ j=>#[_,Z,a,Z,#[_,ax.of t],j _ _ ?_];clear j;refine Ko (K:=K) (xs:=xs) (λk c e=>(∃O,c=[some$ .ref a,some$ .str f,O])/\e=H/\k<=i) #[#[_,Z],Z,Ho _] (λk c e _ h=>by rw[h.2.1];exact ax.of t) ?_ (λc e h=>?_)
 ·intro l R k x c H2 m N I b h;obtain⟨⟨O,rfl⟩,rfl,y⟩:=h;refine b ?_;clear b;by_cases S:k=i
  ·subst S;rw[u]at m;cases m;obtain⟨p,r,rfl,n⟩:=id L;show lg _ _ _ l _ _;refine uX λT B C=>(jv n gn #[_,Z,Z,_,Z,?_]);rw[Hw (Z:V.str f=V.str f)];refine B _ ?_;show iy _ l _ _;unfold iy;rw[R];exact#[_,Z,q]
  ·obtain⟨g,⟨p,r,rfl,n⟩,U⟩:=d k x Sf m;show lg _ _ _ l _ _;refine uX λT B C=>(jv n gn #[_,Z,Z,_,Z,?_]);rw[Hk (λz=>U (by injection z))];exact C _$ N _ _ #[#[_,Z],Z,Sf]
 ·obtain⟨_,_,y⟩:=h;exact absurd y Sf
theorem tM:ak ["parts","f"] ["parts","f"] (aa iU):=bu
theorem oM(F:aK K "part_of" "part_of" iU f c)(C:Cl P w K mg base 1 r d ["ones","f"] i6 "named"):ah P w K mg base aA 2 f c ["parts","f"] i6:=by
 refine F.ok tM ?_ λg A o s H V Q E j h=>?_
 ·rintro _ _ _ _ ⟨a,f,x,i,v,rfl,_⟩;rfl
 obtain⟨a,f,x,i,v,rfl,l,n,p,b,q⟩:=h;refine#[_,(jg$ jm$ C.e j.m$ ja (pv 0)$ ja (pv 1) jb),?_];exact#[_,Z,_,Z,a,f,x,i,v,Z,l,n,p,b,q]
theorem nK:ak ["ones","f","args","one"] ["ones","f","args"] (aa mz):=bu
theorem rN(F:aK K "begun" "begun" mz f j)(C:Cl P w K mg base 1 N l ["ones","f"] i6 "named")(M:mg "len"=none):ah P w K mg base aA 2 f j ["ones","f","args"] gI:=by
 refine F.ok nK ?_ λn A o s H V Q E t h=>?_
 ·rintro _ _ _ _ ⟨a,g,f,x,y,i,v,p,c,r,u,rfl,_⟩;rfl
 obtain⟨a,g,f,x,y,i,v,p,c,r,u,rfl,z,B,rfl,d,D,G,I,J,q⟩:=h;refine#[_,(jd (jx 3 nK.nd$ C.e t.m$ ja (pv 0)$ ja (pv 1) jb)$ jd (jw (jA sg (jH jE Z M Ih$ ja (pv 2) jb) (jH jE Z M Ih$ ja (jz$ pv 3) jb)$ aC _) (@sy _ _) jp)$ jg$ jm$ pv 3),?_];refine aj λL b=>#[_,Z,_,Z,a,f,x,i,.ref p,Z,z,B,#[p,_,Z,d],J,b _ _ ?_];clear b;refine aj λL b=>#[_,Z,g,_,Z,.inr$ ax.of G,jv d l7 #[c,_,Z,.inr$ ax.of D,Z,_,Z,aO (by rw[I];simp)$ b _ _ #[_,Z,q]]]
theorem tF:ak ["deep"] ["deep"] (aa iM):=bu
theorem oF(F:aK K "deeper" "deeper" iM f a)(M:mg "DEEPEST"=some (.int 15 t))(X:XM K mg "TooDeep" D):ah P w K mg base (dG P w) 1 f a ["deep"] (dR D):=by
 refine F.ok1 tF ?_ λC A o s H V Q E g h=>?_
 ·rintro _ _ _ _ ⟨d,rfl,_⟩;rfl
 obtain⟨d,rfl,q,e⟩:=h;refine#[_,(jd (jw (jA sf (pv 0) (kY (v:=.int 15) Z M #[t,Z])$ aC _) (jg$ @qV _ _ _ _ _ Z qp$ @qo _ _ _ _ _ X.ex X.kp Z X.m Se) jp)$ jg$ jm$ ju jY (pv 0) jf),?_];refine aj λi b=>#[_,Z,_,_,Z,Z,_,Z,?_];by_cases c:(15:Int)<=d
 ·refine bQ (Hw c) λx n=>?_;exact#[x,D,none,Z,jc,X.xc,X.ty,λT N=>e c () _ (Kp.of_same$ zM n N)]
 ·exact aO (Hk c)$ b _ _ #[_,Z,_,_,Z,Z,q Sf]
theorem Cc:ak z23z z23z (aa sZ):=bu
theorem wD(F:aK K "__init__" "Turns.__init__" sZ f v)(c:RK K C):ah P w K mg base aA 1 f v z23z (i' C):=by
 refine F.ok Cc ?_ λx A o s H V Q E B h=>?_
 ·rintro _ _ _ _ ⟨r,D,y,m,rfl,_⟩;rfl
 obtain⟨r,D,y,m,rfl,g,q⟩:=h;refine#[_,(jd (@qC _ _ _ _ _ _ _ _ (pv 0) (pv 1) Z)$ jd (@qC _ _ _ _ _ _ _ _ (pv 0) (pv 2) Z)$ jd (@qC _ _ _ _ _ _ _ _ (pv 0) Xn Z)$ jg$ @qC _ _ _ _ _ _ _ _ (pv 0) jf Z),?_];refine aj λj a=>#[_,Z,_,Z,r,C,D,_,Z,g,c.cl,c.n1,Se,a _ _ ?_];clear a;refine aj λj a=>#[_,Z,_,Z,r,C,D,_,Z,jc,c.cl,c.n2,(by show 1 < 1000;decide),a _ _ ?_];clear a;refine aj λj a=>λl n=>#[_,Z,r,C,D,_,Z,am jc n,c.cl,c.n3,(by show 2 < 1000;decide),a _ _ ?_];clear a;refine#[_,Z,r,C,D,_,Z,jc,c.cl,c.n4,(by show 3 < 1000;decide),?_];have N:l≠r:=λe=>by rw[e,jc]at n;cases n
 have z:H l=none:=by rw[ji N,ji N]at n;exact n
 have e:∀p t u O:HO,af (af (af (af (af H r p) r t) l$ .dK []) r u) r O=af (af H l$ .dK []) r O:=λp t u O=>by
  funext b;by_cases d:b=r
  ·rw[d,jc,jc]
  ·rw[ji d,ji d,ji d];by_cases i:b=l
   ·rw[i,jc,jc]
   ·rw[ji i,ji d,ji d,ji i]
 rw[e];exact q l z
theorem xG:ak ["self"] ["self"] (aa mJ):=bu
theorem rX(F:aK K "take_turn" "Turns.take_turn" mJ f g)(b:RK K C)(X:XM K mg "TooLong" L):ah P w K mg base (dG P w) 1 f g ["self"] (ii C L):=by
 refine F.ok1 xG ?_ λi A o s H v Q E y h=>?_
 ·rintro _ _ _ _ ⟨r,d,j,l,p,m,t,rfl,_⟩;rfl
 obtain⟨r,d,j,l,p,m,t,rfl,a,q,e⟩:=h;refine#[_,(jd (jw (jA sf (zo (pv 0) Z) (zo (pv 0) Z)$ aC _) (jg$ @qV _ _ _ _ _ Z qp$ @qo _ _ _ _ _ X.ex X.kp Z X.m Se) jp)$ jg$ @ZE _ _ _ _ _ _ _ _ _ _ (pv 0) jf AD),?_];refine aj λz n=>#[_,Z,r,C,d,_,_,Z,a,b.cl,b.n4,Z,_,Z,r,C,d,_,_,Z,a,b.cl,b.n2,Z,_,_,Z,Z,_,Z,?_];by_cases c:m<=(t:Int)
 ·refine bQ (Hw c) λx N=>?_;exact#[x,L,none,Z,jc,X.xc,X.ty,λT u=>e c () _ (Kp.of_same$ zM N u)]
 ·exact aO (Hk c)$ n _ _ #[_,Z,r,C,d,_,_,Z,a,b.cl,b.n4,Z,_,_,Z,Z,d,_,a,(by show 5 < 1000;decide),q Sf]
theorem Cd:ak ["self","cell"] ["self","cell"] (aa tj):=bu
theorem wE(F:aK K "number_in" "Turns.number_in" tj f p)(b:RK K C):ah P w K mg base aA 1 f p ["self","cell"] (fi C):=by
 refine F.ok Cd ?_ λu A o s H V Q E g h=>?_
 ·rintro _ _ _ _ ⟨r,d,i,l,x,m,c,t,L,j,rfl,_⟩;rfl
 obtain⟨r,d,i,l,x,m,c,t,L,j,rfl,a,q⟩:=h;refine#[_,(jg$ jm$ zc (sE$ @By _ _ _ _ _ (zY g) (pv 1)$ zo (pv 0) Z) (wM (zY g) (zo (pv 0) Z) (pv 1) (λ_ _=>Z))$ @Kn _ _ _ _ _ _ _ _ _ (zY g) (zo (pv 0) Z) (pv 1) jf #[Sl,Sl,Sl,Sl]),?_];refine#[_,Z,_,Z,r,C,d,_,_,Z,a.ins,b.cl,b.n3,Z,l,_,Z,eO.k (k:=.inl c) a.lf,_,Z,?_];cases e:dn L (.inl c) with
 |some v=>refine bQ Z #[_,Z,r,C,d,_,_,Z,a.ins,b.cl,b.n3,Z,_,Z,l,v,Z,by rw[<- e];exact eO.k (k:=.inl c) a.lf,?_];rw[oC a.iL e$ look j (.inl c) 0];exact q
 |none=>refine aO Z #[_,Z,r,C,d,_,_,Z,a.ins,b.cl,b.n1,Z,i,Z,.inl #[_,.inl a.ce],_,Z,_,eO.k (k:=.inl c) a.ce,?_];rw[Kq a.iC];rw[oB e]at q;exact q
noncomputable abbrev sO:Stmt:=bV (bE 52) 0
noncomputable abbrev wY:Stmt:=bV (bE 52) 1
noncomputable abbrev wZ:Stmt:=bV (bE 52) 2
noncomputable abbrev BX:Stmt:=bE 53
inductive Sk where
 |nil |st (n:Int) (hs:List Int) (w r:Sk) |ask (b:Int) |rd (c i:Int) |wr (c i:Int) |cl (f:Str) (is:List Int) (s:Sk) (a:Int)
noncomputable def Sk.dep:Sk->Nat
 | .st _ _ w r=>max w.dep r.dep
 | .cl _ _ s _=>s.dep+1
 |_=>0
noncomputable def Sk.size:Sk->Nat
 | .st _ _ w r=>w.size+r.size+1
 | .cl _ _ s _=>s.size
 |_=>0
def Sk.ok:Bool->Sk->Prop
 |true,.nil=>True
 |true,.st _ _ w r=>w.ok false/\r.ok true
 |false,.cl _ _ s _=>s.ok true
 |false,.ask _=>True
 |false,.rd _ _=>True
 |false,.wr _ _=>True
 |_,_=>False
def em(H:Hp):Sk->V->List V->Prop
 | .nil,_,x=>x=[]
 | .st n d w r,_,x=>∃p h u y,x= .ref p::y/\H p=some (.tup [.int n,.ref h,u])/\H h=some (.tup (d.map V.int))/\em H w u []/\em H r .non y
 | .ask b,u,_=>∃p,u= .ref p/\H p=some (.tup [.str "ask",.int b])
 | .rd c i,u,_=>∃p,u= .ref p/\H p=some (.tup [.str "read",.int c,.int i])
 | .wr c i,u,_=>∃p,u= .ref p/\H p=some (.tup [.str "write",.int c,.int i])
 | .cl f I s a,u,_=>∃p c g e S,u= .ref p/\H p=some (.tup [.str "call",.ref c])/\H c=some (.tup [.str f,.ref g,.ref e,.int a])/\H g=some (.tup (I.map V.int))/\H e=some (.tup S)/\em H s .non S
theorem em.mono(k:ai H i):∀{s:Sk} {u:V} {x:List V},em H s u x->em i s u x
 | .nil,_,_,h=>h
 | .st _ _ _ _,_,_,z=>by obtain⟨p,h,u,y,e,a,b,d,f⟩:=z;exact #[p,h,u,y,e,k _ _ a,k _ _ b,em.mono k d,em.mono k f]
 | .ask _,_,_,z=>by obtain⟨p,e,h⟩:=z;exact #[p,e,k _ _ h]
 | .rd _ _,_,_,z=>by obtain⟨p,e,h⟩:=z;exact #[p,e,k _ _ h]
 | .wr _ _,_,_,z=>by obtain⟨p,e,h⟩:=z;exact #[p,e,k _ _ h]
 | .cl _ _ _ _,_,_,z=>by obtain⟨p,c,g,e,S,E,a,b,d,f,j⟩:=z;exact #[p,c,g,e,S,E,k _ _ a,k _ _ b,k _ _ d,k _ _ f,em.mono k j]
noncomputable def Sk.put(n:Int)(h:List Int)(W:Sk):Sk->Sk
 | .st a b c r=>.st a b c (Sk.put n h W r)
 |_=>.st n h W .nil
theorem sH{H:Hp}{n:Int}{a:List Int}{w:Sk}{p h:Addr}{u:V}(b:H p=some (.tup [.int n,.ref h,u]))(c:H h=some (.tup$ a.map V.int))(d:em H w u []):∀{s:Sk} {x:List V},s.ok true->em H s .non x->em H (Sk.put n a w s) .non (x++[.ref p])
 | .nil,_,_,e=>by have e:_=[]:=e;rw[e];exact#[p,h,u,[],Z,b,c,d,Z]
 | .st _ _ _ r,_,o,z=>by obtain⟨f,g,U,y,e,i,j,k,l⟩:=z;rw[e];exact#[f,g,U,y++[.ref p],Z,i,j,k,sH b c d o.2 l]
theorem Q1{w:Sk}(h:w.ok false):∀{s:Sk},s.ok true->(Sk.put n H w s).ok true
 | .nil,_=>#[h,trivial]
 | .st _ _ _ _,o=>#[o.1,Q1 h o.2]
theorem Kr{n:Int}{hs:List Int}{w:Sk}:∀{s:Sk},s.ok true->(Sk.put n hs w s).size=s.size+(w.size+1)
 | .nil,_=>by show w.size+0+1=0+(w.size+1);omega
 | .st _ _ c r,o=>by have:=Kr (n:=n) (hs:=hs) (w:=w) (s:=r) o.2;show c.size+(Sk.put n hs w r).size+1=c.size+r.size+1+(w.size+1);omega
theorem Q2{n:Int}{hs:List Int}{w:Sk}{j:Nat}(H:w.dep<=j):∀{s:Sk},s.ok true->s.dep<=j->(Sk.put n hs w s).dep<=j
 | .nil,_,_=>by show max w.dep 0<=j;omega
 | .st _ _ c r,o,h=>by have h:max c.dep r.dep<=j:=h;have:=Q2 (n:=n) (hs:=hs) H (s:=r) o.2 Sf;show max c.dep (Sk.put n hs w r).dep<=j;omega
theorem X6:∀{s:Sk} {x:List V},s.ok true->em H s .non x->x.length<=s.size
 | .nil,_,_,e=>by have e:_=[]:=e;rw[e];exact Hg 0
 | .st _ _ w r,_,o,z=>by obtain⟨_,_,_,y,e,_,_,_,h⟩:=z;have:=X6 o.2 h;rw[e];show y.length+1<=w.size+r.size+1;omega
def me(H:Hp)(f:Str)(i:List Int)(s:Sk)(a:Int)(u:V):Prop:=∃c g e S,u= .ref c/\H c=some (.tup [.str f,.ref g,.ref e,.int a])/\H g=some (.tup$ i.map V.int)/\H e=some (.tup S)/\em H s .non S
noncomputable def Sk.wh:Sk->Wh
 | .ask b=>.ask b
 | .rd c i=>.rd c i
 | .wr c i=>.wr c i
 | .cl f I _ a=>.cl f I a
 |_=>.ask 0
theorem F8{s:Sk}(o:s.ok false)(h:em H s u []):Ad H u s.wh:=by
 cases s with
 |nil |st=>exact o.elim
 |ask b |rd c i |wr c i=>exact h
 |cl f I s a=>obtain⟨p,c,g,e,S,E,d,j,k,_⟩:=h;exact#[p,c,g,.ref e,E,d,j,k]
structure Ps(H:Hp)(nA pA:Addr)(ds:List Df)(ns:List Nat)(xs:List V):Prop where
 at':H pA=some (.tup xs)
 tr:aP H (aG$ ds.map$ eX nA) .non xs
 dv:∃zs,cq H ds zs
 ok:u6 ds ns
 pa:lW H ds ns
theorem Ps.mono(h:Ps H n p d N x)(k:ai H a):Ps a n p d N x:=#[k _ _ h.at',h.tr.mono k,let #[b,z]:=h.dv;#[b,z.mono k],h.ok,h.pa.mono k]
theorem Zn(h:aP H (eX n d) v []):CQ H v d.f:=by obtain⟨_,a,x,rfl,b,_,_,Y,y,rfl,⟨rfl,_⟩,_⟩:=h;exact#[a,_,Z,b]
theorem yq:∀{D:List Df} {z:List V},cq H D z->∀{i:Nat} {d:Df},D[i]?=some d->∃B,di H d.b B
 |_::_,_,q,0,d,a=>by obtain⟨u,r,e,⟨B,_,_,_,h⟩,c⟩:=q;cases a;exact#[B,h]
 |_::_,_,#[u,r,e,_,c],i+1,d,a=>yq c (by simpa using a)
section
variable {H:Hp}{nA pA:Addr}{ds:List Df}{ns:List Nat}{xs:List V}
theorem Ps.part(h:Ps H nA pA ds ns xs){i:Nat}{d:Df}{v:V}(a:ds[i]?=some d)(c:xs[i]?=some v):∃y,lY H nA d y v:=by obtain⟨T,b,t⟩:=Ji h.tr i v c;rw[HE,a]at b;cases b;obtain⟨z,e⟩:=h.dv;obtain⟨⟨y,Y,o⟩,_,s⟩:=(h.ok.1 d$ Hu a).1;exact#[y,t,yq e a,o,Y,s]
theorem Ps.cs(h:Ps H nA pA ds ns xs){i:Nat}{d:Df}(a:ds[i]?=some d):∀f∈d.b.calls,f∈(ds.map Df.f).zip ns:=zz (h.ok.1 d$ Hu a).2
theorem Ps.at(h:Ps H nA pA ds ns xs){i:Nat}{d:Df}(b:ds[i]?=some d):∃v,xs[i]?=some v/\aP H (eX nA d) v []/\CQ H v d.f/\∀j x,j < i->xs[j]?=some x->∃g,CQ H x g/\g≠d.f:=by
 have L:=zD h.tr;rw[He]at L;have r:i < ds.length:=(List.getElem?_eq_some_iff.mp b).1;have t:∀(j:Nat) (x:V),xs[j]?=some x->∃c,ds[j]?=some c/\aP H (eX nA c) x []:=λj x k=>by obtain⟨s,m,t⟩:=Ji h.tr j x k;rw[HE]at m;obtain⟨c,a,rfl⟩:=Option.map_eq_some_iff.mp m;exact#[c,a,t]
 have n:xs[i]?=some (xs[i]'Sf):=G8 Sf;obtain⟨c,a,T⟩:=t _ _ n;rw[b]at a;cases a;refine#[_,n,T,Zn T,λj x u k=>?_];obtain⟨c,a,q⟩:=t j x k;refine#[c.f,Zn q,λe=>?_];have o:(ds.map Df.f)[j]?=some c.f:=by rw[HE,a];rfl
 have p:(ds.map Df.f)[i]?=some d.f:=by rw[HE,b];rfl
 rw[<- e]at p;have l:j < (ds.map Df.f).length:=(List.getElem?_eq_some_iff.mp o).1;have:=(List.getElem?_inj l h.ok.2.1).mp (o.trans p.symm);omega
theorem Ps.find(h:Ps H nA pA ds ns xs)(a:(f,n)∈(ds.map Df.f).zip ns):∃(i:Nat) (d:Df),ds[i]?=some d/\ns[i]?=some n/\d.f=f:=by
 obtain⟨i,b,e⟩:=List.mem_iff_getElem.mp a;have E:((ds.map Df.f).zip ns)[i]?=some (f,n):=by rw[<- e];exact G8 b
 rw[Oa]at E;rw[HE]at E;obtain⟨d,c,g⟩:=Option.map_eq_some_iff.mp E.1;exact#[i,d,c,E.2,g]
end
theorem Rn.tm(h:Rn H C r d c l p m t L f)(k:aI r l H a):ai H a:=λb x e=>k b _ (jO e h.ins (by intro z;cases z)) (jO e h.lf (by intro z;cases z)) e
theorem Rn.same(h:Rn H C r d c l p m t L a)(s:ae H b):Rn b C r d c l p m t L a:=#[s _ _ h.ins,s _ _ h.lf,s _ _ h.ce,h.iL,h.iC,h.cl]
theorem Rn.rl(h:Rn H C r d c l p m t L a):r≠l/\r≠c:=#[jO h.ins h.lf (by intro z;cases z),jO h.ins h.ce (by intro z;cases z)]
def CP(r l:Addr)(H h:Hp):Prop:=∀b o,b≠r->b≠l->NX o->H b=some o->h b=some o
theorem Fl.next(h:Fl E L (CP r l H)):Fl (nq E) L (CP r l H):=λd i k x T t c e a j f=>by cases e;exact h d _ λb o N g n e=>qS (H:=H) (k b o N g n e) n a f
theorem Fl.nextK(h:Fl E L (Kp H)):Fl (nq E) L (Kp H):=λd g k x T t c e a i f=>by cases e;exact h d _ λb o n e=>qS (H:=H) (k b o n e) n a f
theorem Fl.mono{R S:Hp->Prop}(h:Fl E L R)(k:∀H,S H->R H):Fl E L S:=λd H s=>h d H (k H s)
inductive i7(C:Addr)(e:List V)(H:Hp)(Q:VK)(a:XK):Prop
 |mk(r c d b:Addr)(m:Int)(_:e=[.ref r,.ref d,.ref b,.int m])(_:H r=some (.ins C c []))(_:∀lA,H lA=none->Q .non (af (af H lA (.dK [])) r (.ins C c (gM b lA d m 0))))
def ph(E:XK)(T t:Addr)(R:Hp->Prop):Prop:=Fl E T R/\Fl E t R
theorem ph.mono{R S:Hp->Prop}(h:ph E T t R)(k:∀H,S H->R H):ph E T t S:=#[h.1.mono k,h.2.mono k]
theorem ph.next(h:ph E T t (CP r l H)):ph (nq E) T t (CP r l H):=#[h.1.next,h.2.next]
inductive dB(C f e o:Addr)(j:Nat)(s:List V)(H:Hp)(Q:VK)(E:XK):Prop
 |mk(r l h n q g:Addr)(b t i:Nat)(L c:cy)(v:V)(d:Df)(k:List Df)(p:List Nat)(w:List V)(m:List Int)(_:s=[.ref r,v,.ref g,.int (b:Int)])(_:b+j=16)(_:1<=j)(_:Rn H C r l h n q 60 t L c)(_:L.length<=t)(_:t<=60)(_:Ps H o q k p w)(_:k[i]?=some d)(_:p[i]?=some m.length)(_:w[i]?=some v)(_:H g=some (.tup (m.map V.int)))(_:∀z∈m,gj z)(_:∀(u:V) (sk:Sk) (a:Int) (L':cy) (H':Hp),me H' d.f m sk a u->sk.ok true->sk.dep+1<=j->gj a->Rn H' C r l h n q 60 (t+sk.size) L' c->L'.length<=t+sk.size->t+sk.size<=60->aI r n H H'->Q u H')(_:ph E f e (CP r n H))
inductive mV(C d c l:Addr)(j:Nat)(o:List V)(H:Hp)(Q:VK)(E:XK):Prop
 |mk(r h f i n:Addr)(a t:Nat)(L b k:cy)(u:V)(e:DD)(q:List Str)(g:List Df)(m:List Nat)(p:List V)(_:o=[.ref r,u,.int (a:Int)])(_:a+j=15)(_:Rn H C r h f i n 60 t L b)(_:L.length<=t)(_:t<=60)(_:Ps H l n g m p)(_:aP H (Gj k e) u [])(_:y7 H q e)(_:GT k)(_:e.Cs ((g.map Df.f).zip m))(_:∀(w:Sk) (v:V) (L':cy) (H':Hp),em H' w v []->w.ok false->EB e w.wh->w.dep<=j->Rn H' C r h f i n 60 (t+1+w.size) L' b->L'.length<=t+1+w.size->t+1+w.size<=60->aI r i H H'->Q v H')(_:ph E d c (CP r i H))
theorem Ca:ak z24z z24z (aa sO):=bu
theorem wt(F:aK K "__init__" "BookRun.__init__" sO f t)(j:RK K C)(GT:ah P w K mg base aA 1 u c z23z (i' C))(B:ay K c z23z [])(M:mg "Turns"=some (.ref T))(v:y6 K T "__init__" u):ah P w K mg base aA 2 f t z24z (i7 C):=by
 refine F.ok Ca ?_ λx A o s H V Q E y h=>?_
 ·rintro _ _ _ _ ⟨r,d,z,k,m,rfl,_⟩;rfl
 obtain⟨r,d,z,k,m,rfl,g,q⟩:=h;refine#[_,(jd (jN$ @wL _ _ _ _ _ _ _ _ _ _ _ _ _ _ _ _ _ _ _ _ Z M v GT y.m B .nil bp (ja (pv 0)$ ja (pv 2)$ ja (pv 3) jb) Se Sl Sl Sl)$ jg$ @qC _ _ _ _ _ _ _ _ (pv 0) (pv 1) Z),?_];refine aj λD n=>#[_,Z,_,Z,_,Z,r,d,k,m,Z,g,λL N=>n _ _ ?_];clear n;refine#[_,Z,_,Z,r,C,d,_,Z,jc,j.cl,j.n5,(by show 4 < 1000;decide),?_];have e:∀(i:Hp) (p O:HO),af (af i r p) r O=af i r O:=λi p O=>by
  funext b;by_cases a:b=r
  ·rw[a,jc,jc]
  ·rw[ji a,ji a,ji a]
 rw[e];exact q L N
theorem JZ(h:aP H (aZ t) u []):∃a x,u= .ref a/\H a=some (.tup x)/\aP H (aG t) .non x:=let #[_,a,x,e,b,c]:=h;#[a,x,e,b,c]
theorem zQ(h:aP H (aG (t::T)) .non x):∃y Y,x=y::Y/\aP H t y []/\aP H (aG T) .non Y:=let #[_,_,y,Y,e,a,b]:=h;#[y,Y,e,a,b]
theorem Zo(h:aP H (bX x) y []):y= .str x:=h.1
theorem J1(h:aP H (aY n) y []):y= .int n:=h.1
theorem Ks:∀{I:List Int} {v:List V},aP H (aG$ I.map aY) .non v->v=I.map V.int
 | [],v,h=>h
 |i::I,v,h=>by obtain⟨y,Y,rfl,a,b⟩:=zQ h;rw[J1 a,Ks b];rfl
theorem Q3{H:Hp}{w:Str}{t:List Tr}{u:V}(h:aP H (aZ (bX w::t)) u []):∃a x,u= .ref a/\H a=some (.tup (.str w::x))/\aP H (aG t) .non x:=by obtain⟨a,x,rfl,b,h⟩:=JZ h;obtain⟨y,Y,rfl,c,d⟩:=zQ h;rw[Zo c]at b;exact#[a,Y,Z,b,d]
theorem QN{H:Hp}{w:Str}{i:Int}{u:V}(h:aP H (aZ [bX w,aY i]) u []):∃a,u= .ref a/\H a=some (.tup [.str w,.int i]):=by obtain⟨a,x,rfl,b,h⟩:=Q3 h;obtain⟨y,Y,rfl,c,d⟩:=zQ h;have e:Y=[]:=d;rw[J1 c,e]at b;exact#[a,Z,b]
theorem uM{H:Hp}{w:Str}{i:Int}{t:Tr}{u:V}(h:aP H (aZ [bX w,aY i,t]) u []):∃a y,u= .ref a/\H a=some (.tup [.str w,.int i,y])/\aP H t y []:=by obtain⟨a,x,rfl,b,h⟩:=Q3 h;obtain⟨y,Y,rfl,c,d⟩:=zQ h;obtain⟨z,f,rfl,g,j⟩:=zQ d;have e:f=[]:=j;rw[J1 c,e]at b;exact#[a,z,Z,b,g]
theorem D6:ak z19z z19z (aa wZ):=bu
theorem A8(F:aK K "what_of" "BookRun.what_of" wZ f fd)(ck:RK K C)(GT:ah P w K mg base (dG P w) 1 fT f0 ["self"] (ii C TL))(bT:ay K f0 ["self"] [])(m0:bN K C "take_turn" fT)(GI:ah P w K mg base aA 1 fI f2 ["self","cell"] (fi C))(bI:ay K f2 ["self","cell"] [])(m1:bN K C "number_in" fI)(GD:ah P w K mg base (dG P w) 1 fD f3 ["deep"] (dR TD))(bD:ay K f3 ["deep"] [])(kD:keepIn K (.ref fD)=true)(mD:mg "deeper"=some (.ref fD))(cP:Cl P w K mg base 2 fP f6 ["parts","f"] i6 "part_of")(GC:ah P w K mg base (dG P w) (2*j+12) fC f4 z13z (dB C TL TD nA j))(bC:ay K f4 z13z [])(m2:bN K C "chain_of" fC):ah P w K mg base (dG P w) (2*j+13) f fd z19z (mV C TL TD nA j):=by
 refine F.ok1 D6 ?_ λc5 A o2 s H vs Q E hr h=>?_
 ·rintro _ _ _ _ ⟨r,D,W,I,O,M,t,L,Cs,k,u,e,ys,ds,ns,X,rfl,_⟩;rfl
 obtain⟨r,D,W,I,O,M,t,L,Cs,k,u,e,ys,ds,ns,X,rfl,h4,J,h5,ht,hP,B,h0,hk,h1,q,t0⟩:=h;refine#[_,(jd (jN$ sj (pv 0) ck.cl m0 GT hr.m bT .nil zj)$ jd (jw (ke$ jz$ pv 1) (jg$ jm$ jh$ ja jk$ ja (jz$ pv 1)$ ja (kN (pv 0) ck.cl m1 GI hr.m bI .nil bp$ ja (jz$ pv 1) jb) jb) jp)$ jd (jw (ke$ jz$ pv 1) (jg$ jm$ jh$ ja jk$ ja (kN (pv 0) ck.cl m2 GC hr.m bC .nil zj$ ja (cP.e hr.m$ ja (zo (pv 0) Z)$ ja (jz$ pv 1) jb)$ ja (jz$ pv 1)$ ja (kf GD hr.m Z mD kD bD .nil zj$ ja (pv 2) jb) jb) jb) jp)$ jd (jw (ke$ jz$ pv 1) (jg$ JQ (zY hr) (zo (pv 0) Z) (jz$ pv 1) (jz$ pv 1) Z) jp)$ jg$ jm$ pv 1),?_];have b0:=aD;refine aj λY n=>#[_,Z,r,D,_,Z,J.ins,Z,r,D,W,I,O,60,t,Z,J.ins,λlt=>n _ _ ?_,λge=>(t0.1.mono λH' kk=>λb o _ _ nx e=>kk b o nx e).nextK];clear n;have t1:ai H (af H r$ .ins C D$ gM W I O 60$ t+1):=λb X e=>by rw[ji$ jO e J.ins (by intro z;cases z)];exact e
 have R:Rn (af H r$ .ins C D$ gM W I O 60$ t+1) C r D W I O 60 (t+1) L Cs:=#[jc,by rw[ji J.rl.1.symm];exact J.lf,by rw[ji J.rl.2.symm];exact J.ce,J.iL,J.iC,J.cl];have k1:aI r I H (af H r$ .ins C D$ gM W I O 60$ t+1):=λb o n1 n2 e=>by rw[ji n1];exact e
 generalize af H r (.ins C D$ gM W I O 60$ t+1)=H1 at t1 R k1;have B:=B.mono t1;have lt':t+1<=60:=by omega
 have f5:∀(w:Sk) (X:List V) (S:Hp) (v:Addr),S v=none->em (af S v$ .tup X) w (.ref v) []->w.ok false->EB e w.wh->w.size=0->w.dep<=j->H1=S->Q (.ref v) (af S v$ .tup X):=λw X S v nv hw ok ft sz dp e2=>by subst e2;exact q w _ L _ hw ok ft dp (by rw[sz];exact R.same$ je nv) Sf Sf$ k1.trans$ aI.of_same$ je nv
 cases e with
 |ask ta T=>
  obtain⟨p,rfl,G⟩:=QN B;refine aj λY n=>(jv G Z #[Z,_,Z,aO Sj$ n _ _ ?_]);clear n;refine aj λY n=>(jv G Z #[Z,_,Z,aO Sj$ n _ _ ?_]);clear n;refine aj λY n=>(jv G Z #[Z,_,Z,aO Sj$ n _ _ ?_]);clear n;refine#[_,Z,q (.ask (if T.ev k=0 then 0 else 1)) _ L _ #[p,Z,G] trivial ?_ (Ho _) R (by show L.length<=t+1+0;omega) lt' k1];show(if T.ev k=0 then (0:Int) else 1)=0∨(if T.ev k=0 then (0:Int) else 1)=1;split
  ·exact .inl Z
  ·exact .inr Z
 |st p0 l=>
  obtain⟨vs,_,h6,o1,c0⟩:=h0;cases l with
  |gv ta T |st x ta T=>cases c0
  |rd x ta T=>obtain⟨p,rfl,G⟩:=QN B;refine aj λY n=>(jv G Z #[Z,_,Z,bQ Sj$ jv G Z #[_,Z,r,D,_,Z,R.ins,Z,jv G Z #[r,D,W,I,O,60,_,_,_,_,Z,R,dZ,λv nv=>?_]]]);exact f5 (.rd (T.ev k)$ look L (.inl$ T.ev k)$ look Cs (.inl$ T.ev k) 0) _ _ v nv #[v,Z,jc] trivial (JW R.iL$ JW R.iC JX) Z (Ho _) Z
  |wr ta ub T U=>
   obtain⟨p,y,rfl,G,hy⟩:=uM B;rw[J1 hy]at G;refine aj λY n=>(jv G Z #[Z,_,Z,aO Sj$ n _ _ ?_]);clear n;refine aj λY n=>(jv G Z #[Z,_,Z,aO Sj$ n _ _ ?_]);clear n;refine aj λY n=>(jv G Z #[Z,_,Z,bQ Sj$ jv G Z #[_,Z,r,C,D,_,_,Z,R.ins,ck.cl,ck.n3,Z,jv G Z #[I,_,Z,om.k (k:=.inl (T.ev k)) R.lf Sf,n _ _ ?_]]]);clear n;have pl:=qh (kvs:=L) (k:=.inl (T.ev k)) (v:=.int (U.ev k));have t3:ai H1 (af H1 I$ .dK$ bJ L (.inl$ T.ev k)$ .int$ U.ev k):=λb X e=>by rw[ji$ jO e R.lf (by intro z;cases z)];exact e
   refine#[_,Z,q (.wr (T.ev k)$ U.ev k) _ (bJ L (.inl$ T.ev k)$ .int$ U.ev k) _ #[p,Z,t3 _ _ G] trivial trivial (Ho _) #[by rw[ji J.rl.1];exact R.ins,jc,by rw[ji J.cl];exact R.ce,R.iL.put _$ Jz hk o1.2.1,R.iC,R.cl] (by show _<=t+1+0;omega) lt' λb o n1 n2 e=>?_];rw[ji n2];exact k1 b o n1 n2 e
  |cl x f q' ts=>
   obtain⟨p,y3,rfl,G,hy⟩:=Q3 B;obtain⟨y1,y5,rfl,e1,hy⟩:=zQ hy;obtain⟨y2,y0,rfl,e2,hy⟩:=zQ hy;have e3:y0=[]:=hy;subst e3;rw[Zo e1]at G;obtain⟨ag,a0,rfl,ha,N⟩:=JZ e2;have N:aP H1 (aG ((ts.map λc=>c.2.ev k).map aY)) .non a0:=by rw[L9];exact N
   rw[Ks N]at ha;obtain⟨i,d,hd,hn,rfl⟩:=hP.find h1;have P1:=hP.mono t1;obtain⟨v,hv,_,h2,h3⟩:=P1.at hd;refine aj λY n=>(jv G Z #[Z,_,Z,aO Sj$ n _ _ ?_]);clear n;refine aj λY n=>(jv G Z #[Z,_,Z,bQ Sj ?_]);clear n;refine#[_,Z,r,D,_,Z,R.ins,Z,_,Z,r,C,D,_,_,Z,R.ins,ck.cl,ck.n5,Z,jv G Z #[O,d.f,X,i,v,Z,P1.at',hv,h2,h3,jv G Z #[_,Z,(M:Int),Z,λdl=>?_,λdg=>(t0.2.mono λS kk=>λb o n1 n2 nx e=>kk b o nx (k1 b o n1 n2 e)).nextK]]];refine#[r,D,W,I,O,ag,M+1,t+1,i,L,Cs,v,d,ds,ns,X,ts.map λc=>c.2.ev k,Z,Sf,Sf,R,Sf,lt',P1,hd,by rw[He];exact hn,hv,ha,λz hz=>?_,λu sk a L' S hc ok dp ia R2 l2 t2 k2=>?_,ph.next$ t0.mono λS kk=>λb o n1 n2 nx e=>kk b o n1 n2 nx (k1 b o n1 n2 e)]
   ·obtain⟨c,hc,rfl⟩:=List.mem_map.mp hz;exact Jz hk (o1.2.2 c hc).1
   ·obtain⟨c,g,ee,ss,rfl,c1,c2,c3,c4⟩:=hc;refine#[bK,λv2 nv=>?_];have s2:ae S (af S v2$ .tup [.str "call",.ref c]):=je nv;refine q (.cl d.f (ts.map λc=>c.2.ev k) sk a) _ L' _ #[v2,c,g,ee,ss,Z,jc,s2 _ _ c1,s2 _ _ c2,s2 _ _ c3,c4.mono$ ae.tm s2] ok ia (by show sk.dep+1<=j;omega) (R2.same s2) l2 t2 ((k1.trans k2).trans$ aI.of_same s2)
theorem Ag:dq (s++[x]) (-1)=some x:=by
 have l:(s++[x]).length=s.length+1:=by rw[Hf];rfl
 unfold dq my;rw[l,HG Sf,HD Sf];have e:(-1+((s.length+1:Nat):Int)).toNat=s.length:=by omega
 show(s++[x])[(-1+((s.length+1:Nat):Int)).toNat]?=_;rw[e];simp
inductive Gc(H:Hp)(nA:Addr)(d:Df)(u:V):Prop
 |give (p:Addr) (a:Int) (e:u= .ref p) (h:H p=some (.tup [.str "give",.int a])) (i:gj a)
 |go (p hv:Addr) (n:Nat) (c:Ct) (is:List Int) (e:u= .ref p) (h:H p=some (.tup [.str "go",.int (n:Int),.ref hv])) (h2:H hv=some (.tup (is.map V.int))) (hc:(bY nA d)[n]?=some c) (hl:is.length=(canon c.M).length) (hi:∀i∈is,gj i)
theorem rA{H:Hp}(h:aP f (rq (eV N d) k g) u [])(j:GT k)(l:C0 H Y d.b.cuts g):Gc f N d u:=by
 cases g with
 |give t T=>obtain⟨p,e,h⟩:=QN h;exact .give p _ e h (Jz j l.2.1)
 |nought=>obtain⟨p,e,h⟩:=QN h;exact .give p 0 e h JX
 |go n=>
  obtain⟨p,y,e,h,q⟩:=uM h;obtain⟨a,X,rfl,m,c⟩:=JZ q;have r:n < (bY N d).length:=by rw[Zj];exact l
  have o:(bY N d)[n]?=some (bY N d)[n]:=G8 r;have c:aP f (aG (((eV N d n).map λx=>look k (.inr x) 0).map aY)) .non X:=by rw[L9];exact c
  rw[Ks c]at m;refine .go p a n _ _ e h m o (by rw[He,rJ o]) λi s=>?_;obtain⟨x,_,rfl⟩:=List.mem_map.mp s;exact JW j JX
inductive CI(C r h g y B f E z:Addr)(a t j:Nat)(c:cy)(v:V)(d:Df)(H:Hp)(x:Nat)(G:_L.St)(e:Hp):Prop
 |mk(A:Option V)(u:V)(D:Sk)(F:List V)(L:cy)(i:G=[some (.ref r),some v,some (.ref f),some (.int (a:Int)),some (.ref E),some u,A])(k:e E=some (.lst F))(l:em e D .non F)(m:D.ok true)(n:D.dep+1<=j)(o:Gc e z d u)(p:Rn e C r h g y B 60 (t+D.size) L c)(q:L.length<=t+D.size)(s:t+D.size<=60)(w:aI r y H e)(b:x+t+D.size=61)
theorem lI:ak ["self","part","args","deep","steps","goal","what"] z13z (aa wY):=bu
theorem A5(F:aK K "chain_of" "BookRun.chain_of" wY f fd)(ck:RK K C)(cF:Cl P w K mg base 9 fF f2 ["part","args"] (fh nA) "first_of")(cD:Cl P w K mg base 9 fD f3 z12z (fg nA) "deed_at")(cO:Cl P w K mg base 9 fO f4 ["part","step"] (t6 nA) "onward")(GW:ah P w K mg base (dG P w) (2*j+13) fW f0 z19z (mV C TL TD nA j))(bW:ay K f0 z19z [])(m0:bN K C "what_of" fW)(m1:mg "tuple"=none):ah P w K mg base (dG P w) (2*j+14) f fd z13z (dB C TL TD nA$ j+1):=by
 refine F.ok1 lI ?_ λc0 A o2 s H vs Q E hr h=>?_
 ·rintro _ _ _ _ ⟨r,dx,cA,lA,pA,ag,G,t,i,L,Cs,v,d,ds,ns,xs,is,rfl,_⟩;rfl
 obtain⟨r,dx,cA,lA,pA,ag,G,t,i,L,Cs,v,d,ds,ns,xs,is,rfl,a5,_,hR,h7,ht,hP,hd,hn,hv,ha,h2,q,t2⟩:=h;refine#[_,(jd (jx 4 lI.nd$ jD jb)$ jd (jx 5 lI.nd$ cF.e hr.m$ ja (pv 1)$ ja (pv 2) jb)$ jd (Xk PassesOwn.leaving (ke$ jz$ pv 5)$ jd (jx 6 lI.nd$ kN (pv 0) ck.cl m0 GW hr.m bW .nil zj$ ja (cD.e hr.m$ ja (pv 1)$ ja (jz$ pv 5)$ ja (jz$ pv 5) jb)$ ja (pv 3) jb)$ jd (jN$ kr PySem.F.plainAttrs_list PySem.F.slot_list_append PySem.F.type_list_append jP (pv 4)$ ja (jh$ ja (jz$ pv 5)$ ja (jz$ pv 5)$ ja (pv 6) jb) jb)$ jg$ jx 5 lI.nd$ cO.e hr.m$ ja (pv 1)$ ja (jr jq (pv 4) (Qe Jf jf) (λ_ _=>Z)) jb)$ jg$ jm$ jh$ ja (jz$ pv 1)$ ja (pv 2)$ ja (jF jB Z m1 boot_tuple$ ja (pv 4) jb)$ ja (jz$ pv 5) jb),?_];have b0:=aD;obtain⟨ys,O⟩:=hP.part hd hv;obtain⟨ps,h8,h9,h'⟩:=hP.pa.2 i d _ hd hn;refine aj λF1 y=>#[iw,λS N=>y _ _ ?_];clear y;have s1:ae H (af H S$ .lst []):=je N;have l1:af H S (.lst []) S=some (.lst []):=jc;generalize af H S (.lst [])=H1 at s1 l1 ⊢;obtain⟨wd,e1,h0⟩:=O.way;refine aj λF1 y=>#[_,Z,_,Z,v,ag,d,ys,ps,is,wd,Z,O.mono$ ae.tm s1,s1 _ _ h8,Sf,s1 _ _ ha,h9.symm,h2,e1,h0.mono$ ae.tm s1,λu H2 hu s2=>y _ _ ?_];clear y;have S2:=s1.trans s2;have gz:GT (cQ ps is):=Kh h2;have g0:=rA (H:=H) hu (qR h0.sets gz) h0.goal;have s0:S≠r:=Ne.symm (jl hR.ins N);have s3:S≠lA:=Ne.symm (jl hR.lf N);have s9:cA≠S:=jl hR.ce N;refine aj λF1 y=>?_;refine uP (CI C r dx cA lA pA ag S nA G t (j+1) Cs v d H) (61 - t) #[none,u,.nil,[],L,Z,s2 _ _ l1,Z,trivial,by show 0+1<=j+1;omega,g0,hR.same S2,h7,ht,aI.of_same S2,by show 61 - t+t+0=61;omega] ?_;intro kk σ H3 E' rt fE F kT cF.k Gq kq hW;obtain⟨o6,u,sk,D,L1,rfl,w1,w2,w3,w4,w5,w6,w7,w8,w9,a6⟩:=hW;have R:=hR.tm w9;have P3:=hP.mono R;cases w5 with
 |give p a e h5 ia=>subst e;refine kq$ jv h5 Z #[Z,_,Z,?_];rw[show decide (V.str (Str.ofString "give")=V.str (Str.ofString "go"))=false by decide+kernel];refine cF.k _$ y _ _ ?_;obtain⟨pa,ca,wv,cs,e,h3,_⟩:=(O.mono R).parts;subst e;refine(jv h3 Z #[_,Z,_,Z,S,D,Z,.inl #[aB.of w1,λl2 n0=>?_]]);have Y:ae H3 (af H3 l2$ .tup D):=je n0;refine(jv (Y _ _ h5) Z #[oe,λv2 nv=>?_]);have s5:=Y.trans (je (o:=.tup [.str d.f,.ref ag,.ref l2,.int a]) nv);have S5:aI r lA H (af (af H3 l2$ .tup D) v2$ .tup [.str d.f,.ref ag,.ref l2,.int a]):=w9.trans (aI.of_same s5);exact q _ sk a L1 _ #[v2,ag,l2,D,Z,jc,hR.tm S5 _ _ ha,am jc nv,w2.mono$ ae.tm s5] w3 w4 ia (w6.same s5) w7 w8 S5
 |go p x n c hs e h5 h6 hc hl hi=>
  subst e;refine kq$ jv h5 Z #[Z,_,Z,?_];rw[show decide (V.str (Str.ofString "go")=V.str (Str.ofString "go"))=true by decide+kernel];refine kT _ ?_;clear kT cF.k y;have U:=O.mono R;obtain⟨pa,ca,wv,cs,e3,h3,_,_,a1⟩:=U.parts;obtain⟨ka,na,wa,dv,a8,_,I⟩:=U.cut a1 hc;obtain⟨e,ed,d0,e2⟩:=Do I.v.deed;have gk:GT (cQ (canon c.M) hs):=Kh hi;refine aj λF1 y=>#[_,Z,r,dx,_,Z,w6.ins,Z,_,Z,jv h5 Z$ jv h5 Z #[v,n,x,d,ys,c,hs,e,Z,U,hc,h6,hl,hi,ed,d0,λud H4 a2 Y=>?_]];have t3:=R.trans (ae.tm Y);refine#[_,Z,r,dx,cA,lA,pA,G,t+sk.size,L1,Cs,cQ (canon c.M) hs,ud,e,ys,ds,ns,xs,Z,Sf,w6.same Y,w7,w8,hP.mono t3,a2,d0.mono$ ae.tm Y,gk,?_,λw uw L' W hw o1 ft d1 R5 l5 t5 k5=>y _ _ ?_,?_]
  ·cases e with
   |ask=>trivial
   |st p0 l=>cases l<;>first |trivial |exact hP.cs hd _ e2
  ·clear y;have K5:aI r lA H3 W:=(aI.of_same Y).trans k5;have t0:ai H3 W:=w6.tm K5;have g5:=t0 _ _ h5;have w0:W S=some (.lst D):=K5 _ _ s0 s3 w1;have l0:=X6 w3 w2;refine aj λF1 y=>#[_,Z,.inl #[Z,_,aB.of w0],jv g5 Z$ jv g5 Z #[_,Z,dZ,λB n3=>?_]];have s6:ae W (af W B$ .tup [.int (n:Int),.ref x,uw]):=je n3;have e6:af W B (.tup [.int (n:Int),.ref x,uw]) B=some (.tup [.int (n:Int),.ref x,uw]):=jc;refine#[S,_,_,Z,Z,s6 _ _ w0,Sf,y _ _ ?_];clear y;generalize af W B (.tup [.int (n:Int),.ref x,uw])=H6 at s6 e6;have b7:ar S H6 (af H6 S$ .lst$ D++[.ref B]):=λb o nb e=>by rw[ji nb];exact e
   have X:ai H6 (af H6 S$ .lst$ D++[.ref B]):=λb xs e=>b7 _ _ (jO e (s6 _ _ w0) (by intro z;cases z)) e;have w':af H6 S (.lst$ D++[.ref B]) S=some (.lst$ D++[.ref B]):=jc;generalize af H6 S (.lst$ D++[.ref B])=H7 at b7 X w';have J:ai W H7:=λb xs e=>X _ _ (s6 _ _ e);have g:ai H3 H7:=t0.trans J;have h1:w.wh.side < c.ws.length:=by
    rw[I.v.len,<- ed];cases e with
    |ask ta T=>show _ < 2;unfold Wh.side;split<;>(try split)<;>omega
    |st p0 l=>show _ < 1;cases w<;>first |exact Nat.one_pos |exact o1.elim | (cases l<;>exact ft.elim)
   obtain⟨a0,e0,h4⟩:=I.v.ways (c.ws[w.wh.side]) (List.getElem_mem _);have sv:lD H7 nA d ys v B n x uw c hs w.wh e a0:=#[U.mono g,X _ _ e6,hc,g _ _ h6,hl,hi,(F8 o1 hw).mono J,ed,d0.mono g,ft,by rw[e0];exact List.getElem?_eq_getElem h1,h4.mono g];have a3:dq (D++[V.ref B]) (-1)=some (.ref B):=Ag;refine#[_,Z,_,Z,_,Z,S,_,_,_,Z,Z,aB.of w',a3,v,uw,B,x,n,d,ys,c,hs,w.wh,e,a0,Z,sv,λu2 H8 a4 s8=>?_];have t1:=ae.tm s8;have t4:=g.trans t1;have g1:=rA (H:=H7) a4 (qR sv.wdv.sets$ pq ft gk) sv.wdv.goal;have s7:=Kr (n:=(n:Int)) (hs:=hs) (w:=w) w3;have R7:Rn H7 C r dx cA lA pA 60 (t+sk.size+1+w.size) L' Cs:=#[b7 _ _ (Ne.symm s0)$ s6 _ _ R5.ins,b7 _ _ (Ne.symm s3)$ s6 _ _ R5.lf,b7 _ _ s9$ s6 _ _ R5.ce,R5.iL,R5.iC,R5.cl];have ez:t+sk.size+1+w.size=t+(Sk.put (n:Int) hs w sk).size:=by rw[s7];omega
   rw[ez]at R7 l5 t5;refine fE (kk - (w.size+1)) _ _ Sf #[_,u2,Sk.put (n:Int) hs w sk,D++[.ref B],L',Z,s8 _ _ w',(sH (X _ _ e6) (g _ _ h6) (hw.mono J) w3$ w2.mono g).mono t1,Q1 o1 w3,?_,g1,R7.same s8,l5,t5,?_,by rw[s7];omega]
   ·have:=Q2 (n:=(n:Int)) (hs:=hs) (w:=w) (j:=j) d1 w3 Sf;omega
   ·intro b o n1 n2 e;exact s8 _ _$ b7 _ _ (jl e N)$ s6 _ _$ K5 _ _ n1 n2$ w9 _ _ n1 n2 e
  ·exact ph.next$ t2.mono λW kk=>λb o n1 n2 nx e=>kk b o n1 n2 nx (Y _ _$ w9 _ _ n1 n2 e)
inductive n6(e c k:Addr)(n:List V)(H:Hp)(Q:VK)(E:XK):Prop
 |mk(m f g:Addr)(i:Nat)(b:cy)(d:Df)(h:List Df)(l:List Nat)(o:List V)(j:List Int)(_:n=[.ref m,.str d.f,.ref f,.ref g,.int 60])(_:Ps H k m h l o)(_:h[i]?=some d)(_:l[i]?=some j.length)(_:H f=some (.tup (j.map V.int)))(_:∀z∈j,gj z)(_:H g=some (.dK b))(_:GT b)(_:∀(u:V) (sk:Sk) (a:Int) (H':Hp),me H' d.f j sk a u->sk.ok true->sk.dep<=15->sk.size<=60->ae H H'->Q u H')(_:ph E e c (Kp H))
theorem wI(h:aP H (eX n d) v []):∃p r,v= .ref p/\H p=some (.tup (.str d.f:: .ref d.pa::r)):=by obtain⟨_,a,x,rfl,b,_,_,c,y,rfl,⟨rfl,_⟩,_,_,e,Y,rfl,⟨rfl,_⟩,_⟩:=h;exact#[a,_,Z,b]
theorem AW:ah P w K mg base (dG P w) k f c z13z (dB C T b N 0):=by
 have n:∀{V H Q E},¬dB C T b N 0 V H Q E:=by rintro V H Q E ⟨r,e,g,l,p,j,D,t,i,L,m,v,d,q,u,x,I,_,_,z,_⟩;omega
 exact#[λV H Q E h=>(n h).elim,λA o s H a U V Q E y B F G h=>(n h).elim]
theorem Dg(d:RK K C)(F:aK K "chain_of" "BookRun.chain_of" wY k f)(B:ay K f z13z [])(m:bN K C "chain_of" k)(l:aK K "what_of" "BookRun.what_of" wZ D e)(o:ay K e z19z [])(M:bN K C "what_of" D)(p:Cl P w K mg base 9 Q E ["part","args"] (fh n) "first_of")(q:Cl P w K mg base 9 U H z12z (fg n) "deed_at")(r:Cl P w K mg base 9 Y I ["part","step"] (t6 n) "onward")(GT:ah P w K mg base (dG P w) 1 J g ["self"] (ii C T))(s:ay K g ["self"] [])(a:bN K C "take_turn" J)(G:ah P w K mg base aA 1 L h ["self","cell"] (fi C))(t:ay K h ["self","cell"] [])(b:bN K C "number_in" L)(u:ah P w K mg base (dG P w) 1 v i ["deep"] (dR N))(x:ay K i ["deep"] [])(y:keepIn K (.ref v)=true)(z:mg "deeper"=some (.ref v))(A:Cl P w K mg base 2 fP O ["parts","f"] i6 "part_of")(c:mg "tuple"=none):∀j,ah P w K mg base (dG P w) (2*j+12) k f z13z (dB C T N n j)
 |0=>AW
 |j+1=>A5 F d p q r (A8 l d GT s a G t b u x y z A (Dg d F B m l o M p q r GT s a G t b u x y z A c j) B m) o M c
theorem yQ:ak ["parts","f","args","cells","most","part"] z26z (aa BX):=bu
theorem Bl(F:aK K "run" "run" BX f fd)(ck:RK K C)(mk:Mk K C fI)(GI:ah P w K mg base aA 2 fI x z24z (i7 C))(bI:ay K x z24z [])(mC:mg "BookRun"=some (.ref C))(cB:Cl P w K mg base 2 fB f0 ["ones","f","args"] gI "begun")(GA:ah P w K mg base (dG P w) 44 fA y z13z (dB C TL TD nA 16))(bA:ay K y z13z [])(M:bN K C "chain_of" fA):ah P w K mg base (dG P w) 45 f fd z26z (n6 TL TD nA):=by
 refine F.ok1 yQ ?_ λc0 A O s H vs Q E B h=>?_
 ·rintro _ _ _ _ ⟨g,G,j,i,I,d,ds,ns,X,is,rfl,_⟩;rfl
 obtain⟨g,G,j,i,I,d,ds,ns,X,is,rfl,t,J,hn,ha,L,k,R,q,T⟩:=h;refine#[_,(jd (jx 5 yQ.nd$ cB.e B.m$ ja (pv 0)$ ja (pv 1)$ ja (pv 2) jb)$ jg$ jm$ kN (Y2 mk GI B.m Z mC bI .nil bp$ ja (pv 0)$ ja (pv 3)$ ja (pv 4) jb) ck.cl M GA B.m bA .nil zj$ ja (pv 5)$ ja (pv 2)$ ja jf jb),?_];obtain⟨v,hv,tv,h0,U⟩:=t.at J;obtain⟨p,pr,rfl,hp⟩:=wI tv;obtain⟨ps,V,h1,_⟩:=t.pa.2 i d _ J hn;refine aj λF1 f1=>#[_,Z,_,Z,_,Z,g,G,d.f,X,_,i,.ref p,p,d.pa,pr,_,Z,t.at',hv,Z,hp,V,ha,by rw[He,He];omega,U,f1 _ _ ?_];clear f1;refine#[_,Z,_,Z,_,Z,λr D N nd ne=>?_];have s0:ae H (af (af H D$ .own r) r$ .ins C D []):=λc o e=>by rw[ji$ jl e N,ji$ jl e nd];exact e
 refine#[r,D,g,j,60,Z,jc,λl W=>#[Z,?_]];have Y:l≠r:=λe=>by rw[e,jc]at W;cases W
 have n:H l=none:=by
  cases z:H l with
  |none=>rfl
  |some o=>have:=s0 _ _ z;rw[W]at this;cases this
 have S:ae H (af (af (af (af H D$ .own r) r$ .ins C D []) l$ .dK []) r$ .ins C D$ gM j l g 60 0):=λc o e=>by rw[ji$ jl e N,ji$ jl e n];exact s0 _ _ e
 have R1:Rn (af (af (af (af H D$ .own r) r$ .ins C D []) l$ .dK []) r$ .ins C D$ gM j l g 60 0) C r D j l g 60 0 [] I:=#[jc,by rw[ji Y];exact jc,S _ _ k,GT.nil,R,jl k n];generalize af (af (af (af H D$ .own r) r$ .ins C D []) l$ .dK []) r (.ins C D$ gM j l g 60 0)=H1 at S R1;have t0:=ae.tm S;refine#[r,D,_,Z,R1.ins,Z,_,Z,_,Z,r,D,j,l,g,G,0,0,i,[],I,.ref p,d,ds,ns,X,is,Z,Z,Se,R1,Hg _,Se,t.mono t0,J,hn,hv,S _ _ ha,L,λu sk a L' H2 hc ok dp ia R2 l2 t2 k2=>?_,ph.next$ T.mono λH' kk=>λb o nx e=>kk b o (jl e N) (jl e n) nx (S _ _ e)];exact q u sk a H2 hc ok Sf Sf λc o e=>k2 c o (jl e N) (jl e n) (S _ _ e)
noncomputable abbrev mE:Stmt:=bE 70
noncomputable abbrev xo:Stmt:=bE 72
noncomputable abbrev oV:Stmt:=bE 73
noncomputable abbrev BS:Stmt:=bE 74
inductive gJ(b:List V)(H:Hp)(Q:VK)(a:XK):Prop
 |mk(p:Addr)(_:b=[.ref p])(_:ao H p)(_:∀(l:Addr) (C:cy) (H':Hp),H l=none->H' l=some (.dK C)->GT C->C.length<=13->ao H' p->ar p H H'->Q (.ref l) H')
inductive CL(p l:Addr)(H:Hp)(i:Nat)(k:_L.St)(a:Hp):Prop
 |mk(h j:Option V)(C:cy)(b:k=[some (.ref p),some (.ref l),h,j])(c:a l=some (.dK C))(d:GT C)(e:C.length<=i)(f:ao a p)(g:ar p H a)
theorem wS(a:cy)(k:bj)(v:V):(bJ a k v).length<=a.length+1:=qh
structure Gb(H:Hp)(p g sp:Addr)(ys:List Str):Prop where
 B:ao H p
 g:H g=some (.lst$ ys.map V.str)
 y1:1<=ys.length
 y2:ys.length<=20
 s:bZ H sp
theorem Gb.gsp{H:Hp}{p g S:Addr}{y:List Str}(G:Gb H p g S y):g≠S:=by
 obtain⟨k,e⟩:=G.s;refine jO G.g e λz=>?_;injection z with z;have h:=G.y1
 match y,h,z with
 |a::r,_,z=>injection z with b _;cases b
theorem Gb.but2{H h:Hp}{p g S:Addr}{y:List Str}(G:Gb H p g S y)(B:ao h p)(s:bZ h S)(k:aI p S H h):Gb h p g S y:=#[B,k _ _ (zp G.B G.g) G.gsp G.g,G.y1,G.y2,s]
theorem Gb.but{H h:Hp}{p g S:Addr}{y:List Str}(G:Gb H p g S y)(B:ao h p)(k:ar p H h):Gb h p g S y:=G.but2 B (G.s.but G.B k) k.two
theorem Gb.same{H h:Hp}{p g S:Addr}{y:List Str}(G:Gb H p g S y)(s:ae H h):Gb h p g S y:=G.but2 (G.B.same s) (let #[k,e]:=G.s;#[k,s _ _ e]) (aI.of_same s)
inductive tY(n:Nat)(c:List V)(H:Hp)(Q:VK)(a:XK):Prop
 |mk(p g b:Addr)(d:Nat)(e:List Str)(_:c=[.ref p,.ref g,.int (d:Int),.ref b])(_:Gb H p g b e)(_:d < n)(_:0 < cp H b)(_:cp H b<=60)(_:∀(w:Sk) (u:V) (H':Hp),em H' w u []->w.ok false->w.dep<=d->(w.size:Int)+1+cp H' b=cp H b->0<=cp H' b->ao H' p->bZ H' b->aI p b H H'->Q u H')
inductive gq(n:Nat)(e:List V)(H:Hp)(Q:VK)(b:XK):Prop
 |mk(p g c:Addr)(d:Nat)(h:List Str)(_:e=[.ref p,.ref g,.int (d:Int),.ref c])(_:Gb H p g c h)(_:d < n)(_:0<=cp H c)(_:cp H c<=60)(_:∀(f:Str) (is:List Int) (s:Sk) (a:Int) (u:V) (H':Hp),me H' f is s a u->s.ok true->s.dep<=d->(s.size:Int)+cp H' c=cp H c->0<=cp H' c->ao H' p->bZ H' c->aI p c H H'->Q u H')
inductive nW(c:List V)(H:Hp)(Q:VK)(b:XK):Prop
 |mk(p:Addr)(_:c=[.ref p])(_:ao H p)(_:∀(f:Str) (is:List Int) (s:Sk) (a:Int) (u:V) (H':Hp),me H' f is s a u->s.ok true->s.dep<=15->s.size<=60->ao H' p->ar p H H'->Q u H')
inductive LI(p g x w c:Addr)(d:Nat)(f:Str)(t:List Int)(H:Hp)(i:Nat)(z:_L.St)(b:Hp):Prop
 |mk(u v:Option V)(s:Sk)(y:List V)(e:z=[some (.ref p),some (.ref g),some (.int (d:Int)),some (.ref x),u,some (.ref c),some (.ref w),some (.str f),v])(h:b w=some (.lst y))(j:em b s .non y)(k:s.ok true)(l:s.dep<=d)(m:(s.size:Int)+cp b x=cp H x)(n:0<=cp b x)(o:ao b p)(q:bZ b x)(r:aI p x H b)(a:b c=some (.tup (t.map V.int)))
theorem fb:ak ["_law_box_here","_law_cells_here","_law_k","_law_cell"] z1z (aa mE):=bu
theorem rO(F:aK K "_law_cells" "_law_cells" mE f fd)(r:Cl P w K mg base 1 fT f0 z0z aL "_law_take")(cU:Cl P w K mg base 2 fU f2 z1z eB "_law_number")(mr:mg "range"=none):ah P w K mg base aA 3 f fd z1z gJ:=by
 refine F.ok fb ?_ λc0 A O s H vs Q E g h=>?_
 ·rintro _ _ _ _ ⟨p,rfl,_⟩;rfl
 obtain⟨p,rfl,B,q⟩:=h;refine#[_,(jd (jx 1 fb.nd Xn)$ jd (km HZ Z (j6 Z mr$ ja (r.e g.m$ ja (pv 0)$ ja jf jb) jb) (js (i:=2) fb.nd Z$ Or.inl Z)$ jd (jx 3 fb.nd$ r.e g.m$ ja (pv 0)$ ja jf jb)$ jd (jw (kE$ r.e g.m$ ja (pv 0)$ ja jf jb) (jg$ jx 3 fb.nd$ ju kJ (ju kJ (ju Ka jf jf) jf)$ r.e g.m$ ja (pv 0)$ ja jf jb) jp)$ jg$ JQ (zY g) (pv 1) (pv 3) (cU.e g.m$ ja (pv 0) jb) Z)$ jg$ jm$ pv 1),?_];have b0:=aD;have t0:=uE;refine aj λt a=>λl N=>a _ _ ?_;clear a;have S:ae H (af H l$ .dK []):=je N;have I:af H l (.dK []) l=some (.dK []):=jc;generalize af H l (.dK [])=H1 at S I;have L:l≠p:=B.ne N;have B1:=B.same S;refine aj λt a=>eI λJ j=>#[_,Z,p,14,Z,B1,Se,Se,λd H2 d0 d1 B2 M=>#[_,Z,Sf,Sf,j _ _ ?_]];clear j;refine zB (lo:=0) (CL p l H) #[none,none,[],Z,by rw[M l L];exact I,_K.GT.nil,Hg _,B2,(ar.of_same S).trans$ ar.of_eq M] ?_ (λσ H' h=>a _ _ ?_)
 ·clear a;intro E0 _ i σ H3 hi fE Gq o h;obtain⟨o2,o3,C,rfl,x,G,lC,y,D⟩:=h;refine o ?_;clear o;show gf (dS _ _) _ E0 _ _;refine aj λt a=>#[_,Z,p,14,Z,y,Se,Se,λc4 H4 d2 d3 B4 R=>a _ _ ?_];clear a;refine aj λt a=>?_;have c:∀(u:Int) (v:Hp),ao v p->(∀b,b≠p->v b=H3 b)->t [some$ .ref p,some$ .ref l,some$ .int (0+(i:Int)),some$ .int u] v:=λu v BH T=>a _ _ (by
   refine#[_,Z,p,Z,BH,λm H7 m0 m1 B7 U=>?_];have h7:H7 l=some (.dK C):=by rw[U l L,T l L];exact x
   have pl:=wS C (.inl u) (.int m);exact#[_,Z,_,Z,l,_,Z,om.k (k:=.inl u) h7 Sf,fE _ _ #[_,_,_,Z,jc,G.put _ #[m0,m1],Sf,B7.eq$ ji$ HR L,(D.trans ((ar.of_eq T).trans$ ar.of_eq U)).upd_own N]])
  refine uX λG1 yT yF=>#[_,Z,p,8,Z,B4,Se,Se,λd5 H5 d4 d7 W X=>#[Z,_,Z,?_]];by_cases Y:d5=0
  ·rw[Y,Hw (Z:V.int 0=V.int 0)];refine yT _ #[_,_,Z,Z,#[Se,Se,Se],_,_,Z,Z,_,Z,p,4,Z,W,Se,Se,λd6 H6 d8 d9 B6 e6=>#[_,_,Z,Z,c _ H6 B6 λb n=>(e6 b n).trans ((X b n).trans$ R b n)]]
  ·rw[Hk (λz=>Y (by injection z))];exact yF _$ c _ H5 W λb n=>(X b n).trans (R b n)
 ·obtain⟨o2,o3,C,rfl,x,G,lC,y,D⟩:=h;exact#[_,Z,q l C H' N x G Sf y D]
theorem yO:ak ["_law_box_here","_law_names_here","_law_deep","_law_spare","_law_kind"] z7z (aa xo):=bu
theorem Bg(F:aK K "_law_what" "_law_what" xo f fd)(cT:Cl P w K mg base 1 fT f0 z0z aL "_law_take")(cN:Cl P w K mg base 2 fN f2 z1z eB "_law_number")(cC:Cl P w K mg base (2*n+4) fC f3 z7z (gq n) "_law_chain"):ah P w K mg base aA (2*n+5) f fd z7z (tY$ n+1):=by
 refine F.ok yO ?_ λc2 A o1 s H vs Q E I h=>?_
 ·rintro _ _ _ _ ⟨p,g,S,d,ys,rfl,_⟩;rfl
 obtain⟨p,g,S,d,ys,rfl,W,hd,h0,h5,q⟩:=h;refine#[_,(jd (jx 4 yO.nd$ cT.e I.m$ ja (pv 0)$ ja jf jb)$ jd (kQ (ju kJ (jr jq (pv 3) jf (λ_ _=>Z)) jf)$ z9 (pv 3) jf zd)$ jd (jw (kE$ pv 4) (jg$ jm$ jh$ ja jk$ ja (cT.e I.m$ ja (pv 0)$ ja jf jb) jb) jp)$ jd (jw (PW.pt$ Jw (kE$ pv 4)$ qB$ PW.pt$ J9 (kE$ pv 4)$ qM$ PW.pt$ Jw (kE$ pv 2)$ qB$ jA qH (jr jq (pv 3) jf (λ_ _=>Z)) jf$ aC _) (jg$ jm$ jh$ ja jk$ ja (cT.e I.m$ ja (pv 0)$ ja jf jb)$ ja (cN.e I.m$ ja (pv 0) jb) jb) jp)$ jd (jw (jA qH (pv 4) jf$ aC _) (jg$ jm$ jh$ ja jk$ ja (cT.e I.m$ ja (pv 0)$ ja jf jb)$ ja (cN.e I.m$ ja (pv 0) jb) jb) jp)$ jg$ jm$ jh$ ja jk$ ja (cC.e I.m$ ja (pv 0)$ ja (pv 1)$ ja (ju kJ (pv 2) jf)$ ja (pv 3) jb) jb),?_];have b0:=aD;refine aj λt b=>#[_,Z,p,5,Z,W.B,Se,Se,λd1 X d0 d2 B1 q1=>b _ _ ?_];clear b;have G1:=W.but B1 (ar.of_eq q1);obtain⟨k,hk⟩:=G1.s;have ek:cp H S=k:=(jR W.B W.s$ ar.of_eq q1).symm.trans (zH hk);refine aj λt b=>#[_,Z,S,_,_,_,Z,Z,aB.of hk,Z,_,_,Z,Z,_,Z,S,_,_,0,Z,Z,hk,Z,b _ _ ?_];clear b;have s1:=G1.s.ne B1;have B3:ao (af X S$ .lst ([.int k].set 0 (.int$ k - 1))) p:=B1.eq (ji$ HR s1);have l:af X S (.lst ([.int k].set 0 (.int$ k - 1))) S=some (.lst [.int$ k - 1]):=jc;have K3:aI p S H (af X S$ .lst ([.int k].set 0 (.int$ k - 1))):=(ar.of_eq q1).two.trans aI.at;have G:=W.but2 B3 #[k - 1,l] K3;have e3:cp (af X S$ .lst ([.int k].set 0 (.int$ k - 1))) S=k - 1:=zH l;generalize af X S (.lst ([.int k].set 0 (.int$ k - 1)))=H3 at B3 l K3 G e3;have r:∀(w:Sk) (xs:List V) (i:Hp) (v:Addr),ao i p->ar p H3 i->i v=none->em (af i v$ .tup xs) w (.ref v) []->w.ok false->w.dep=0->w.size=0->Q (.ref v) (af i v$ .tup xs):=λw xs i v j Y N hw ok dp sz=>by have G4:=G.but j Y;have x1:=jW G4.s (je (o:=.tup xs) N);have x2:=jR G.B G.s Y;exact q w _ _ hw ok Sf (by rw[x1,x2,e3,ek,sz];show(0:Int)+1+_=_;omega) Sf (j.upd_new N) (G4.s.new N) ((K3.trans Y.two).trans$ aI.of_same$ je N)
 by_cases c0:d1=0
 ·exact aj λt b=>#[_,Z,Z,_,Z,bQ (Hw (by rw[c0])) #[_,Z,p,2,Z,G.B,Se,Se,λD i x y j C=>#[bK,λv N=>r (.ask D) _ _ v j (ar.of_eq C) N #[v,Z,jc] trivial Z Z]]]
 refine aj λt b=>#[_,Z,Z,_,Z,aO (Hk λz=>c0 (by injection z))$ b _ _ ?_];clear b;by_cases c1:d1=1
 ·exact aj λt b=>#[_,Z,Z,_,Z,bQ (Hw (by rw[c1]))$ oy #[_,Z,p,6,Z,G.B,Se,Se,λD i x y j C=>#[_,Z,p,Z,j,λJ H5 L M O R=>#[dZ,λv N=>r (.wr D J) _ _ v O ((ar.of_eq C).trans$ ar.of_eq R) N #[v,Z,jc] trivial Z Z]]]]
 by_cases c4:d1=4
 ·by_cases cd:(d:Int)=0
  ·exact aj λt b=>#[_,Z,Z,_,Z,aO (Hk λz=>c1 (by injection z)) #[_,Z,Z,_,Z,bQ (Hw (by rw[c4])) #[_,Z,Z,_,Z,bQ (Hw (by rw[cd]))$ oy #[_,Z,p,6,Z,G.B,Se,Se,λD i x y j C=>#[_,Z,p,Z,j,λJ H5 L M O R=>#[dZ,λv N=>r (.wr D J) _ _ v O ((ar.of_eq C).trans$ ar.of_eq R) N #[v,Z,jc] trivial Z Z]]]]]]
  by_cases ck:k - 1 < 1
  ·exact aj λt b=>#[_,Z,Z,_,Z,aO (Hk λz=>c1 (by injection z)) #[_,Z,Z,_,Z,bQ (Hw (by rw[c4])) #[_,Z,Z,_,Z,aO (Hk λz=>cd (by injection z)) #[_,Z,S,_,_,_,Z,Z,aB.of l,Z,_,_,Z,Z,_,Z,bQ (Hw ck) #[_,Z,p,6,Z,G.B,Se,Se,λD i x y j C=>#[_,Z,p,Z,j,λJ H5 L M O R=>#[dZ,λv N=>r (.wr D J) _ _ v O ((ar.of_eq C).trans$ ar.of_eq R) N #[v,Z,jc] trivial Z Z]]]]]]]
  refine aj λt b=>#[_,Z,Z,_,Z,aO (Hk λz=>c1 (by injection z)) #[_,Z,Z,_,Z,bQ (Hw (by rw[c4])) #[_,Z,Z,_,Z,aO (Hk λz=>cd (by injection z)) #[_,Z,S,_,_,_,Z,Z,aB.of l,Z,_,_,Z,Z,_,Z,aO (Hk ck)$ b _ _ ?_]]]];clear b;refine aj λt b=>#[_,Z,_,_,Z,Z,_,Z,aO (Hk Sf)$ b _ _ ?_];clear b;obtain⟨T,rfl⟩:∃T,d=T+1:=#[d - 1,Sf];have ed:(((T+1:Nat):Int) - 1)=((T:Nat):Int):=by omega
  refine#[_,Z,_,Z,_,Z,_,_,Z,Z,_,Z,p,g,S,T,ys,(by show [V.ref p,V.ref g,V.int (((T+1:Nat):Int) - 1),V.ref S]=_;rw[ed]),G,Sf,Sf,Sf,λf is s a u i hc ok dp sz s0 j s4 Y=>#[bK,λv N=>?_]];obtain⟨c,g',e,ss,rfl,h1,h2,h3,h4⟩:=hc;have U:ae i (af i v$ .tup [.str "call",.ref c]):=je N;have x1:=jW s4 U;exact q (.cl f is s a) _ _ #[v,c,g',e,ss,Z,jc,U _ _ h1,U _ _ h2,U _ _ h3,h4.mono$ ae.tm U] ok (by show s.dep+1<=_;omega) (by rw[x1];show(s.size:Int)+1+_=_;omega) (by rw[x1];exact s0) (j.upd_new N) (s4.new N) ((K3.trans Y).trans$ aI.of_same U)
 ·refine aj λt b=>#[_,Z,Z,_,Z,aO (Hk λz=>c1 (by injection z)) #[_,Z,Z,_,Z,aO (Hk λz=>c4 (by injection z))$ ou$ b _ _ ?_]];clear b;exact aj λt b=>#[_,Z,_,_,Z,Z,_,Z,bQ (Hw Sf) #[_,Z,p,6,Z,G.B,Se,Se,λD i x y j C=>#[_,Z,p,Z,j,λJ H5 L M O R=>#[dZ,λv N=>r (.rd D J) _ _ v O ((ar.of_eq C).trans$ ar.of_eq R) N #[v,Z,jc] trivial Z Z]]]]
theorem iA:ak z34z z7z (aa oV):=bu
noncomputable def oY:Scope:=#[.function,[(".0",.local),("_law_k",.local),("_law_number",.globalImplicit),("_law_box_here",.free)],false,false,[]]
theorem AT:(["_law_k","_law_box_here"]:List Str).Nodup:=by decide+kernel
theorem An:aT z34z (aa oV) oY ["_law_k","_law_box_here"] 1 [0]:=l8
noncomputable def oZ:Scope:=#[.function,[(".0",.local),("_law_j",.local),("_law_number",.globalImplicit),("_law_box_here",.free)],false,false,[]]
theorem AU:(["_law_j","_law_box_here"]:List Str).Nodup:=by decide+kernel
theorem Ao:aT z34z (aa oV) oZ ["_law_j","_law_box_here"] 1 [0]:=l8
theorem Bf(F:aK K "_law_chain" "_law_chain" oV f fd)(cT:Cl P w K mg base 1 fT f0 z0z aL "_law_take")(cN:Cl P w K mg base 2 fN f2 z1z eB "_law_number")(cW:Cl P w K mg base (2*n+3) fW f3 z7z (tY n) "_law_what")(ml:mg "len"=none)(mr:mg "range"=none)(m0:mg "tuple"=none):ah P w K mg base aA (2*n+4) f fd z7z (gq n):=by
 refine F.ok iA ?_ λc0 A o1 s H vs Q E U h=>?_
 ·rintro _ _ _ _ ⟨p,g,x,d,ys,rfl,_⟩;rfl
 obtain⟨p,g,x,d,ys,rfl,G0,hd,h4,h7,q⟩:=h;refine#[_,(jd (jx 5 iA.nd$ jF jB Z m0 IQ$ ja (@ki _ _ _ _ _ _ _ (["_law_k","_law_box_here"]) (1) ([0]) _ _ _ _ Z (j6 Z mr$ ja (cT.e U.m$ ja (pv 0)$ ja jf jb) jb) An (λ_ _ _ _ _=>(js (i:=0) AT Z$ Or.inl Z)) (λ_ _ _ _ _=>(@kM _)) (λ_ _ _ _ _=>(cN.e U.m$ ja (pv 1) jb)) (by intro _;rfl)) jb)$ jd (jx 6 iA.nd$ jD jb)$ jd (jx 7 iA.nd$ jr jq (pv 1) (cT.e U.m$ ja (pv 0)$ ja (jH jE Z ml Ih$ ja (pv 1) jb) jb) (λ_ _=>Z))$ jd (km HZ Z (j6 Z mr$ ja (cT.e U.m$ ja (pv 0)$ ja jf jb) jb) (js (i:=4) iA.nd Z$ Or.inl Z)$ jg$ jw (jA qI (jr jq (pv 3) jf (λ_ _=>Z)) jf$ aC _) (jd (jx 8 iA.nd$ jF jB Z m0 IQ$ ja (@ki _ _ _ _ _ _ _ (["_law_j","_law_box_here"]) (1) ([0]) _ _ _ _ Z (j6 Z mr$ ja (cT.e U.m$ ja (pv 0)$ ja jf jb) jb) Ao (λ_ _ _ _ _=>(js (i:=0) AU Z$ Or.inl Z)) (λ_ _ _ _ _=>(@kM _)) (λ_ _ _ _ _=>(cN.e U.m$ ja (pv 1) jb)) (by intro _;rfl)) jb)$ jg$ jN$ kr Hv HP HN jP (pv 6)$ ja (jh$ ja (cT.e U.m$ ja (pv 0)$ ja jf jb)$ ja (pv 8)$ ja (cW.e U.m$ ja (pv 0)$ ja (pv 1)$ ja (pv 2)$ ja (pv 3) jb) jb) jb) jp)$ jg$ jm$ jh$ ja (pv 7)$ ja (pv 5)$ ja (jF jB Z m0 IQ$ ja (pv 6) jb)$ ja (cN.e U.m$ ja (pv 0) jb) jb),?_];have b0:=aD;have k7:=h4;refine aj λF1 y=>#[_,Z,p,3,Z,G0.B,Se,Se,λd1 H1 d' D B1 q1=>#[_,Z,Sf,Sf,?_]];refine qj (lo:=0) (n:=(d1).toNat) (λi X Y=>(∃I:List Int,X=I.map V.int/\I.length=i)/\ao Y p/\ar p H1 Y) #[#[[],Z,Z],B1,ar.refl] Sf (λi X Y h=>by obtain⟨⟨I,e,l⟩,_⟩:=h;rw[e,He,l];exact Hg _) (λi X Y hi h=>?_) ?_
 ·exact#[_,Z,p,Z,h.2.1,λe H7 e0 e1 B7 e7=>#[let #[I,h1,l]:=h.1;#[I++[e],by rw[h1,Hz];rfl,by rw[Hf,l];rfl],B7,h.2.2.trans$ ar.of_eq e7]]
 rintro X H2 ⟨⟨I,rfl,_⟩,B2,k2⟩ l1 n4;refine#[l1,_,Z,.inl #[aB.of jc,λag n5=>y _ _ ?_]];clear y;have s3:ae H2 (af (af H2 l1$ .lst$ I.map V.int) ag$ .tup$ I.map V.int):=(je n4).trans (je n5);have a3:af (af H2 l1$ .lst$ I.map V.int) ag (.tup$ I.map V.int) ag=some (.tup$ I.map V.int):=jc;generalize af (af H2 l1$ .lst$ I.map V.int) ag (.tup$ I.map V.int)=H3 at s3 a3;have k3:ar p H H3:=((ar.of_eq q1).trans k2).trans (ar.of_same s3);have G3:=G0.but (B2.same s3) k3;refine aj λF1 y=>#[iw,λS n0=>y _ _ ?_];clear y;have s4:ae H3 (af H3 S$ .lst []):=je n0;have l4:af H3 S (.lst []) S=some (.lst []):=jc;generalize af H3 S (.lst [])=H4 at s4 l4;have G4:=G3.same s4;have h0:(((ys.map V.str).length:Nat):Int)=(ys.length:Int):=by rw[He]
 have h8:=G0.y1;have h9:=G0.y2;refine aj λF1 y=>#[_,Z,_,Z,_,Z,g,_,Z,.inl$ aB.of G4.g,p,_,Z,G4.B,by rw[h0];omega,by rw[h0];omega,λd5 H5 d2 d0 B5 q5=>?_];have k5:ar p H4 H5:=ar.of_eq q5;have G5:=G4.but B5 k5;rw[h0]at d0;obtain⟨f,hf,h5⟩:=Jg (ys:=ys) d2 d0;refine#[g,_,_,_,Z,Z,aB.of G5.g,h5,y _ _ ?_];clear y;have C:S≠p:=(B2.same s3).ne n0;have n3:H S=none:=by
  cases z:H S with
  |none=>rfl
  |some o=>have:=k3 _ _ C z;rw[n0]at this;cases this
 have N:S≠x:=HR (by obtain⟨k,e⟩:=G3.s;exact jl e n0);have a5:H5 ag=some (.tup$ I.map V.int):=k5 _ _ (by intro z;have:=s4 _ _ a3;rw[z]at this;obtain⟨_,_,_,_,_,hp⟩:=G4.B.ob;rw[hp]at this;cases this) (s4 _ _ a3);have l5:=k5 _ _ C l4;have K5:ar p H H5:=k3.trans ((ar.of_same s4).trans k5);have e5:cp H5 x=cp H x:=jR G0.B G0.s K5;refine aj λF1 y=>eI λJ j=>#[_,Z,p,9,Z,B5,Se,Se,λd6 H6 a8 a' B6 q6=>#[_,Z,Sf,Sf,j _ _ ?_]];clear j;have k6:ar p H5 H6:=ar.of_eq q6;have e6:cp H6 x=cp H x:=(jR B5 G5.s k6).trans e5;have G6:=G5.but B6 k6;refine zB (lo:=0) (LI p g x S ag d f I H) #[none,none,.nil,[],Z,k6 _ _ C l5,Z,trivial,Ho _,by show(0:Int)+_=_;omega,Sf,B6,G6.s,(K5.trans k6).two,k6.tm B5 _ _ a5] ?_ (λσ H' h=>y _ _ ?_)
 ·intro E _ i σ H7 hi fE Gq kq h;clear y;obtain⟨o4,o8,s,M,rfl,w1,w2,w3,w4,w5,w6,W,w8,w9,wa⟩:=h;refine kq ?_;clear kq;have G7:=G0.but2 W w8 w9;obtain⟨k,hk⟩:=w8;have ek:=zH hk;have l3:=X6 w3 w2;refine#[_,Z,x,_,_,_,Z,Z,aB.of hk,Z,_,_,Z,Z,_,Z,?_];by_cases c:(0:Int) < k
  ·refine bQ (Hw c) ?_;refine aj λF1 y=>#[_,Z,p,3,Z,W,Se,Se,λd8 H8 b1 b2 B8 q8=>#[_,Z,Sf,Sf,?_]];refine qj (lo:=0) (n:=(d8).toNat) (λi X Y=>(∃I:List Int,X=I.map V.int/\I.length=i)/\ao Y p/\ar p H8 Y) #[#[[],Z,Z],B8,ar.refl] Sf (λi X Y h=>by obtain⟨⟨I,e,l⟩,_⟩:=h;rw[e,He,l];exact Hg _) (λi X Y hi h=>?_) ?_
   ·exact#[_,Z,p,Z,h.2.1,λe H7 e0 e1 B7 e7=>#[let #[I,h1,l]:=h.1;#[I++[e],by rw[h1,Hz];rfl,by rw[Hf,l];rfl],B7,h.2.2.trans$ ar.of_eq e7]]
   rintro X O ⟨⟨hs,rfl,_⟩,B9,k9⟩ l9 n7;refine#[l9,_,Z,.inl #[aB.of jc,λhv n9=>y _ _ ?_]];clear y;have s1:ae O (af (af O l9$ .lst$ hs.map V.int) hv$ .tup$ hs.map V.int):=(je n7).trans (je n9);have a1:af (af O l9$ .lst$ hs.map V.int) hv (.tup$ hs.map V.int) hv=some (.tup$ hs.map V.int):=jc;generalize af (af O l9$ .lst$ hs.map V.int) hv (.tup$ hs.map V.int)=a2 at s1 a1;have k0:ar p H7 a2:=((ar.of_eq q8).trans k9).trans (ar.of_same s1);have G1:=G7.but (B9.same s1) k0;have a4:=k0 _ _ C w1;refine#[_,Z,.inl #[Z,_,aB.of a4],_,Z,p,9,Z,G1.B,Se,Se,λD a0 d4 d7 B3 q0=>?_];have k1:ar p a2 a0:=ar.of_eq q0;have G2:=G1.but B3 k1;have K2:ar p H7 a0:=k0.trans k1;have x1:cp a0 x=cp H7 x:=jR W G7.s K2;refine#[_,Z,_,Z,_,Z,_,Z,_,Z,p,g,x,d,ys,Z,G2,hd,Sf,Sf,λw u r hw o2 d3 s9 s6 B4 s0 k4=>#[dZ,λR n'=>?_]];have K1:aI p x H7 r:=K2.two.trans k4;have w0:=K1 _ _ C N w1;have t1:ai H7 r:=K1.tm W #[k,hk];have h6:r hv=some (.tup$ hs.map V.int):=k4.tm G2.B G2.s _ _ (k1.tm G1.B _ _ a1);have t:ae r (af r R$ .tup [.int D,.ref hv,u]):=je n';have e2:af r R (.tup [.int D,.ref hv,u]) R=some (.tup [.int D,.ref hv,u]):=jc;refine#[S,_,_,Z,Z,t _ _ w0,Sf,fE _ _ ?_];generalize af r R (.tup [.int D,.ref hv,u])=G at t e2;have L:ar S G (af G S$ .lst$ M++[.ref R]):=λb o nb e=>by rw[ji nb];exact e
   have T:ai G (af G S$ .lst$ M++[.ref R]):=λb xs e=>L _ _ (jO e (t _ _ w0) (by intro z;cases z)) e;have w':af G S (.lst$ M++[.ref R]) S=some (.lst$ M++[.ref R]):=jc;generalize af G S (.lst$ M++[.ref R])=H0 at L T w';have t0:ai r H0:=λb xs e=>T _ _ (t _ _ e);have t2:ai H7 H0:=t1.trans t0;have s2:bZ H0 x:=let #[z,e]:=s0;#[z,L _ _ (HR N)$ t _ _ e]
   have x0:cp H0 x=cp r x:=QJ s0 λo e=>L _ _ (HR N) (t _ _ e);have s7:=Kr (n:=D) (hs:=hs) (w:=w) w3;refine#[_,_,Sk.put D hs w s,M++[.ref R],Z,w',sH (T _ _ e2) (t0 _ _ h6) (hw.mono t0) w3$ w2.mono t2,Q1 o2 w3,Q2 d3 w3 w4,by rw[s7,x0];omega,by rw[x0];exact s6,?_,s2,?_,t2 _ _ wa]
   ·obtain⟨a,b,h1,h2,h3,h⟩:=B4.ob;exact#[a,b,h1,h2,h3,L _ _ (HR C)$ t _ _ h]
   ·intro b o n1 n2 e;exact L _ _ (jl e n3)$ t _ _$ K1 _ _ n1 n2$ w9 _ _ n1 n2 e
  ·exact aO (Hk c)$ fE _ _ #[_,_,s,M,Z,w1,w2,w3,w4,w5,w6,W,#[k,hk],w9,wa]
 ·obtain⟨o4,o8,s,M,rfl,w1,w2,w3,w4,w5,w6,W,w8,w9,wa⟩:=h;refine#[_,Z,_,Z,_,Z,S,M,Z,.inl #[aB.of w1,λl2 a6=>?_]];have s8:ae H' (af H' l2$ .tup M):=je a6;refine#[_,Z,p,Z,W.same s8,λd9 O b3 b4 B9 q9=>#[oe,λv nv=>?_]];have k9:ar p H' O:=(ar.of_same s8).trans (ar.of_eq q9);have t9:ai H' O:=k9.tm W;have sv:ae O (af O v$ .tup [.str f,.ref ag,.ref l2,.int d9]):=je nv;have tv:ai H' (af O v$ .tup [.str f,.ref ag,.ref l2,.int d9]):=t9.trans (ae.tm sv);have l0:O l2=some (.tup M):=(ar.of_eq q9).tm (W.same s8) _ _ jc;have x9:=jR W w8 k9;have s5:=w8.but W k9;have xv:=jW s5 sv;exact q f I s d9 _ _ #[v,ag,l2,M,Z,jc,tv _ _ wa,sv _ _ l0,w2.mono tv] w3 w4 (by rw[xv,x9];exact w5) (by rw[xv,x9];exact w6) (B9.upd_new nv) (s5.new nv) (w9.trans$ k9.two.trans$ aI.of_same sv)
theorem oO(h:0<=d)(H:d < 3):∃m:Nat,dq [V.int 2,.int 4,.int 15] d=some (.int (m:Int))/\m<=15:=by
 rcases(by omega:d=0∨d=1∨d=2) with rfl |rfl |rfl
 ·exact#[2,Z,Se]
 ·exact#[4,Z,Se]
 ·exact#[15,Z,Se]
theorem oQ(h:0<=d)(H:d < 3):∃m:Int,dq [V.int 12,.int 30,.int 60] d=some (.int m)/\0<=m/\m<=60:=by
 rcases(by omega:d=0∨d=1∨d=2) with rfl |rfl |rfl
 ·exact#[12,Z,Se,Se]
 ·exact#[30,Z,Se,Se]
 ·exact#[60,Z,Se,Se]
theorem AX:ah P w K mg base aA k f b z7z (gq 0):=by
 have n:∀v H Q E,¬gq 0 v H Q E:=λv H Q E h=>by obtain⟨p,g,S,d,y,_,_,z,_⟩:=h;omega
 exact#[λv H Q E h=>absurd h (n v H Q E),λA o s H a u v Q E _ _ _ _ h=>absurd h (n v H Q E)]
theorem DE(F:aK K "_law_chain" "_law_chain" oV d f)(B:ay K f z7z [])(M:mg "_law_chain"=some (.ref d))(a:aK K "_law_what" "_law_what" xo k b)(e:ay K b z7z [])(g:mg "_law_what"=some (.ref k))(c:Cl P w K mg base 1 p l z0z aL "_law_take")(C:Cl P w K mg base 2 q o z1z eB "_law_number")(i:mg "len"=none)(j:mg "range"=none)(m:mg "tuple"=none):∀n,ah P w K mg base aA (2*n+4) d f z7z (gq n)
 |0=>AX
 |n+1=>by have h:=DE F B M a e g c C i j m n;have H:=Bg a c C #[h,B,F.kp,M];exact Bf F c C #[H,e,a.kp,g] i j m
theorem tI:ak z8z z1z (aa BS):=bu
theorem Be(F:aK K "_law_book" "_law_book" BS f fd)(U:Cl P w K mg base 1 fT f0 z0z aL "_law_take")(cA:Cl P w K mg base 2 fA f2 z20z dY "_law_names")(cC:Cl P w K mg base 36 fC f3 z7z (gq 16) "_law_chain"):ah P w K mg base aA 37 f fd z1z nW:=by
 refine F.ok tI ?_ λc0 A O s H vs Q E t h=>?_
 ·rintro _ _ _ _ ⟨p,rfl,_⟩;rfl
 obtain⟨p,rfl,hB,q⟩:=h;refine#[_,(jd (jx 1 tI.nd$ cA.e t.m$ ja (pv 0)$ ja jf jb)$ jd (jx 2 tI.nd$ jr jq (jD$ ja jf$ ja jf$ ja jf jb) (U.e t.m$ ja (pv 0)$ ja jf jb) (λ_ _=>Z))$ jg$ jm$ cC.e t.m$ ja (pv 0)$ ja (pv 1)$ ja (pv 2)$ ja (jD$ ja (jr jq (jD$ ja jf$ ja jf$ ja jf jb) (U.e t.m$ ja (pv 0)$ ja jf jb) (λ_ _=>Z)) jb) jb),?_];have b0:=aD;refine aj λF1 i=>#[_,Z,p,14,Z,hB,Se,Se,λg Y H1 ng W hl h0 B X=>i _ _ ?_];clear i;refine aj λF1 i=>#[dZ,λl v=>#[_,Z,p,3,Z,B.upd_new v,Se,Se,λd2 H2 D x y q2=>?_]];obtain⟨m,C,m1⟩:=oO D x;have G:ar p H1 H2:=(ar.refl.upd_new v).trans (ar.of_eq q2);refine#[l,_,_,_,Z,Z,aB.of (by rw[q2 l$ B.ne v];exact jc),C,i _ _ ?_];clear i;have j:=G _ _ (zp B W) W;refine#[_,Z,_,Z,_,Z,dZ,λl3 c=>#[_,Z,p,3,Z,y.upd_new c,Se,Se,λd4 d I J B4 q4=>?_]];obtain⟨M,k,m0,m6⟩:=oQ I J;have L:ar p H2 d:=(ar.refl.upd_new c).trans (ar.of_eq q4);refine#[l3,_,_,_,Z,Z,aB.of (by rw[q4 l3$ y.ne c];exact jc),k,gK,λS N=>?_];have R:=L _ _ (zp y j) j;have k5:ar p d (af d S$ .lst [.int M]):=ar.refl.upd_new N;have G5:Gb (af d S$ .lst [.int M]) p g S Y:=#[B4.upd_new N,am R N,Sf,Sf,M,jc];have e5:cp (af d S$ .lst [.int M]) S=M:=zH jc;have K5:ar p H (af d S$ .lst [.int M]):=(X.trans G).trans (L.trans k5);have T:S≠p:=B4.ne N;have r:H S=none:=by
  cases z:H S with
  |none=>rfl
  |some o=>have:=(X.trans G).trans L _ _ T z;rw[N]at this;cases this
 generalize af d S (.lst [.int M])=H5 at G5 e5 K5;refine#[p,g,S,m,Y,Z,G5,Sf,Sf,Sf,λf is s a u H6 hc ok dp sz s0 B6 s6 k6=>q f is s a u H6 hc ok Sf Sf B6 λb o n e=>k6 _ _ n (jl e r) (K5 _ _ n e)]
noncomputable abbrev xA:Stmt:=bE 9
noncomputable abbrev xC:Stmt:=bE 10
abbrev bh:=List Int
abbrev gF:=Int×List Int×Sk
abbrev RA(a:Type):=Hp->V->a->Prop
def cj{a:Type}(R:RA a)(H:Hp):List a->List V->Prop
 | [],v=>v=[]
 |w::W,v=>∃x r,v=x::r/\R H x w/\cj R H W r
def EG{a:Type}(R:RA a):Prop:=∀(H h:Hp) (x:V) (w:a),ai H h->R H x w->R h x w
section
variable {α:Type}{R:RA α}
theorem cj.mono(a:EG R)(k:ai H b):∀{W:List α} {v:List V},cj R H W v->cj R b W v
 | [],_,h=>h
 |_::_,_,z=>by obtain⟨x,r,e,c,d⟩:=z;exact #[x,r,e,a _ _ _ _ k c,cj.mono a k d]
theorem cj.app(a:cj R H b y):∀{W:List α} {v:List V},cj R H W v->cj R H (W++b) (v++y)
 | [],_,h=>by have e:_=[]:=h;rw[e];exact a
 |_::_,_,z=>by obtain⟨x,r,e,c,d⟩:=z;exact #[x,r++y,by rw[e];rfl,c,cj.app a d]
theorem cj.len:∀{W:List α} {v:List V},cj R H W v->v.length=W.length
 | [],_,h=>by have e:_=[]:=h;rw[e];rfl
 |_::_,_,z=>by obtain⟨x,r,e,b,a⟩:=z;rw[e];exact IC (·+1) (cj.len a)
theorem cj.at:∀{W:List α} {v:List V},cj R H W v->∀{i:Nat} {x:V},v[i]?=some x->∃w,W[i]?=some w/\R H x w
 | [],_,h,i,x,a=>by have e:_=[]:=h;rw[e]at a;simp at a
 |w::_,_,q,0,x,a=>by obtain⟨y,r,e,b,c⟩:=q;rw[e]at a;cases a;exact#[w,Z,b]
 |w::W,_,q,i+1,x,a=>by obtain⟨y,r,e,b,c⟩:=q;rw[e]at a;exact cj.at c (i:=i) (by simpa using a)
theorem cj.one{w:α}(h:R H x w):cj R H [w] [x]:=#[x,[],Z,h,Z]
theorem cj.map{a:Type}{S:RA a}{g:α->a}{f:V->V}(h:∀x w,R H x w->S H (f x) (g w)):∀{W:List α} {v:List V},cj R H W v->cj S H (W.map g) (v.map f)
 | [],_,e=>by have e:_=[]:=e;rw[e];rfl
 |_::_,_,z=>by obtain⟨x,r,e,b,c⟩:=z;exact #[f x,r.map f,by rw[e];rfl,h _ _ b,cj.map h c]
end
def pf:RA bh:=λH x p=>∃a,x= .ref a/\H a=some (.tup$ p.map V.int)
theorem dN:EG pf:=λ_ _ _ _ k #[a,e,h]=>#[a,e,k _ _ h]
def CT:RA (bh×Sk):=λH x w=>∃q p u,x= .ref q/\H q=some (.tup [.ref p,u])/\H p=some (.tup$ w.1.map V.int)/\em H w.2 u []
theorem nk:EG CT:=λ_ _ _ _ k #[q,p,u,e,h,H,a]=>#[q,p,u,e,k _ _ h,k _ _ H,a.mono k]
noncomputable def Sk.steps:Sk->List gF
 | .st n h w r=>(n,h,w)::r.steps
 |_=>[]
noncomputable def Sk.ws:Sk->bh->Nat->List (bh×Sk)
 | .st _ _ w r,p,k=>((p++[(k:Int)],w)::w.ws (p++[(k:Int)]) 0)++r.ws p (k+1)
 | .cl _ _ s _,p,_=>s.ws p 0
 |_,_,_=>[]
noncomputable def md:List gF->bh->Nat->List (bh×Sk)
 | [],_,_=>[]
 |s::r,p,k=>((p++[(k:Int)],s.2.2)::s.2.2.ws (p++[(k:Int)]) 0)++md r p (k+1)
theorem QO:∀{s:Sk},s.ok true->∀p k,s.ws p k=md s.steps p k
 | .nil,_,_,_=>rfl
 | .st _ _ w r,o,p,k=>by show _++r.ws p (k+1)=_++md r.steps p (k+1);rw[QO o.2]
theorem J2:∀(a b:List gF) (p:bh) (k:Nat),md (a++b) p k=md a p k++md b p (k+a.length)
 | [],_,_,_=>rfl
 |s::a,b,p,k=>by show _++md (a++b) p (k+1)=(_++md a p (k+1))++md b p (k+(a.length+1));rw[J2 a b,Ln,show k+1+a.length=k+(a.length+1) by omega]
theorem Jl:∀{b:Bool} {s:Sk},s.ok b->∀(p:bh) (k:Nat),(s.ws p k).length=s.size
 |true,.nil,_,_,_=>rfl
 |true,.st _ _ w r,o,p,k=>by have h:=Jl (b:=false) (s:=w) o.1 (p++[(k:Int)]) 0;have H:=Jl (b:=true) (s:=r) o.2 p (k+1);show(((p++[(k:Int)],w)::w.ws (p++[(k:Int)]) 0)++r.ws p (k+1)).length=w.size+r.size+1;rw[Hf,HM,h,H];omega
 |false,.cl _ _ s _,o,p,_=>Jl (b:=true) (s:=s) o p 0
 |false,.ask _,_,_,_=>rfl
 |false,.rd _ _,_,_,_=>rfl
 |false,.wr _ _,_,_,_=>rfl
theorem CH(a:List gF)(i:Nat)(p:bh)(k:Nat):(md (a.take i) p k).length<=(md a p k).length:=by have:=IC List.length (J2 (a.take i) (a.drop i) p k);rw[Mc,Hf]at this;omega
theorem QP:∀{s:Sk} {S:List V},s.ok true->em H s .non S->∀{i:Nat} {x:V},S[i]?=some x->∃n b w p h u,s.steps[i]?=some (n,b,w)/\w.ok false/\w.dep<=s.dep/\w.size+1<=s.size/\x= .ref p/\H p=some (.tup [.int n,.ref h,u])/\H h=some (.tup$ b.map V.int)/\em H w u []
 | .nil,_,_,e,i,x,a=>by have e:_=[]:=e;rw[e]at a;simp at a
 | .st n b w r,_,o,q,0,x,a=>by obtain⟨p,h,u,y,e,d,f,g,j⟩:=q;rw[e]at a;cases a;exact#[n,b,w,p,h,u,Z,o.1,Mo _ _,by show w.size+1<=w.size+r.size+1;omega,Z,d,f,g]
 | .st n b w r,_,o,q,i+1,x,a=>by obtain⟨p,h,u,y,e,d,f,g,j⟩:=q;rw[e]at a;obtain⟨N,c,W,k,l,U,t,T,m,z,v⟩:=QP o.2 j (i:=i) (x:=x) (by simpa using a);exact#[N,c,W,k,l,U,t,T,Hr m$ Mg _ _,by show W.size+1<=w.size+r.size+1;omega,v]
theorem qm:∀{s:Sk} {S:List V},s.ok true->em H s .non S->S.length=s.steps.length
 | .nil,_,_,e=>by have e:_=[]:=e;rw[e];rfl
 | .st n b w r,_,o,z=>by obtain⟨p,h,u,y,e,c,d,f,a⟩:=z;rw[e];exact IC (·+1) (qm o.2 a)
theorem Aj(p:bh)(k:Nat):p.map V.int++[V.int (k:Int)]=(p++[(k:Int)]).map V.int:=by rw[Hz];rfl
inductive ue(n:Nat)(d:List V)(H:Hp)(Q:VK)(a:XK):Prop
 |mk(b:Addr)(c:bh)(w:Sk)(u:V)(_:d=[.ref b,u])(_:H b=some (.tup (c.map V.int)))(_:c.length+n<=100)(_:em H w u [])(_:w.ok false)(_:w.dep < n)(_:w.size<=1000)(_:∀(r:Addr) (xs:List V) (H':Hp),H r=none->H' r=some (.lst xs)->cj CT H' ((c,w)::w.ws c 0) xs->ae H H'->Q (.ref r) H')
inductive gu(n:Nat)(g:List V)(H:Hp)(Q:VK)(b:XK):Prop
 |mk(d:Addr)(e:bh)(f:Str)(c:List Int)(s:Sk)(a:Int)(u:V)(_:g=[.ref d,u])(_:H d=some (.tup (e.map V.int)))(_:e.length+n+1<=100)(_:me H f c s a u)(_:s.ok true)(_:s.dep < n)(_:s.size<=1000)(_:∀(r:Addr) (xs:List V) (H':Hp),H r=none->H' r=some (.lst xs)->cj CT H' (s.ws e 0) xs->ae H H'->Q (.ref r) H')
inductive Gi(h k:Addr)(j:bh)(u:V)(s:Sk)(H:Hp)(i:Nat)(m:_L.St)(a:Hp):Prop
 |mk(f g:Option V)(l:List V)(b:m=[some (.ref h),some u,some (.ref k),f,g])(c:a k=some (.lst l))(d:cj CT a (md (s.steps.take i) j 0) l)(e:ae H a)
noncomputable def BJ(p:bh)(w:Sk):List bh:=p::(w.ws p 0).map (·.1)
noncomputable def dJ(H:Hp):V->V
 | .ref q=>match H q with
  |some (.tup (x::_))=>x
  |_=>.non
 |_=>.non
theorem qf(l:List V):(List.range l.length).map (λi=>(l[i]?).getD .non)=l:=by refine MJ Si λi H h=>?_;simp [G8 h]
theorem YV{H:Hp}(h:H q=some (.tup [.ref p,u])):dJ H (.ref q)= .ref p:=by show(match H q with |some (.tup (x::_))=>x |_=>V.non)=_;rw[h]
theorem yU:ak ["path","what","within"] ["path","what"] (aa xA):=bu
theorem Bq(F:aK K "whats_at" "whats_at" xA f fd)(cI:Cl P w K mg base (2*n+2) fI f0 ["path","chain"] (gu n) "whats_in"):ah P w K mg base aA (2*n+3) f fd ["path","what"] (ue$ n+1):=by
 refine F.ok yU ?_ λc0 A O s H vs Q E hr h=>?_
 ·rintro _ _ _ _ ⟨j,v,w,u,rfl,_⟩;rfl
 obtain⟨j,v,w,u,rfl,U,h0,D,k,W,hz,q⟩:=h;refine#[_,(jd (jx 2 yU.nd$ zc (ke$ jz$ pv 1) (cI.e hr.m$ ja (pv 0)$ ja (jz$ pv 1) jb)$ jD jb)$ jg$ jm$ ju zO (jD$ ja (jh$ ja (pv 0)$ ja (pv 1) jb) jb)$ pv 2),?_];have b0:=aD;have fl:=Jl k v 0;refine aj λF1 G=>?_;suffices X:∀(l:Addr) (x:List V) (d:Hp),d l=some (.lst x)->cj CT d (w.ws v 0) x->ae H d->F1 [some$ .ref j,some u,some$ .ref l] d by
  clear G;cases w with
  |nil |st=>exact k.elim
  |ask b |rd c i |wr c i=>obtain⟨p,rfl,y⟩:=D;exact(jv y Z #[Z,_,Z,aO Sj #[iw,λl Y=>X l [] _ jc Z (je Y)]])
  |cl f is s a=>obtain⟨p,c,g,e,ss,rfl,y,h2,h3,h4,h5⟩:=D;have W:s.dep+1 < n+1:=W;exact(jv y Z #[Z,_,Z,bQ Sj #[_,Z,jv y Z #[j,v,f,is,s,a,.ref c,Z,U,Sf,#[c,g,e,ss,Z,h2,h3,h4,h5],k,Sf,hz,λl x d Y I B S=>X l x d I B S]]])
 intro l x d I B S;refine G _ _ ?_;clear G;have lx:=B.len;refine#[_,Z,_,Z,bK,λt J=>#[gK,λL N=>#[_,Z,L,l,_,_,Z,Z,jc,am (am I J) N,by show 1+x.length<=_;omega,λr M=>?_]]];have C:ae d (af (af (af d t$ .tup [.ref j,u]) L$ .lst [.ref t]) r$ .lst ([.ref t]++x)):=((je J).trans$ je N).trans (je M);have ht:af (af (af d t$ .tup [.ref j,u]) L$ .lst [.ref t]) r (.lst ([.ref t]++x)) t=some (.tup [.ref j,u]):=am (am jc N) M;have R:H r=none:=by
  cases z:H r with
  |none=>rfl
  |some o=>have:=((je (o:=.lst [.ref t]) N) _ _ ((je (o:=.tup [.ref j,u]) J) _ _ (S _ _ z)));rw[M]at this;cases this
 exact q r _ _ R jc #[.ref t,x,Z,#[t,j,u,Z,ht,C _ _$ S _ _ U,D.mono$ ae.tm$ S.trans C],B.mono nk$ ae.tm C] (S.trans C)
theorem nQ:ak ["path","chain","told","number","step"] ["path","chain"] (aa xC):=bu
theorem Br(F:aK K "whats_in" "whats_in" xC f fd)(cA:Cl P w K mg base (2*n+1) fA f2 ["path","what"] (ue n) "whats_at")(U:mg "enumerate"=none):ah P w K mg base aA (2*n+2) f fd ["path","chain"] (gu n):=by
 refine F.ok nQ ?_ λc0 A V s H vs Q E Y h=>?_
 ·rintro _ _ _ _ ⟨pa,k,f,is,s,a,u,rfl,_⟩;rfl
 obtain⟨pa,k,f,is,s,a,u,rfl,hp,h6,hc,d,hd,hz,q⟩:=h;refine#[_,(jd (jx 2 nQ.nd$ jD jb)$ jd (km HZ Z (Xu Z U$ ja (jz$ pv 1) jb) (zk (n:=2) Z$ jy (js (i:=3) nQ.nd Z$ Or.inl Z)$ jy (js (i:=4) nQ.nd Z$ Or.inl Z) j4)$ jg$ jN$ kr Hv LK LJ Jq (pv 2)$ ja (cA.e Y.m$ ja (ju jU (pv 0)$ jh$ ja (pv 3) jb)$ ja (jz$ pv 4) jb) jb)$ jg$ jm$ pv 2),?_];have b0:=aD;obtain⟨c,g,e,ss,rfl,h1,h2,h3,h4⟩:=hc;have fl:=Jl d k 0;rw[QO d]at fl;have lt:=qm d h4;refine aj λF1 v=>#[iw,λT N=>v _ _ ?_];clear v;have s1:ae H (af H T$ .lst []):=je N;refine aj λF1 v=>eI λJ j=>(jv (s1 _ _ h1) Z #[e,Z,#[_,ax.of$ s1 _ _ h3],j _ _ ?_]);clear j;refine KE (K:=K) (xs:=ss) (Gi pa T k (.ref c) s H) #[none,none,[],Z,jc,Z,s1] (λi σ Hx _ h=>?_) ?_ (λσ Hx h=>v _ _ ?_)
 ·obtain⟨_,_,_,_,_,_,y⟩:=h;exact ax.of$ y _ _ h3
 ·intro E hE i x B σ O hx np f0 Gq l h;clear v;obtain⟨o3,o4,xs,rfl,R,W,y⟩:=h;have C:ae O (af O B$ .tup [.int i,x]):=je np;have e8:af O B (.tup [.int i,x]) B=some (.tup [.int i,x]):=jc;refine l ?_;clear l;generalize af O B (.tup [.int i,x])=H8 at C e8 ⊢;have S8:=y.trans C;obtain⟨n1,D,w,p,hh,u,ht,o1,d0,s2,rfl,h0,h7,hw⟩:=QP d (h4.mono$ ae.tm S8) hx;refine#[B,_,Z,ax.of e8,Z,_,_,Z,_,_,Z,Z,?_];refine#[_,Z,.inl #[Z,_,aB.of$ C _ _ R],_,Z,_,Z,gK,λt nt=>#[pa,t,_,_,Z,Z,am (S8 _ _ hp) nt,jc,by rw[He];show _+1<=_;omega,λr9 H9 e9 s9=>?_]];have S9:=(je (o:=.tup [.int i]) nt).trans s9;rw[Aj]at e9;refine(jv (S9 _ _ h0) Z #[r9,_,w,u,Z,e9,by rw[Hf];show _+1+_<=_;omega,hw.mono$ ae.tm S9,o1,Sf,Sf,λr X G nr Y I s0=>?_]);have S:=S9.trans s0;have L:=S _ _ (C _ _ R);have lx:=W.len;have l0:=I.len;have bl:=CH s.steps (i+1) k 0;have h5:i < s.steps.length:=(List.getElem?_eq_some_iff.mp ht).1;have et:s.steps.take (i+1)=s.steps.take i++[(n1,D,w)]:=by rw[IN,ht];rfl
  have eb:md [(n1,D,w)] k (0+(s.steps.take i).length)=(k++[(i:Int)],w)::w.ws (k++[(i:Int)]) 0:=by rw[HL,Ll$ Lp h5,MX];show(_::_)++[]=_;rw[Ml]
  rw[fl,et,J2,eb]at bl;rw[Hf]at bl;have M:ai G (af G T$ .lst$ xs++X):=λb ys e=>by rw[ji$ jO e L (by intro z;cases z)];exact e
  refine#[T,r,_,_,Z,Z,L,Y,Sf,f0 _ _ #[_,_,xs++X,Z,jc,?_,λb o e=>?_]]
  ·rw[et,J2,eb];exact(I.mono nk M).app ((W.mono nk$ ae.tm$ C.trans S).mono nk M)
  ·rw[ji$ jl e N];exact S _ _$ S8 _ _ e
 ·obtain⟨o3,o4,xs,rfl,R,W,y⟩:=h;rw[lt,Im,<- QO d]at W;exact#[_,Z,q T xs Hx N R W y]
theorem A1:ah P w K mg base aA k f c ["path","chain"] (gu 0):=by
 have n:∀v H Q E,¬gu 0 v H Q E:=λv H Q E h=>by obtain⟨p,d,f,i,s,a,u,_,_,_,_,_,z,_⟩:=h;omega
 exact#[λv H Q E h=>absurd h (n v H Q E),λA o s H b U v Q E _ _ _ _ h=>absurd h (n v H Q E)]
theorem EA(F:aK K "whats_at" "whats_at" xA g a)(B:ay K a ["path","what"] [])(M:mg "whats_at"=some (.ref g))(b:aK K "whats_in" "whats_in" xC c f)(d:ay K f ["path","chain"] [])(e:mg "whats_in"=some (.ref c))(m:mg "enumerate"=none):∀n,ah P w K mg base aA (2*n+2) c f ["path","chain"] (gu n)
 |0=>A1
 |n+1=>by have h:=EA F B M b d e m n;have H:=Bq F #[h,d,b.kp,e];exact Br b #[H,B,F.kp,M] m
noncomputable abbrev BY:Stmt:=bE 11
noncomputable abbrev nF:Stmt:=bE 12
inductive n8(d:List V)(H:Hp)(Q:VK)(b:XK):Prop
 |mk(f:Str)(c:List Int)(s:Sk)(a:Int)(u:V)(_:d=[u])(_:me H f c s a u)(_:s.ok true)(_:s.dep<=15)(_:s.size<=60)(_:∀(r:Addr) (xs:List V) (H':Hp),H r=none->H' r=some (.lst xs)->cj CT H' (s.ws [] 0) xs->ae H H'->Q (.ref r) H')
noncomputable def Sk.pths(s:Sk):List bh:=(s.ws [] 0).map (·.1)
inductive i9(d:List V)(H:Hp)(Q:VK)(b:XK):Prop
 |mk(f:Str)(c:List Int)(s:Sk)(a:Int)(u:V)(_:d=[u])(_:me H f c s a u)(_:s.ok true)(_:s.dep<=15)(_:s.size<=60)(_:∀(r:Addr) (xs:List V) (H':Hp),H r=none->H' r=some (.lst xs)->cj pf H' s.pths xs->ae H H'->Q (.ref r) H')
theorem Ea:ak ["chain"] ["chain"] (aa BY):=bu
theorem Bs(F:aK K "whats" "whats" BY f j)(C:Cl P w K mg base 34 M l ["path","chain"] (gu 16) "whats_in"):ah P w K mg base aA 35 f j ["chain"] n8:=by
 refine F.ok Ea ?_ λp A O s H V Q E b h=>?_
 ·rintro _ _ _ _ ⟨f,i,s,a,u,rfl,_⟩;rfl
 obtain⟨f,i,s,a,u,rfl,v,d,T,U,q⟩:=h;refine#[_,(jg$ jm$ C.e b.m$ ja (jh jb)$ ja (pv 0) jb),?_];refine#[iw,λt n=>#[_,Z,t,[],f,i,s,a,u,Z,jc,by show 0+16+1<=100;decide,?_,d,Sf,Sf,λr x y N b B S=>q r x y (by cases z:H r with |none=>rfl |some o=>rw[am z n]at N;cases N) b B ((je n).trans S)]];obtain⟨c,g,e,D,rfl,G,I,J,L⟩:=v;exact#[c,g,e,D,Z,am G n,am I n,am J n,L.mono$ ae.tm$ je n]
theorem Cb:ak ["chain"] ["chain"] (aa nF):=bu
noncomputable def o0:Scope:=#[.function,[(".0",.local),("path",.local),("what",.local)],false,false,[]]
theorem rH:(["path","what"]:List Str).Nodup:=by decide+kernel
theorem Ap:aT ["chain"] (aa nF) o0 ["path","what"] 2 []:=l8
theorem ww(F:aK K "paths" "paths" nF f C)(D:Cl P w K mg base 35 fA J ["chain"] n8 "whats"):ah P w K mg base aA 36 f C ["chain"] i9:=by
 refine F.ok Cb ?_ λL A O s H vs Q E M h=>?_
 ·rintro _ _ _ _ ⟨f,I,s,a,u,rfl,_⟩;rfl
 obtain⟨f,I,R,a,u,rfl,T,c,V,W,q⟩:=h;refine#[_,(jg$ jm$ @ki _ _ _ _ _ _ _ (["path","what"]) (2) ([]) _ _ _ _ Z (za$ D.e M.m$ ja (pv 0) jb) Ap (λ_ _ _ _ _=>QZ (K:=K) (n:=2) Z Z (jy (js (i:=0) rH Z$ Or.inl Z)$ jy (js (i:=1) rH Z$ Or.inl Z) j4) Z Z) (λ_ _ _ _ _=>(@kM _)) (λ_ _ _ _ _=>(pv 0)) (by intro _;rfl)),?_];have Y:=aD;have fl:=Jl c [] 0;refine#[_,Z,f,I,R,a,u,Z,T,c,V,W,λr X b nr d j v=>?_];have lx:=j.len;rw[fl]at lx;have lm:(X.map$ dJ b).length=X.length:=He _;refine#[r,Z,#[_,aB.of d],JH (λi=>((X.map$ dJ b)[i]?).getD .non) Sf (aB.of d) (λi x y=>?_) λl N=>q l (X.map$ dJ b) _ ?_ ?_ ?_ (v.trans$ je N)]
 ·obtain⟨⟨p',w'⟩,_,k,p,U,rfl,G,B,g3⟩:=j.at y;refine#[k,.ref p,U,Z,ax.of G,λQ g=>#[_,Z,?_]];rw[HE,y]at g;have g:Q (dJ b$ .ref k) b:=g;rw[YV G]at g;exact g
 ·cases z:H l with
  |none=>rfl
  |some o=>rw[v _ _ z]at N;cases N
 ·rw[jc,<- lm,qf]
 ·exact(cj.map (S:=pf) (f:=dJ b) (λx w #[k,p,U,e0,G,B,g3]=>by subst e0;rw[YV G];exact#[p,Z,B]) j).mono dN (ae.tm$ je N)
noncomputable abbrev xt:Stmt:=bE 13
noncomputable def aH:Sk->bh->Option gF
 |_,[]=>none
 |s,i::r=>if 0<=i then (match s.steps[i.toNat]? with
  |none=>none
  |some st=>match r with
   | []=>some st
   |_::_=>match st.2.2 with
    | .cl _ _ S _=>aH S r
    |_=>none) else none
theorem zh(h:¬0<=i):aH s (i::r)=none:=by unfold aH;rw[HG h]
theorem kO{s:Sk}{i:Int}(h:s.steps[i.toNat]?=none):aH s (i::r)=none:=by
 unfold aH;by_cases z:0<=i
 ·rw[HD z,h]
 ·rw[HG z]
theorem qT{s:Sk}{st:gF}(H:0<=i)(h:s.steps[i.toNat]?=some st):aH s [i]=some st:=by unfold aH;rw[HD H,h]
theorem zP{s:Sk}(H:0<=i)(h:s.steps[i.toNat]?=some (n,c,.cl f I b a)):aH s (i::j::r)=aH b (j::r):=by
 conv=>lhs;unfold aH
 rw[HD H,h]
theorem Jm{s:Sk}{w:Sk}(H:0<=i)(h:s.steps[i.toNat]?=some (n,c,w))(b:∀f I S a,w≠ .cl f I S a):aH s (i::j::r)=none:=by
 unfold aH;rw[HD H,h];cases w with
 |cl f I S a=>exact absurd Z (b f I S a)
 |_=>rfl
theorem pi{w:V}:dq (v::u::w::y) 2=some w:=jM (j:=2) Z
theorem pK(x:V)(X:List V):aE (x::X) (some 1) none=X:=by unfold aE HT.sIx;simp
theorem QF:∀l:List Int,(l.map V.int).all ci=true
 | []=>rfl
 |_::l=>QF l
theorem pQ(x:V)(X:List V):mw (x::X) []=false:=by unfold mw;simp
inductive fo(b:Addr)(n:Nat)(g:List V)(H:Hp)(Q:VK)(E:XK):Prop
 |mk(f:Str)(c:List Int)(s:Sk)(a:Int)(u:V)(d:Addr)(e:bh)(_:g=[u,.ref d])(_:me H f c s a u)(_:s.ok true)(_:s.size<=60)(_:H d=some (.tup (e.map V.int)))(_:e.length < n)(_:∀(k:Int) (hs:List Int) (w:Sk) (p h:Addr) (v:V) (H':Hp),aH s e=some (k,hs,w)->H' p=some (.tup [.int k,.ref h,v])->H' h=some (.tup (hs.map V.int))->em H' w v []->w.ok false->w.size<=60->ae H H'->Q (.ref p) H')(_:aH s e=none->Fl E b (Kp H))
theorem yR:ak ["chain","path","step"] z10z (aa xt):=bu
theorem Bn(F:aK K "step_at" "step_at" xt f fd)(X:XM K mg "NoStep" M)(ml:mg "len"=none)(GS:ah P w K mg base (dG P w) n fS f0 z10z (fo M n))(bS:ay K f0 z10z [])(kS:keepIn K (.ref fS)=true)(mS:mg "step_at"=some (.ref fS)):ah P w K mg base (dG P w) (n+1) f fd z10z (fo M$ n+1):=by
 refine F.ok1 yR ?_ λc0 A o1 s H vs Q E hr h=>?_
 ·rintro _ _ _ _ ⟨f,is,s,a,u,R,ps,rfl,_⟩;rfl
 obtain⟨f,is,s,a,u,R,ps,rfl,hc,U,hz,t,B,q,y⟩:=h;refine#[_,(jd (jw (PW.pt$ Jw (jA (se$ Nz$ zY hr) (pv 1) (jh jb)$ aC _)$ qB$ X3$ @sD _ _ _ _ _ _ _ _ _ _ _ _ yI qH jf (jz$ pv 1) (jH jE Z ml Ih$ ja (jz$ pv 0) jb) (by with_unfolding_all rfl)) (jg$ @qV _ _ _ _ _ Z qp$ @qo _ _ _ _ _ X.ex X.kp Z X.m Se) jp)$ jd (jx 2 yR.nd$ jr jS (jz$ pv 0) (jz$ pv 1) (λ_ _=>Z))$ jd (jw (kE$ jH jE Z ml Ih$ ja (pv 1) jb) (jg$ jm$ pv 2) jp)$ jd (jw (jA sg (jz$ jr jS (pv 2) jf (λ_ _=>Z)) jk$ aC _) (jg$ @qV _ _ _ _ _ Z qp$ @qo _ _ _ _ _ X.ex X.kp Z X.m Se) jp)$ jg$ jm$ kf GS hr.m Z mS kS bS .nil zj$ ja (jz$ jr jS (pv 2) jf (λ_ _=>Z))$ ja (jK zC (pv 1) (jI jf) j8) jb),?_];have b0:=aD;obtain⟨c,g,e,ss,rfl,h1,h2,h3,h4⟩:=id hc;have ls:=qm U h4;cases ps with
 |nil=>exact aj λW l=>#[_,Z,iw,λY N=>#[R,Y,[],[],Z,Z,ax.of$ am t N,ax.of jc,Z,Z,_,Z,bQ Z$ bQ Z λx I=>#[x,M,none,Z,jc,X.xc,X.ty,λT J=>y Z () _ (Kp.of_same ((je N).trans$ zM I J))]]]
 |cons i r=>
  have t:H R=some (.tup (.int i::r.map V.int)):=t;have B:r.length+1 < n+1:=B;refine aj λW l=>#[_,Z,iw,λY N=>#[R,Y,_,[],Z,Z,ax.of$ am t N,ax.of jc,QF (i::r),Z,_,Z,aO (pQ _ _) ?_]];have S:ae H (af H Y$ .tup []):=je N;generalize af H Y (.tup [])=H1 at S ⊢;have d:=S _ _ t;refine(jv d gn #[_,_,Z,Z,_,Z,?_]);by_cases G:(0:Int)<=i
  ·obtain⟨m,rfl⟩:∃m:Nat,i=m:=#[i.toNat,(Nl G).symm];refine bQ (Hw G)$ jv (S _ _ h1) pi #[e,_,Z,.inr$ ax.of$ S _ _ h3,_,_,Z,Z,_,Z,?_];by_cases hl:(m:Int) < (ss.length:Int)
   ·refine aO (by rw[Hw hl];rfl)$ l _ _ ?_;clear l;have hm:m < ss.length:=by omega
    obtain⟨k,hs,w,p,h,v,o,O,d0,s0,ex,hp,hh,hw⟩:=QP U h4 (G8 hm);have hk:ss[m]?=some (.ref p):=by rw[<- ex];exact G8 hm
    have o:s.steps[((m:Int)).toNat]?=some (k,hs,w):=o;refine aj λW l=>(jv (S _ _ h1) pi$ jv d gn #[e,_,_,_,Z,Z,ax.of$ S _ _ h3,jM hk,l _ _ ?_]);clear l;have C:=S _ _ hp;have L:=hw.mono (ae.tm S);refine aj λW l=>#[_,Z,R,_,Z,.inr$ ax.of d,Z,_,Z,?_];cases r with
    |nil=>exact bQ (Hw Z) #[_,Z,q k hs w p h v H1 (qT G o) C (S _ _ hh) L O Sf S]
    |cons j r=>
     have B:r.length+1+1 < n+1:=B;refine aO (Hk λz=>?_)$ l _ _ ?_
     ·injection z with z;have z:((r.length+1+1:Nat):Int)=1:=by rw[<- z];simp
      omega
     clear l;cases w with
     |nil |st _ _ _ _=>exact O.elim
     |ask b |rd b b' |wr b b'=>obtain⟨p',rfl,g1⟩:=L;exact aj λW l=>(jv C pi #[p',_,_,_,Z,Z,ax.of g1,gn,Z,_,Z,bQ Sj λx I=>#[x,M,none,Z,jc,X.xc,X.ty,λT J=>y (Jm G o (λ_ _ _ _ z=>by cases z)) () _ (Kp.of_same$ S.trans$ zM I J)]])
     |cl f' i0 s' a'=>obtain⟨p',c1,g',e1,y0,rfl,g1,g2,g3,g4,g5⟩:=L;refine aj λW l=>(jv C pi #[p',_,_,_,Z,Z,ax.of g1,gn,Z,_,Z,aO Sj$ l _ _ ?_]);clear l;refine(jv C pi #[p',_,_,_,Z,Z,ax.of g1,l7,_,Z,_,Z,R,_,Z,d,λr1 H2 e2 s2=>?_]);rw[pK]at e2;have D:=ae.tm s2;have S2:=S.trans s2;refine#[f',i0,s',a',.ref c1,r1,j::r,Z,#[c1,g',e1,y0,Z,D _ _ g2,D _ _ g3,D _ _ g4,g5.mono D],O,by have:s'.size+1<=s.size:=s0;omega,e2,by show r.length+1 < n;omega,λk2 h0 w2 p2 h2 v2 H3 es x1 x2 x3 x4 x5 s3=>q k2 h0 w2 p2 h2 v2 H3 (by rw[zP G o];exact es) x1 x2 x3 x4 x5 (S2.trans s3),λhn=>((y (by rw[zP G o];exact hn)).mono λH' kk=>(Kp.of_same S2).trans kk).nextK]
   ·refine bQ (by rw[Hk hl];rfl) λx I=>#[x,M,none,Z,jc,X.xc,X.ty,λT J=>y (kO$ Ib (by show s.steps.length<=m;omega)) () _ (Kp.of_same$ S.trans$ zM I J)]
  ·exact aO (Hk G) #[_,Z,bQ Z λx I=>#[x,M,none,Z,jc,X.xc,X.ty,λT J=>y (zh G) () _ (Kp.of_same$ S.trans$ zM I J)]]
noncomputable abbrev xq:Stmt:=bE 75
theorem Zp{w:Sk}(o:w.ok false)(h:em H w u []):∃p v r,u= .ref p/\H p=some (.tup (.str v::r))/\(v="call"↔∃f i s a,w= .cl f i s a):=by
 cases w with
 |nil |st _ _ _ _=>exact o.elim
 |ask b |rd b c |wr b c=>obtain⟨p,e,h⟩:=h;exact#[p,_,_,e,h,λe=>absurd e Se,λ#[_,_,_,_,e]=>nomatch e]
 |cl f i s a=>obtain⟨p,c,g,E,S,e,h,_⟩:=h;exact#[p,_,_,e,h,λ_=>#[_,_,_,_,Z],λ_=>Z]
theorem Zq:decide (V.str a=V.str b)=decide (a=b):=by
 by_cases h:a=b
 ·rw[Hw h,Hw (by rw[h])]
 ·rw[Hk h,Hk λz=>h (by injection z)]
theorem X7{H:Hp}(h:H a=some (.lst x)):ai H (af H a o):=λb y e=>by rw[ji$ jO e h (by intro z;cases z)];exact e
noncomputable def Sk.rws:Sk->bh->Nat->List (bh×gF)
 | .st n h w r,p,k=>((p++[(k:Int)],(n,h,w))::w.rws (p++[(k:Int)]) 0)++r.rws p (k+1)
 | .cl _ _ s _,p,_=>s.rws p 0
 |_,_,_=>[]
noncomputable def lG:List gF->bh->Nat->List (bh×gF)
 | [],_,_=>[]
 |s::r,p,k=>((p++[(k:Int)],s)::s.2.2.rws (p++[(k:Int)]) 0)++lG r p (k+1)
theorem QQ:∀{s:Sk},s.ok true->∀p k,s.rws p k=lG s.steps p k
 | .nil,_,_,_=>rfl
 | .st n h w r,o,p,k=>by show _++r.rws p (k+1)=_++lG r.steps p (k+1);rw[QQ o.2]
theorem Q4:∀(a b:List gF) (p:bh) (k:Nat),lG (a++b) p k=lG a p k++lG b p (k+a.length)
 | [],_,_,_=>rfl
 |s::a,b,p,k=>by show((_::_)++lG (a++b) p (k+1))=((_::_)++lG a p (k+1))++lG b p (k+(a.length+1));rw[Q4 a b p$ k+1,Ln,show k+(a.length+1)=k+1+a.length by omega]
theorem qd:∀{b:Bool} {s:Sk},s.ok b->∀(p:bh) (k:Nat),(s.rws p k).length=s.size
 |true,.nil,_,_,_=>rfl
 |true,.st n h w r,o,p,k=>by have H:=qd (b:=false) (s:=w) o.1 (p++[(k:Int)]) 0;have a:=qd (b:=true) (s:=r) o.2 p (k+1);show(((p++[(k:Int)],(n,h,w))::w.rws (p++[(k:Int)]) 0)++r.rws p (k+1)).length=w.size+r.size+1;rw[Hf,HM,H,a];omega
 |false,.cl _ _ s _,o,p,_=>qd (b:=true) (s:=s) o p 0
 |false,.ask _,_,_,_=>rfl
 |false,.rd _ _,_,_,_=>rfl
 |false,.wr _ _,_,_,_=>rfl
theorem BM(a:List gF)(i:Nat)(p:bh)(k:Nat):(lG (a.take i) p k).length<=(lG a p k).length:=by have:=IC List.length (Q4 (a.take i) (a.drop i) p k);rw[Mc,Hf]at this;omega
def C8:RA (bh×gF):=λH x w=>∃q p st h v,x= .ref q/\H q=some (.tup [.ref p,.ref st])/\H p=some (.tup$ w.1.map V.int)/\H st=some (.tup [.int w.2.1,.ref h,v])/\H h=some (.tup$ w.2.2.1.map V.int)/\em H w.2.2.2 v []
theorem eU:EG C8:=λ_ _ _ _ k #[q,p,st,h,v,e,H,a,b,c,d]=>#[q,p,st,h,v,e,k _ _ H,k _ _ a,k _ _ b,k _ _ c,d.mono k]
inductive gr(n:Nat)(e:List V)(H:Hp)(Q:VK)(b:XK):Prop
 |mk(d:Addr)(p:bh)(f:Str)(c:List Int)(s:Sk)(a:Int)(u:V)(_:e=[u,.ref d])(_:H d=some (.tup (p.map V.int)))(_:p.length+n<=100)(_:me H f c s a u)(_:s.ok true)(_:s.dep < n)(_:s.size<=1000)(_:∀(l:Addr) (xs:List V) (H':Hp),H l=none->H' l=some (.lst xs)->cj C8 H' (s.rws p 0) xs->ae H H'->Q (.ref l) H')
inductive Gg(h j:Addr)(p:bh)(u:V)(s:Sk)(H:Hp)(i:Nat)(l:_L.St)(a:Hp):Prop
 |mk(f g:Option V)(k:List V)(b:l=[some u,some (.ref h),some (.ref j),f,g])(c:a j=some (.lst k))(d:cj C8 a (lG (s.steps.take i) p 0) k)(e:ae H a)
theorem nO:ak ["_law_chain_here","_law_ahead","_law_found","_law_k","_law_step"] z16z (aa xq):=bu
theorem Bm(F:aK K "_law_rows" "_law_rows" xq f fd)(cS:Cl P w K mg base (n+1) fS f2 z16z (gr n) "_law_rows")(m0:mg "enumerate"=none):ah P w K mg base aA (n+2) f fd z16z (gr$ n+1):=by
 refine F.ok nO ?_ λc0 A o1 s H vs Q E hr h=>?_
 ·rintro _ _ _ _ ⟨Y,p,f,is,s,a,u,rfl,_⟩;rfl
 obtain⟨Y,p,f,is,s,a,u,rfl,hp,h8,hc,r,hd,hz,q⟩:=h;refine#[_,(jd (jx 2 nO.nd$ jD jb)$ jd (km HZ Z (Xu Z m0$ ja (jz$ pv 0) jb) (zk (n:=2) Z$ jy (js (i:=3) nO.nd Z$ Or.inl Z)$ jy (js (i:=4) nO.nd Z$ Or.inl Z) j4)$ jd (jN$ kr Hv HP HN jP (pv 2)$ ja (jh$ ja (ju jU (pv 1)$ jh$ ja (pv 3) jb)$ ja (pv 4) jb) jb)$ jg$ jw (ke$ jz$ jr jS (pv 4) jf (λ_ _=>Z)) (jg$ jN$ kr Hv LK LJ Jq (pv 2)$ ja (cS.e hr.m$ ja (jz$ jr jS (pv 4) jf (λ_ _=>Z))$ ja (ju jU (pv 1)$ jh$ ja (pv 3) jb) jb) jb) jp)$ jg$ jm$ pv 2),?_];have b1:=aD;obtain⟨c,g,e,ss,rfl,h1,h2,h3,h4⟩:=hc;have lt:=qm r h4;have fl:=qd r p 0;rw[QQ r]at fl;refine aj λF1 L=>#[iw,λd N=>L _ _ ?_];clear L;have s1:ae H (af H d$ .lst []):=je N;refine aj λF1 L=>eI λJ j=>(jv (s1 _ _ h1) pi #[e,Z,#[_,ax.of$ s1 _ _ h3],j _ _ ?_]);clear j;refine KE (K:=K) (xs:=ss) (Gg Y d p (.ref c) s H) #[none,none,[],Z,jc,Z,s1] (λi σ Hx _ h=>?_) ?_ (λσ Hx h=>L _ _ ?_)
 ·obtain⟨_,_,_,_,_,_,s7⟩:=h;exact ax.of$ s7 _ _ h3
 ·intro E hE i x pp σ H7 hx np f0 Gq kq h;clear L;obtain⟨o3,o4,xs,rfl,w1,w2,s7⟩:=h;have s8:ae H7 (af H7 pp$ .tup [.int i,x]):=je np;have e8:af H7 pp (.tup [.int i,x]) pp=some (.tup [.int i,x]):=jc;refine kq ?_;clear kq;generalize af H7 pp (.tup [.int i,x])=H8 at s8 e8 ⊢;have S8:=s7.trans s8;obtain⟨n1,v,w,q,hh,u,ht,O,d0,s0,rfl,M,h5,hw⟩:=QP r (h4.mono$ ae.tm S8) hx;refine#[pp,_,Z,ax.of e8,Z,_,_,Z,_,_,Z,Z,?_];have h6:i < s.steps.length:=(List.getElem?_eq_some_iff.mp ht).1;have et:s.steps.take (i+1)=s.steps.take i++[(n1,v,w)]:=by rw[IN,ht];rfl
  have eb:lG (s.steps.take$ i+1) p 0=lG (s.steps.take i) p 0++((p++[(i:Int)],(n1,v,w))::w.rws (p++[(i:Int)]) 0):=by rw[et,Q4,HL,Ll$ Lp h6,MX];show _++(_++[])=_;rw[Ml]
  have bl:=BM s.steps (i+1) p 0;have b0:=IC List.length eb;rw[Hf,HM,qd O]at b0;have lx:=w2.len;rw[fl]at bl;show gf _ (lg _ _ _) E [some$ .ref c,some$ .ref Y,some$ .ref d,some$ .int i,some$ .ref q] H8;refine aj λF1 L=>#[_,Z,.inl #[Z,_,aB.of$ s8 _ _ w1],_,Z,_,Z,gK,λt nt=>#[Y,t,_,_,Z,Z,am (S8 _ _ hp) nt,jc,by rw[He];show _+1<=_;omega,λU W e9 s9=>?_]];have S9:ae H8 W:=(je (o:=.tup [.int i]) nt).trans s9;have e9:W U=some (.tup$ p.map V.int++[.int (i:Int)]):=e9;rw[Aj]at e9;have w9:=S9 _ _ (s8 _ _ w1);refine#[_,Z,bK,λk n2=>?_];have sA:ae W (af W k$ .tup [.ref U,.ref q]):=je n2;have eA:af W k (.tup [.ref U,.ref q]) k=some (.tup [.ref U,.ref q]):=jc;generalize af W k (.tup [.ref U,.ref q])=X at sA eA;have wA:=sA _ _ w9;refine#[d,xs,_,Z,Z,wA,Sf,L _ _ ?_];clear L;have B:ai X (af X d$ .lst$ xs++[.ref k]):=X7 wA;have y:af X d (.lst$ xs++[.ref k]) d=some (.lst$ xs++[.ref k]):=jc;have k0:∀b o,b≠d->X b=some o->af X d (.lst$ xs++[.ref k]) b=some o:=λb o nb e=>by rw[ji nb];exact e
  generalize af X d (.lst$ xs++[.ref k])=C at B y k0;have T:ai H8 C:=(ae.tm$ S9.trans sA).trans B;have R:ae H C:=λb o e=>k0 _ _ (jl e N) (sA _ _$ S9 _ _$ S8 _ _ e);have x0:cj C8 C (lG (s.steps.take i) p 0++[(p++[(i:Int)],(n1,v,w))]) (xs++[.ref k]):=cj.app (cj.one #[k,U,q,hh,u,Z,B _ _ eA,B _ _$ sA _ _ e9,T _ _ M,T _ _ h5,hw.mono T]) (((w2.mono eU$ ae.tm s8).mono eU T));obtain⟨p3,v3,r3,eu,h7,h0⟩:=Zp O (hw.mono T);subst eu;refine uX λG1 yT yF=>(jv (T _ _ M) pi #[p3,_,_,_,Z,Z,ax.of h7,gn,Z,_,Z,?_]);rw[Zq];by_cases hv:v3="call"
  ·obtain⟨g',I,z,a',rfl⟩:=h0.mp hv;rw[Hw hv];obtain⟨x1,c1,g1,e1,s2,e2,k1,k2,k3,k4,k5⟩:=hw.mono T;cases e2;have d0:z.dep+1<=s.dep:=d0;have s0:z.size+1<=s.size:=s0;refine yT _ #[_,Z,.inl #[Z,_,aB.of y],jv (T _ _ M) pi #[p3,_,_,_,Z,Z,ax.of k1,l7,_,Z,_,Z,gK,λt2 n0=>#[Y,t2,_,_,Z,Z,am (R _ _ hp) n0,jc,by rw[He];show _+1<=_;omega,λr0 H0 D s3=>?_]]];have S:ae C H0:=(je (o:=.tup [.int i]) n0).trans s3;have D:H0 r0=some (.tup$ p.map V.int++[.int (i:Int)]):=D;rw[Aj]at D;refine#[r0,_,g',I,z,a',.ref c1,Z,D,by rw[Hf];show _+1+_<=_;omega,#[c1,g1,e1,s2,Z,S _ _ k2,S _ _ k3,S _ _ k4,k5.mono$ ae.tm S],O,Sf,Sf,λl zs H1 nl hl hz s4=>?_];have G:=S.trans s4;have lz:=hz.len;rw[qd (show z.ok true from O)]at lz;have ez:(xs++[V.ref k]).length=xs.length+1:=by rw[Hf];rfl
   have s5:(Sk.cl g' I z a').size=z.size:=rfl;refine#[d,l,_,_,Z,Z,G _ _ y,hl,Sf,f0 _ _ #[_,_,_,Z,jc,?_,λb o e=>?_]]
   ·rw[eb];have t0:ai H1 (af H1 d$ .lst$ xs++[.ref k]++zs):=X7 (G _ _ y);rw[show(p++[(i:Int)],(n1,v,Sk.cl g' I z a'))::(Sk.cl g' I z a').rws (p++[(i:Int)]) 0=[(p++[(i:Int)],(n1,v,Sk.cl g' I z a'))]++z.rws (p++[(i:Int)]) 0 from Z,<- Ln];exact(cj.app hz$ x0.mono eU$ ae.tm G).mono eU t0
   ·rw[ji$ jl e N];exact G _ _$ R _ _ e
  ·rw[Hk hv];refine yF _$ f0 _ _ #[_,_,_,Z,y,?_,R];rw[eb];have e0:w.rws (p++[(i:Int)]) 0=[]:=by
    cases w with
    |nil |st _ _ _ _=>exact O.elim
    |cl f is s a=>exact absurd (h0.mpr #[f,is,s,a,Z]) hv
    |_=>rfl
   rw[e0];exact x0
 ·obtain⟨o3,o4,xs,rfl,w1,w2,s7⟩:=h;rw[lt,Im,<- QQ r]at w2;exact#[_,Z,q d xs Hx N w1 w2 s7]
noncomputable abbrev Fz:Stmt:=bE 76
noncomputable abbrev iQ:Stmt:=bE 79
theorem rM:NX (.lst x):=λa z=>by cases z
theorem A2:NX (.tup x):=λa z=>by cases z
theorem Kp.tm(k:Kp H h):ai H h:=λb x e=>k b _ A2 e
theorem Kp.seq{K:Frag}(e:Kp H b)(h:aB K H a x):aB K b a x:=by
 rcases h with (h | ⟨o,h⟩) |h
 ·exact .inl$ .inl$ e _ _ rM h
 ·exact .inl$ .inr #[o,e _ _ (by intro c z;cases z) h]
 ·exact .inr h
structure Xs(K:Frag)(mg:Str->Option Value)(TL TD:Addr):Prop where
 gL:mg "TooLong"=some (.ref TL)
 hL:clsIn K TL≠none
 tL:typeIn K (.ref TL)=some (.type "type")
 mL:mroIn K TL (.type "BaseException")=some true
 gD:mg "TooDeep"=some (.ref TD)
 hD:clsIn K TD≠none
 tD:typeIn K (.ref TD)=some (.type "type")
 mD:mroIn K TD (.type "BaseException")=some true
 LL:mroIn K TL (.ref TL)=some true
 DL:mroIn K TD (.ref TL)=some false
 DD:mroIn K TD (.ref TD)=some true
inductive xQ(K:Frag)(e:List V)(H:Hp)(Q:VK)(c:XK):Prop
 |mk(a:Addr)(d:List Int)(_:e=[.ref a])(_:aB K H a (d.map V.int))(_:d.length<=63)(_:∀(f:Str) (is:List Int) (s:Sk) (b:Int) (u:V) (H':Hp),me H' f is s b u->s.ok true->s.dep<=15->s.size<=60->Kp H H'->Q u H')
inductive lO(K:Frag)(d:List V)(H:Hp)(Q:VK)(b:XK):Prop
 |mk(a:Addr)(c:List Int)(_:d=[.ref a])(_:aB K H a (c.map V.int))(_:c.length<=63)(_:∀H',Q (.bl true) H')
theorem Bx{H:Hp}{D:List Df}{n:List Nat}(h:lW H D n){i:Nat}{d:Df}{p:List Str}(a:D[i]?=some d)(c:H d.pa=some (.tup$ p.map V.str)):n[i]?=some p.length:=by have f:i < D.length:=(List.getElem?_eq_some_iff.mp a).1;have b:n[i]?=some (n[i]'(by rw[<- h.1];exact f)):=G8 _;obtain⟨g,e,l,_⟩:=h.2 i d _ a b;rw[c]at e;injection e with e;injection e with e;have:=IC List.length e;rw[He,He]at this;rw[b,<- l,this]
theorem iq:ak ["_law_script","_law_box_here","_law_chain_here","_law_program","_law_f","_law_args"] ["_law_script"] (aa Fz):=bu
theorem DK(F:aK K "_law_any_book" "_law_any_book" Fz f fd)(cB:Cl P w K mg base 1 fB f3 ["_law_script","_law_k"] (nU K) "_law_box")(cT:Cl P w K mg base 1 fT f4 z0z aL "_law_take")(cK:Cl P w K mg base 23 fK f5 z1z iZ "_law_case")(cM:Cl P w K mg base 65 fM f6 ["program"] (i5 K nA) "made")(cC:Cl P w K mg base 3 fC f7 z1z gJ "_law_cells")(GR:ah P w K mg base (dG P w) 45 fR f0 z26z (n6 TL TD nA))(bR:ay K f0 z26z [])(kR:keepIn K (.ref fR)=true)(mR:mg "run"=some (.ref fR))(cY:Cl P w K mg base 37 fY f9 z1z nW "_law_book")(X:Xs K mg TL TD):ah P w K mg base aA 66 f fd ["_law_script"] (xQ K):=by
 refine F.ok iq ?_ λc0 A o1 s H vs Q E j h=>?_
 ·rintro _ _ _ _ ⟨a,ns,rfl,_⟩;rfl
 obtain⟨a,ns,rfl,hS,a1,q⟩:=h;refine#[_,(jd (jx 1 iq.nd$ cB.e j.m$ ja (pv 0)$ ja jf jb)$ jd (jx 2 iq.nd$ @X2 _ _ _)$ jd (jw (kE$ cT.e j.m$ ja (pv 1)$ ja jf jb) (jd (kQ (cK.e j.m$ ja (pv 1) jb)$ zk (n:=3) Z$ jy (js (i:=3) iq.nd Z$ Or.inl Z)$ jy (js (i:=4) iq.nd Z$ Or.inl Z)$ jy (js (i:=5) iq.nd Z$ Or.inl Z) j4)$ jg$ @wQ _ _ _ _ _ _ _ _ _ _ _ _ _ _ _ _ _ _ Z Z (@wR _ _ _ _ (2) _ _ iq.nd Z (Or.inl Z) (@Xp _ _ _ _ _ _ _ _ _ _ _ _ _ _ GR j.m Z mR kR bR .nil (ja (cM.e j.m$ ja (pv 3) jb)$ ja (pv 4)$ ja (pv 5)$ ja (cC.e j.m$ ja (cB.e j.m$ ja (pv 0)$ ja jf jb) jb)$ ja jf jb) Se Sl Sl) Sl (by first |exact .inl Z |exact .inr Z)) Z X.gL X.hL X.tL X.mL Z X.gD X.hD X.tD X.mD (λ_=>(jg$ jx 2 iq.nd$ @X2 _ _ _)) (λ_=>(jg$ jx 2 iq.nd$ @X2 _ _ _)) Se Se) jp)$ jd (jw (sE$ @Bz _ _ _ _ _$ pv 2) (jg$ jx 2 iq.nd$ cY.e j.m$ ja (cB.e j.m$ ja (pv 0)$ ja jf jb) jb) jp)$ jg$ jm$ pv 2),?_];have b0:=aD;refine aj λB g=>#[_,Z,a,ns,1,Z,hS,Se,Se,λp H1 np B1 e1=>g _ _ ?_];clear g;have s1:ae H H1:=λb o e=>by rw[e1 b$ jl e np];exact e
 refine aj λB g=>g _ _ ?_;clear g;refine aj λB g=>?_;suffices m:(∀(O J L:Option V) (k:Hp),Kp H k->B [some$ .ref a,some$ .ref p,some .non,O,J,L] k)/\∀(O J L:Option V) (f:Str) (I:List Int) (s:Sk) (b:Int) (c:Addr) (k:Hp),me k f I s b (.ref c)->s.ok true->s.dep<=15->s.size<=60->Kp H k->B [some$ .ref a,some$ .ref p,some$ .ref c,O,J,L] k by
  clear g;refine#[_,Z,p,2,Z,B1,Se,Se,λd2 H2 d0 d1 B2 q2=>#[Z,_,Z,?_]];have s2:ae H H2:=λb o e=>by rw[q2 b$ jl e np];exact s1 _ _ e
  by_cases c:d2=0
  ·refine bQ (Hw (by rw[c])) ?_;refine aj λF2 f2=>#[_,Z,p,Z,B2,λt r v2 v3 ds M H3 ht j hD h1 h8 nl hN R h0 B3 k3=>#[t,_,Z,ax.of ht,Z,_,_,Z,_,_,Z,_,_,Z,Z,f2 _ _ ?_]];clear f2;have s3:ae H H3:=λb o e=>k3 _ _ (jl e np) (s2 _ _ e);obtain⟨d,ps,ta,I,hd,rfl,h2,rfl,h3,h4,h5,h6⟩:=h0;show yY _ _ _ _ _ _ _ [some$ .ref a,some$ .ref p,some .non,some$ .ref r,some$ .str d.f,some$ .ref ta] H3;refine#[_,Z,r,ds,M,Z,j,hD,Sf,λd hd=>(hN.1 d hd).1,λv H4 hv s4=>?_];obtain⟨pA,S,rfl,h7,h9⟩:=JZ hv;have S4:=s3.trans s4;refine#[_,Z,_,Z,_,Z,a,ns,2,Z,S4.seq hS,Se,Se,λp5 H5 U B5 e5=>#[p5,Z,B5,λcA Cs H6 n1 h' gC lC B6 k6=>?_]];have s6:ae H4 H6:=λb o e=>k6 _ _ (jl e U) (by rw[e5 b$ jl e U];exact e);have S6:=S4.trans s6;have l:=ae.tm (s4.trans s6);obtain⟨i,hi,ei⟩:=List.mem_iff_getElem.mp hd;have W:ds[i]?=some d:=by rw[<- ei];exact G8 hi
   have hP:Ps H6 nA pA ds nl S:=#[s6 _ _ h7,h9.mono$ ae.tm s6,#[M,hD.mono l],hN,R.mono l];have Y:=Bx R W h2;rw[<- h4]at Y;have kS:Kp H H6:=Kp.of_same S6;refine#[pA,ta,cA,i,Cs,d,ds,nl,S,I,Z,hP,W,Y,l _ _ h3,h6,h',gC,λu sk b H7 D ok dp sz s7=>?_,?_,?_]
   ·obtain⟨c',z⟩:=id D;obtain⟨_,_,_,rfl,_⟩:=z;exact m.2 _ _ _ d.f I sk b c' H7 D ok dp sz$ kS.trans$ Kp.of_same s7
   ·intro _ H7 k7 x C T eC hx hT a0;cases eC;refine .inl #[X.LL,λT' y=>?_];exact m.1 _ _ _ _ λb o N e=>qS (H:=H) (k7 _ _ N$ kS _ _ N e) N hx y
   ·intro _ H7 k7 x C T eC hx hT a0;cases eC;refine .inr #[X.DL,X.DD,λT' y=>?_];exact m.1 _ _ _ _ λb o N e=>qS (H:=H) (k7 _ _ N$ kS _ _ N e) N hx y
  ·exact aO (Hk λz=>c (by injection z))$ m.1 _ _ _ _$ Kp.of_same s2
 refine#[λO J L k G=>g _ _ ?_,λO J L f I s b c k D ok dp sz G=>g _ _ ?_]
 ·clear g;refine aj λB g=>#[_,Z,_,Z,bQ (Hw Z) #[_,Z,a,ns,3,Z,G.seq hS,Se,Se,λp8 H8 n0 B8 e8=>#[p8,Z,B8,λf I s b u H9 D ok dp sz B9 k9=>g _ _ ?_]]];clear g;exact#[_,Z,q f I s b u H9 D ok dp sz λb o N e=>k9 _ _ (jl (G _ _ N e) n0) (by rw[e8 b$ jl (G _ _ N e) n0];exact G _ _ N e)]
 ·clear g;exact aj λB g=>#[_,Z,_,Z,aO (Hk (by intro z;cases z))$ g _ _ #[_,Z,q f I s b (.ref c) k D ok dp sz G]]
noncomputable abbrev BW:Stmt:=bE 77
theorem Qd{X:Cx}{K:Frag}(h:X.K=K):b8 X (.builtin "isinstance") (λx H Q=>∃a C f y c b,x=[.ref a,y]/\Am y=some c/\lB H a C f/\gw K C/\kitOne K (.ref C) c=some b/\Q (.bl b) H):=by subst h;exact Q7
theorem KQ{X:Cx}{K:Frag}(h:X.K=K):b8 X (.builtin "isinstance") (λx H Q=>∃(a C:Addr) (f:List (Str×V)) (t:Addr) (c:List Addr) (b:Bool),x=[.ref a,.ref t]/\H t=some (.tup$ c.map V.ref)/\lB H a C f/\gw K C/\kitAny K (.ref C) (c.map Value.ref)=some b/\Q (.bl b) H):=by subst h;exact K9
theorem vG(s:ae H b)(e:lB H a C f):lB b a C f:=by
 rcases e with ⟨h,T,e⟩ | ⟨d,T,e,E⟩
 ·exact .inl #[h,T,s _ _ e]
 ·exact .inr #[d,T,s _ _ e,s _ _ E]
theorem Ff{K:Frag}(h:kitOne K t a=some false)(H:kitOne K t b=some false)(e:kitOne K t c=some false)(f:kitOne K t d=some false):kitAny K t [a,b,c,d]=some false:=by unfold kitAny;rw[h];unfold kitAny;rw[H];unfold kitAny;rw[e];unfold kitAny;rw[f];rfl
structure Nx(K:Frag)(NS N1 N2 N3 N4 CB:Addr):Prop where
 x:gw K NS
 k0:kitOne K (.ref NS) (.ref NS)=some true
 k1:kitOne K (.ref NS) (.ref N1)=some false
 k2:kitOne K (.ref NS) (.ref N2)=some false
 k3:kitOne K (.ref NS) (.ref N3)=some false
 k4:kitOne K (.ref NS) (.ref N4)=some false
 mb:mroIn K NS (.ref CB)=some true
inductive nZ(g:List V)(H:Hp)(Q:VK)(b:XK):Prop
 |mk(f:Str)(c:List Int)(s:Sk)(a:Int)(u:V)(d:Addr)(e:bh)(_:g=[u,.ref d])(_:me H f c s a u)(_:s.ok true)(_:s.size<=60)(_:H d=some (.tup (e.map V.int)))(_:e.length<=16)(_:aH s e=none)(_:∀H',Kp H H'->Q (.bl true) H')
theorem nM:ak ["_law_chain_here","_law_path","_law_caught","e"] ["_law_chain_here","_law_path"] (aa BW):=bu
theorem Bk(F:aK K "_law_refused" "_law_refused" BW f fd)(GS:ah P w K mg base (dG P w) 18 U j z10z (fo N 17))(bS:ay K j z10z [])(kS:keepIn K (.ref U)=true)(mS:mg "step_at"=some (.ref U))(c:Nx K N l r y z g)(g0:mg "NoStep"=some (.ref N))(g1:mg "NoName"=some (.ref l))(g2:mg "NoRow"=some (.ref r))(g3:mg "TooDeep"=some (.ref y))(g4:mg "TooLong"=some (.ref z))(gB:mg "BookError"=some (.ref g))(hB:clsIn K g≠none)(tB:typeIn K (.ref g)=some (.type "type"))(mB:mroIn K g (.type "BaseException")=some true)(M:mg "isinstance"=none):ah P w K mg base aA 19 f fd ["_law_chain_here","_law_path"] nZ:=by
 refine F.ok nM ?_ λc0 A O s H vs Q E hr h=>?_
 ·rintro _ _ _ _ ⟨f,R,s,a,u,S,V,rfl,_⟩;rfl
 obtain⟨f,R,s,a,u,S,V,rfl,hc,B,hz,D,h0,G,q⟩:=h;refine#[_,(jd (jx 2 nM.nd$ @YQ _ _ _ _)$ jd (@BG _ _ _ _ _ _ _ _ _ _ _ _ (3) Z Z (@sC _ _ _ _ (@Xp _ _ _ _ _ _ _ _ _ _ _ _ _ _ GS hr.m Z mS kS bS .nil (ja (pv 0)$ ja (pv 1) jb) Se Sl Sl) Sl) Z gB hB tB mB nM.nd Z Z (λ_=>(jg$ jx 2 nM.nd$ BA (jH (Qd (K:=K) Sl) Z M On$ ja (pv 3)$ ja (kY (v:=.ref N) Z g0 Z) jb)$ BD$ BC$ jH (KQ (K:=K) Sl) Z M On$ ja (pv 3)$ ja (jh$ ja (kY (v:=.ref l) Z g1 Z)$ ja (kY (v:=.ref r) Z g2 Z)$ ja (kY (v:=.ref y) Z g3 Z)$ ja (kY (v:=.ref z) Z g4 Z) jb) jb)) Se)$ jg$ jm$ pv 2),?_];refine aj λF1 i=>i _ _ ?_;clear i;refine aj λF1 i=>#[_,Z,_,Z,f,R,s,a,u,S,V,Z,hc,B,hz,D,Sf,λk hs w p h v H' X=>(by rw[G]at X;cases X),λ_=>?_];intro _ I k7 x C T eC hx hT h1;cases eC;refine#[c.mb,λt J=>?_];have Y:Kp H (af (af I t$ dH t) x$ dW N none t x):=λb o n e=>qS (H:=H) (k7 _ _ n e) n hx J;have L:lB (af (af I t$ dH t) x$ dW N none t x) x N []:=.inl #[Z,t,jc];generalize af (af I t$ dH t) x (dW N none t x)=H3 at Y L;refine#[_,Z,x,N,_,_,_,_,Z,Z,L,c.x,c.k0,_,Z,bQ Z #[_,Z,oe,λtp d=>#[x,N,[],tp,[l,r,y,z],false,Z,jc,vG (je d) L,c.x,Ff c.k1 c.k2 c.k3 c.k4,_,Z,i _ _ #[_,Z,q _$ Y.trans$ Kp.of_same$ je d]]]]
theorem QR:∀(q:bh) (s:Sk),aH s (q++[-1])=none
 | [],s=>zh Se
 |i::q,s=>by
  by_cases H:0<=i
  ·cases h:s.steps[i.toNat]? with
   |none=>exact kO h
   |some st=>
    obtain⟨n,c,w⟩:=st;obtain⟨j,r,e⟩:∃j r,q++[(-1:Int)]=j::r:=by
     cases q with
     |nil |cons a b=>exact#[_,_,Z]
    show aH s (i::(q++[-1]))=none;cases w with
    |cl f I S a=>rw[e,zP H h,<- e];exact QR q S
    |nil |st _ _ _ _ |ask _ |rd _ _ |wr _ _=>rw[e];exact Jm H h (λ_ _ _ _ z=>by cases z)
  ·exact zh H
noncomputable def Sk.many:Sk->Nat
 | .cl _ _ s _=>s.steps.length
 |_=>0
theorem Zr:∀{p:bh} {s:Sk} {n:Int} {c:List Int} {w:Sk},aH s p=some (n,c,w)->aH s (p++[(w.many:Int)])=none
 | [],s,n,c,w,h=>by cases h
 | [i],s,n,c,w,h=>by
  by_cases H:0<=i
  ·cases b:s.steps[i.toNat]? with
   |none=>rw[kO b]at h;cases h
   |some st=>
    rw[qT H b]at h;cases h;show aH s (i::(w.many:Int)::[])=none;cases w with
    |cl f I S a=>rw[zP H b];exact kO$ Ib$ Hg _
    |nil |st _ _ _ _ |ask _ |rd _ _ |wr _ _=>exact Jm H b (λ_ _ _ _ z=>by cases z)
  ·rw[zh H]at h;cases h
 |i::j::p,s,n,c,w,h=>by
  by_cases H:0<=i
  ·cases b:s.steps[i.toNat]? with
   |none=>rw[kO b]at h;cases h
   |some st=>
    obtain⟨N,d,W⟩:=st;cases W with
    |cl f I S a=>rw[zP H b]at h;show aH s (i::j::(p++[(w.many:Int)]))=none;rw[zP H b];exact Zr h
    |nil |st _ _ _ _ |ask _ |rd _ _ |wr _ _=>rw[Jm H b (λ_ _ _ _ z=>by cases z)]at h;cases h
  ·rw[zh H]at h;cases h
theorem Zs:∀(a:List gF) (k:Nat),x∈lG a b k->∃(i:Nat) (st:gF),a[i]?=some st/\(x=(b++[((k+i:Nat):Int)],st)∨x∈st.2.2.rws (b++[((k+i:Nat):Int)]) 0)
 | [],k,h=>by cases h
 |st::a,k,h=>by
  have h:x∈((b++[(k:Int)],st)::st.2.2.rws (b++[(k:Int)]) 0)++lG a b (k+1):=h;rcases List.mem_append.mp h with h |h
  ·refine#[0,st,Z,?_];rcases List.mem_cons.mp h with h |h
   ·exact .inl h
   ·exact .inr h
  ·obtain⟨i,s,H,c⟩:=Zs a (k+1) h;refine#[i+1,s,by simpa using H,?_];rw[show k+(i+1)=k+1+i by omega];exact c
theorem Jn:∀{s:Sk},s.ok true->∀{i:Nat} {st:gF},s.steps[i]?=some st->st.2.2.ok false/\st.2.2.size+1<=s.size/\st.2.2.dep<=s.dep
 | .nil,_,i,st,h=>by simp [Sk.steps]at h
 | .st n H w r,o,0,st,h=>by cases h;exact#[o.1,by show w.size+1<=w.size+r.size+1;omega,Mo _ _]
 | .st n H w r,o,i+1,st,h=>by have z:=Jn (s:=r) o.2 (i:=i) (st:=st) (by simpa [Sk.steps] using h);exact#[z.1,by show _<=w.size+r.size+1;omega,Hr z.2.2$ Mg _ _]
theorem BN:∀(n:Nat) (s:Sk),s.ok true->s.size<=n->∀(b:bh) (x:bh×gF),x∈s.rws b 0->∃p,x.1=b++p/\aH s p=some x.2/\p.length<=s.dep+1:=by
 intro n;induction n with
 |zero=>intro s o h b x H;have z:=qd o b 0;have e:s.rws b 0=[]:=List.eq_nil_of_length_eq_zero Sf;rw[e]at H;cases H
 |succ n I=>
  intro s o h b x H;rw[QQ o]at H;obtain⟨i,st,k,h2⟩:=Zs _ _ H;rw[MX]at h2;obtain⟨O,S,d⟩:=Jn o k;have l:(0:Int)<=(i:Int):=by omega
  have c:s.steps[((i:Int)).toNat]?=some st:=k;rcases h2 with h2 |h2
  ·exact#[[(i:Int)],by rw[h2],by rw[h2];exact qT l c,by show 1<=_;omega]
  ·obtain⟨m,r,w⟩:=st;cases w with
   |cl f t g a=>
    have d:g.dep+1<=s.dep:=d;have S:g.size+1<=s.size:=S;obtain⟨p,q,E,u⟩:=I g O Sf _ x h2;refine#[(i:Int)::p,by rw[q,Ln];rfl,?_,by show p.length+1<=_;omega];cases p with
    |nil=>cases E
    |cons j p=>rw[zP l c];exact E
   |nil |st _ _ _ _=>exact O.elim
   |ask _ |rd _ _ |wr _ _=>cases h2
theorem Zt{s:Sk}(o:s.ok true)(h:x∈s.rws [] 0):aH s x.1=some x.2/\x.1.length<=s.dep+1:=by obtain⟨p,e,E,a⟩:=BN s.size s o (Hg _) [] x h;have e:x.1=p:=e;rw[e];exact#[E,a]
theorem QS:∀(s:Sk) (b:bh) (k:Nat),(s.rws b k).map (·.1)=(s.ws b k).map (·.1)
 | .st n h w r,b,k=>by show(((b++[(k:Int)],(n,h,w))::w.rws (b++[(k:Int)]) 0)++r.rws b (k+1)).map (·.1)=(((b++[(k:Int)],w)::w.ws (b++[(k:Int)]) 0)++r.ws b (k+1)).map (·.1);rw[Hz,Hz,Ix,Ix,QS w,QS r]
 | .cl _ _ s _,b,_=>QS s b 0
 | .nil,_,_=>rfl
 | .ask _,_,_=>rfl
 | .rd _ _,_,_=>rfl
 | .wr _ _,_,_=>rfl
noncomputable abbrev xg:Stmt:=bE 78
theorem vS{lo:Option Int}(h:x∈aE a lo H):x∈a:=Na (Ii h)
theorem Dl(xs:List V):(aE xs none$ some 12).length<=12:=by unfold aE HT.sIx;simp;omega
theorem Ar(p:bh):∃q:bh,aE (p.map V.int) none (some (-1))=q.map V.int:=by refine#[p.take ((-1+(p.length:Int)).toNat),?_];unfold aE HT.sIx;simp [Mh]
def EW(s:Sk)(q:List bh):Prop:=∀p∈q,aH s p=none
inductive F'(c k:Addr)(s:Sk)(a:Int)(H:Hp)(i:Nat)(r:_L.St)(b:Hp):Prop
 |mk(l:Addr)(m n o:Option V)(q:List V)(p:List bh)(d:r=[some (.ref c),some (.ref k),some (.int a),some (.ref l),m,n,o])(e:b l=some (.lst q))(f:cj pf b p q)(g:EW s p)(h:q.length<=4+3*i)(j:ae H b)
inductive nS(g:List V)(H:Hp)(Q:VK)(b:XK):Prop
 |mk(f:Str)(c:List Int)(s:Sk)(a:Int)(u:V)(d:Addr)(e:List V)(_:g=[u,.ref d])(_:me H f c s a u)(_:s.ok true)(_:s.dep<=15)(_:s.size<=60)(_:H d=some (.lst e))(_:cj C8 H (s.rws [] 0) e)(_:∀(l:Addr) (xs:List V) (qs:List bh) (H':Hp),H l=none->H' l=some (.lst xs)->cj pf H' qs xs->EW s qs->(∀p∈qs,p.length<=16)->xs.length<=40->ae H H'->Q (.ref l) H')
theorem YL{K:Frag}{a:Addr}{xs:List V}{t:TT}{Q:List V->Hp->Prop}(A:xs.length<=sizeLine)(Pv:Nat->List V->Hp->Prop)(n:Pv 0 [] H)
  (o:∀i Y h,Pv i Y h->aB K h a xs/\Y.length<=i) (q:∀i x Y h,xs[i]?=some x->Pv i Y h->t (some x::c) h λb d=>if b=true then T (some x::c) d λy r=>Pv (i+1) (Y++[y]) r else Pv (i+1) Y d) (s:∀Y h,Pv xs.length Y h->Q Y h):
  dI (uV K a) 1 c (bf 0) t T Q H:=by
 refine#[λi m Y h=>m=xs.length - i/\i<=xs.length/\Pv i Y h,#[xs.length,Si,Ho _,n],?_];intro i m Y h g;obtain⟨rfl,B,p⟩:=g;obtain⟨j,C⟩:=o i Y h p;by_cases f:i < xs.length
 ·refine .inr #[#[xs,xs[i],j,G8 f],Sf,Pv$ i+1,λu d z=>#[xs.length - (i+1),Sf,Z,f,z],λv d D k y=>?_];obtain⟨e,y⟩:=y;subst e;obtain⟨w,rfl⟩:=rB k;exact#[#[[some _],Z,Z],q i v Y d (y xs j) p]
 ·have e:i=xs.length:=by omega
  subst e;exact .inl #[#[xs,j,Hg _],s Y h p]
theorem Ak(p:bh)(k:Int):p.map V.int++[V.int k]=(p++[k]).map V.int:=by rw[Hz];rfl
theorem X8:∀{p:bh} {s:Sk} {st:gF},s.ok true->aH s p=some st->st.2.2.ok false/\st.2.2.size<=s.size
 | [],s,st,o,h=>by cases h
 | [i],s,st,o,h=>by
  by_cases b:0<=i
  ·cases H:s.steps[i.toNat]? with
   |none=>rw[kO H]at h;cases h
   |some S=>rw[qT b H]at h;cases h;have z:=Jn o H;exact#[z.1,Sf]
  ·rw[zh b]at h;cases h
 |i::j::p,s,st,o,h=>by
  by_cases b:0<=i
  ·cases H:s.steps[i.toNat]? with
   |none=>rw[kO H]at h;cases h
   |some S=>
    obtain⟨n,d,W⟩:=S;cases W with
    |cl f I c a=>rw[zP b H]at h;have z:=Jn o H;have e:c.ok true:=z.1;have g:c.size+1<=s.size:=z.2.1;have y:=X8 e h;exact#[y.1,Sf]
    |nil |st _ _ _ _ |ask _ |rd _ _ |wr _ _=>rw[Jm b H (λ_ _ _ _ z=>by cases z)]at h;cases h
  ·rw[zh b]at h;cases h
theorem gp:ak z40z ["_law_chain_here","_law_rows_here"] (aa xg):=bu
noncomputable def YM:Scope:=#[.function,[(".0",.local),("_law_path",.local),("len",.globalImplicit)],false,false,[]]
theorem vV:(["_law_path"]:List Str).Nodup:=by decide+kernel
theorem vq:aT z40z (aa xg) YM ["_law_path"] 1 []:=l8
theorem A4(F:aK K "_law_bad" "_law_bad" xg f fd)(ml:mg "len"=none):ah P w K mg base aA 1 f fd ["_law_chain_here","_law_rows_here"] nS:=by
 refine F.ok gp ?_ λc0 A o1 s H vs Q E hr h=>?_
 ·rintro _ _ _ _ ⟨f,is,s,a,u,lr,R,rfl,_⟩;rfl
 obtain⟨f,is,s,a,u,lr,R,rfl,hc,N,hd,hz,h7,h8,q⟩:=h;refine#[_,(jd (jx 2 gp.nd$ jH jE Z ml Ih$ ja (jz$ pv 0) jb)$ jd (jx 3 gp.nd$ jD$ ja (jh jb)$ ja (jh$ ja (pv 2) jb)$ ja (jh$ ja (Qe Jf jf) jb)$ ja (jh$ ja (ju jY (pv 2) jf) jb) jb)$ jd (km HZ Z (za$ jK kh (pv 1) j8$ jI jf) (zk (n:=2) Z$ jy (js (i:=4) gp.nd Z$ Or.inl Z)$ jy (js (i:=5) gp.nd Z$ Or.inl Z) j4)$ jd (jx 6 gp.nd jf)$ jd (jw (ke$ jz$ jr jS (pv 5) jf (λ_ _=>Z)) (jg$ jx 6 gp.nd$ jH jE Z ml Ih$ ja (jz$ jr jS (jr jS (pv 5) jf (λ_ _=>Z)) jf (λ_ _=>Z)) jb) jp)$ jg$ jx 3 gp.nd$ ju zO (pv 3)$ jD$ ja (ju jU (pv 4)$ jh$ ja (pv 6) jb)$ ja (ju jU (pv 4)$ jh$ ja (Qe Jf jf) jb)$ ja (ju jU (jK zC (pv 4) j8$ jI$ Qe Jf jf)$ jh$ ja (Qe Jf jf) jb) jb)$ jg$ jm$ @ki _ _ _ _ _ _ _ (["_law_path"]) (1) ([]) _ _ _ _ Z (za$ pv 3) vq (λ_ _ _ _ _=>(js (i:=0) vV Z$ Or.inl Z)) (λ_ _ _ _ _=>(@sq _ _ _$ jA yI (jH (Z7 (K:=K) Sl) Z ml Ih$ ja (pv 0) jb) jf Z)) (λ_ _ _ _ _=>(pv 0)) (by intro _;rfl)),?_];have b0:=aD;obtain⟨c,g,e,S,rfl,h1,h2,h3,h4⟩:=hc;have ln:=qm N h4;refine aj λF1 k=>(jv h1 pi #[e,_,Z,.inr$ ax.of h3,k _ _ ?_]);clear k;refine aj λF1 k=>#[iw,λt n0=>#[_,Z,gK,λT n1=>#[_,Z,gK,λB n2=>#[_,Z,_,_,Z,Z,gK,λC n3=>#[oe,λl nl=>k _ _ ?_]]]]];clear k;have a0:ae H (af H t$ .tup []):=je n0;have g0:af H t (.tup []) t=some (.tup []):=jc;generalize af H t (.tup [])=H1 at a0 g0 n1 n2 n3 nl ⊢;have a1:ae H1 (af H1 T$ .tup [.int (S.length:Int)]):=je n1;have g1:af H1 T (.tup [.int (S.length:Int)]) T=some (.tup [.int (S.length:Int)]):=jc;generalize af H1 T (.tup [.int (S.length:Int)])=H2 at a1 g1 n2 n3 nl ⊢;have a2:ae H2 (af H2 B$ .tup [.int (-1)]):=je n2;have g2:af H2 B (.tup [.int (-1)]) B=some (.tup [.int (-1)]):=jc;generalize af H2 B (.tup [.int (-1)])=H3 at a2 g2 n3 nl ⊢;have a3:ae H3 (af H3 C$ .tup [.int ((S.length:Int)+9)]):=je n3;have g3:af H3 C (.tup [.int ((S.length:Int)+9)]) C=some (.tup [.int ((S.length:Int)+9)]):=jc;generalize af H3 C (.tup [.int ((S.length:Int)+9)])=H4 at a3 g3 nl ⊢;have Y:ae H4 (af H4 l$ .lst [.ref t,.ref T,.ref B,.ref C]):=je nl;have g4:af H4 l (.lst [.ref t,.ref T,.ref B,.ref C]) l=some (.lst [.ref t,.ref T,.ref B,.ref C]):=jc;generalize af H4 l (.lst [.ref t,.ref T,.ref B,.ref C])=H5 at Y g4 ⊢;have S5:ae H H5:=(((a0.trans a1).trans a2).trans a3).trans Y;have l0:cj pf H5 [[],[(S.length:Int)],[-1],[(S.length:Int)+9]] [.ref t,.ref T,.ref B,.ref C]:=#[_,_,Z,#[t,Z,Y _ _$ a3 _ _$ a2 _ _$ a1 _ _ g0],_,_,Z,#[T,Z,Y _ _$ a3 _ _$ a2 _ _ g1],_,_,Z,#[B,Z,Y _ _$ a3 _ _ g2],_,_,Z,#[C,Z,Y _ _ g3],Z];have n9:EW s [[],[(S.length:Int)],[-1],[(S.length:Int)+9]]:=by
  intro p hp;simp only[IW,HK,Mp]at hp;rcases hp with rfl |rfl |rfl |rfl
  ·rfl
  ·exact kO$ Ib Sf
  ·exact QR [] s
  ·exact kO$ Ib Sf
 refine aj λF1 k=>eI λJ jj=>#[_,Z,_,Z,lr,R,Z,aB.of$ S5 _ _ h7,λsl n'=>#[sl,Z,#[_,aB.of jc],jj _ _ ?_]];clear jj;have a6:ae H5 (af H5 sl$ .lst$ aE R none$ some 12):=je n';have g6:af H5 sl (.lst$ aE R none$ some 12) sl=some (.lst$ aE R none$ some 12):=jc;generalize af H5 sl (.lst$ aE R none$ some 12)=H6 at a6 g6 ⊢;have S6:=S5.trans a6;have c2:=Dl R;refine Js (K:=K) (a:=sl) (xs:=aE R none (some 12)) (F' c lr s (S.length:Int) H6) #[l,_,_,_,_,_,Z,a6 _ _ g4,l0.mono dN$ ae.tm a6,n9,Hg 4,ae.refl _] (λi σ Hx _ h=>by obtain⟨l,o4,o5,o6,xs,qs,rfl,w1,w2,w3,w4,U⟩:=h;exact aB.of$ U _ _ g6) ?_ (λσ Hx h=>k _ _ ?_)
 ·clear k;intro E rt i x σ H7 h0 f0 Gq kq h;obtain⟨l,o4,o5,o6,xs,qs,rfl,w1,w2,w3,w4,U⟩:=h;refine kq ?_;clear kq;have hi:i < (aE R none$ some 12).length:=(List.getElem?_eq_some_iff.mp h0).1;have hm:x∈R:=vS (Hu h0);obtain⟨j,hj⟩:=List.mem_iff_getElem?.mp hm;have S7:=S6.trans U;obtain⟨⟨d,n1,h9,w⟩,h5,q0,pa,st,hh,v,rfl,r1,r2,r3,r4,r5⟩:=(h8.mono eU$ ae.tm S7).at hj;obtain⟨D,s0⟩:=Zt N (Hu h5);have D:aH s d=some (n1,h9,w):=D;have s0:d.length<=s.dep+1:=s0;have r2:H7 pa=some (.tup$ d.map V.int):=r2;have r3:H7 st=some (.tup [.int n1,.ref hh,v]):=r3;have r5:em H7 w v []:=r5;obtain⟨O,s1⟩:=X8 N D;have O:w.ok false:=O;refine#[q0,_,Z,ax.of r1,Z,_,_,Z,_,_,Z,Z,?_];refine aj λF1 k=>k _ _ ?_;clear k;refine aj λF1 k=>?_;have nx:F1 [some$ .ref c,some$ .ref lr,some$ .int (S.length:Int),some$ .ref l,some$ .ref pa,some$ .ref st,some$ .int (w.many:Int)] H7:=by
   refine k _ _ ?_;refine#[_,Z,_,Z,_,Z,gK,λu1 m1=>#[pa,u1,_,_,Z,Z,am r2 m1,jc,by rw[He];show _+1<=_;omega,λG I1 e1 k1=>?_]];have K1:ae H7 I1:=(je (o:=.tup [.int (w.many:Int)]) m1).trans k1;have e1:I1 G=some (.tup$ d.map V.int++[.int (w.many:Int)]):=e1;rw[Ak]at e1;refine#[_,Z,_,Z,gK,λu2 m2=>#[pa,u2,_,_,Z,Z,am (K1 _ _ r2) m2,jc,by rw[He];show _+1<=_;omega,λI I2 e2 k2=>?_]];have K2:ae I1 I2:=(je (o:=.tup [.int (-1)]) m2).trans k2;have e2:I2 I=some (.tup$ d.map V.int++[.int (-1)]):=e2;rw[Ak]at e2;refine#[_,Z,_,Z,_,Z,pa,_,Z,K2 _ _$ K1 _ _ r2,λb3 I3 e3 k3=>?_];obtain⟨q',e5⟩:=Ar d;have e3:I3 b3=some (.tup$ aE (d.map V.int) none$ some (-1)):=e3;have lq:q'.length<=16:=by
    have z:(aE (d.map V.int) none$ some (-1)).length<=(d.map V.int).length:=by unfold aE;simp;omega
    rw[e5,He,He]at z;omega
   rw[e5]at e3;refine#[_,Z,gK,λu4 m4=>#[b3,u4,_,_,Z,Z,am e3 m4,jc,by rw[He];show _+1<=_;omega,λM I4 e4 k4=>?_]];have K4:ae I3 I4:=(je (o:=.tup [.int (-1)]) m4).trans k4;have e4:I4 M=some (.tup$ q'.map V.int++[.int (-1)]):=e4;rw[Ak]at e4;have KA:ae H7 I4:=((K1.trans K2).trans k3).trans K4;refine#[dZ,λl2 n4=>#[l,l2,xs,_,Z,Z,am (KA _ _ w1) n4,jc,by show _+3<=_;omega,λl3 n5=>f0 _ _ ?_]];have k5:ae I4 (af I4 l2$ .lst [.ref G,.ref I,.ref M]):=je n4;generalize af I4 l2 (.lst [.ref G,.ref I,.ref M])=I5 at k5 n5 ⊢;have k6:ae I5 (af I5 l3$ .lst$ xs++[.ref G,.ref I,.ref M]):=je n5;have m:=k5.trans k6;have l1:cj pf (af I5 l3$ .lst$ xs++[.ref G,.ref I,.ref M]) [d++[(w.many:Int)],d++[-1],q'++[-1]] [.ref G,.ref I,.ref M]:=#[_,_,Z,#[G,Z,m _ _$ K4 _ _$ k3 _ _$ K2 _ _ e1],_,_,Z,#[I,Z,m _ _$ K4 _ _$ k3 _ _ e2],_,_,Z,#[M,Z,m _ _ e4],Z];refine#[l3,_,_,_,xs++[.ref G,.ref I,.ref M],qs++[d++[(w.many:Int)],d++[-1],q'++[-1]],Z,jc,cj.app l1$ w2.mono dN$ ae.tm$ KA.trans m,?_,?_,U.trans$ KA.trans m]
   ·intro p hp;rcases List.mem_append.mp hp with hp |hp
    ·exact w3 p hp
    ·simp only[IW,HK,Mp]at hp;rcases hp with rfl |rfl |rfl
     ·exact Zr D
     ·exact QR _ s
     ·exact QR _ s
   ·rw[Hf];show _+3<=_;omega
  obtain⟨p3,v3,r6,eu,h',h6⟩:=Zp O r5;subst eu;refine(jv r3 pi #[p3,_,_,_,Z,Z,ax.of h',gn,Z,_,Z,?_]);rw[Zq];by_cases hv:v3="call"
  ·obtain⟨g',i0,s',a',rfl⟩:=h6.mp hv;obtain⟨x1,c1,y1,z1,s2,e6,k1,k2,k3,k4,k5⟩:=r5;cases e6;have l4:=qm (show s'.ok true from O) k5;refine bQ (Hw hv)$ jv r3 pi #[p3,_,_,_,Z,Z,ax.of k1,l7,c1,_,_,_,Z,Z,ax.of k2,pi,z1,_,Z,.inr$ ax.of k4,?_];rw[l4];exact nx
  ·have e0:w.many=0:=by
    cases w with
    |cl f is s a=>exact absurd (h6.mpr #[f,is,s,a,Z]) hv
    |_=>rfl
   rw[e0]at nx;exact aO (Hk hv) nx
 ·clear k;obtain⟨l,o4,o5,o6,xs,qs,rfl,w1,w2,w3,w4,U⟩:=h;refine#[_,Z,l,Z,#[_,aB.of w1],?_];refine YL (K:=K) (a:=l) (xs:=xs) Sf (λi W Hy=>Hy=Hx/\W.length<=i/\∃X,cj pf Hx X W/\∀p∈X,p∈qs/\p.length<=16) #[Z,Hg 0,[],Z,λp hp=>by cases hp] (λi W Hy h=>#[by rw[h.1];exact aB.of w1,h.2.1]) ?_ ?_
  ·intro i x W Hy hx h;obtain⟨rfl,lz,X,L,r⟩:=h;obtain⟨p,hp,b,rfl,hb⟩:=w2.at hx;refine#[_,Z,b,_,Z,.inr$ ax.of hb,_,_,Z,Z,_,Z,?_];rw[He];show if decide ((p.length:Int)<=16)=true then _ else _;by_cases hl:(p.length:Int)<=16
   ·rw[Hw hl];exact oy #[_,Z,Z,by rw[Hf];show _+1<=_;omega,X++[p],cj.app (cj.one #[b,Z,hb]) L,λy hy=>(List.mem_append.mp hy).elim (r y) λhy=>by
     cases List.mem_singleton.mp hy;exact#[Hu hp,Sf]]
   ·rw[Hk hl];exact ou #[Z,Sf,X,L,r]
  ·intro W H8 h gl n7;obtain⟨rfl,l5,X,L,r⟩:=h;have a8:ae H8 (af H8 gl$ .lst W):=je n7;exact q gl W X _ (none_of (S6.trans U) n7) jc (L.mono dN$ ae.tm a8) (λp hp=>w3 p (r p hp).1) (λp hp=>(r p hp).2) Sf ((S6.trans U).trans a8)
noncomputable def mP:Sk->Tr
 | .nil=>.nil
 | .st n h w r=>.cons (aZ [aY n,aZ (h.map aY),mP w]) (mP r)
 | .ask b=>aZ [bX "ask",aY b]
 | .rd c i=>aZ [bX "read",aY c,aY i]
 | .wr c i=>aZ [bX "write",aY c,aY i]
 | .cl f I s a=>aZ [bX "call",aZ [bX f,aZ (I.map aY),.tp (mP s),aY a]]
theorem YW:∀{b:Bool} {s:Sk},s.ok b->(mP s).isL=b
 |true,.nil,_=>rfl
 |true,.st _ _ _ _,_=>rfl
 |false,.cl _ _ _ _,_=>rfl
 |false,.ask _,_=>rfl
 |false,.rd _ _,_=>rfl
 |false,.wr _ _,_=>rfl
theorem Ki{H:Hp}{a:List Int}(e:H h=some (.tup$ a.map V.int)):aP H (aZ$ a.map aY) (.ref h) []:=jG e JY
theorem YX:∀{b:Bool} {s:Sk} {u:V} {X:List V},s.ok b->em H s u X->(b=false->X=[])->(b=true->u= .non)->aP H (mP s) u X
 |true,.nil,_,_,_,h,_,_=>h
 |true,.st n t w r,_,_,o,q,_,z=>by obtain⟨p,h,u,y,e,d,j,k,l⟩:=q;rw[e,z Z];exact#[Z,YW o.2,_,_,Z,jG d$ jo Z kK$ jo Z (Ki j)$ jo (YW o.1) (YX o.1 k (λ_=>Z) (λx=>nomatch x)) jC,YX o.2 l (λx=>nomatch x) (λ_=>Z)]
 |false,.ask b,_,_,_,q,z,_=>by obtain⟨p,e,h⟩:=q;rw[e,z Z];exact jG h (jo Z j3 (jo Z kK jC))
 |false,.rd c i,_,_,_,q,z,_=>by obtain⟨p,e,h⟩:=q;rw[e,z Z];exact jG h (jo Z j3 (jo Z kK (jo Z kK jC)))
 |false,.wr c i,_,_,_,q,z,_=>by obtain⟨p,e,h⟩:=q;rw[e,z Z];exact jG h (jo Z j3 (jo Z kK (jo Z kK jC)))
 |false,.cl f I s a,_,_,o,q,z,_=>by obtain⟨p,c,g,e,S,E,d,j,k,l,m⟩:=q;rw[E,z Z];exact jG d$ jo Z j3$ jo Z (jG j$ jo Z j3$ jo Z (Ki k)$ jo Z #[YW o,e,S,Z,l,YX (b:=true) o m (λx=>nomatch x) (λ_=>Z)] (jo Z kK jC)) jC
theorem qi:∀i:List Int,(aG$ i.map aY).dep=0
 | []=>rfl
 |_::i=>by show max 0 (aG (i.map aY)).dep=0;rw[qi i];rfl
theorem QT:∀{b:Bool} {s:Sk},s.ok b->(mP s).dep<=4*s.dep+(if b=true then 2 else 1)
 |true,.nil,_=>Ho _
 |true,.st n H w r,o=>by have h:=QT (b:=false) (s:=w) o.1;have c:=QT (b:=true) (s:=r) o.2;have d:=qi H;have h:(mP w).dep<=4*w.dep+1:=h;have c:(mP r).dep<=4*r.dep+2:=c;show max (max 0 (max ((aG$ H.map aY).dep+1)$ max (mP w).dep 0)+1) (mP r).dep<=4*max w.dep r.dep+2;omega
 |false,.ask _,_=>Hg 1
 |false,.rd _ _,_=>Hg 1
 |false,.wr _ _,_=>Hg 1
 |false,.cl f i s a,o=>by have h:=QT (b:=true) (s:=s) o;have d:=qi i;have h:(mP s).dep<=4*s.dep+2:=h;show max 0 (max (max 0 (max ((aG$ i.map aY).dep+1)$ max ((mP s).dep+1)$ max 0 0)+1) 0)+1<=4*(s.dep+1)+1;omega
end _K
namespace _K
open PySem PySem.Spec PyProof.Rows _L
variable {P:Program}{w:World}{K:Frag}{mg:Str->Option Value}{base:Heap}
noncomputable def AQ:V->Bool
 | .int _=>true
 | .str _=>true
 |_=>false
noncomputable def _root_._L.Tr.In:Tr->Prop
 | .lf v=>AQ v=true
 | .tp l=>l.In
 | .nil=>True
 | .cons h t=>h.In/\t.In
noncomputable def _root_._L.Tr.items:Tr->List Tr
 | .cons h t=>h::t.items
 |_=>[]
theorem QU{H:Hp}:∀{t u:Tr} {x:V} {xs:List V},aP H t x xs->aP H u x xs->t.isL=u.isL->t.In->u.In->t=u
 | .lf v,.lf w,_,_,h,k,_,_,_=>by rw[<- h.1,<- k.1]
 | .lf v,.tp m,_,_,h,k,_,i,_=>by obtain⟨_,a,_,e,_⟩:=k;have E:=h.1;rw[e]at E;rw[<- E]at i;cases i
 | .tp l,.lf v,_,_,k,h,_,_,i=>by obtain⟨_,a,_,e,_⟩:=k;have E:=h.1;rw[e]at E;rw[<- E]at i;cases i
 | .tp l,.tp m,_,_,h,k,_,i,j=>by obtain⟨o,a,xs,e,p,q⟩:=h;obtain⟨r,b,Y,c,d,f⟩:=k;rw[e]at c;cases c;rw[p]at d;cases d;rw[QU q f (o.trans r.symm) i j]
 | .nil,.nil,_,_,_,_,_,_,_=>rfl
 | .nil,.cons _ _,_,_,h,k,_,_,_=>by obtain⟨_,_,_,_,e,_⟩:=k;have h:_=[]:=h;rw[e]at h;cases h
 | .cons _ _,.nil,_,_,k,h,_,_,_=>by obtain⟨_,_,_,_,e,_⟩:=k;have h:_=[]:=h;rw[e]at h;cases h
 | .cons h t,.cons G T,_,_,k,s,_,i,j=>by obtain⟨A,B,y,Y,e,d,f⟩:=k;obtain⟨C,D,I,F,c,g,n⟩:=s;rw[e]at c;cases c;rw[QU d g (A.trans C.symm) i.1 j.1,QU f n (B.trans D.symm) i.2 j.2]
 | .lf _,.nil,_,_,_,_,z,_,_=>nomatch z
 | .lf _,.cons _ _,_,_,_,_,z,_,_=>nomatch z
 | .tp _,.nil,_,_,_,_,z,_,_=>nomatch z
 | .tp _,.cons _ _,_,_,_,_,z,_,_=>nomatch z
 | .nil,.lf _,_,_,_,_,z,_,_=>nomatch z
 | .nil,.tp _,_,_,_,_,z,_,_=>nomatch z
 | .cons _ _,.lf _,_,_,_,_,z,_,_=>nomatch z
 | .cons _ _,.tp _,_,_,_,_,z,_,_=>nomatch z
theorem Kt:∀{l:Tr} {X:List V},l.isL=true->l.In->aP H l .non X->X.length=l.items.length/\∀(j:Nat) (x:V),X[j]?=some x->∃t,l.items[j]?=some t/\t.isL=false/\t.In/\t.dep<=l.dep/\aP H t x []
 | .nil,X,_,_,h=>by have h:X=[]:=h;rw[h];exact#[Z,λj x z=>by simp at z]
 | .cons a t,X,_,i,h=>by
  obtain⟨A,c,y,Y,e,k,d⟩:=h;subst e;obtain⟨L,f⟩:=Kt c i.2 d;refine#[IC (·+1) L,λj x b=>?_];cases j with
  |zero=>cases b;exact#[a,Z,A,i.1,Mo _ _,k]
  |succ j=>obtain⟨u,g,m,n,o,p⟩:=f j x (by simpa using b);exact#[u,by simpa [_L.Tr.items] using g,m,n,Hr o$ Mg _ _,p]
 | .lf _,_,z,_,_=>nomatch z
 | .tp _,_,z,_,_=>nomatch z
theorem XF:∀{l m:Tr} {x y:List V},l.isL=true->m.isL=true->aP H l .non x->aP H m .non y->(l=m↔l.items=m.items)
 | .nil,.nil,_,_,_,_,_,_=>#[λ_=>Z,λ_=>Z]
 | .nil,.cons _ _,_,_,_,_,_,_=>#[λz=>(nomatch z),λz=>(nomatch z)]
 | .cons _ _,.nil,_,_,_,_,_,_=>#[λz=>(nomatch z),λz=>(nomatch z)]
 | .cons a t,.cons b u,_,_,_,_,h,k=>by obtain⟨_,A,_,_,_,_,d⟩:=h;obtain⟨_,B,_,_,_,_,c⟩:=k;have i:=XF A B d c;refine#[λz=>by cases z;rfl,λz=>?_];have z:a::t.items=b::u.items:=z;injection z with e f;rw[e,i.mpr f]
 | .lf _,_,_,_,z,_,_,_=>nomatch z
 | .tp _,_,_,_,z,_,_,_=>nomatch z
 | .nil,.lf _,_,_,_,z,_,_=>nomatch z
 | .nil,.tp _,_,_,_,z,_,_=>nomatch z
 | .cons _ _,.lf _,_,_,_,z,_,_=>nomatch z
 | .cons _ _,.tp _,_,_,_,z,_,_=>nomatch z
open Classical in
noncomputable def pd(t u:Tr):Bool:=decide (t=u)
open Classical in
theorem qL(h:t=u):pd t u=true:=by unfold pd;exact Hw h
open Classical in
theorem qt(h:t≠u):pd t u=false:=by unfold pd;exact Hk h
noncomputable def mX(l m:Tr)(j:Nat):Bool:=match l.items[j]?,m.items[j]? with
 |some t,some u=>pd t u
 |_,_=>true
theorem uF{l m:Tr}(a:l.isL=true)(b:m.isL=true)(h:aP H l .non x)(k:aP H m .non y)(d:n=l.items.length)(E:N=m.items.length):((List.range$ min n N).all (mX l m)&&n==N)=pd l m:=by
 by_cases e:l=m
 ·subst e;rw[qL Z,d,E,I8,Bool.and_true,MK];intro j _;unfold mX;cases l.items[j]? with
  |none=>rfl
  |some t=>exact qL Z
 ·rw[qt e];have f:l.items≠m.items:=λz=>e ((XF a b h k).mpr z);by_cases g:n=N
  ·have z:(List.range$ min n N).all (mX l m)=false:=by rw[Pd];intro z;rw[MK]at z;refine f$ MJ Sf λj i o=>?_;have:=z j (List.mem_range.mpr Sf);unfold mX at this;rw[G8 i,G8 o]at this;exact Classical.byContradiction λc=>by have C:=qt c;dsimp only at this;rw[C]at this;cases this
   rw[z];rfl
  ·rw[show(n==N)=false from beq_eq_false_iff_ne.mpr g,Nb]
section
open PySem.SeqAt
variable {X:Cx}
theorem DG{w:V}(H:AQ v=true)(h:AQ w=true)(R:aw v a)(r:aw w b):EqAt A s a b (pd (.lf v)$ .lf w):=by
 cases v with
 |int i=>
  obtain⟨T,rfl⟩:=R;cases w with
  |int j=>
   obtain⟨t,rfl⟩:=r;have z:=Oz (A:=A) (s:=s) i T j t;by_cases e:i=j
   ·subst e;rw[I8]at z;rw[qL Z];exact z
   ·rw[beq_eq_false_iff_ne.mpr e]at z;rw[qt (λc=>e (by injection c with c;injection c))];exact z
  |str y=>obtain⟨t,rfl⟩:=r;rw[qt (λc=>by injection c with c;cases c)];exact EqAt.int_str _ _ _ _
  |_=>cases h
 |str i=>
  obtain⟨T,rfl⟩:=R;cases w with
  |str j=>
   obtain⟨t,rfl⟩:=r;have z:=Oy (A:=A) (s:=s) i T j t;by_cases e:i=j
   ·subst e;rw[I8]at z;rw[qL Z];exact z
   ·rw[beq_eq_false_iff_ne.mpr e]at z;rw[qt (λc=>e (by injection c with c;injection c))];exact z
  |int y=>obtain⟨t,rfl⟩:=r;rw[qt (λc=>by injection c with c;cases c)];exact EqAt.str_int _ _ _ _
  |_=>cases h
 |_=>cases H
theorem Fy(I:ap X p σ H s)(n:Nat)(G:∀(t:Tr) {A:Around},t.dep<=n->A.units+n < cLine->t.In->t.isL=false->∀{u:Tr} {x y:V},u.In->u.isL=false->aP H t x []->aP H u y []->∀a b,aw x a->aw y b->EqAt A s a b (pd t u)){l m:Tr}(hn:l.dep<=n)(hu:A.units+n+1 < cLine)(J:l.In)(L:m.In)(d:l.isL=true)(f:m.isL=true)(M:H g=some (.tup i))(N:H B=some (.tup o))(T:aP H l .non i)(q:aP H m .non o):RcAt A s (.ref g) (.ref B) (pd (.tp l)$ .tp m):=by
 obtain⟨v,r,O,_⟩:=I.tuple (ax.of (K:=X.K) M);obtain⟨C,R,Q,_⟩:=I.tuple (ax.of (K:=X.K) N);obtain⟨S,U⟩:=Kt d J T;obtain⟨W,Y⟩:=Kt f L q;have z:=Rp (A:=A) (e:=mX l m) (show s.heap.IsTuple g v.toArray from O) (show s.heap.IsTuple B C.toArray from Q) Sf (λj h1 h2=>?_)
 ·rw[uF d f T q (by rw[Hh,<- r.length,S]) (by rw[Hh,<- R.length,W])]at z;have E:pd (.tp l) (.tp m)=pd l m:=by
   by_cases c:l=m
   ·rw[qL c,qL (by rw[c])]
   ·rw[qt c,qt (λk=>c (by injection k))]
  rw[E];exact z
 ·have la:=r.length;have lb:=R.length;have D:j < i.length:=by simp at h1;omega
  have h:j < o.length:=by simp at h2;omega
  obtain⟨u1,q1,r1⟩:=r.get (G8 D);obtain⟨u2,q2,r2⟩:=R.get (G8 h);have e1:v.toArray[j]=u1:=by obtain⟨_,e⟩:=List.getElem?_eq_some_iff.mp q1;simpa using e
  have E:C.toArray[j]=u2:=by obtain⟨_,e⟩:=List.getElem?_eq_some_iff.mp q2;simpa using e
  rw[e1,E];obtain⟨F,g1,g2,g3,g4,g5⟩:=U j _ (G8 D);obtain⟨u',k1,k2,k3,k4,k5⟩:=Y j _ (G8 h);have et:mX l m j=pd F u':=by unfold mX;rw[g1,k1]
  rw[et];exact G F (A:=A.in1) Sf (by show A.units+1+n < cLine;omega) g3 g2 k3 k2 g5 k5 _ _ r1 r2
theorem uG(I:ap X z Y H s):∀(n:Nat) (t:Tr) {A:Around},t.dep<=n->A.units+n < cLine->t.In->t.isL=false->∀{u:Tr} {x y:V},u.In->u.isL=false->aP H t x []->aP H u y []->∀a b,aw x a->aw y b->EqAt A s a b (pd t u):=by
 intro n;induction n with
 |zero=>
  intro t A k J i L u x y d g j h a b R r;cases t with
  |tp l=>exact absurd k (by show ¬l.dep+1<=0;omega)
  |nil |cons _ _=>cases L
  |lf v=>
   obtain⟨rfl,_⟩:=j;cases u with
   |nil |cons _ _=>cases g
   |lf w=>obtain⟨rfl,_⟩:=h;exact DG i d R r
   |tp m=>
    obtain⟨_,B,M,rfl,o,_⟩:=h;cases r;obtain⟨W,N,C,_⟩:=I.tuple (ax.of (K:=X.K) o);rw[qt (λc=>by cases c)];cases x<;>first |cases i |skip
    ·obtain⟨T,rfl⟩:=R;exact EqAt.int_tuple _ _ C Sf
    ·obtain⟨T,rfl⟩:=R;exact EqAt.str_tuple _ _ C Sf
 |succ n D=>
  intro t A k J i L u x y d g j h a b R r;cases t with
  |nil |cons _ _=>cases L
  |lf v=>exact D (.lf v) (Ho _) Sf i L d g j h a b R r
  |tp l=>
   obtain⟨E,p,O,rfl,q,F⟩:=j;cases R;obtain⟨ia,Q,G,_⟩:=I.tuple (ax.of (K:=X.K) q);cases u with
   |nil |cons _ _=>cases g
   |lf w=>
    obtain⟨rfl,_⟩:=h;rw[qt (λc=>by cases c)];cases y<;>first |cases d |skip
    ·obtain⟨T,rfl⟩:=r;exact PY _ _ G Sf
    ·obtain⟨T,rfl⟩:=r;exact EqAt.tuple_str _ _ G Sf
   |tp m=>
    have f:=id h;obtain⟨S,B,M,rfl,o,U⟩:=h;cases r;by_cases e:p=B
    ·subst e;rw[qL$ QU (H:=H) (t:=.tp l) (u:=.tp m) (x:=.ref p) (xs:=[]) #[E,p,O,Z,q,F] f Z i d];exact Ng _
    ·exact Ri e$ Fy I n D (by have:l.dep+1<=n+1:=k;omega) Sf i d E S q o F U
end
end _K
namespace _K
open PySem PySem.Spec PyProof.Rows _L
variable {P:Program}{w:World}{K:Frag}{mg:Str->Option Value}{base:Heap}
def vh(a:bh)(m:Nat)(p:bh):Prop:=∃(j:Nat) (q:bh),m<=j/\p=a++(j:Int)::q
theorem Ce(p:bh)(m:Nat):vh p m (p++[(m:Int)]):=#[m,[],Hg _,Z]
theorem vh.le(h:vh a m p)(l:M<=m):vh a M p:=let #[j,q,H,b]:=h;#[j,q,Hr l H,b]
theorem vh.up{a:bh}{m j i:Nat}{p:bh}(h:vh (a++[(j:Int)]) i p)(l:m<=j):∃q,p=a++(j:Int)::q/\q≠[]:=by obtain⟨k,q,_,e⟩:=h;exact#[(k:Int)::q,by rw[e,Ln];rfl,λz=>by cases z]
theorem Xj:∀(s:Sk) (p:bh) (k:Nat),∀q∈(s.ws p k).map (·.1),vh p 0 q
 | .st _ _ w r,p,k,q,h=>by
  have h:q∈(((p++[(k:Int)],w)::w.ws (p++[(k:Int)]) 0)++r.ws p (k+1)).map (·.1):=h;rw[Hz,Ix]at h;rcases List.mem_append.mp h with h |h
  ·rcases List.mem_cons.mp h with rfl |h
   ·exact(Ce p k).le (Ho _)
   ·obtain⟨Q,e,_⟩:=(Xj w _ 0 q h).up (m:=0) (Ho _);exact#[k,Q,Ho _,e]
  ·exact Xj r p (k+1) q h
 | .cl _ _ s _,p,_,q,h=>Xj s p 0 q h
 | .nil,_,_,_,h=>nomatch h
 | .ask _,_,_,_,h=>nomatch h
 | .rd _ _,_,_,_,h=>nomatch h
 | .wr _ _,_,_,_,h=>nomatch h
theorem Zu{w:Sk}{p:bh}{k:Nat}{q:bh}(h:q∈BJ (p++[(k:Int)]) w):∃Q,q=p++(k:Int)::Q:=by
 rcases List.mem_cons.mp h with rfl |h
 ·exact#[[],Z]
 ·obtain⟨Q,e,_⟩:=(Xj w _ 0 q h).up (m:=0) (Ho _);exact#[Q,e]
theorem uS(s:gF)(r:List gF)(p:bh)(k:Nat):(md (s::r) p k).map (·.1)=BJ (p++[(k:Int)]) s.2.2++(md r p$ k+1).map (·.1):=by show((_::_)++_).map _=_;rw[Hz];rfl
theorem uT:∀(os:List gF) (p:bh) (k:Nat),∀q∈(md os p k).map (·.1),∃(i:Nat) (Q:bh),k<=i/\i < k+os.length/\q=p++(i:Int)::Q
 | [],_,_,_,h=>nomatch h
 |s::r,p,k,q,h=>by
  rw[uS]at h;rcases List.mem_append.mp h with h |h
  ·obtain⟨Q,e⟩:=Zu h;exact#[k,Q,Hg _,by show k < k+(r.length+1);omega,e]
  ·obtain⟨i,Q,H,a,e⟩:=uT r p (k+1) q h;exact#[i,Q,Sf,by show i < k+(r.length+1);omega,e]
theorem Q5:∀(p x y:bh),iG (p++x) (p++y)=iG x y
 | [],_,_=>rfl
 |a::p,x,y=>by show(if a=a then iG (p++x) (p++y) else _)=_;rw[HD Z,Q5 p]
theorem vP{p q Q:bh}{i j:Nat}(h:i < j):iG (p++(i:Int)::q) (p++(j:Int)::Q)=true:=by rw[Q5];show(if (i:Int)=(j:Int) then _ else decide ((i:Int) < (j:Int)))=true;rw[HG Sf];exact Hw Sf
theorem vQ:iG p (p++(i:Int)::q)=true:=by have:=Q5 p [] ((i:Int)::q);rw[Ml]at this;exact this
abbrev CU(l:List bh):Prop:=l.Pairwise λa b=>iG a b=true
theorem QG:∀(s:Sk) (p:bh) (k:Nat),s.ok true->∀q∈(s.ws p k).map (·.1),vh p k q
 |s,p,k,o,q,h=>by rw[QO o]at h;obtain⟨i,Q,H,_,e⟩:=uT _ _ _ q h;exact#[i,Q,H,e]
theorem Co(H:CU a)(c:CU b)(h:∀x∈a,∀y∈b,iG x y=true):CU (a++b):=List.pairwise_append.mpr #[H,c,h]
theorem YY:∀{b:Bool} {s:Sk},s.ok b->∀(p:bh) (k:Nat),CU ((s.ws p k).map (·.1))
 |true,.nil,_,_,_=>List.Pairwise.nil
 |true,.st _ _ w r,o,p,k=>by
  show CU ((((p++[(k:Int)],w)::w.ws (p++[(k:Int)]) 0)++r.ws p (k+1)).map (·.1));rw[Hz];refine Co ?_ (YY o.2 p$ k+1) λx H y h=>?_
  ·rw[Ix];refine List.pairwise_cons.mpr #[λy h=>?_,YY o.1 _ 0];obtain⟨i,q,_,e⟩:=Xj w _ 0 y h;rw[e];exact vQ
  ·obtain⟨q,e⟩:=Zu (w:=w) (show x∈BJ (p++[(k:Int)]) w from H);obtain⟨i,Q,a,E⟩:=QG r p (k+1) o.2 y h;rw[e,E];exact vP a
 |false,.cl _ _ s _,o,p,_=>YY (b:=true) (s:=s) o p 0
 |false,.ask _,_,_,_=>List.Pairwise.nil
 |false,.rd _ _,_,_,_=>List.Pairwise.nil
 |false,.wr _ _,_,_,_=>List.Pairwise.nil
theorem xU(h:CU l)(H:l[i]?=some p)(c:l[i+1]?=some q):iG p q=true:=by obtain⟨a,e⟩:=List.getElem?_eq_some_iff.mp H;obtain⟨b,E⟩:=List.getElem?_eq_some_iff.mp c;have:=(List.pairwise_iff_getElem.mp h) i (i+1) a b (IF i);rw[e,E]at this;exact this
theorem Zv:∀i:List Int,(aG$ i.map aY).In
 | []=>trivial
 |_::i=>#[Z,Zv i]
def C9(H:Hp)(x y:V):Prop:=∃t:Tr,t.dep<=5/\t.In/\t.isL=false/\aP H t x []/\aP H t y []
theorem Ck(h:pf H x p)(g:pf H y p):C9 H x y:=by obtain⟨a,rfl,h⟩:=h;obtain⟨b,rfl,g⟩:=g;exact#[aZ$ p.map aY,(by show(aG$ p.map aY).dep+1<=5;rw[qi];decide),Zv p,Z,Ki h,Ki g]
theorem sh{X:Cx}(hu:X.A.units+10 < cLine):eG X (compareOp .NotEq) (λx y H Q=>∃(a b:Addr) (c Y:List V),x= .ref a/\y= .ref b/\H a=some (.lst c)/\H b=some (.lst Y)/\c.length=Y.length/\(∀(j:Nat) (u v:V),c[j]?=some u->Y[j]?=some v->C9 H u v)/\Q (.bl false) H):=by
 intro p s σ H x y v u Q I k l h;obtain⟨a,b,c,Y,rfl,rfl,m,n,hl,o,q⟩:=h;cases k;cases l;obtain⟨i,r,B,_⟩:=I.list (aB.of (K:=X.K) m);obtain⟨C,R,D,_⟩:=I.list (aB.of (K:=X.K) n);have la:=r.length;have lb:=R.length;refine Pg (e:=λ_=>true) B.isList D.isList (by simp;omega) Sf (λj E h2=>?_) X.prog X.w _ _ ?_
 ·have f:j < c.length:=by simp at E;omega
  have d:j < Y.length:=by omega
  obtain⟨U,F,G⟩:=r.get (G8 f);obtain⟨J,L,M⟩:=R.get (G8 d);have N:i.toArray[j]=U:=by obtain⟨_,e⟩:=List.getElem?_eq_some_iff.mp F;simpa using e
  have O:C.toArray[j]=J:=by obtain⟨_,e⟩:=List.getElem?_eq_some_iff.mp L;simpa using e
  rw[N,O];obtain⟨t,S,T,g,W,t5⟩:=o j _ _ (G8 f) (G8 d);have z:=uG I 5 t (A:=X.A.in1) S (by show X.A.units+1+5 < cLine;omega) T g T g W t5 _ _ G M;rw[qL Z]at z;exact z
 ·have e:((List.range i.toArray.size).all λ_=>true)=true:=by simp
  rw[e];exact#[.bl false,H,I,Z,q]
theorem cj.sm{a:Type}{R:RA a}(c:∀{H x y w},R H x w->R H y w->C9 H x y){W:List a}(h:cj R H W b)(g:cj R H W Y):b.length=Y.length/\∀(j:Nat) (u v:V),b[j]?=some u->Y[j]?=some v->C9 H u v:=by refine#[by rw[h.len,g.len],λj u v d f=>?_];obtain⟨w,E,r⟩:=h.at d;obtain⟨k,e,i⟩:=g.at f;rw[E]at e;cases e;exact c r i
theorem Fn(h:bn k A):A.units+10 < cLine:=by have:=h.un;omega
def ug(s:Sp):Sp:=λv H Q _=>s v H Q λ_ _ _=>False
theorem uh{P:Program}{w:World}{K:Frag}{mg:Str->Option Value}{base:Heap}(F:ah P w K mg base (dG P w) k f b p c):ah P w K mg base aA k f b p (ug c):=
 #[λv H Q E h=>F.len v H Q _ h,λA o s H a u v Q E d g i j l=>LA (F.run A o s H a u v Q _ d g i j l) λr S h=>by
  cases r with
  |error e=>obtain⟨_,_,_,_,_,_,_,_,_,_,_,_,_,h⟩:=h;exact h.elim
  |ok m=>cases m<;>exact h]
theorem AY:ah P w K mg base aA 1 f c z16z (gr 0):=by
 have n:∀{v:List V} {H:Hp} {Q E},gr 0 v H Q E->False:=by intro v H Q E h;obtain⟨d,p,f,i,s,a,u,_,_,_,_,_,h,_⟩:=h;omega
 exact#[λv H Q E h=>(n h).elim,λA o s H b U v Q E e g j k h=>(n h).elim]
theorem D4(F:aK K "_law_rows" "_law_rows" xq f a)(b:ay K a z16z [])(M:mg "_law_rows"=some (.ref f))(m:mg "enumerate"=none):∀n,ah P w K mg base aA (n+1) f a z16z (gr n)
 |0=>AY
 |n+1=>Bm F #[(D4 F b M m n),b,F.kp,M] m
theorem AZ:ah P w K mg base (dG P w) 0 f c z10z (fo N 0):=by
 have n:∀{v:List V} {H:Hp} {Q E},fo N 0 v H Q E->False:=by intro v H Q E h;obtain⟨f,i,s,a,u,p,d,_,_,_,_,_,h,_⟩:=h;omega
 exact#[λv H Q E h=>(n h).elim,λA o s H b U v Q E e g j k h=>(n h).elim]
theorem D5(F:aK K "step_at" "step_at" xt f a)(x:XM K mg "NoStep" N)(m:mg "len"=none)(b:ay K a z10z [])(M:mg "step_at"=some (.ref f)):∀n,ah P w K mg base (dG P w) n f a z10z (fo N n)
 |0=>AZ
 |n+1=>Bn F x m (D5 F x m b M n) (b) F.kp M
theorem Bt{X:Cx}(hu:X.A.units+10 < cLine):eG X (compareOp .Eq) (λx y H Q=>∃(a b:Addr) (c Y:List V),x= .ref a/\y= .ref b/\H a=some (.lst c)/\H b=some (.lst Y)/\c.length=Y.length/\(∀(j:Nat) (u v:V),c[j]?=some u->Y[j]?=some v->C9 H u v)/\Q (.bl true) H):=by
 intro p s σ H x y v u Q I k l h;obtain⟨a,b,c,Y,rfl,rfl,m,n,hl,o,q⟩:=h;cases k;cases l;obtain⟨i,r,B,_⟩:=I.list (aB.of (K:=X.K) m);obtain⟨C,R,D,_⟩:=I.list (aB.of (K:=X.K) n);have la:=r.length;have lb:=R.length;refine PL (e:=λ_=>true) B.isList D.isList (by simp;omega) Sf (λj E h2=>?_) X.prog X.w _ _ ?_
 ·have f:j < c.length:=by simp at E;omega
  have d:j < Y.length:=by omega
  obtain⟨U,F,G⟩:=r.get (G8 f);obtain⟨J,L,M⟩:=R.get (G8 d);have N:i.toArray[j]=U:=by obtain⟨_,e⟩:=List.getElem?_eq_some_iff.mp F;simpa using e
  have O:C.toArray[j]=J:=by obtain⟨_,e⟩:=List.getElem?_eq_some_iff.mp L;simpa using e
  rw[N,O];obtain⟨t,S,T,g,W,t5⟩:=o j _ _ (G8 f) (G8 d);have z:=uG I 5 t (A:=X.A.in1) S (by show X.A.units+1+5 < cLine;omega) T g T g W t5 _ _ G M;rw[qL Z]at z;exact z
 ·have e:((List.range i.toArray.size).all λ_=>true)=true:=by simp
  rw[e];exact#[.bl true,H,I,Z,q]
structure Db(K:Frag):Prop where
 tt:kitOne K (.type "tuple") (.type "tuple")=some true
 ll:kitOne K (.type "list") (.type "list")=some true
theorem Ee(h:vh a k p):p≠[]:=by obtain⟨i,q,_,e⟩:=h;rw[e];intro z;simp at z
theorem DA(h:bn k A):A.units+100 < cLine:=by have:=h.un;omega
theorem zb(h:me H f i s a u)(k:ai H b):me b f i s a u:=let #[c,g,e,S,E,d,j,l,m]:=h;#[c,g,e,S,E,k _ _ d,k _ _ j,k _ _ l,m.mono k]
noncomputable def Go(n:Int)(h:List Int)(w:Sk):Tr:=aG [aY n,aZ$ h.map aY,mP w]
theorem Zw:∀{p:bh} {s:Sk} {st:gF},s.ok true->aH s p=some st->st.2.2.dep<=s.dep
 | [],s,st,o,h=>by cases h
 | [i],s,st,o,h=>by
  by_cases b:0<=i
  ·cases H:s.steps[i.toNat]? with
   |none=>rw[kO H]at h;cases h
   |some S=>rw[qT b H]at h;cases h;have z:=Jn o H;exact z.2.2
  ·rw[zh b]at h;cases h
 |i::j::p,s,st,o,h=>by
  by_cases b:0<=i
  ·cases H:s.steps[i.toNat]? with
   |none=>rw[kO H]at h;cases h
   |some S=>
    obtain⟨n,d,W⟩:=S;cases W with
    |cl f I c a=>rw[zP b H]at h;have z:=Jn o H;have e:c.ok true:=z.1;have g:c.dep+1<=s.dep:=z.2.2;have y:=Zw e h;omega
    |nil |st _ _ _ _ |ask _ |rd _ _ |wr _ _=>rw[Jm b H (λ_ _ _ _ z=>by cases z)]at h;cases h
  ·rw[zh b]at h;cases h
theorem gW:ak z35z ["_law_script"] (aa iQ):=bu
noncomputable def YN:Scope:=#[.function,[(".0",.local),("_law_path",.local),("_law_step",.local)],false,false,[]]
theorem Zx:(["_law_path","_law_step"]:List Str).Nodup:=by decide+kernel
theorem vv:aT z35z (aa iQ) YN ["_law_path","_law_step"] 2 []:=l8
noncomputable def YO:Scope:=#[.function,[(".0",.local),("_law_path",.local),("_law_refused",.globalImplicit),("_law_chain_here",.free)],false,false,[]]
theorem vX:(["_law_path","_law_chain_here"]:List Str).Nodup:=by decide+kernel
theorem vw:aT z35z (aa iQ) YO ["_law_path","_law_chain_here"] 1 [1]:=l8
theorem Bc(F:aK K "law" "law" iQ f fd)(cA:Cl P w K mg base 70 fA f0 ["_law_script"] (xQ K) "_law_any_book")(cR:Cl P w K mg base 17 fR f2 z16z (gr 16) "_law_rows")(cP:Cl P w K mg base 36 fP f3 ["chain"] i9 "paths")(cS:Cl P w K mg base 17 fS f4 z10z (ug$ fo NS 17) "step_at")(cB:Cl P w K mg base 1 fB f5 ["_law_chain_here","_law_rows_here"] nS "_law_bad")(cF:Cl P w K mg base 19 fF f6 ["_law_chain_here","_law_path"] nZ "_law_refused")(tk:Db K)(m0:mg "sorted"=none)(m3:mg "isinstance"=none)(m4:mg "list"=none)(m5:mg "all"=none):ah P w K mg base aA 71 f fd ["_law_script"] (lO K):=by
 refine F.ok gW ?_ λc0 A o2 s H vs Q E B h=>?_
 ·rintro _ _ _ _ ⟨a,ns,rfl,_⟩;rfl
 obtain⟨a,ns,rfl,hS,hn,q⟩:=h;refine#[_,(jd (kI (i:=1) gW.nd Z (Or.inr Z)$ cA.e B.m$ ja (pv 0) jb)$ jd (jx 2 gW.nd$ cR.e B.m$ ja (pv 1)$ ja (jh jb) jb)$ jd (@QW _ _ _ _ _ _ _ _ _ _ (3) (["_law_path","_law_step"]) (2) ([]) _ _ _ _ gW.nd Z (Or.inl Z) Z (za$ pv 2) vv (λ_ _ _ _ _=>QZ (K:=K) (n:=2) Z Z (jy (js (i:=0) Zx Z$ Or.inl Z)$ jy (js (i:=1) Zx Z$ Or.inl Z) j4) Z Z) (λ_ _ _ _ _=>(@kM _)) (λ_ _ _ _ _=>(pv 0)) Sl (by first |exact .inl Z |exact .inr Z) (by intro _;rfl))$ jd (jx 4 gW.nd$ cP.e B.m$ ja (pv 1) jb)$ jd (jw (PW.pt$ Jw (X3$ sG$ jH XI Z m3 On$ ja (pv 4)$ ja (wK (v:=.ty "list") Z m4 Rm Z) jb)$ Jw (jA (sh$ Fn B) (pv 4) (pv 3)$ aC _)$ qB$ jA (sh$ Fn B) (pv 4) (jH Xg Z m0 Nt$ ja (pv 3) jb)$ aC _) (jg$ jm$ @YQ _ _ _ _) jp)$ jd (jN$ si Hv PySem.F.slot_list_clear PySem.F.type_list_clear rE$ pv 4)$ jd (km HZ Z (za$ pv 2) (zk (n:=2) Z$ jy (js (i:=5) gW.nd Z$ Or.inl Z)$ jy (js (i:=6) gW.nd Z$ Or.inl Z) j4)$ jg$ jw (jA (wH (d:=100)$ DA B) (cS.e B.m$ ja (pv 1)$ ja (pv 5) jb) (pv 6)$ aC _) (jg$ jm$ @YQ _ _ _ _) jp)$ jd (jw (X3$ sG$ jH (pC Z) Z m5 boot_all$ ja (@ki _ _ _ _ _ _ _ (["_law_path","_law_chain_here"]) (1) ([1]) _ _ _ _ Z (za$ cB.e B.m$ ja (pv 1)$ ja (pv 2) jb) vw (λ_ _ _ _ _=>(js (i:=0) vX Z$ Or.inl Z)) (λ_ _ _ _ _=>(@kM _)) (λ_ _ _ _ _=>(cF.e B.m$ ja (pv 1)$ ja (pv 0) jb)) (by intro _;rfl)) jb) (jg$ jm$ @YQ _ _ _ _) jp)$ jg$ jm$ JO (Bt$ Fn B) (cP.e B.m$ ja (pv 1) jb) (pv 3)$ aC _),?_];have b0:=aD;refine aj λY j=>#[_,Z,a,ns,Z,hS,hn,λf is s b u H1 hc c hd hz k1=>j _ _ ?_];clear j;refine aj λY j=>#[_,Z,iw,λt0 n0=>#[t0,[],f,is,s,b,u,Z,jc,Se,zb hc$ ae.tm$ je n0,c,Sf,Sf,λlr R l n7 h3 L s2=>j _ _ ?_]];clear j;have S2:ae H1 l:=(je n0).trans s2;have h4:=zb hc (ae.tm S2);have l0:=L.len;rw[qd c]at l0;have lm:(R.map$ dJ l).length=R.length:=He _;refine aj λY j=>#[_,Z,lr,Z,#[_,aB.of h3],JH (λi=>((R.map$ dJ l)[i]?).getD .non) Sf (aB.of h3) (λi x hx=>?_) λld n2=>j _ _ ?_]
 ·obtain⟨⟨p',w'⟩,_,q0,p0,s0,h0,v0,rfl,g1,g2,g3,g4,g5⟩:=L.at hx;refine#[q0,.ref p0,.ref s0,Z,ax.of g1,λQ hQ=>#[_,Z,?_]];rw[HE,hx]at hQ;have hQ:Q (dJ l$ .ref q0) l:=hQ;rw[YV g1]at hQ;exact hQ
 clear j;rw[<- lm,qf];have s3:ae l (af l ld$ .lst$ R.map$ dJ l):=je n2;have g3:af l ld (.lst$ R.map$ dJ l) ld=some (.lst$ R.map$ dJ l):=jc;generalize af l ld (.lst$ R.map$ dJ l)=H3 at s3 g3 ⊢;have a2:cj pf l s.pths (R.map$ dJ l):=by have z:=cj.map (S:=pf) (g:=λw:bh×gF=>w.1) (f:=dJ l) (λx w #[q0,p0,s0,h0,v0,e0,g1,g2,g3,g4,g5]=>by subst e0;rw[YV g1];exact#[p0,Z,g2]) L;have e:=QS s [] 0;rw[e]at z;exact z
 have T:=a2.mono dN (ae.tm s3);refine aj λY j=>#[_,Z,f,is,s,b,u,Z,zb h4$ ae.tm s3,c,hd,hz,λlf xf H4 n3 M h5 s4=>j _ _ ?_];clear j;have U:=s4 _ _ g3;have r:=T.mono dN (ae.tm s4);obtain⟨s1,a3⟩:=cj.sm Ck h5 r;have l2:=r.len;refine aj λY j=>#[_,Z,_,.ty "list",_,.type "list",true,Z,Z,.lst M,tk.ll,_,Z,aO Z #[_,Z,_,Z,lf,ld,xf,_,Z,Z,M,U,s1,a3,_,Z,aO Z #[_,Z,_,Z,ld,_,s.pths,Z,aB.of U,r.len,Sf,λi v p h1 h2=>?_,λi p q h1 h2=>xU (YY c [] 0) h1 h2,λso N=>#[lf,so,xf,_,Z,Z,am M N,jc,s1,(cj.sm Ck (h5.mono dN$ ae.tm$ je N)$ r.mono dN$ ae.tm$ je N).2,_,Z,aO Z$ j _ _ ?_]]]]
 ·obtain⟨p',h6,a4⟩:=r.at h1;rw[h2]at h6;cases h6;exact#[a4,Ee$ QG s [] 0 c p$ Hu h2]
 clear j;have s5:ae H4 (af H4 so$ .lst$ R.map$ dJ l):=je N;generalize af H4 so (.lst$ R.map$ dJ l)=H5 at s5 ⊢;have C:=s5 _ _ M;refine aj λY j=>#[_,Z,.inl #[Z,_,aB.of C],lf,_,Z,Z,C,j _ _ ?_];clear j;have T6:ai H5 (af H5 lf$ .lst []):=X7 C;have k6:∀x o,H3 x=some o->af H5 lf (.lst []) x=some o:=λx o e=>by rw[ji$ jl e n3];exact s5 _ _$ s4 _ _ e
 generalize af H5 lf (.lst [])=H6 at T6 k6 ⊢;have T0:ai H3 H6:=λx o e=>k6 _ _ e;have D:=k6 _ _ (s3 _ _ h3);have h7:=k6 _ _ g3;have W:=(L.mono eU$ ae.tm s3).mono eU T0;have O:=zb (zb h4$ ae.tm s3) T0;have h8:=T.mono dN T0;refine aj λY j=>eI λJ jj=>#[_,Z,lr,Z,#[_,aB.of D],jj _ _ ?_];clear jj;refine Js (K:=K) (a:=lr) (xs:=R) (λ_ σ H'=>(∃o5 o6,σ=[some$ .ref a,some u,some$ .ref lr,some$ .ref ld,some$ .ref lf,o5,o6])/\ae H6 H') #[#[_,_,Z],ae.refl _] (λi σ H' _ h=>aB.of (h.2 _ _ D)) ?_ (λσ H7 h=>j _ _ ?_)
 ·clear j;intro E rt i x σ H7 hx fE Gq kq h;obtain⟨⟨o5,o6,rfl⟩,I⟩:=h;refine kq ?_;clear kq;obtain⟨⟨p1,n1,t,w⟩,h',q0,pa,st,hh,v,rfl,r1,r2,r3,r4,r5⟩:=(W.mono eU$ ae.tm I).at hx;obtain⟨y,s6⟩:=Zt c (Hu h');have y:aH s p1=some (n1,t,w):=y;have s6:p1.length<=s.dep+1:=s6;have o1:w.ok false:=(X8 c y).1;have d0:w.dep<=s.dep:=Zw c y;have dT:(mP w).dep<=4*w.dep+1:=QT (b:=false) o1;have hi:=qi t;have tr:∀{G:Hp} {p h:Addr} {v:V},G p=some (.tup [.int n1,.ref h,v])->G h=some (.tup$ t.map V.int)->em G w v []->aP G (.tp$ Go n1 t w) (.ref p) []:=λe1 e2 e3=>jG e1 (jo Z kK$ jo Z (Ki e2)$ jo (YW o1) (YX o1 e3 (λ_=>Z) (λx=>nomatch x)) jC);refine#[q0,_,Z,ax.of r1,Z,_,_,Z,_,_,Z,Z,?_];refine uX λG1 yT yF=>#[_,Z,_,Z,f,is,s,b,u,pa,p1,Z,zb O$ ae.tm I,c,hz,r2,Sf,λk hs w' p h v' H8 es e1 e2 e3 o3 a' X=>?_,λz=>?_]
  ·rw[y]at es;cases es;exact#[_,Z,Go n1 t w,by show max 0 (max ((aG$ t.map aY).dep+1)$ max (mP w).dep 0) < 100;omega,(tr e1 e2 e3).at,(tr (X _ _ r3) (X _ _ r4)$ r5.mono$ ae.tm X).at,_,Z,yF _$ fE _ _ #[#[_,_,Z],I.trans X]]
  ·rw[y]at z;cases z
 clear j;obtain⟨⟨o5,o6,rfl⟩,I⟩:=h;refine aj λY j=>#[_,Z,_,Z,f,is,s,b,u,lr,R,Z,zb O$ ae.tm I,c,hd,hz,I _ _ D,W.mono eU$ ae.tm I,λlb xb qs H8 n' a0 a5 n4 l1 l3 X=>#[lb,Z,#[_,aB.of a0],QA (K:=K) (a:=lb) (xs:=xb) Sf (λi ys Hy=>Kp H8 Hy/\ys=(List.replicate i true).map V.bl) #[Kp.of_same$ ae.refl _,Z] (λi ys Hy h=>#[h.1.seq$ aB.of a0,by rw[h.2];simp]) (λi x ys Hy hx h=>?_) λys Hy h gl n5=>?_]]
 ·obtain⟨ky,rfl⟩:=h;obtain⟨p,hp,pa,rfl,a6⟩:=a5.at hx;refine#[_,Z,_,Z,f,is,s,b,u,pa,p,Z,zb (zb O$ ae.tm$ I.trans X) ky.tm,c,hz,ky.tm _ _ a6,l1 p$ Hu hp,n4 p$ Hu hp,λH9 k9=>#[ky.trans k9,?_]];rw[List.replicate_succ',Hz];rfl
 obtain⟨ky,rfl⟩:=h;have s9:ae Hy (af Hy gl$ .lst ((List.replicate xb.length true).map V.bl)):=je n5;refine#[gl,List.replicate xb.length true,Z,aB.of jc,_,Z,aO Si$ j _ _ ?_];generalize af Hy gl (.lst ((List.replicate xb.length true).map V.bl))=H9 at s9 ⊢;have T9:ai H6 H9:=((ae.tm$ I.trans X).trans ky.tm).trans (ae.tm s9);have a1:=s9 _ _ (ky _ _ rM ((I.trans X) _ _ h7));refine#[_,Z,f,is,s,b,u,Z,zb O T9,c,hd,hz,λl9 x9 H0 n9 h9 a8 s'=>?_];obtain⟨m1,m2⟩:=cj.sm Ck a8 ((h8.mono dN T9).mono dN$ ae.tm s');exact#[_,Z,l9,ld,x9,_,Z,Z,h9,s' _ _ a1,m1,m2,q _]
@[elab_as_elim] theorem GQ{P:List Value->Prop}(u:List Value)(h:u.length=1)(q:∀a,P [a]):P u:=by
 cases u with
 |nil=>cases h
 |cons a r=>
  cases r with
  |nil=>exact q a
  |cons _ _=>cases h
theorem _root_._L.aK.b1{K:Frag}{st:Stmt}{p:List Str}(F:aK K x q st f g)(h:∀(kV d b:Value) (A:Option Addr) (c C a:Value),bindArgs (fnOf x q (bo st) (ba st) (aa st) .none kV d b A c C) #[[a],[]]=pure (p.zip [a]):=by intros;rfl)(e:p.length=1:=by rfl):ay K g p []:=F.binds λkV d b A c C u H=>GQ u (H.trans e) λa=>h kV d b A c C a
@[elab_as_elim] theorem GU{P:List Value->Prop}(u:List Value)(h:u.length=2)(q:∀a b,P [a,b]):P u:=by
 cases u with
 |nil=>cases h
 |cons a r=>
  cases r with
  |nil=>cases h
  |cons b R=>
   cases R with
   |nil=>exact q a b
   |cons _ _=>cases h
theorem _root_._L.aK.b2{K:Frag}{st:Stmt}{p:List Str}(F:aK K x q st f i)(h:∀(kV d g:Value) (A:Option Addr) (c C a b:Value),bindArgs (fnOf x q (bo st) (ba st) (aa st) .none kV d g A c C) #[[a,b],[]]=pure (p.zip [a,b]):=by intros;rfl)(e:p.length=2:=by rfl):ay K i p []:=F.binds λkV d g A c C u H=>GU u (H.trans e) λa b=>h kV d g A c C a b
@[elab_as_elim] theorem GV{P:List Value->Prop}(u:List Value)(h:u.length=3)(q:∀a b c,P [a,b,c]):P u:=by
 cases u with
 |nil=>cases h
 |cons a r=>
  cases r with
  |nil=>cases h
  |cons b R=>
   cases R with
   |nil=>cases h
   |cons c d=>
    cases d with
    |nil=>exact q a b c
    |cons _ _=>cases h
theorem _root_._L.aK.b3{K:Frag}{st:Stmt}{p:List Str}(F:aK K x q st f j)(h:∀(kV d g:Value) (A:Option Addr) (C i a b c:Value),bindArgs (fnOf x q (bo st) (ba st) (aa st) .none kV d g A C i) #[[a,b,c],[]]=pure (p.zip [a,b,c]):=by intros;rfl)(e:p.length=3:=by rfl):ay K j p []:=F.binds λkV d g A C i u H=>GV u (H.trans e) λa b c=>h kV d g A C i a b c
@[elab_as_elim] theorem GX{P:List Value->Prop}(u:List Value)(h:u.length=4)(q:∀a b c d,P [a,b,c,d]):P u:=by
 cases u with
 |nil=>cases h
 |cons a r=>
  cases r with
  |nil=>cases h
  |cons b R=>
   cases R with
   |nil=>cases h
   |cons c e=>
    cases e with
    |nil=>cases h
    |cons d f=>
     cases f with
     |nil=>exact q a b c d
     |cons _ _=>cases h
theorem _root_._L.aK.b4{K:Frag}{st:Stmt}{p:List Str}(F:aK K x q st f j)(h:∀(kV D g:Value) (A:Option Addr) (C i a b c d:Value),bindArgs (fnOf x q (bo st) (ba st) (aa st) .none kV D g A C i) #[[a,b,c,d],[]]=pure (p.zip [a,b,c,d]):=by intros;rfl)(e:p.length=4:=by rfl):ay K j p []:=F.binds λkV D g A C i u H=>GX u (H.trans e) λa b c d=>h kV D g A C i a b c d
@[elab_as_elim] theorem GY{P:List Value->Prop}(u:List Value)(h:u.length=5)(q:∀a b c d e,P [a,b,c,d,e]):P u:=by
 cases u with
 |nil=>cases h
 |cons a r=>
  cases r with
  |nil=>cases h
  |cons b R=>
   cases R with
   |nil=>cases h
   |cons c f=>
    cases f with
    |nil=>cases h
    |cons d g=>
     cases g with
     |nil=>cases h
     |cons e i=>
      cases i with
      |nil=>exact q a b c d e
      |cons _ _=>cases h
theorem _root_._L.aK.b5{K:Frag}{st:Stmt}{p:List Str}(F:aK K x q st f j)(h:∀(kV D g:Value) (A:Option Addr) (C i a b c d e:Value),bindArgs (fnOf x q (bo st) (ba st) (aa st) .none kV D g A C i) #[[a,b,c,d,e],[]]=pure (p.zip [a,b,c,d,e]):=by intros;rfl)(e:p.length=5:=by rfl):ay K j p []:=F.binds λkV D g A C i u H=>GY u (H.trans e) λa b c d e=>h kV D g A C i a b c d e
def eE(K:Frag)(p q:Str)(st:Stmt)(f:Addr):Prop:=∃(o:Value) (O:Option Addr) (kV d a:Value) (A:Option Addr) (c C:Value) (s:Array (Option Value)),K.lookup f=some #[o,O,.func$ fnOf p q (bo st) (ba st) (aa st) .none kV d a A c C,s]/\codeIn K c q=true/\keepIn K (.ref f)=true
def bP(K:Frag)(p:Str)(st:Stmt)(f:Addr):Prop:=nsIn K mainGlobals p=some (some$ .ref f)/\eE K p p st f
section
variable {K:Frag}{py q:Str}{st:Stmt}{f:Addr}{oc:Value}{od:Option Addr}{kV dc pm:Value}{an:Option Addr}{cd ct:Value}{sl:Array (Option Value)}
theorem Gk(l:K.lookup f=some #[oc,od,.func$ fnOf py q (bo st) (ba st) (aa st) .none kV dc pm an cd ct,sl])(c:codeIn K cd q=true)(k:keepIn K (.ref f)=true):eE K py q st f:=#[_,_,_,_,_,_,_,_,_,l,c,k]
theorem FV(a:nsIn K mainGlobals py=some (some$ .ref f))(l:K.lookup f=some #[oc,od,.func$ fnOf py py (bo st) (ba st) (aa st) .none kV dc pm an cd ct,sl])(c:codeIn K cd py=true)(k:keepIn K (.ref f)=true):bP K py st f:=#[a,Gk l c k]
theorem eE.go(h:eE K py q st f):∃F,aK K py q st f F/\keepIn K (.ref f)=true:=by obtain⟨oc,od,kV,dc,pm,an,cd,ct,sl,l,c,k⟩:=h;exact#[_,pX l c k,k]
theorem bP.go{mg:Str->Option Value}(t:bP K py st f)(X:K.In h)(G:h.Ns mainGlobals mg):∃a,aK K py py st f a/\keepIn K (.ref f)=true/\mg py=some (.ref f):=by obtain⟨a,F,k⟩:=t.2.go;exact#[a,F,k,Ni X G t.1]
end
theorem Af{l:PySem.W.OpenLaw}{w:World}{K:Frag}{mg:Str->Option Value}(X:K.In h)(G:h.Ns mainGlobals mg)(l4:mg "law"=some (.ref fa))
                     
  (t4:bP K "names_in" dP f0)
  (t5:bP K "own_terms" BU l5)
  (t7:bP K "used_behind_terms" tw fUb)
  (t8:bP K "used_ahead_of" xw f1)
  (t9:bP K "used_ahead" xu fUa)
  (t':bP K "bodies_in" BP l6)
  (l9:bP K "many_cuts" sU l')
  (n2:bP K "deed_of" sS n3)
  (n4:bP K "place_of_give" iV f2)
  (n5:bP K "place_of_set" sW n7)
  (n9:bP K "part_made" sV n')
  (o1:bP K "made" nE o2)
  (o3:bP K "_law_box" BQ o4)
  (uY:bP K "_law_take" tq o5)
  (o6:bP K "_law_number" iS o7)
  (o8:bP K "_law_names" gV o9)
  (o':bP K "_law_term" nJ p0)
  (p1:bP K "_law_spot" sX p2)
  (p3:bP K "_law_statement" sY fSt)
  (p4:bP K "_law_body" nC p5)
  (p6:bP K "_law_any" BO p8)
  (dD:bP K "_law_op" FE p9)
  (p':bP K "_law_inner" mH q5)
  (q6:bP K "_law_looped" gG q7)
  (q8:bP K "_law_ticking" eZ q9)
  (q':bP K "_law_busy" sP r0)
  (r1:bP K "_law_case" nD r2)
  (r3:bP K "joined" iP r4)
  (r5:bP K "worth" iW r6)
  (r7:bP K "named" iR r8)
  (r9:bP K "begun" mz r')
  (s0:bP K "deeper" iM s1)
  (s2:bP K "part_of" iU s3)
  (s4:bP K "cut_at" mG s5)
  (s6:bP K "held_at" iO s7)
  (s8:bP K "worths" gH s9)
  (s':bP K "deed_at" iK u0)
  (u1:bP K "found_in" gU u2)
  (u3:bP K "end_of" iN u4)
  (u8:bP K "first_of" gR u9)
  (u':bP K "onward" iT v1)
  (v2:bP K "run" BX v3)
  (v4:bP K "whats_at" xA fWa)
  (v5:bP K "whats_in" xC v7)
  (v8:bP K "whats" BY v9)
  (v':bP K "paths" nF w0)
  (w1:bP K "step_at" xt w2)
  (w3:bP K "_law_cells" mE w4)
  (w5:bP K "_law_what" xo fLw)
  (w6:bP K "_law_chain" oV w7)
  (w8:bP K "_law_book" BS w9)
  (w':bP K "_law_rows" xq x0)
  (x1:bP K "_law_any_book" Fz x2)
  (x3:bP K "_law_refused" BW x4)
  (x5:bP K "_law_bad" xg x7)
  (tZ:bP K "law" iQ fZ)
  (x8:nsIn K mainGlobals "NOUGHT"=some (some$ .ref A)) (x9:K.lookup A=some #[.type "tuple",odN,.seq (List.toArray [.str "num" rN0,.int 0 rN1]) nN,slN]) (x':nsIn K mainGlobals "Cutting"=some (some$ .ref C)) (v0:nsIn K mainGlobals "TOP"=some (some$ .int 1000000000000000000 tTop)) (vD:nsIn K mainGlobals "DEEPEST"=some (some$ .int 15 tD)) (vR:nsIn K mainGlobals "BookRun"=some (some$ .ref c)) (vT:nsIn K mainGlobals "Turns"=some (some$ .ref c0))
  (y0:nsIn K mainGlobals "TooLong"=some (some$ .ref t))
  (y1:nsIn K mainGlobals "TooDeep"=some (some$ .ref u))
  (y2:nsIn K mainGlobals "NoStep"=some (some$ .ref x))
  (y3:nsIn K mainGlobals "BookError"=some (some$ .ref xB))
  (y5:nsIn K mainGlobals "NoName"=some (some$ .ref xN))
  (y':nsIn K mainGlobals "NoRow"=some (some$ .ref xR))
  (z7:K.lookup t=some #[ocxL,odxL,.cls cdxL,slxL]) (t0:typeIn K (.ref t)=some (.type "type")) (m':mroIn K t (.type "BaseException")=some true) (k4:keepIn K (.ref t)=true)
  (z8:K.lookup u=some #[ocxD,odxD,.cls cdxD,slxD]) (t1:typeIn K (.ref u)=some (.type "type")) (a4:mroIn K u (.type "BaseException")=some true) (k5:keepIn K (.ref u)=true)
  (z':K.lookup x=some #[ocxS,odxS,.cls cdxS,slxS]) (t2:typeIn K (.ref x)=some (.type "type")) (mbxS:mroIn K x (.type "BaseException")=some true) (k6:keepIn K (.ref x)=true)
  (A':K.lookup xB=some #[ocxB,odxB,.cls cdxB,slxB]) (t3:typeIn K (.ref xB)=some (.type "type")) (a5:mroIn K xB (.type "BaseException")=some true) (kpxB:keepIn K (.ref xB)=true)
  (B1:mroIn K t (.ref t)=some true) (B2:mroIn K u (.ref t)=some false) (B3:mroIn K u (.ref u)=some true) (B4:mroIn K x (.ref xB)=some true)
  (e0:excIn K t mv "ValueError.__new__"=true) (e1:excIn K u mv "ValueError.__new__"=true) (e2:excIn K x mv "ValueError.__new__"=true)
  (a6:gw K t) (a8:gw K u) (X':gw K x)
  (rk:RK K c) (B5:Mk K c f3) (tm:y6 K c0 "__init__" f4) (a':bN K c "take_turn" f5) (b0:bN K c "number_in" f6) (m3:bN K c "chain_of" B6) (b7:bN K c "what_of" B7)
  (ck:CK K C) (mk:Mk K C f7) (b9:bN K C "place_of_body" f9) (B8:bN K C "place_of" B9) (B':bN K C "place_of_cut" C') (D':bN K C "ways_of" E1)
  (E2:eE K "__init__" "Cutting.__init__" sT f7)
  (E3:eE K "place_of_body" "Cutting.place_of_body" xh f9)
  (E4:eE K "place_of" "Cutting.place_of" xp B9)
  (E5:eE K "place_of_cut" "Cutting.place_of_cut" xj C')
  (E6:eE K "ways_of" "Cutting.ways_of" xz E1)
  (E7:eE K "__init__" "Turns.__init__" sZ f4)
  (E8:eE K "take_turn" "Turns.take_turn" mJ f5)
  (E9:eE K "number_in" "Turns.number_in" tj f6)
  (E':eE K "__init__" "BookRun.__init__" sO f3)
  (H0:eE K "chain_of" "BookRun.chain_of" wY B6)
  (H1:eE K "what_of" "BookRun.what_of" wZ B7)
  (z2:nsIn K mainGlobals "len"=some none)
  (z3:nsIn K mainGlobals "int"=some none)
  (Q:nsIn K mainGlobals "range"=some none)
  (z0:nsIn K mainGlobals "list"=some none)
  (p:nsIn K mainGlobals "reversed"=some none)
  (j:nsIn K mainGlobals "isinstance"=some none)
  (R:nsIn K mainGlobals "tuple"=some none)
  (B:nsIn K mainGlobals "sorted"=some none)
  (z4:nsIn K mainGlobals "set"=some none)
  (z5:nsIn K mainGlobals "zip"=some none)
  (z1:nsIn K mainGlobals "dict"=some none)
  (z6:nsIn K mainGlobals "all"=some none)
  (o:nsIn K mainGlobals "enumerate"=some none)
  (tk:Db K)
  (q0:kitOne K (.ref x) (.ref x)=some true)
  (q1:kitOne K (.ref x) (.ref xN)=some false)
  (q2:kitOne K (.ref x) (.ref xR)=some false)
  (q3:kitOne K (.ref x) (.ref u)=some false)
  (q4:kitOne K (.ref x) (.ref t)=some false)
  :∃fd:FuncData,(∀(s:Shared) (v:Value),BindsTo s fd #[[v],[]] [("_law_script",v)])/\∀base:Heap,K.In base->base.Ns mainGlobals mg->ah l.prog w K mg base aA 71 fa fd ["_law_script"] (lO K):=by
 have e:=l4.symm.trans (Ni X G tZ.1);cases e;obtain⟨H2,q,S,M⟩:=t4.go X G;obtain⟨dOw,b',H3,H4⟩:=t5.go X G;obtain⟨dUb,c1,kUb,H5⟩:=t7.go X G;obtain⟨dUo,T,k7,m4⟩:=t8.go X G;obtain⟨dUa,c2,kUa,H6⟩:=t9.go X G;obtain⟨dBi,c3,H7,H8⟩:=t'.go X G;obtain⟨dMc,F3,k8,c4⟩:=l9.go X G;obtain⟨dDe,c5,H9,H'⟩:=n2.go X G;obtain⟨dPg,U,k9,c6⟩:=n4.go X G;obtain⟨dPs,c9,I1,I2⟩:=n5.go X G;obtain⟨dPm,c',I3,I4⟩:=n9.go X G;obtain⟨dMa,d0,I5,I6⟩:=o1.go X G;obtain⟨dBx,d1,I7,I'⟩:=o3.go X G;obtain⟨dTk,F,k,m⟩:=uY.go X G;obtain⟨dNu,D,V,Y⟩:=o6.go X G;obtain⟨dNm,F0,k2,m5⟩:=o8.go X G;obtain⟨dTm,F1,k',m6⟩:=o'.go X G;obtain⟨dPo,d2,J0,K1⟩:=p1.go X G;obtain⟨dSt,d3,kSt,K2⟩:=p3.go X G;obtain⟨dBo,F4,K3,d4⟩:=p4.go X G;obtain⟨dAn,d5,K4,K5⟩:=p6.go X G;obtain⟨dOp,E,k0,m0⟩:=dD.go X G;obtain⟨dIn,d6,L0,L1⟩:=p'.go X G;obtain⟨dLo,d7,L3,L4⟩:=q6.go X G;obtain⟨dTi,d8,L5,L6⟩:=q8.go X G;obtain⟨dBu,d9,L7,L8⟩:=q'.go X G;obtain⟨dCa,d',L',N1⟩:=r1.go X G;obtain⟨dJo,e3,N2,N3⟩:=r3.go X G;obtain⟨dWo,I,k3,m1⟩:=r5.go X G;obtain⟨dNd,F5,e4,e5⟩:=r7.go X G;obtain⟨dBe,e6,N4,N'⟩:=r9.go X G;obtain⟨dDp,e7,O',P1⟩:=s0.go X G;obtain⟨dPf,e8,P4,Q'⟩:=s2.go X G;obtain⟨dCu,J,k1,m2⟩:=s4.go X G;obtain⟨dHe,F6,e9,e'⟩:=s6.go X G;obtain⟨dWs,f',R1,R5⟩:=s8.go X G;obtain⟨dDa,g0,R7,R'⟩:=s'.go X G;obtain⟨dFo,g1,S0,S1⟩:=u1.go X G;obtain⟨dEn,F7,g2,g4⟩:=u3.go X G;obtain⟨dFi,g5,S2,S3⟩:=u8.go X G;obtain⟨dOn,g6,S4,S5⟩:=u'.go X G;obtain⟨dRu,g7,S6,S7⟩:=v2.go X G;obtain⟨dWa,g8,kWa,S8⟩:=v4.go X G;obtain⟨dWi,F9,S9,g'⟩:=v5.go X G;obtain⟨dWt,h0,S',T0⟩:=v8.go X G;obtain⟨dPt,h1,T1,T2⟩:=v'.go X G;obtain⟨dSa,F2,h2,m7⟩:=w1.go X G;obtain⟨dCe,h3,T3,T4⟩:=w3.go X G;obtain⟨dLw,h4,kLw,T5⟩:=w5.go X G;obtain⟨dLc,a0,T6,h5⟩:=w6.go X G;obtain⟨dLb,h6,T7,T8⟩:=w8.go X G;obtain⟨dLr,a1,T9,h7⟩:=w'.go X G;obtain⟨dAb,h8,T',U0⟩:=x1.go X G;obtain⟨dRf,h9,U1,U2⟩:=x3.go X G;obtain⟨dBa,h',U3,U4⟩:=x5.go X G;obtain⟨dmI,i0,kmI⟩:=E2.go;obtain⟨dmB,a2,kmB⟩:=E3.go;obtain⟨dmO,i1,kmO⟩:=E4.go;obtain⟨dmC,i2,kmC⟩:=E5.go;obtain⟨dmW,i3,kmW⟩:=E6.go;obtain⟨dTI,i4,kTI⟩:=E7.go;obtain⟨dTT,j0,kTT⟩:=E8.go;obtain⟨dTN,j1,kTN⟩:=E9.go;obtain⟨dRI,j2,kRI⟩:=E'.go;obtain⟨dRC,a3,kRC⟩:=H0.go;obtain⟨dRW,l0,kRW⟩:=H1.go;obtain⟨ocZ,odZ,U5,U6,U7,U8,U9,U',slZ,lZ,cZ,kZ⟩:=tZ.2;have FZ:=pX (st:=iQ) lZ cZ kZ;have N:=Lk X G z2;have y:=Lk X G z3;have b:=Lk X G Q;have r:=Lk X G z0;have a:=Lk X G p;have d:=Lk X G j;have n:=Lk X G R;have f:=Lk X G B;have L:=Lk X G z4;have n0:=Lk X G z5;have O:=Lk X G z1;have n1:=Lk X G z6;have i:=Lk X G o;have l1:mn K A:=λH=>.inr #[_,_,_,x9,Z,Z,bK,(.cons #[_,Z] (.cons #[_,Z] .nil))];refine#[fnOf "law" "law" (bo iQ) (ba iQ) (aa iQ) .none U5 U6 U7 U8 U9 U',λs v=>.of_eq Z,λbase _ _=>?_];have g:ah l.prog w K mg base aA 1 o5 _ _ aL:=wB F;have V0:ah l.prog w K mg base aA 1 o4 _ _ (nU K):=A7 d1 N y;have G0:ah l.prog w K mg base aA 2 o7 _ _ eB:=Z6 D #[g,F.b2,k,m];have G3:ah l.prog w K mg base aA 2 o9 _ _ dY:=rV F0 g F.b2 k m b;have G5:ah l.prog w K mg base aA 6 p0 _ _ (cr 4):=yZ (P:=l.prog) (w:=w) (base:=base) F1 F1.b3 m6 #[g,F.b2,k,m] #[G0,D.b1,V,Y] N 4;have V1:ah l.prog w K mg base aA 7 p2 _ _ ig:=wz d2 #[g,F.b2,k,m] #[G5,F1.b3,k',m6];have SS:=Eg (P:=l.prog) (w:=w) (base:=base) d3 F4 #[g,F.b2,k,m] #[G5,F1.b3,k',m6] #[V1,d2.b2,J0,K1] d3.b5 K2 F4.b5 d4 N n b;have V2:ah l.prog w K mg base aA 21 p5 _ _ (f8 6):=(SS 6).2;have V3:ah l.prog w K mg base aA 22 p8 _ _ nR:=A3 d5 #[g,F.b2,k,m] #[G3,F0.b2,k2,m5] #[V2,F4.b5,K3,d4] N b n y;have G1:ah l.prog w K mg base aA 2 p9 _ _ lP:=DO E #[g,F.b2,k,m];have V4:ah l.prog w K mg base aA 3 q5 _ _ (c7 2):=rS d6 #[g,F.b2,k,m] #[G1,E.b3,k0,m0];have V5:ah l.prog w K mg base aA 3 q7 _ _ (c7 1):=oI d7 #[g,F.b2,k,m] #[G1,E.b3,k0,m0] y n;have V6:ah l.prog w K mg base aA 3 q9 _ _ (c7 1):=YH d8 #[g,F.b2,k,m] #[G1,E.b3,k0,m0] y n;have V7:ah l.prog w K mg base aA 4 r0 _ _ iY:=wf d9 #[g,F.b2,k,m] #[G1,E.b3,k0,m0] #[G3,F0.b2,k2,m5] #[V5,d7.b4,L3,L4] #[V6,d8.b4,L5,L6] #[V4,d6.b4,L0,L1];have V8:ah l.prog w K mg base aA 23 r2 _ _ iZ:=wg d' #[g,F.b2,k,m] #[G0,D.b1,V,Y] #[V7,d9.b1,L7,L8] #[V3,d5.b3,K4,K5] N n;have NS:=yH (P:=l.prog) (w:=w) (base:=base) q q.b1 M L f;have G6:ah l.prog w K mg base aA 7 f0 _ _ (c8 6):=NS 6;have V9:ah l.prog w K mg base aA 7 f0 _ _ (nX K):=Bh (fN:=f0) (fdN:=H2) q #[NS 5,q.b1,S,M] L f;have V':ah l.prog w K mg base aA 1 l5 _ _ lQ:=Bi b';have US:=Ey (P:=l.prog) (w:=w) (base:=base) c2 c1 T c2.b2 H6 c1.b2 H5 T.b2 m4 #[V',b'.b1,H3,H4] #[G6,q.b1,S,M] r L f a;have W0:ah l.prog w K mg base aA 31 f1 _ _ (fq 7):=(US 7).2;have W1:ah l.prog w K mg base aA 10 f1 _ _ (fq 0):=(US 0).2;have W2:ah l.prog w K mg base aA 1 l6 _ _ lM:=A6 c3;have G7:ah l.prog w K mg base aA 2 l' _ _ gc:=wn F3 #[W2,c3.b1,H7,H8] r;have W3:ah l.prog w K mg base aA 1 n3 _ _ hV:=wj c5;have W4:ah l.prog w K mg base aA 8 f2 _ _ fj:=rW U #[G6,q.b1,S,M];have W5:ah l.prog w K mg base aA 8 f2 _ _ (nY K):=Bj U #[V9,q.b1,S,M];have W6:ah l.prog w K mg base aA 11 n7 _ _ ie:=wu c9 #[W1,T.b2,k7,m4];have W7:ah l.prog w K mg base aA 63 f9 _ _ (lR C 8):=Gn (P:=l.prog) (w:=w) (base:=base) ck a2 i1 i2 i3 a2.b3 b9 i1.b3 B8 i2.b3 B' i3.b4 D' #[G7,F3.b1,k8,c4] #[W0,T.b2,k7,m4] #[W3,c5.b1,H9,H'] #[W4,U.b1,k9,c6] #[W6,c9.b2,I1,I2] N n a 8 (Hg _);have W8:ah l.prog w K mg base aA 3 f7 _ _ (nV C):=A9 i0 ck #[G7,F3.b1,k8,c4];have W9:ah l.prog w K mg base aA 64 n' _ _ (i8 K A):=wq c' ck mk W8 i0.b2 (Ni X G x') (Ni X G x8) l1 W7 a2.b3 b9 #[W5,U.b1,k9,c6] n a;have W':ah l.prog w K mg base aA 65 o2 _ _ (i5 K A):=wm d0 #[W9,c'.b3,I3,I4] n;have Y':ah l.prog w K mg base aA 1 r4 _ _ hZ:=oH e3 (Ni X G v0);have G4:ah l.prog w K mg base aA 7 r6 _ _ (b6 K 6):=uQ (P:=l.prog) (w:=w) (base:=base) I I.b2 m1 #[Y',e3.b3,N2,N3] 6;have G2:ah l.prog w K mg base aA 1 s5 _ _ (g9 A):=rP J;have G9:ah l.prog w K mg base aA 2 s7 _ _ (hX A):=oG F6 #[G2,J.b2,k1,m2] O n0;have Z':ah l.prog w K mg base aA 8 s9 _ _ fu:=oN f' #[G4,I.b2,k3,m1] n;have GDa:ah l.prog w K mg base aA 9 u0 _ _ (fg A):=oE g0 #[G9,F6.b3,e9,e'] #[G2,J.b2,k1,m2] #[G4,I.b2,k3,m1] #[Z',f'.b2,R1,R5];have GFo:ah l.prog w K mg base aA 1 u2 _ _ dX:=rR g1;have G':ah l.prog w K mg base aA 8 u4 _ _ (lN A):=rQ F7 #[G2,J.b2,k1,m2] #[G4,I.b2,k3,m1] n l1;have GFi:ah l.prog w K mg base aA 9 u9 _ _ (fh A):=YJ g5 #[G',F7.b3,g2,g4] O n0;have GOn:ah l.prog w K mg base aA 9 v1 _ _ (t6 A):=oK g6 #[G2,J.b2,k1,m2] #[G9,F6.b3,e9,e'] #[GFo,g1.b1,S0,S1] #[G',F7.b3,g2,g4];have hxL:clsIn K t≠none:=by
  unfold clsIn;rw[z7];intro z;cases z
 have hxD:clsIn K u≠none:=by unfold clsIn;rw[z8];intro z;cases z
 have m8:=Ni X G y0;have m9:=Ni X G y1;have xmL:XM K mg "TooLong" t:=#[e0,k4,a6,t0,m8];have xmD:XM K mg "TooDeep" u:=#[e1,k5,a8,t1,m9];have l2:ah l.prog w K mg base aA 1 r8 _ _ i6:=oJ F5;have GPf:ah l.prog w K mg base aA 2 s3 _ _ i6:=oM e8 #[l2,F5.b2,e4,e5];have GBe:ah l.prog w K mg base aA 2 r' _ _ gI:=rN e6 #[l2,F5.b2,e4,e5] N;have GDp:ah l.prog w K mg base (dG l.prog w) 1 s1 _ _ (dR u):=oF e7 (Ni X G vD) xmD;have GTI:ah l.prog w K mg base aA 1 f4 _ _ (i' c):=wD i4 rk;have GTT:ah l.prog w K mg base (dG l.prog w) 1 f5 _ _ (ii c t):=rX j0 rk xmL;have GTN:ah l.prog w K mg base aA 1 f6 _ _ (fi c):=wE j1 rk;have GRI:ah l.prog w K mg base aA 2 f3 _ _ (i7 c):=wt j2 rk GTI i4.b3 (Ni X G vT) tm;have GRC:=Dg (P:=l.prog) (w:=w) (base:=base) rk a3 a3.b4 m3 l0 l0.b3 b7 #[GFi,g5.b2,S2,S3] #[GDa,g0.b3,R7,R'] #[GOn,g6.b2,S4,S5] GTT j0.b1 a' GTN j1.b2 b0 (GDp) e7.b1 O' P1 #[GPf,e8.b2,P4,Q'] n 16;have GRu:ah l.prog w K mg base (dG l.prog w) 45 v3 _ _ (n6 t u A):=Bl g7 rk B5 GRI j2.b4 (Ni X G vR) #[GBe,e6.b3,N4,N'] GRC a3.b4 m3;have GCe:ah l.prog w K mg base aA 3 w4 _ _ gJ:=rO h3 #[g,F.b2,k,m] #[G0,D.b1,V,Y] b;have GLc:ah l.prog w K mg base aA 36 w7 _ _ (gq 16):=DE (P:=l.prog) (w:=w) (base:=base) a0 a0.b4 h5 h4 h4.b4 T5 #[g,F.b2,k,m] #[G0,D.b1,V,Y] N b n 16;have GLb:ah l.prog w K mg base aA 37 w9 _ _ nW:=Be h6 #[g,F.b2,k,m] #[G3,F0.b2,k2,m5] #[GLc,a0.b4,T6,h5];have GWi:ah l.prog w K mg base aA 34 v7 _ _ (gu 16):=EA (P:=l.prog) (w:=w) (base:=base) g8 g8.b2 S8 F9 F9.b2 g' i 16;have GWt:ah l.prog w K mg base aA 35 v9 _ _ n8:=Bs h0 #[GWi,F9.b2,S9,g'];have hxS:clsIn K x≠none:=by unfold clsIn;rw[z'];intro z;cases z
 have hxB:clsIn K xB≠none:=by unfold clsIn;rw[A'];intro z;cases z
 have l3:=Ni X G y2;have xmS:XM K mg "NoStep" x:=#[e2,k6,X',t2,l3];have GPt:ah l.prog w K mg base aA 36 w0 _ _ i9:=ww h1 #[GWt,h0.b1,S',T0];have SA:=D5 (P:=l.prog) (w:=w) (base:=base) F2 xmS N F2.b2 m7;have GSa:ah l.prog w K mg base aA 17 w2 _ _ (ug$ fo x 17):=uh (SA 17);have GLr:ah l.prog w K mg base aA 17 x0 _ _ (gr 16):=D4 (P:=l.prog) (w:=w) (base:=base) a1 a1.b2 h7 i 16;have GAb:ah l.prog w K mg base aA 70 x2 _ _ (xQ K):=(DK h8 #[V0,d1.b2,I7,I'] #[g,F.b2,k,m] #[V8,d'.b1,L',N1] #[W',d0.b1,I5,I6] #[GCe,h3.b1,T3,T4] (GRu) g7.b5 S6 S7 #[GLb,h6.b1,T7,T8] #[m8,hxL,t0,m',m9,hxD,t1,a4,B1,B2,B3]).mono Se;have GRf:ah l.prog w K mg base aA 19 x4 _ _ nZ:=Bk h9 ((SA 17).mono Se) F2.b2 h2 m7 #[X',q0,q1,q2,q3,q4,B4] l3 (Ni X G y5) (Ni X G y') m9 m8 (Ni X G y3) hxB t3 a5 d;have GBa:ah l.prog w K mg base aA 1 x7 _ _ nS:=A4 h' N;exact Bc FZ #[GAb,h8.b1,T',U0] #[GLr,a1.b2,T9,h7] #[GPt,h1.b1,T1,T2] #[GSa,F2.b2,h2,m7] #[GBa,h'.b2,U3,U4] #[GRf,h9.b2,U1,U2] tk f d r n1
theorem FY{l:PySem.W.OpenLaw}{Y:World->Heap->Prop}{d:DefRec}{K:Params->Frag}(e:l.most=some 63)(H:d.params.defaults=[])
  (g:∀(w:World) (h:Heap),Y w h->(K w.params).In h)
  (F:∀(w:World) (mg:Str->Option Value) (b:Addr) (h:Heap),(K w.params).In h->h.Ns mainGlobals mg->mg d.name=some (.ref b)->
   ∃c:FuncData,(∀(s:Shared) (u:Value),BindsTo s c #[[u],[]] [("_law_script",u)])/\∀base:Heap,(K w.params).In base->base.Ns mainGlobals mg->ah l.prog w (K w.params) mg base aA 71 b c ["_law_script"] (lO$ K w.params)):
  PySem.W.WalkO q L m Y l.row.toRowW d [] (λf v=>PySem.call f v):=
 _L.yb (n:=63) (k:=71) (x:="_law_script") (CX:=λ_=>aA) (sp:=λw=>lO (K w.params)) e Se H #[Z,Se,Se] g F (λ_ _ a N i _ j=>#[a,N,Z,j,i,λ_=>Z]) λ_ _ _ _ _ z=>z
end _K
structure PySem.W.Fast:Prop where(tw14093507418757141645 tw16299629916887986202 tw12855697548434909359 tw11764132137840521714 tw12404990865787422646 tw9761498987497363766 tw15437968725431992267 tw11037349988791745176 tw6130334693191712603 tw17186842459149779177 tw3659187754050076636 tw904730927590540820 tw10919748066347955128 tw17455599548904160097 tw1216782727001690884 tw5974424380658760102 tw2673493337008398465 tw12253746309106296311 tw10804664559914789980 tw16797174304242994896 tw6205096471597619914 tw9114870715890140917 tw11440078636909364032 tw17784197055010076511 tw16589022248023701735 tw2506458603807818379 tw88666700038718956 tw9998151432561050595 tw17168739224452700126 tw6228919798545941496 tw8128083895044170284 tw12013862751555992912 tw5929101160787553164 tw7568275668385304742 tw13743638665525005665 tw17419530307843084759 tw8830018055808119883 tw7578320398132972739 tw8478967947146846222 tw3317370018919720093 tw3293606578181451305 tw3630850132357107327 tw14203726315415638838 tw3223928664577205214 tw8003345748502725358 tw11607773296934332378 tw10245410246985388882 tw7701641220533810262 tw707719093180728074 tw2971900945932025858 tw7897593333757903972 tw7597354217393240975 tw8061014323876489162 tw822518164999769974 tw15935513110080098489 tw15756252446407739735 tw12355087920976451708 tw15984601775112914112 tw5851131697859805217 tw10038657748697215539 tw11782540566086200819 tw17579331207761374603 tw17335526582061096369 tw15384543707943559809 tw7594166141654081338 tw17021161551840291069 tw2964254085012604498 tw8729852155449667882 tw2324480813441253085 tw16344492281373028041 tw18137728770588920814 tw14807947747025776675 tw2772423591376085337 tw15050290153043527869 tw5898701320206609286 tw16349736340710220234 tw7963016661545566027 tw16052770705284370308 tw17716380408574081773 tw9072930207012890802 tw5349743964814828530 tw13828234740821043241 tw146795358675140953 tw14317729972681544119 tw12491051860469988547 tw15500847786482534015 tw5464860763904933306 tw2230772081360804037 tw14599833592693735772 tw14880506478818043015 tw7270224777584223941 tw10700622071012526400 tw10160430317551138584 tw9005832648979346788 tw15093536719832314958 tw12330222990196690419 tw12793846081252058006 tw8975551953189430799 tw18439788560629843052 tw503968293855897412 tw10208657739562537198 tw1673518771629327605 tw10525198925039127815 tw3061631680112350699 tw13558135246062460665 tw15335421213628049103 tw13512503702023011076 tw11343986356814388984 tw12770774798984842418 tw13965638028818459016 tw6567376595612522933 tw11968366197546318657 tw16963034272897097625 tw8226984832589592868 tw16455190657427021968 tw14393343971387334830 tw16926597226311388041 tw5070410268380097110 tw8880899799054318208 tw6779931374287392870 tw8719026912690108137 tw8910823617331848061 tw4275931598618060983 tw9328579448208523740 tw10574746514218447342 tw8767901326179674099 tw4996873232091541533 tw18139832886214477360 tw6974614416624317192 tw6089316807977421424 tw13325563685435569403 tw7191192450945674703 tw1591432174283159394 tw8484331698548117826 tw13524677051964790875 tw2980209683670862658 tw9094431030701397087 tw12124390701170072187 tw2966701092234945376 tw2805307568500720481 tw12846279753728937460 tw18136495641178153469 tw6573950574627455251 tw3768513580763297473 tw6768372705780440263 tw5813968770695715385 tw1148632046536725271 tw1771705257524047189 tw10359140475893141155 tw2902468132773540638 tw15776192627262024272 tw2740212666012480246 tw3091720886897503945 tw2434854919217308728 tw14012759466766469585 tw14010534953345794315 tw15675014986866156988 tw3912379931382958168 tw14544763038317959242 tw12993294398232445774 tw13517127648520466586 tw17821895662916670477 tw4073697412210487186 tw16507403547570395913 tw13370829029151278971 tw1223654224685299527 tw15372674814008194059 tw6136409813028357741 tw11320075548923890101 tw17183729514700605088 tw13535597358344216730 tw3314184373464697986 tw18398679190938877633 tw16958360354108116034 tw2780615456537565420 tw9123099025841203322 tw17992278418465878236 tw15051167111011942070 tw6444976019302685737 tw139593363082580072 tw12477446442818147320 tw17556434788463305110 tw15842059802701448463 tw16324790342337690959 tw12019881677852326035 tw12154613712184511432 tw5622463384129553145 tw6786863219807415329 tw8906857570739370102 tw15613773564368472534 tw7628116598451252655 tw15769802767664273448 tw17192247247569640917 tw15233046612221223628 tw10557330459868221352 tw255075600768519919 tw1853470885033912104 tw4554921374632306506 tw14706057123300139181 tw7297824988065111969 tw10048775378997105867 tw7345991843707903187 tw6109873112925236492 tw16681815990810006854 tw1165342052302501568 tw459167636506582224 tw6468465874686122073 tw3884328467896316606 tw10584382668052005879 tw626254086865768372 tw254393327296591533 tw1223958357258020269 tw1949248093948766905 tw14253226472465626193 tw9003521152630200724 tw2416281910663987197 tw13198446714484970645 tw17574163999270795483 tw4539989013742547629 tw11147538611416125602 tw17645201400493831722 tw10314598656956169024 tw12540532314691843993 tw18281340145746869755 tw2048486049186159844 tw9739308175593723040 tw17230304822809366151 tw4857149484695147575 tw5244886755820914611 tw9065580062618766945 tw5081033753801571980 tw2762062512756880642 tw8793239819659010074 tw10110736365762046738 tw2518508899293467496 tw16158022249956155484 tw258477292596618914 tw15676446534194578219 tw7532840489061476110 tw3932868500527196365 tw5212504282478084430 tw17952339677429980545:True)
open PySem PySem.W PyProof.Rows PySem.W.X
theorem _K.Ez {q : Program} {loose : List PySem.Str} {XP : (PySem.Str → Option Value) → Heap → Prop} {K : Params → Frag} {as : List Addr} {n t : Nat} {r : RowW} {d : DefRec} {kwd : List (PySem.Str × PySem.Expr)} {run : Value → List Value → Sem Value}
    (e : ∀ P, as = (K P).map (·.1)) (h : WalkO q loose XP (InK K) r d kwd run) : WalkX q loose XP (obsZ as) (valZ K n t) r d kwd run :=
  fun w s₀ s₁ mg mb G Y a o pm cd doc dV kV h1 h2 h3 h4 h5 h6 args vals as' L => h w s₀ s₁ mg mb G (InK.keeps w _ _ (z_facts e Y).2.1 L.keeps) a o pm cd doc dV kV h1 h2 h3 h4 h5 h6 args vals as'
set_option maxRecDepth 100000 in
set_option maxHeartbeats 0 in
theorem PySem.Challenge.cw_againbook_k25_paths_and_steps_holds : PySem.Challenge.rw_againbook_k25_paths_and_steps.Holds := by
  w_on; o_law; z_head; (case hw => w_witness2)
  refine _K.Ez (fun _ => by rfl)$ _K.FY (l := PySem.Challenge.rw_againbook_k25_paths_and_steps) rfl rfl (fun w h Y => Y) ?F
  case F =>
    intro w mg fa h KX G hmg
    apply _K.Af KX G hmg
    iterate 56 (apply _K.FV;iterate 4 k_is)
    iterate 33 k_is
    iterate 3 k_exc
    iterate 3 (constructor<;>k_is)
    refine ⟨⟨?_,?_,?_,?_⟩,?_,?_,?_,?_,?_⟩;iterate 4 k_is
    iterate 5 (unfold _L.bq;k_is)
    iterate 2 (constructor;iterate 4 k_is)
    iterate 4 (constructor;iterate 3 k_is)
    refine ⟨⟨?_,?_,?_,?_⟩,?_,?_⟩;iterate 4 k_is
    iterate 2 (unfold _L.bq;k_is)
    constructor;iterate 4 k_is
    iterate 4 (constructor;iterate 3 k_is)
    iterate 11 (apply _K.Gk;iterate 3 k_is)
    iterate 13 k_is
    constructor;iterate 2 kit_is
    iterate 5 kit_is
